import PyProof.Rows.All
import Wide.All
import OpenK.AllK
import Wide.FinOn
import HandS.Codes
import HandS.Defaults
import HandS.ExcField
import HandS.ExcInit
import HandS.ExcIs
import HandS.Finally
import HandS.ForExc
import HandS.ForMost
import HandS.Gcd
import HandS.IsInst
import HandS.Lambda
import HandS.MakeKw
import HandS.OwnEq
import HandS.Property
import HandS.TryMany
import HandS.TryOnly
import HandS.Walk
import HandS.Wide
import HandS.WordsExc
import KE.KExcInit
import KE.KExcIs
import KE.KExcPX
import KE.KLam
import KE.KNest
import KE.KNestM
import KE.KOpsOwn
import KE.KWithOwn
import PyProof.CallFns
import PyProof.InstNe
import PyProof.ReprLen
import PyProof.ReprRoads
import PySem.Challenge.RW_twodivisions_k02_wholes_at_desks
set_option Elab.async false
set_option maxRecDepth 100000
set_option maxHeartbeats 4000000
set_option linter.all false
set_option exponentiation.threshold 5000
namespace W1
open PySem L2
local macro_rules | `(tactic| and_intros) => `(tactic| first | refine ⟨_, rfl, ?_⟩ | refine ⟨_, _, rfl, rfl, ?_⟩)
/-! ### own layer: promises that are kept where no repr is under way (A.guards = some []) -/
structure FnG (P : Program) (w : World) (K : PySem.W.Frag) (mg : Str → Option Value) (base : Heap) (CX : CXT) (k : Nat) (f : Addr) (fd : FuncData) (ps : List Str) (sp : Sp) : Prop where
  lens : ∀ vs H Q E, sp vs H Q E → vs.length = ps.length
  goes : ∀ (A : Around) (outer : List Env) (s : Shared) (H : Hp) (args : Args) (us : List Value) (vs : List V) (Q : VK) (E : XK), A.guards = some [] → Room k A → Env0 P w K mg base A outer s H →
    BindsTo s fd args (ps.zip us) → Vals vs us → sp vs H Q E → codeAny (model P w) A (.call (.ref f) args) (CR CX outer P w H s Q E) s
theorem FnG.of {P : Program} {w : World} {K : PySem.W.Frag} {mg : Str → Option Value} {base : Heap} {CX : CXT} {k : Nat} {f : Addr} {fd : FuncData} {ps : List Str} {sp : Sp} (F : FnOk P w K mg base CX k f fd ps sp) : FnG P w K mg base CX k f fd ps sp :=
  ⟨F.len, fun A outer s H args us vs Q E _ => F.run A outer s H args us vs Q E⟩
section
variable {X : Cx} {CX : CXT} {k : Nat} {f C : Addr} {fd : FuncData} {ps : List Str} {sp : Sp} {dvs : List V} {ds : List Value} {E : XK} {x m : Str} {p pos apos : Pos} {e o : Expr} {es : List Expr} {ta : TE} {t : TA}
theorem goG {pins : List (Addr × Obj)} {σ : St} {H : Hp} {s : Shared} {Q : VK} {us : List Value} {vs : List V} (F : FnG X.prog X.w X.K X.mg X.base CX k f fd ps sp) (hG : X.A.guards = some []) (hr : Room k X.A) (hb : Binds X.K fd ps ds) (hd : Vals dvs ds)
    (hx : Passes CX X E) (I : Inv X pins σ H s) (r : Vals vs us) (h : sp (vs ++ dvs) H Q E) : wpAny (model X.prog X.w) X.A (call (.ref f) us) (EP X pins σ Q) X.xe s := by
  have both := r.append hd
  have many : (us ++ ds).length = ps.length := both.length.symm.trans (F.lens _ _ _ _ h)
  refine wpAny_call (codeAny_mono (F.goes X.A X.stack s H ⟨us, []⟩ (us ++ ds) (vs ++ dvs) Q E hG hr I.env0 (hb s us I.kIn many) both h) ?_)
  rintro (er | fl) s' z
  · exact hx pins σ H s er s' I z
  · cases fl with
    | ret u => exact I.after z
    | _ => exact z.elim
theorem pe_callG (F : FnG X.prog X.w X.K X.mg X.base CX k f fd ps sp) (hG : X.A.guards = some []) (hr : Room k X.A) (hg : Gl X x) (hm : X.mg x = some (.ref f)) (hk : PySem.W.keepIn X.K (.ref f) = true) (hb : Binds X.K fd ps ds) (hd : Vals dvs ds) (hx : Passes CX X E)
    (ha : PA X (e :: es) t) (hdb : (x == ("__debug__" : Str)) = false := by decide) (he : starEach (e :: es) X.env = (false, eval e X.env) :: starEach es X.env := by rfl) (hpl : (backTo pos (starEach es X.env)).any (·.1) = false := by rfl) :
    PE X (.Call (.Name x p) (e :: es) [] pos) (tCall sp dvs E t) :=
  ⟨fun pins s σ H Q I h => wpAny_Call_Name_kw (ld_glob I hg hm (PySem.W.callWith_K (h₀ := X.base) I.ok.mod.kin hk (thn (ha.run pos pins s σ H _ I h) fun us s1 ⟨vs, H1, I1, r, q⟩ => ⟨I1.kIn, goG F hG hr hb hd hx I1 r q⟩) he hpl) hdb)⟩
theorem pe_callG0 (F : FnG X.prog X.w X.K X.mg X.base CX k f fd ps sp) (hG : X.A.guards = some []) (hr : Room k X.A) (hg : Gl X x) (hm : X.mg x = some (.ref f)) (hk : PySem.W.keepIn X.K (.ref f) = true) (hb : Binds X.K fd ps ds) (hd : Vals dvs ds) (hx : Passes CX X E)
    (hdb : (x == ("__debug__" : Str)) = false := by decide) : PE X (.Call (.Name x p) [] [] pos) (tCall sp dvs E tNil) :=
  ⟨fun pins s σ H Q I h => wpAny_Call_Name_kw (ld_glob I hg hm (PySem.W.callWith_K0 I.kIn hk (goG (us := []) F hG hr hb hd hx I .nil h)) hdb)⟩
end
/-- a def keeps its promise by its body, in such surroundings -/
theorem fnG_of {CX : CXT} {P : Program} {w : World} {K : PySem.W.Frag} {mg : Str → Option Value} {base : Heap} {k : Nat} {f : Addr} {name qual : Str} {params : Arguments} {body : List Stmt} {scope : Scope} {dV kV doc pm cdv ct oc : Value} {an od : Option Addr}
    {osl : Array (Option Value)} {N ps : List Str} {sp : Sp} (lk : K.lookup f = some ⟨oc, od, .func (PySem.W.fnOf name qual params body scope dV kV doc pm an cdv ct), osl⟩) (hcd : PySem.W.codeIn K cdv qual = true) (S : FnScope N ps scope)
    (len : ∀ vs H Q E, sp vs H Q E → vs.length = ps.length)
    (hbody : ∀ (A : Around) (outer : List Env) (s : Shared) (H : Hp) (vs : List V) (Q : VK) (E : XK), A.guards = some [] → Room k (A.deeper (PyProof.Rows.envOfC qual scope s.heap.objs.size f cdv)) → sp vs H Q E →
      ∃ t, PSs (cxOf CX P w K mg base N qual scope f cdv A outer s H E) body t ∧ t { nx := fun _ H' => Q .non H', rt := Q } (start N vs) H) :
    FnG P w K mg base CX (k + 1) f (PySem.W.fnOf name qual params body scope dV kV doc pm an cdv ct) ps sp := by
  refine ⟨len, fun A outer s H args us vs Q E hG hr e0 hb r hsp => ?_⟩
  have many := len _ _ _ _ hsp
  have part : K.In s.heap := e0.mod.kin.keeps fun b o z => (e0.bs b o z).1
  have below : s.heap.NoLimit := e0.mod.nolimit.keeps fun b o z => (e0.bs b o z).1
  have kinds : ∀ y ∈ ps.zip us, scope.names.lookup y.1 = some .local ∨ (scope.names.lookup y.1 = some .cell ∧ ((PySem.cellsFrom (s.heap.objs.size + 1) scope.names []).lookup y.1).isSome = true) := by
    rintro ⟨n, v⟩ hy
    exact (S.par n (List.of_mem_zip hy).1).imp id fun q => ⟨q, PySem.W.cellsFrom_some _ _ _ (.inl q)⟩
  refine PySem.codeAny_call_function hr.depth (part _ _ lk) rfl S.co S.gen rfl (PySem.W.codeRec_of part hcd) (hb _ _ _ _ (PySem.wpAny_newFunctionEnv_cells S.kind kinds ?_))
  intro env he s1 x
  subst he
  obtain ⟨t, ht, hq⟩ := hbody A outer s H vs Q E hG (hr.deeper _) hsp
  have I := inv_start (CX := CX) (N := N) (qual := qual) (f := f) (cd := cdv) (E := E) S hr.hd e0 many r x
  refine ⟨below.keeps x.toInCall.keep, PySem.codeAny_func (wpAny_mono (ht.run [] s1 (start N vs) H _ I hq) ?_ fun _ _ z => z)⟩
  rintro (_ | _ | _ | u) s' hs
  · obtain ⟨σ', H', J, q⟩ := hs
    exact ⟨V.non, H', J.os, J.bare, J.base, J.hok, rfl, q⟩
  · exact hs.elim fun _ z => z.elim fun _ z => z.2.elim
  · exact hs.elim fun _ z => z.elim fun _ z => z.2.elim
  · obtain ⟨v, σ', H', J, rv, q⟩ := hs
    exact ⟨v, H', J.os, J.bare, J.base, J.hok, rv, q⟩
theorem Fun.okG {P : Program} {w : World} {K : PySem.W.Frag} {mg : Str → Option Value} {base : Heap} {x qual : Str} {st : Stmt} {f : Addr} {fd : FuncData} {N ps : List Str} {k : Nat} {sp : Sp} (F : Fun K x qual st f fd) (S : FnScope N ps (defScope st)) (len : ∀ vs H Q E, sp vs H Q E → vs.length = ps.length)
    (hbody : ∀ (cdv : Value) (A : Around) (outer : List Env) (s : Shared) (H : Hp) (vs : List V) (Q : VK) (E : XK), A.guards = some [] → Room k (A.deeper (PyProof.Rows.envOfC qual (defScope st) s.heap.objs.size f cdv)) → sp vs H Q E →
      ∃ t, PSs (cxOf CX0 P w K mg base N qual (defScope st) f cdv A outer s H E).nox (defBody st) t ∧ t { nx := fun _ H' => Q .non H', rt := Q } (start N vs) H) : FnG P w K mg base CX0 (k + 1) f fd ps sp := by
  obtain ⟨oc, od, kV, doc, pm, an, cdv, ct, osl, rfl, lk, hcd⟩ := F.ex
  refine fnG_of lk hcd S len fun A outer s H vs Q E hG hr hsp => ?_
  obtain ⟨t, h, q⟩ := hbody cdv A outer s H vs Q E hG hr hsp
  exact ⟨t, h.nox, q⟩
/-! ### the law's own call, by such a promise -/
/-- what the caller wants of the law's call -/
abbrev Wanted (s₁ : Shared) (r : Result) (s' : Shared) : Prop := r = .ok (.ret (.bool true)) ∧ PySem.OldK s₁.heap s'.heap ∧ s'.os = s₁.os ∧ PyProof.Rows.AllBare s'.gens
/-- the abstract heap H tells of the script at a, and of nothing else -/
structure Sole (P : Program) (w : World) (K : PySem.W.Frag) (H : Hp) (h : Heap) (a : Addr) (ns : List Int) : Prop where
  only : Only H
  seq : SqL K H a (ns.map V.int)
  ok : HOk P w H h
  at_a : ∀ b, H b ≠ none → b = a
  notK : H a ≠ none → K.lookup a = none
theorem sole_run {P : Program} {w : World} {K : PySem.W.Frag} {mg mb : Str → Option Value} {CX : CXT} {k : Nat} {fa a : Addr} {fd : FuncData} {x : Str} {sp : Sp} {s₁ : Shared} {vs : List Value} {ns : List Int} {H : Hp}
    (Z : Sole P w K H s₁.heap a ns) (KX : K.In s₁.heap) (gN : s₁.heap.Ns mainGlobals mg) (bN : s₁.heap.Ns builtinsNs mb) (bB : ∀ y : Str, y ≠ "__name__" → mb y = bootBuiltins y) (lim : s₁.heap.NoLimit) (gens0 : s₁.gens = #[])
    (obj : s₁.heap.get? a = some { cls := .type "list", data := .seq vs.toArray }) (room : Room k callerA) (F : ∀ base : Heap, K.In base → base.Ns mainGlobals mg → FnG P w K mg base CX k fa fd [x] sp)
    (bind : ∀ (s : Shared) (u : Value), BindsTo s fd ⟨[u], []⟩ [(x, u)]) (want : ∀ H : Hp, Only H → SqL K H a (ns.map V.int) → sp [.ref a] H (fun v _ => v = .bl true) fun _ _ _ => False)
    (noX : ∀ H e s', CX [] H s₁ (fun _ _ _ => False) e s' → False) : codeAny (model P w) callerA (.call (.ref fa) ⟨[.ref a], []⟩) (Wanted s₁) s₁ := by
  -- what H tells of an address is the script's list
  have told : ∀ {b : Addr} {o : Obj}, s₁.heap.get? b = some o → H b ≠ none → b = a ∧ o = { cls := .type "list", data := .seq vs.toArray } := fun {b o} g n => by
    have e := Z.at_a b n
    rw [e, obj] at g
    exact ⟨e, (Option.some.inj g).symm⟩
  have hid : ∀ {b : Addr} {o : Obj}, s₁.heap.get? b = some o → ¬ H b ≠ none → (hidT s₁.heap H).get? b = some o := fun g n => hidT_get g (Classical.byContradiction n)
  have names : ∀ {b : Addr} {m : Str → Option Value}, s₁.heap.Ns b m → (hidT s₁.heap H).Ns b m := by
    rintro b m ⟨o, es, ep, g, d, r⟩
    refine ⟨o, es, ep, hid g fun n => ?_, d, r⟩
    rw [(told g n).2] at d
    exact Data.noConfusion d
  have part : K.In (hidT s₁.heap H) := fun b o g => hid (KX b o g) fun n => by
    have e := (told (KX b o g) n).1
    subst e
    rw [Z.notK n] at g
    cases g
  obtain ⟨mc, c1, c2⟩ := lim
  have md : Mod K mg (hidT s₁.heap H) := ⟨part, names gN, ⟨mb, names bN, bB⟩, ⟨mc, names c1, c2⟩⟩
  have e0 : Env0 P w K mg (hidT s₁.heap H) callerA [] s₁ H := ⟨rfl, md, fun _ _ g => of_hidT g, Nat.le_of_eq (hidT_size _ _), trivial, fun b m => absurd m (List.not_mem_nil (a := b)), Z.ok, PyProof.Rows.AllBare.of_eq gens0⟩
  refine codeAny_mono ((F _ part (names gN)).goes callerA [] s₁ H ⟨[.ref a], []⟩ [.ref a] [.ref a] _ _ rfl room e0 (bind s₁ (.ref a)) (.cons rfl .nil) (want H Z.only Z.seq)) ?_
  rintro (er | _ | _ | _ | u) s' q
  · exact (noX H er s' q).elim
  · exact q.elim
  · exact q.elim
  · exact q.elim
  · obtain ⟨v, H', os, bare, un, ok', rv, rfl⟩ := q
    obtain rfl : u = Value.bool true := rv
    refine ⟨rfl, PySem.OldK.of_keep fun b o g => ?_, os, bare⟩
    rcases Z.only b with n | ⟨ob, xs, n⟩
    · exact un.keep b o g n (fun m => by cases m) (fun m => by cases m)
    · have g1 := (Z.ok b _ n).1
      have g2 := (ok' b _ (un.frzs b ob _ n)).1
      rw [g] at g1
      rw [g2, Option.some.inj g1]
theorem law_callG {P : Program} {w : World} {K : PySem.W.Frag} {mg mb : Str → Option Value} {CX : CXT} {k : Nat} {fa a : Addr} {fd : FuncData} {x : Str} {sp : Sp} {s₁ : Shared} {vs : List Value} {ns : List Int} (KX : K.In s₁.heap) (gN : s₁.heap.Ns mainGlobals mg)
    (bN : s₁.heap.Ns builtinsNs mb) (bB : ∀ y : Str, y ≠ "__name__" → mb y = bootBuiltins y) (lim : s₁.heap.NoLimit) (gens0 : s₁.gens = #[]) (obj : s₁.heap.get? a = some { cls := .type "list", data := .seq vs.toArray }) (hints : PyProof.Rows.IntsAre vs ns) (few : ns.length ≤ sizeLine)
    (room : Room k callerA) (F : ∀ base : Heap, K.In base → base.Ns mainGlobals mg → FnG P w K mg base CX k fa fd [x] sp) (bind : ∀ (s : Shared) (u : Value), BindsTo s fd ⟨[u], []⟩ [(x, u)])
    (want : ∀ H : Hp, Only H → SqL K H a (ns.map V.int) → sp [.ref a] H (fun v _ => v = .bl true) fun _ _ _ => False) (noX : ∀ H e s', CX [] H s₁ (fun _ _ _ => False) e s' → False) :
    codeAny (model P w) callerA (.call (.ref fa) ⟨[.ref a], []⟩) (Wanted s₁) s₁ := by
  have rv := vals_ints hints
  have many := hints.length
  by_cases hk : K.lookup a = none
  · -- the script is the caller's own: told as a locked list
    have at_a : ∀ b : Addr, (if b = a then some (HO.frz { cls := .type "list", data := .seq vs.toArray } (.lst (ns.map V.int))) else none) ≠ none → b = a := fun b n => Classical.byContradiction fun z => n (if_neg z)
    refine sole_run (H := fun b => if b = a then some (.frz { cls := .type "list", data := .seq vs.toArray } (.lst (ns.map V.int))) else none) ⟨fun b => ?_, .inl (.inr ⟨_, if_pos rfl⟩), fun b u z => ?_, at_a, fun _ => hk⟩ KX gN bN bB lim gens0 obj room F bind want noX
    · by_cases e : b = a
      · exact .inr ⟨_, _, if_pos e⟩
      · exact .inl (if_neg e)
    · have e := at_a b (by rw [z]; exact Option.some_ne_none u)
      subst e
      obtain rfl := Option.some.inj ((if_pos rfl).symm.trans z)
      exact ⟨obj, by rw [List.length_map]; exact few, vs, _, rv, obj⟩
  · -- the script is one of the module's objects
    obtain ⟨o, ho⟩ := Option.ne_none_iff_exists'.mp hk
    have eo := Option.some.inj (obj.symm.trans (KX a o ho))
    refine sole_run (H := fun _ => none) ⟨fun _ => .inl rfl, .inr ⟨o, vs.toArray, 0, ho, by rw [← eo], by rw [← eo], by rw [← eo], by rw [List.size_toArray, many]; exact few, by simpa using rv⟩, fun b u z => (by cases z), fun b n => absurd rfl n, fun n => absurd rfl n⟩ KX gN bN bB lim gens0 obj room F bind want noX
/-- the goal behind the head, by such a promise -/
theorem walk_ofG {l : PySem.W.OpenLaw} {n k : Nat} {q : Program} {loose : List Str} {XP : (Str → Option Value) → Heap → Prop} {YP : World → Heap → Prop} {d : DefRec} {K : Params → PySem.W.Frag} {CX : World → CXT} {sp : World → Sp} {x : Str}
    (hn : l.most = some n) (few : n ≤ sizeLine) (hdf : d.params.defaults = []) (room : Room k callerA) (hY : ∀ (w : World) (h : Heap), YP w h → (K w.params).In h)
    (F : ∀ (w : World) (mg : Str → Option Value) (fa : Addr) (h : Heap), (K w.params).In h → h.Ns mainGlobals mg → mg d.name = some (.ref fa) → ∃ fd : FuncData, (∀ (s : Shared) (u : Value), BindsTo s fd ⟨[u], []⟩ [(x, u)]) ∧
      ∀ base : Heap, (K w.params).In base → base.Ns mainGlobals mg → FnG l.prog w (K w.params) mg base (CX w) k fa fd [x] (sp w))
    (want : ∀ (w : World) (H : Hp) (a : Addr) (ns : List Int), ns.length ≤ n → Only H → SqL (K w.params) H a (ns.map V.int) → sp w [.ref a] H (fun v _ => v = .bl true) fun _ _ _ => False)
    (noX : ∀ (w : World) (H : Hp) (s : Shared) (e : Value) (s' : Shared), CX w [] H s (fun _ _ _ => False) e s' → False) : PySem.W.WalkO q loose XP YP l.row.toRowW d [] (fun f vs => PySem.call f vs) :=
  Att.attach_call hn hdf fun w s₀ s₁ mg mb fa o pm cd doc a vs ns G Y ho hd hcd hmg hobj hints hlen hg => by
    have KX := hY w _ Y
    obtain ⟨fd, hb, hF⟩ := F w mg fa _ KX G.T.g hmg
    exact law_callG KX G.T.g G.T.b G.T.builtins G.T.nolimit hg hobj hints (Nat.le_trans hlen few) room hF hb (fun H z1 z2 => want w H a ns hlen z1 z2) fun H e s' => noX w H s₁ e s'
/-! ### own exception classes, called with keywords (rest: by place; kw: by name) -/
section
open PySem.PX
variable {prog : Program} {w : World} {M : Model} {A : Around} {E : Value → Shared → Prop} {R : Result → Shared → Prop} {h : Heap} {g : Array GenState} {d : Drawn} {t : Nat} {os : OsState}
variable {nm q : Str} {C N : Addr} {bs bm tl : List Value} {hdct : Bool} {sn : List Str} {sub : List Value} {ab : Bool} {col : Option Bool} {dd : Option Addr} {k0 k1 k2 k3 k5 : Option Value} {B newId initId : String}
abbrev exLaid (h : Heap) (C : Addr) (rest : List Value) : Heap := (h.push { cls := .type "tuple", data := .seq rest.toArray }).push { cls := .ref C, data := .fields #[.ref h.objs.size, .none, .none, .none, .bool false, .none] }
theorem kw_check_new (F : ExcBaseFacts B newId initId tl) (same : ∀ Y : String, bm.contains (.type Y) = tl.contains (.type Y)) {rest : List Value} {kw : List (Str × Value)} {Q : Unit → Shared → Prop}
    (hC : h.get? C = some (excClassObj nm q C N bs bm hdct sn sub ab col dd k0 k1 k2 k3 k5 newId)) (z : Q () ⟨h, g, d, t, os⟩) : wpAny M A (checkBuiltinCall newId ⟨.ref C :: rest, kw⟩) Q E ⟨h, g, d, t, os⟩ := by
  have inB : (Value.ref C :: bm).contains (.type B) = true := by
    rw [List.contains_cons, same, F.hasB, Bool.or_true]
  have star := F.noStar
  simp only [checkBuiltinCall, F.newKind, F.newSplit, F.newRow]
  repeat (first
    | refine wpAny_loadPart_at hC ?_
    | (refine wpAny_isSubtype_exc hC ?_; rw [inB])
    | refine wpAny_staticBase_exc hC ?_
    | refine wpAny_madeBy_exc hC ?_
    | simp only [bne_self_eq_false, Bool.false_eq_true, if_false]
    | wp_step)
  exact z
theorem kw_new (F : ExcBaseFacts B newId initId tl) (same : ∀ Y : String, bm.contains (.type Y) = tl.contains (.type Y)) {rest : List Value} {kw : List (Str × Value)}
    (hC : h.get? C = some (excClassObj nm q C N bs bm hdct sn sub ab col dd k0 k1 k2 k3 k5 newId)) (z : R (.ok (.ret (.ref (h.objs.size + 1)))) ⟨exLaid h C rest, g, d, t, os⟩) (few : rest.length ≤ sizeLine) :
    codeAny (model prog w) A (.builtin newId ⟨.ref C :: rest, kw⟩) R ⟨h, g, d, t, os⟩ := by
  have stops := F.ends
  have inB : (Value.ref C :: bm).contains (.type B) = true := by
    rw [List.contains_cons, same, F.hasB, Bool.or_true]
  have noA : (Value.ref C :: bm).contains (.type "AttributeError") = false := by
    rw [List.contains_cons, same, F.noAttr]
    rfl
  have noN : (Value.ref C :: bm).contains (.type "NameError") = false := by
    rw [List.contains_cons, same, F.noName]
    rfl
  refine codeAny_builtinAt F.entry ?_
  unfold Builtin.«BaseException.__new__»
  refine wpAt_bind ?_
  show wpAt _ _ _ (stack >>= _) _ _ _
  refine wpAt_bind (wpAt_stack fun p below => wpAt_of_wpAny ?_)
  wp_walk
  refine wpAt_of_wpAny ?_
  rw [F.owner]
  repeat (first
    | with_reducible refine wpAny_madeHere_exc F.canon hC ?_
    | with_reducible refine wpAny_loadPart_at hC ?_
    | (with_reducible refine wpAny_isSubtype_exc hC ?_; first | rw [inB] | rw [noA] | rw [noN])
    | wp_step)
  show R _ _
  rw [Heap.size_push]
  exact z
theorem kw_type_call (F : ExcBaseFacts B newId initId tl) (same : ∀ Y : String, bm.contains (.type Y) = tl.contains (.type Y)) {rest : List Value} {kw : List (Str × Value)} {fI : Addr} {Q : Fin → Shared → Prop}
    (hC : h.get? C = some (excClassObj nm q C N bs bm hdct sn sub ab col dd k0 k1 k2 k3 k5 newId)) (li : PySem.W.Looks (model prog w) h (typeLookup (.ref C) "__init__") (some (.ref fI)))
    (lb : ∀ self, PySem.W.Looks (model prog w) h (bindSpecial (.ref fI) self) (.ref fI, [self])) (few : rest.length ≤ sizeLine)
    (z : codeAny (model prog w) A (.call (.ref fI) ⟨.ref (h.objs.size + 1) :: rest, kw⟩) (fun r s' => match r with | .ok (.ret v) => v = .none ∧ Q (.done (.ret (.ref (h.objs.size + 1)))) s' | .ok _ => False | .error e => E e s') ⟨exLaid h C rest, g, d, t, os⟩) :
    wpAny (model prog w) A (Builtin.«type.__call__» ⟨.ref C :: rest, kw⟩) Q E ⟨h, g, d, t, os⟩ := by
  repeat (first
    | with_reducible refine wpAny_loadPart_at hC ?_
    | with_reducible refine wpAny_madeBy_exc hC ?_
    | wp_step)
  refine codeAny_call_builtin_code (Code.quiet_builtin _ F.quiet) (kw_check_new F same hC (kw_new F same hC ?_ few))
  show wpAny _ _ _ _ _ _
  have stay : ∀ b o, h.get? b = some o → (exLaid h C rest).get? b = some o := fun b o e => Heap.get?_push_of_some _ (Heap.get?_push_of_some _ e)
  have hC2 := stay _ _ hC
  have made : (exLaid h C rest).get? (h.objs.size + 1) = some { cls := .ref C, data := .fields #[.ref h.objs.size, .none, .none, .none, .bool false, .none] } := by
    unfold exLaid
    heap_get
  have inC : (Value.ref C :: bm).contains (.ref C) = true := by simp
  have li2 := li.keeps stay
  have lb2 := (lb (.ref (h.objs.size + 1))).keeps stay
  unfold isInstance
  repeat (first
    | with_reducible refine wpAny_loadPart_at made ?_
    | (with_reducible refine wpAny_isSubtype_exc hC2 ?_; rw [inC])
    | wp_step)
  show wpAny _ _ (typeLookup (.ref C) _) _ _ _
  refine li2.at (wpAny_holding (wpAny_bind (lb2.at (wpAny_bind (wpAny_call (codeAny_mono z ?_))))))
  rintro (e | _ | _ | _ | v) s' y <;> first | exact y | exact y.elim | skip
  obtain ⟨rfl, y⟩ := y
  first
    | exact wpAny_pure (wpAny_pure y)
    | (wp_walk; exact y)
theorem kw_call (F : ExcBaseFacts B newId initId tl) (same : ∀ Y : String, bm.contains (.type Y) = tl.contains (.type Y)) {rest : List Value} {kw : List (Str × Value)} {fI : Addr}
    (hC : h.get? C = some (excClassObj nm q C N bs bm hdct sn sub ab col dd k0 k1 k2 k3 k5 newId)) (li : PySem.W.Looks (model prog w) h (typeLookup (.ref C) "__init__") (some (.ref fI)))
    (lb : ∀ self, PySem.W.Looks (model prog w) h (bindSpecial (.ref fI) self) (.ref fI, [self])) (few : rest.length ≤ sizeLine)
    (z : codeAny (model prog w) (A.under (.builtin "type.__call__" ⟨.ref C :: rest, kw⟩)) (.call (.ref fI) ⟨.ref (h.objs.size + 1) :: rest, kw⟩) (PySem.W.InitBack (h.objs.size + 1) R) ⟨exLaid h C rest, g, d, t, os⟩) :
    codeAny (model prog w) A (.call (.ref C) ⟨rest, kw⟩) R ⟨h, g, d, t, os⟩ := by
  have f1 := tc_lookup
  have f2 := tc_bind (.ref C)
  have isT : (⟨h, g, d, t, os⟩ : Shared).TypeIs (.ref C) "type" := ⟨_, hC, rfl⟩
  refine codeAny_of_tree ?_
  show wpAny _ _ (callAny (.ref C) _) _ _ _
  repeat (any_goals (first
    | assumption
    | with_reducible refine wpAny_loadPart_at hC ?_
    | wp_step))
  refine ⟨rfl, codeAny_call_builtin_at (Code.quiet_builtin _ (by decide +kernel)) entry_typeCall (wpAny_check_type_call_sub hC (kw_type_call F same hC li lb few (codeAny_mono z ?_)))⟩
  rintro (e | _ | _ | _ | v) s' y <;> exact y
end
/-! ### a store into an own exception, whatever built-in class is its base -/
section
open PySem.PX Builtin Builtin.ObjectAttr
variable {prog : Program} {w : World} {A : Around} {E : Value → Shared → Prop} {R : Result → Shared → Prop} {hp : Heap} {g : Array GenState} {d : Drawn} {t : Nat} {os : OsState} {B : String} {tl : List Value} {K : PySem.W.Frag}
theorem taker_none {C : Addr} {name : Str} (no : PySem.W.findIn K (.ref C) name = some none) : PySem.W.takerIn K C name = some none := by
  unfold PySem.W.takerIn
  rw [no]
  rfl
theorem xs_first {name : Str} {tk : Tok} {v : Value} {x C : Addr} {fv : Array Value} (SF : StoreFacts B tl "object.__setattr__" "object") (X : K.In hp) (at_x : hp.get? x = some { cls := .ref C, data := .fields fv }) (ov : PySem.W.excOver K C tl = true)
    (hasD : PySem.W.hasDictIn K C = true) (no : PySem.W.findIn K (.ref C) name = some none)
    (z : ∀ h' tk' dx, (∀ b o, b ≠ x → hp.get? b = some o → h'.get? b = some o) → hp.objs.size ≤ dx → dx ≠ x → h'.get? x = some { cls := .ref C, dict := some dx, data := .fields fv } →
      h'.Ns1 dx (fun y => if y = name then some v else none) → R (.ok (.ret .none)) ⟨h', g, d, tk', os⟩) :
    codeAny (model prog w) A (.call (.builtin "object.__setattr__") ⟨[.ref x, .str name tk, v], []⟩) R ⟨hp, g, d, t, os⟩ := by
  refine PySem.W.osa_openX (od := none) SF X ⟨at_x, rfl, rfl, trivial⟩ ov (taker_none no) fun b => ?_
  obtain ⟨cd, hc, hd⟩ := PySem.W.any_some hasD
  have lk : PySem.W.Looks (model prog w) hp (classData C) cd := PySem.W.looks_clsIn X hc
  have apart : x ≠ hp.objs.size := Nat.ne_of_lt (Heap.lt_size at_x)
  show wpAny _ _ (storeInOwnDict (.ref x) (.ref C) (.str name tk) name v b) _ _ _
  obtain ⟨nm, bs, mro, ns, qn, hd1, sn, sb, ab, col, del⟩ := cd
  obtain rfl : hd1 = true := hd
  unfold storeInOwnDict ownDictForStores
  repeat (first
    | with_reducible refine store_in_new ?_ ?_
    | with_reducible refine wpAny_loadPart_at at_x ?_
    | with_reducible refine lk.at ?_
    | wp_step)
  · exact ⟨_, #[], _, (Heap.get?_update_ne _ _ _ _ apart.symm).trans (Heap.get?_push_at rfl rfl), rfl, fun e he => absurd he (by simp), fun _ => rfl⟩
  · intro h' tk' hn hs
    have x2 : (hp.push { cls := .type "dict", data := .dict #[] }).get? x = some { cls := .ref C, data := .fields fv } := Heap.get?_push_of_some _ at_x
    refine z h' tk' hp.objs.size (fun b o nb ho => ?_) (Nat.le_refl _) apart.symm ((hs.2 x apart).trans (Heap.get?_update_self _ x2 rfl)) hn
    exact (hs.2 b (Nat.ne_of_lt (Heap.lt_size ho))).trans ((Heap.get?_update_ne _ _ _ _ nb).trans (Heap.get?_push_of_some _ ho))
theorem xs_later {name : Str} {tk : Tok} {v : Value} {x C dx : Addr} {fv : Array Value} {m0 : Str → Option Value} {nl : List Str} (SF : StoreFacts B tl "object.__setattr__" "object") (X : K.In hp)
    (at_x : hp.get? x = some { cls := .ref C, dict := some dx, data := .fields fv }) (nd : hp.Ns1 dx m0) (wi : Within m0 nl) (few : nl.length ≤ 1000) (ov : PySem.W.excOver K C tl = true) (hasD : PySem.W.hasDictIn K C = true) (no : PySem.W.findIn K (.ref C) name = some none)
    (z : ∀ h' tk', (∀ b o, b ≠ dx → hp.get? b = some o → h'.get? b = some o) → h'.Ns1 dx (fun y => if y = name then some v else m0 y) → R (.ok (.ret .none)) ⟨h', g, d, tk', os⟩) :
    codeAny (model prog w) A (.call (.builtin "object.__setattr__") ⟨[.ref x, .str name tk, v], []⟩) R ⟨hp, g, d, t, os⟩ := by
  obtain ⟨oD, esD, epD, at_d, dD, _⟩ := nd.count wi
  refine PySem.W.osa_openX (od := some oD) SF X ⟨at_x, rfl, rfl, at_d⟩ ov (taker_none no) fun b => ?_
  obtain ⟨cd, hc, hd⟩ := PySem.W.any_some hasD
  have lk : PySem.W.Looks (model prog w) hp (classData C) cd := PySem.W.looks_clsIn X hc
  show wpAny _ _ (storeInOwnDict (.ref x) (.ref C) (.str name tk) name v b) _ _ _
  obtain ⟨nm, bs, mro, ns, qn, hd1, sn, sb, ab, col, del⟩ := cd
  obtain rfl : hd1 = true := hd
  unfold storeInOwnDict ownDictForStores
  repeat (first
    | with_reducible refine store_in_old nd wi few ?_
    | with_reducible refine wpAny_loadPart_at at_x ?_
    | with_reducible refine lk.at ?_
    | wp_step)
  intro h' tk' hn hs
  exact z h' tk' (fun b o nb ho => (hs.2 b nb).trans ho) hn
end
/-! ### the same over the layer: self.f = y in an own exception's __init__ -/
/-- what the written part says of an own exception class C, its __init__ at fI -/
structure XCls (K : PySem.W.Frag) (C fI : Addr) (tl : List Value) (newId : String) : Prop where
  ini : PySem.W.excInitIn K C tl newId = true
  over : PySem.W.excOver K C tl = true
  hasD : PySem.W.hasDictIn K C = true
  sa : PySem.W.findIn K (.ref C) "__setattr__" = some (some (.builtin "object.__setattr__"))
  init : PySem.W.findIn K (.ref C) "__init__" = some (some (.ref fI))
  isF : PySem.W.isFn K (.ref fI) = true
  kp : PySem.W.keepIn K (.ref C) = true
section
variable {X : Cx} {pins : List (Addr × Obj)} {σ : St} {H : Hp} {s : Shared} {a C fI dx : Addr} {f : Str} {y : V} {u : Value} {fs : List (Str × V)} {Q : Unit → Shared → Prop} {E : Value → Shared → Prop} {A : Around} {B newId : String} {tl : List Value}
theorem xset_first (SF : StoreFacts B tl "object.__setattr__" "object") (T : XCls X.K C fI tl newId) (I : Inv X pins σ H s) (ex : H a = some (exo a C none)) (no : PySem.W.findIn X.K (.ref C) f = some none) (ry : RelV y u)
    (z : ∀ dx s', H dx = none → dx ≠ a → Inv X pins σ (upd (upd H dx (exd dx [(f, y)])) a (exo a C (some dx))) s' → Q () s') : wpAny (model X.prog X.w) A (setAttr (.ref a) f u) Q E s := by
  obtain ⟨t1, ho⟩ := exo_at I.hok ex
  obtain ⟨hp, g, d, t, os⟩ := s
  refine PySem.W.set_plain I.kIn (ox := { cls := .ref C, dict := none, data := .fields #[.ref t1, .none, .none, .none, .bool false, .none] }) (od := none) ⟨ho, rfl, rfl, trivial⟩ T.sa (xs_first SF I.kIn ho T.over T.hasD no fun h' tk' dx k dn dne hx hn => ?_)
  have free : H dx = none := I.hok.fresh dn
  have old : ∀ {b : Addr} {o : Obj}, hp.get? b = some o → b ≠ dx := fun {b o} q => Nat.ne_of_lt (Nat.lt_of_lt_of_le (Heap.lt_size q) dn)
  have off : ∀ {b : Addr}, H b = none → b ≠ a := fun {b} n e => by
    subst e
    rw [n] at ex
    cases ex
  -- what is told elsewhere is told as before
  have same : ∀ {b : Addr} {o : HO}, H b = some o → o ≠ exo a C none → (upd (upd H dx (exd dx [(f, y)])) a (exo a C (some dx))) b = some o := fun {b o} q ne => by
    rw [upd_ne (at_ne ex q (Ne.symm ne)), upd_ne (ne_of_none q free)]
    exact q
  have U : Un X.fs [] H (upd (upd H dx (exd dx [(f, y)])) a (exo a C (some dx))) hp h' :=
    { keep := fun b o q n _ _ => k b o (off n) q
      slot := fun b o q n _ _ => ⟨o.slots, k b o (off n) q⟩
      free := fun b o q n _ => by
        rw [upd_ne (off n), upd_ne (old q)]
        exact n
      there := fun b o q _ => (Classical.em (b = a)).elim (fun e => ⟨_, e ▸ hx⟩) fun e => ⟨o, k b o e q⟩
      tups := fun b xs q => same q (Ne.symm exo_tup)
      frzs := fun b o v q => same q (Ne.symm exo_frz)
      tbls := fun b ps q => ⟨#[], by rw [same q (Ne.symm exo_tbl)]; simp⟩ }
  refine z dx _ free dne (I.un (t' := tk') U fun b o q => ?_)
  by_cases e1 : b = a
  · subst e1
    obtain rfl := Option.some.inj (upd_same.symm.trans q)
    exact exo_ok hx
  · rw [upd_ne e1] at q
    by_cases e2 : b = dx
    · subst e2
      obtain rfl := Option.some.inj (upd_same.symm.trans q)
      exact exd_ok hn (relO_put (fs := []) ry fun _ => True.intro)
    · rw [upd_ne e2] at q
      refine (I.hok b o q).stay (fun c v hc r => k c v ?_ r) (fun c hc => same hc (Ne.symm exo_own)) fun c xs hc => same hc (Ne.symm exo_tup)
      rcases hc with rfl | hc
      · exact e1
      · exact at_ne ex hc exo_own
theorem xset_later (SF : StoreFacts B tl "object.__setattr__" "object") (T : XCls X.K C fI tl newId) (I : Inv X pins σ H s) (ex : H a = some (exo a C (some dx))) (ed : H dx = some (exd dx fs)) (few : fs.length ≤ 900) (no : PySem.W.findIn X.K (.ref C) f = some none) (ry : RelV y u)
    (z : ∀ s', Inv X pins σ (upd H dx (exd dx ((f, y) :: fs))) s' → Q () s') : wpAny (model X.prog X.w) A (setAttr (.ref a) f u) Q E s := by
  obtain ⟨t1, ho⟩ := exo_at I.hok ex
  obtain ⟨mA, nd, rel⟩ := exd_at I.hok ed
  obtain ⟨hp, g, d, t, os⟩ := s
  obtain ⟨oD, _, _, at_d, _, _⟩ := nd.count (within_of rel)
  refine PySem.W.set_plain I.kIn (ox := { cls := .ref C, dict := some dx, data := .fields #[.ref t1, .none, .none, .none, .bool false, .none] }) (od := some oD) ⟨ho, rfl, rfl, at_d⟩ T.sa
    (xs_later SF I.kIn ho nd (within_of rel) (by rw [List.length_map]; omega) T.over T.hasD no fun h' tk' k hn => z _ (I.write (t' := tk') (x := dx) (e := dx) (o := exd dx ((f, y) :: fs)) (by rw [ed]; exact True.intro) (.inl rfl) k ?_ (exd_ok hn (relO_put ry rel))))
  obtain ⟨o, _, _, e, _⟩ := hn
  exact ⟨o, e⟩
end
/-- self.f = e, in an __init__ of an own exception class -/
def tXst (K : PySem.W.Frag) (tl : List Value) (newId : String) (f : Str) (to te : TE) : TS := fun D σ H => te σ H fun y H1 => to σ H1 fun x H2 => ∃ a C fI : Addr, x = .ref a ∧ XCls K C fI tl newId ∧ PySem.W.findIn K (.ref C) f = some none ∧
  ((H2 a = some (exo a C none) ∧ ∀ dx, H2 dx = none → dx ≠ a → D.nx σ (upd (upd H2 dx (exd dx [(f, y)])) a (exo a C (some dx)))) ∨
    ∃ (dx : Addr) (fs : List (Str × V)), H2 a = some (exo a C (some dx)) ∧ H2 dx = some (exd dx fs) ∧ fs.length ≤ 900 ∧ D.nx σ (upd H2 dx (exd dx ((f, y) :: fs))))
theorem ps_xst {X : Cx} {o e : Expr} {to te : TE} {f : Str} {p' pos : Pos} {B newId : String} {tl : List Value} (SF : StoreFacts B tl "object.__setattr__" "object") (ho : PE X o to) (he : PE X e te) (hs : swapsWith e (some (.Attribute o f p')) pos.line X.env = pure false := by rfl) :
    PS X (.Assign [.Attribute o f p'] e pos) (tXst X.K tl newId f to te) := by
  refine ⟨fun pins s σ H D I h => PySem.plainObj_wpAny_Assign_Attribute (thn (he.run pins s σ H _ I h) fun v s1 ⟨y, H1, I1, r1, q1⟩ => thn (ho.run pins s1 σ H1 _ I1 q1) fun u s2 ⟨x, H2, I2, r2, a, C, fI, ex, T, no, q⟩ => ?_) hs⟩
  subst ex
  obtain rfl : u = Value.ref a := r2
  rcases q with ⟨ea, q⟩ | ⟨dx, fs, ea, ed, few, q⟩
  · exact xset_first SF T I2 ea no r1 fun dx s' n ne J => ⟨σ, _, J, q dx n ne⟩
  · exact xset_later SF T I2 ea ed few no r1 fun s' J => ⟨σ, _, J, q⟩
/-! ### an own exception made as a value, its fields read, isinstance of it, repr -/
/-- C(.. by place .., .. by name ..) of an own exception class: a new exception, then its __init__ -/
def tXmk (C : Addr) (n m : Nat) (sp : Sp) (gV : List V → List V → List V) (t tk : TA) : TE := fun σ H Q => t σ H fun vs H1 => tk σ H1 fun zs H2 => vs.length = n ∧ zs.length = m ∧ vs.length ≤ 1000 ∧
  ∀ a, H2 a = none → sp (gV (.ref a :: vs) zs) (upd H2 a (exo a C none)) (fun v H3 => v = .non ∧ Q (.ref a) H3) E0
section
variable {X : Cx} {k n : Nat} {fI C : Addr} {fd : FuncData} {ps ks : List Str} {sp : Sp} {x : Str} {p pos : Pos} {e : Expr} {es : List Expr} {kws : List Keyword} {t tk : TA} {g : List Value → List Value → List Value} {gV : List V → List V → List V} {B newId initId : String} {tl : List Value}
theorem run_xmk {pins : List (Addr × Obj)} {σ : St} {H : Hp} {s : Shared} {Q : VK} {us ws : List Value} {vs zs : List V} (FB : ExcBaseFacts B newId initId tl) (T : XCls X.K C fI tl newId) (F : FnOk X.prog X.w X.K X.mg X.base CX0 k fI fd ps sp) (hr : Room (k + 1) X.A)
    (hb : KBn X.K fd ps (n + 1) ks g gV) (I : Inv X pins σ H s) (r : Vals vs us) (rz : Vals zs ws) (l1 : vs.length = n) (l2 : zs.length = ks.length) (few : vs.length ≤ 1000)
    (z : ∀ a, H a = none → sp (gV (.ref a :: vs) zs) (upd H a (exo a C none)) (fun v H3 => v = .non ∧ Q (.ref a) H3) E0) : wpAny (model X.prog X.w) X.A (call (.ref C) us (ks.zip ws)) (EP X pins σ Q) X.xe s := by
  obtain ⟨hp, gs, dr, tk, os⟩ := s
  obtain ⟨nm, N, qn, bs, bm, hdct, sn, sub, ab, col, dd, k0, k1, k2, k3, k5, hC, same⟩ := PySem.W.excInit_of I.kIn T.ini
  have up : hp.objs.size ≤ hp.objs.size + 1 := Nat.le_succ _
  have hq := z (hp.objs.size + 1) (I.hok.fresh up)
  have stay : ∀ b o, hp.get? b = some o → (exLaid hp C us).get? b = some o := fun b o q => Heap.get?_push_of_some _ (Heap.get?_push_of_some _ q)
  have made : (exLaid hp C us).get? (hp.objs.size + 1) = some { cls := .ref C, data := .fields #[.ref hp.objs.size, .none, .none, .none, .bool false, .none] } := by
    unfold exLaid
    heap_get
  have I2 : Inv X pins σ (upd H (hp.objs.size + 1) (exo (hp.objs.size + 1) C none)) ⟨exLaid hp C us, gs, dr, tk, os⟩ := I.laid (t' := tk) stay up (exo_ok made)
  have r1 : Vals (V.ref (hp.objs.size + 1) :: vs) (Value.ref (hp.objs.size + 1) :: us) := .cons rfl r
  have n1 : (Value.ref (hp.objs.size + 1) :: us).length = n + 1 := by
    rw [List.length_cons, ← r.length, l1]
  have fewU : us.length ≤ sizeLine := by
    rw [← r.length]
    exact Nat.le_trans few (by decide)
  obtain ⟨oI, at_I, isI⟩ : ∃ oI, hp.get? fI = some oI ∧ oI.cls = .type "function" := by
    obtain ⟨o, q, c⟩ := Option.map_eq_some_iff.mp (show (X.K.lookup fI).map (·.cls) = some (.type "function") from beq_iff_eq.mp T.isF)
    exact ⟨o, I.kIn _ _ q, c⟩
  refine wpAny_call (kw_call FB same hC (PySem.W.looks_findIn I.kIn T.init) (fun self => PySem.W.exc_bind at_I isI self) fewU (codeAny_mono (F.run _ X.stack _ _ ⟨Value.ref (hp.objs.size + 1) :: us, ks.zip ws⟩ (g (Value.ref (hp.objs.size + 1) :: us) ws) _ _ E0
    (hr.make C us (ks.zip ws)) (I2.env0.make C us (ks.zip ws)) (hb.to _ (Value.ref (hp.objs.size + 1) :: us) ws I2.kIn n1 (rz.length.symm.trans l2)) (hb.rel r1 rz) hq) ?_))
  rintro (er | _ | _ | _ | u) s' q
  · exact q.elim
  · exact q.elim
  · exact q.elim
  · exact q.elim
  · obtain ⟨v, H3, I3, rv, ev, q3⟩ := I2.after q
    subst ev
    exact ⟨rv, ⟨V.ref (hp.objs.size + 1), H3, I3, rfl, q3⟩⟩
/-- C(e, ..) -/
theorem pe_xmk (FB : ExcBaseFacts B newId initId tl) (T : XCls X.K C fI tl newId) (F : FnOk X.prog X.w X.K X.mg X.base CX0 k fI fd ps sp) (hr : Room (k + 1) X.A) (hg : Gl X x) (hm : X.mg x = some (.ref C)) (hb : KBn X.K fd ps (n + 1) [] g gV) (ha : PA X (e :: es) t)
    (hdb : (x == ("__debug__" : Str)) = false := by decide) (he : starEach (e :: es) X.env = (false, eval e X.env) :: starEach es X.env := by rfl) (hpl : (backTo pos (starEach es X.env)).any (·.1) = false := by rfl) :
    PE X (.Call (.Name x p) (e :: es) [] pos) (tXmk C n 0 sp gV t tNil) :=
  ⟨fun pins s σ H Q I h => wpAny_Call_Name_kw (ld_glob I hg hm (PySem.W.callWith_K (h₀ := X.base) I.ok.mod.kin T.kp (thn (ha.run pos pins s σ H _ I h) fun us s1 ⟨vs, H1, I1, r, l1, l2, l3, q⟩ => ⟨I1.kIn, run_xmk (ws := []) FB T F hr hb I1 r .nil l1 rfl l3 q⟩) he hpl) hdb)⟩
/-- C() -/
theorem pe_xmk0 (FB : ExcBaseFacts B newId initId tl) (T : XCls X.K C fI tl newId) (F : FnOk X.prog X.w X.K X.mg X.base CX0 k fI fd ps sp) (hr : Room (k + 1) X.A) (hg : Gl X x) (hm : X.mg x = some (.ref C)) (hb : KBn X.K fd ps 1 [] g gV)
    (hdb : (x == ("__debug__" : Str)) = false := by decide) : PE X (.Call (.Name x p) [] [] pos) (tXmk C 0 0 sp gV tNil tNil) :=
  ⟨fun pins s σ H Q I h => wpAny_Call_Name_kw (ld_glob I hg hm (PySem.W.callWith_K0 I.kIn T.kp (run_xmk (us := []) (vs := []) (ws := []) (zs := []) FB T F hr hb I .nil .nil rfl rfl (Nat.zero_le _) h.2.2.2)) hdb)⟩
/-- C(k = e, ..) -/
theorem pe_xmkK (FB : ExcBaseFacts B newId initId tl) (T : XCls X.K C fI tl newId) (F : FnOk X.prog X.w X.K X.mg X.base CX0 k fI fd ps sp) (hr : Room (k + 1) X.A) (hg : Gl X x) (hm : X.mg x = some (.ref C)) (hb : KBn X.K fd ps 1 ks g gV) (hkw : PK X kws tk)
    (hall : (backToKw pos (keywordEach kws X.env)).all (·.1.isSome) = true := by rfl) (hks : (backToKw pos (keywordEach kws X.env)).filterMap (·.1) = ks := by rfl) (hdb : (x == ("__debug__" : Str)) = false := by decide)
    (hpl : ((backTo pos (starEach [] X.env)).any (·.1) || (backToKw pos (keywordEach kws X.env)).any (·.1.isNone)) = false := by rfl) : PE X (.Call (.Name x p) [] kws pos) (tXmk C 0 ks.length sp gV tNil tk) := by
  refine ⟨fun pins s σ H Q I h => wpAny_Call_Name_kw (ld_glob I hg hm (PySem.W.callWith_KW0 (h₀ := X.base) I.ok.mod.kin T.kp hall (thn (hkw.run pos pins s σ H _ I h) fun ws s2 ⟨zs, H2, I2, rz, l1, l2, l3, q2⟩ => ⟨I2.kIn, ?_⟩) hpl) hdb)⟩
  rw [hks]
  exact run_xmk (us := []) (vs := []) FB T F hr hb I2 .nil rz rfl l2 l3 q2
end
/-- what is asked of an own exception class so that its fields are read and isinstance answers -/
structure XLook (K : PySem.W.Frag) (C : Addr) : Prop where
  xf : XfC K C
  ex : ExcC K C
/-- e.f of an own exception -/
def tXfd (K : PySem.W.Frag) (f : Str) (te : TE) : TE := fun σ H Q => te σ H fun x H1 => ∃ (a C d : Addr) (fs : List (Str × V)) (v : V), x = .ref a ∧ XLook K C ∧ PySem.W.findIn K (.ref C) f = some none ∧ H1 a = some (exo a C (some d)) ∧ H1 d = some (exd d fs) ∧ fs.lookup f = some v ∧ Q v H1
theorem pe_xfd {X : Cx} {e : Expr} {te : TE} {pos : Pos} {f : Str} (he : PE X e te) (hb : attributeBase e f X.env (eval e X.env) = eval e X.env := by rfl) : PE X (.Attribute e f pos) (tXfd X.K f te) := by
  refine ⟨fun pins s σ H Q I h => attr_of hb (thn (he.run pins s σ H _ I h) fun u s1 ⟨x, H1, I1, rx, a, C, d, fs, v, ex, T, no, ea, ed, l, q⟩ => ?_)⟩
  subst ex
  obtain rfl : u = Value.ref a := rx
  obtain ⟨t1, ha⟩ := exo_at I1.hok ea
  obtain ⟨mA, hns, hr⟩ := exd_at I1.hok ed
  obtain ⟨od, ho, hl⟩ := lookIn_ns hns
  obtain ⟨u, hu, ru⟩ := RelO.some_of (v := v) (o := mA f) (by rw [← l]; exact hr f)
  exact HandSPX.exc_get I1.kIn ⟨ha, rfl, rfl, ho⟩ T.xf.ga T.xf.gg T.xf.exC (PySem.W.findObj_own T.xf.hdC no rfl (by rw [hl, hu])) (handed_of ru) ⟨v, H1, I1.tok _, ru, q⟩
/-- isinstance(e, c) of an own exception -/
def rIsX (K : PySem.W.Frag) : List V → Hp → VK → Prop := fun xs H Q => ∃ (a D : Addr) (d : Option Addr) (c : V) (cv : Value) (b : Bool), xs = [.ref a, c] ∧ ExcC K D ∧ (H a = some (exo a D d) ∧ ∀ dd, d = some dd → ∃ fs, H dd = some (exd dd fs)) ∧ ClsV c cv ∧
  PySem.W.kitOne K (.ref D) cv = some b ∧ Q (.bl b) H
theorem call_isX {X : Cx} : CallR X (.builtin "isinstance") (rIsX X.K) := by
  intro pins s σ H xs us Q I r h
  obtain ⟨a, D, d, c, cv, b, rfl, T, ⟨ea, ed⟩, hc, hk, q⟩ := h
  obtain ⟨u1, u2, rfl, r1, r2⟩ := vals2 r
  obtain rfl : u1 = Value.ref a := r1
  obtain rfl := hc.eq r2
  obtain ⟨t1, ha⟩ := exo_at I.hok ea
  have cl : (PySem.W.clsIn X.K D).isSome = true := by
    obtain ⟨cd, hc, _⟩ := PySem.W.any_some T.hd
    rw [hc]
    rfl
  have J : ∃ od, PySem.W.InstAt s.heap a { cls := .ref D, dict := d, data := .fields #[.ref t1, .none, .none, .none, .bool false, .none] } D od := by
    cases d with
    | none => exact ⟨none, ha, rfl, rfl, trivial⟩
    | some dd =>
      obtain ⟨fs, e⟩ := ed dd rfl
      obtain ⟨mA, hns, _⟩ := exd_at I.hok e
      obtain ⟨od, ho, _⟩ := lookIn_ns hns
      exact ⟨some od, ha, rfl, rfl, ho⟩
  obtain ⟨od, J⟩ := J
  exact PySem.W.kia_one (PySem.W.kitx_exc (od := od) cl T.hg T.hk T.hs T.ha T.hn T.ht T.hm) I.kIn J hk (fun z => nomatch z) fun tk => ⟨.bl b, H, I.tok tk, rfl, q⟩
/-- v is read as the data d -/
def Rds (X : Cx) (H : Hp) (v : V) (d : PyData) : Prop := ∀ (pins : List (Addr × Obj)) (σ : St) (s : Shared) (u : Value), Inv X pins σ H s → RelV v u → ∃ as, Reads s.heap u d as ∧ (d.hasDict = true → sysModules ∉ as)
theorem Rds.of {X : Cx} {H : Hp} {v : V} {d : PyData} (h : Dp X.K H v d) (n : d.hasDict = false) : Rds X H v d := fun pins σ s u I r => by
  obtain ⟨as, q⟩ := Dp.reads I d v u h r
  exact ⟨as, q, fun z => by rw [n] at z; cases z⟩
theorem call_repr {X : Cx} (hG : X.A.guards = some []) (hu : X.A.units + 64 < cLine) : CallR X (.builtin "repr") (fun xs H Q => ∃ v d, xs = [v] ∧ Rds X H v d ∧ d.showable = true ∧ d.depth + 1 ≤ 64 ∧ d.shown.length ≤ sizeLine ∧ Q (.str d.shown) H) := by
  intro pins s σ H xs us Q I r h
  obtain ⟨v, d, rfl, hv, sh, dp, sz, q⟩ := h
  obtain ⟨u, rfl, ru⟩ := vals1 r
  obtain ⟨as, rd, nos⟩ := hv pins σ s u I ru
  cases rd with
  | none => exact PySem.P.repr_of_none ⟨.str _, H, I.tok _, ⟨_, rfl⟩, q⟩
  | bool b => exact PySem.P.repr_of_bool ⟨.str _, H, I.tok _, ⟨_, rfl⟩, by cases b <;> exact q⟩
  | int i t => exact PySem.P.repr_of_int (of_decide_eq_true sh) ⟨.str _, H, I.tok _, ⟨_, rfl⟩, q⟩
  | str y t => exact PySem.P.repr_of_str ⟨.str _, H, I.tok _, ⟨_, rfl⟩, q⟩ sz
  | list h1 h2 h3 h4 => exact PySem.repr_of_reads' (.list h1 h2 h3 h4) sh nos hG (by omega) (fun _ _ z => z) (fun h' u tk kk => ⟨.str _, H, I.kept kk, ⟨_, rfl⟩, q⟩) sz
  | tuple h1 h2 h3 h4 => exact PySem.repr_of_reads' (.tuple h1 h2 h3 h4) sh nos hG (by omega) (fun _ _ z => z) (fun h' u tk kk => ⟨.str _, H, I.kept kk, ⟨_, rfl⟩, q⟩) sz
  | dict h1 h2 h3 h4 h5 => exact PySem.repr_of_reads' (.dict h1 h2 h3 h4 h5) sh nos hG (by omega) (fun _ _ z => z) (fun h' u tk kk => ⟨.str _, H, I.kept kk, ⟨_, rfl⟩, q⟩) sz
/-! ### lists that are made anew do not lie where sys.modules lies -/
section
variable {X : Cx}
theorem above {pins : List (Addr × Obj)} {σ : St} {H : Hp} {s : Shared} (I : Inv X pins σ H s) : s.heap.objs.size ≠ sysModules := by
  have h1 : (3 : Nat) < X.base.objs.size := I.ok.mod.glob.lt
  have h2 : X.base.objs.size ≤ X.s_0.heap.objs.size := I.ok.bsz
  have h3 : X.s_0.heap.objs.size ≤ s.heap.objs.size := I.sz
  show s.heap.objs.size ≠ 1
  omega
def rCatS : R2 := fun x y H Q => ∃ l b xs zs, x = .ref l ∧ y = .ref b ∧ H l = some (.lst xs) ∧ H b = some (.lst zs) ∧ xs.length + zs.length ≤ sizeLine ∧ ∀ p, H p = none → p ≠ sysModules → Q (.ref p) (upd H p (.lst (xs ++ zs)))
theorem op_catS : OpR X (binaryOp .Add) rCatS := by
  rintro pins s σ H x y v u Q I rx ry ⟨l, b, xs, zs, rfl, rfl, hl, hb, few, q⟩
  cases rx
  cases ry
  obtain ⟨_, its, n, r, n1, at_l⟩ := I.lstM hl
  obtain ⟨_, jts, m, t, n2, at_b⟩ := I.lstM hb
  refine PySem.P.add_list at_l at_b ?_ (by simp only [List.size_toArray]; omega)
  rw [show its.toArray ++ jts.toArray = (its ++ jts).toArray by simp]
  exact ⟨.ref _, _, I.lnew (t' := s.toks) (r.append t) (by rw [List.length_append]; exact few), rfl, q _ I.fresh (above I)⟩
def rRepS : R2 := fun x y H Q => ∃ l k xs, x = .ref l ∧ y = .int k ∧ H l = some (.lst xs) ∧ -(2 ^ 63) ≤ k ∧ k < 2 ^ 63 ∧ xs.length * k.toNat ≤ sizeLine ∧
  ∀ p, H p = none → p ≠ sysModules → Q (.ref p) (upd H p (.lst (List.replicate k.toNat xs).flatten))
theorem op_repS : OpR X (binaryOp .Mult) rRepS := by
  rintro pins s σ H x y v u Q I rx ry ⟨l, k, xs, rfl, rfl, hl, lo, hi, few, q⟩
  cases rx
  obtain ⟨t, rfl⟩ := ry
  obtain ⟨_, its, n, r, n1, at_l⟩ := I.lstM hl
  have fewI : its.toArray.size * k.toNat ≤ sizeLine := by
    rw [List.size_toArray, ← n1]
    exact few
  have cap : ¬ its.toArray.size * k.toNat > (2 ^ 63 - 1) / 8 := Nat.not_lt.mpr (Nat.le_trans fewI (by decide))
  have fit : ¬ (!Builtin.List.listFitsIndex k) = true := by simp [fitsIndex_both lo hi]
  have long : ¬ Builtin.List.listTooLong (its.toArray.size * k.toNat) = true := by
    rw [notLongL fewI]
    exact Bool.false_ne_true
  have made : List.foldl (fun a b => a ++ b) #[] (List.replicate (if its.toArray.isEmpty = true then 0 else k.toNat) its.toArray) = (List.replicate k.toNat its).flatten.toArray := by
    have all := fun j : Nat => foldl_rep its j []
    simp only [List.nil_append] at all
    cases its with
    | nil => simpa using all 0
    | cons a r2 => exact (by simpa using all k.toNat)
  refine PySem.wpAny_binaryOp_repeat_ref (T := "list") (U := "int") (by decide) ⟨_, at_l, rfl⟩ (fun s' => typeIs_int s' k t) PySem.noFill_list_mul F.fills_int_mul F.slot_int_rmul PySem.repeat_list F.slot_int_index.lookup ?_
  refine PySem.call_meets F.slot_int_rmul (typeIs_int s k t) F.entry_int_rmul (F.args_int_rmul_2 _ _) (PySem.int___rmul___int_list k t l its.toArray n) ⟨at_l, rfl, ⟨_, at_l, rfl⟩, ?_⟩
  refine PySem.call_meets F.slot_list_mul ⟨_, at_l, rfl⟩ F.entry_list_mul (F.args_list_mul_2 _ _) (AutoListH.list___mul___list_int_3 l its.toArray n k t fit cap long) ⟨at_l, ?_⟩
  rw [made]
  exact ⟨.ref _, _, I.lnew (t' := s.toks) (r.rep k.toNat) (by rw [PyProof.Rows.lm_len_rep_flat, Nat.mul_comm]; exact few), rfl, q _ I.fresh (above I)⟩
end
/-! ### data that are read, a dict without pairs among them -/
/-- v is the data d: none, bools, ints, texts, lists, tuples of these, or a dict without pairs -/
inductive De (K : PySem.W.Frag) (H : Hp) : V → PyData → Prop
  | dp {v : V} {d : PyData} (h : Dp K H v d) (n : d.hasDict = false) : De K H v d
  | dic {a : Addr} (h : H a = some (.dK [])) : De K H (.ref a) (.dict [])
theorem De.rds {X : Cx} {H : Hp} {v : V} {d : PyData} (h : De X.K H v d) : Rds X H v d := by
  cases h with
  | dp h n => exact Rds.of h n
  | @dic a h =>
    intro pins σ s u I r
    obtain rfl : u = Value.ref a := r
    obtain ⟨_, low, vs, kv, o, es, ep, at_a, ex, dd, _, pr, _⟩ := (show ObjOk X.prog X.w H s.heap a (.dK []) from I.hok a _ h)
    cases kv
    have e0 : es.toList = [] := by cases e : es.toList with
      | nil => rfl
      | cons z r =>
        rw [e] at pr
        cases pr
    refine ⟨_, .dict (kvs := []) at_a ex.1 dd (by rw [e0]; exact .nil) (by rw [e0]; exact .nil), fun _ m => ?_⟩
    have m2 : sysModules = a := by simpa using m
    rw [← m2] at low
    exact absurd low (by decide)
/-! ### own exception classes whose __init__ stores its parameters -/
/-- an exception of the class C stands at a; its dict holds fs -/
def Ex (H : Hp) (a C : Addr) (fs : List (Str × V)) : Prop := ∃ d, H a = some (exo a C (some d)) ∧ H d = some (exd d fs)
/-- all but a stays -/
abbrev Near (a : Addr) (H H' : Hp) : Prop := ∀ b o, H b = some o → b ≠ a → H' b = some o
def sp1 (f : Str) (C : Addr) : Sp := fun vs H Q _ => ∃ (a : Addr) (v : V), vs = [.ref a, v] ∧ H a = some (exo a C none) ∧ ∀ H', Near a H H' → Ex H' a C [(f, v)] → Q .non H'
def sp2 (f g : Str) (C : Addr) : Sp := fun vs H Q _ => ∃ (a : Addr) (v u : V), vs = [.ref a, v, u] ∧ H a = some (exo a C none) ∧ ∀ H', Near a H H' → Ex H' a C [(g, u), (f, v)] → Q .non H'
def sp0 (C : Addr) : Sp := fun vs H Q _ => ∃ a : Addr, vs = [.ref a] ∧ H a = some (exo a C none) ∧ Q .non H
/-- the class x of the module, at C, is made with n values by place or by the names ks, the last one first -/
def XOk (P : Program) (w : World) (K : PySem.W.Frag) (mg : Str → Option Value) (base : Heap) (x : Str) (C : Addr) (n : Nat) (ps ks : List Str) (sp : Sp) : Prop :=
  ∃ (fI : Addr) (fd : FuncData) (B newId initId : String) (tl : List Value), ExcBaseFacts B newId initId tl ∧ XCls K C fI tl newId ∧ mg x = some (.ref C) ∧ FnOk P w K mg base CX0 1 fI fd ps sp ∧
    KBn K fd ps (n + 1) [] (fun us _ => us) (fun vs _ => vs) ∧ KBn K fd ps 1 ks (fun us ws => us ++ ws.reverse) (fun vs zs => vs ++ zs.reverse)
section
variable {X : Cx} {n : Nat} {C : Addr} {ps ks : List Str} {sp : Sp} {x : Str} {p pos : Pos} {e : Expr} {es : List Expr} {kws : List Keyword} {t tk : TA}
theorem pe_xV (o : XOk X.prog X.w X.K X.mg X.base x C n ps ks sp) (hr : Room 2 X.A) (hg : Gl X x) (ha : PA X (e :: es) t) (hdb : (x == ("__debug__" : Str)) = false := by decide) (he : starEach (e :: es) X.env = (false, eval e X.env) :: starEach es X.env := by rfl)
    (hpl : (backTo pos (starEach es X.env)).any (·.1) = false := by rfl) : PE X (.Call (.Name x p) (e :: es) [] pos) (tXmk C n 0 sp (fun vs _ => vs) t tNil) := by
  obtain ⟨fI, fd, B, newId, initId, tl, FB, T, m, F, b, _⟩ := o
  exact pe_xmk FB T F hr hg m b ha hdb he hpl
theorem pe_xV0 (o : XOk X.prog X.w X.K X.mg X.base x C 0 ps ks sp) (hr : Room 2 X.A) (hg : Gl X x) (hdb : (x == ("__debug__" : Str)) = false := by decide) : PE X (.Call (.Name x p) [] [] pos) (tXmk C 0 0 sp (fun vs _ => vs) tNil tNil) := by
  obtain ⟨fI, fd, B, newId, initId, tl, FB, T, m, F, b, _⟩ := o
  exact pe_xmk0 FB T F hr hg m b hdb
theorem pe_xVK (o : XOk X.prog X.w X.K X.mg X.base x C n ps ks sp) (hr : Room 2 X.A) (hg : Gl X x) (hkw : PK X kws tk) (hall : (backToKw pos (keywordEach kws X.env)).all (·.1.isSome) = true := by rfl) (hks : (backToKw pos (keywordEach kws X.env)).filterMap (·.1) = ks := by rfl)
    (hdb : (x == ("__debug__" : Str)) = false := by decide) (hpl : ((backTo pos (starEach [] X.env)).any (·.1) || (backToKw pos (keywordEach kws X.env)).any (·.1.isNone)) = false := by rfl) :
    PE X (.Call (.Name x p) [] kws pos) (tXmk C 0 ks.length sp (fun vs zs => vs ++ zs.reverse) tNil tk) := by
  obtain ⟨fI, fd, B, newId, initId, tl, FB, T, m, F, _, b⟩ := o
  exact pe_xmkK FB T F hr hg m b hkw hall hks hdb hpl
end
theorem Near.up {a : Addr} {o : HO} {H H' : Hp} (n : H a = none) (h : Near a (upd H a o) H') : Same H H' := fun b u e => h b u (by rw [upd_ne (ne_of_none e n)]; exact e) (ne_of_none e n)
section
variable {H : Hp} {Q : VK} {C : Addr} {f g : Str} {v u : V}
theorem mk1 (z : ∀ a H', H a = none → Same H H' → Ex H' a C [(f, v)] → Q (.ref a) H') : ([v] : List V).length = 1 ∧ ([] : List V).length = 0 ∧ ([v] : List V).length ≤ 1000 ∧ ∀ a, H a = none → sp1 f C ((fun vs _ => vs) (.ref a :: [v]) ([] : List V)) (upd H a (exo a C none)) (fun v H3 => v = .non ∧ Q (.ref a) H3) E0 :=
  ⟨rfl, rfl, by show 1 ≤ 1000; decide, fun a n => ⟨a, v, rfl, upd_same, fun H' k x => ⟨rfl, z a H' n (Near.up n k) x⟩⟩⟩
theorem mk1K (z : ∀ a H', H a = none → Same H H' → Ex H' a C [(f, v)] → Q (.ref a) H') : ([] : List V).length = 0 ∧ ([v] : List V).length = 1 ∧ ([] : List V).length ≤ 1000 ∧ ∀ a, H a = none → sp1 f C ((fun vs zs => vs ++ zs.reverse) (.ref a :: []) ([v] : List V)) (upd H a (exo a C none)) (fun v H3 => v = .non ∧ Q (.ref a) H3) E0 :=
  ⟨rfl, rfl, by decide, fun a n => ⟨a, v, rfl, upd_same, fun H' k x => ⟨rfl, z a H' n (Near.up n k) x⟩⟩⟩
theorem mk2 (z : ∀ a H', H a = none → Same H H' → Ex H' a C [(g, u), (f, v)] → Q (.ref a) H') : ([v, u] : List V).length = 2 ∧ ([] : List V).length = 0 ∧ ([v, u] : List V).length ≤ 1000 ∧ ∀ a, H a = none → sp2 f g C ((fun vs _ => vs) (.ref a :: [v, u]) ([] : List V)) (upd H a (exo a C none)) (fun v H3 => v = .non ∧ Q (.ref a) H3) E0 :=
  ⟨rfl, rfl, by show 2 ≤ 1000; decide, fun a n => ⟨a, v, u, rfl, upd_same, fun H' k x => ⟨rfl, z a H' n (Near.up n k) x⟩⟩⟩
theorem mk2K (z : ∀ a H', H a = none → Same H H' → Ex H' a C [(g, u), (f, v)] → Q (.ref a) H') : ([] : List V).length = 0 ∧ ([u, v] : List V).length = 2 ∧ ([] : List V).length ≤ 1000 ∧ ∀ a, H a = none → sp2 f g C ((fun vs zs => vs ++ zs.reverse) (.ref a :: []) ([u, v] : List V)) (upd H a (exo a C none)) (fun v H3 => v = .non ∧ Q (.ref a) H3) E0 :=
  ⟨rfl, rfl, by decide, fun a n => ⟨a, v, u, rfl, upd_same, fun H' k x => ⟨rfl, z a H' n (Near.up n k) x⟩⟩⟩
theorem mk0 (z : ∀ a H', H a = none → Same H H' → H' a = some (exo a C none) → Q (.ref a) H') : ([] : List V).length = 0 ∧ ([] : List V).length = 0 ∧ ([] : List V).length ≤ 1000 ∧ ∀ a, H a = none → sp0 C ((fun vs _ => vs) (.ref a :: []) ([] : List V)) (upd H a (exo a C none)) (fun v H3 => v = .non ∧ Q (.ref a) H3) E0 :=
  ⟨rfl, rfl, by decide, fun a n => ⟨a, rfl, upd_same, rfl, z a _ n (fun b o e => by rw [upd_ne (ne_of_none e n)]; exact e) upd_same⟩⟩
end
/-- the bodies self.f = f and self.f = f; self.g = g -/
theorem ex_first {H : Hp} {Q : VK} {a C : Addr} {f : Str} {v : V} (ha : H a = some (exo a C none)) (q : ∀ H', Near a H H' → Ex H' a C [(f, v)] → Q .non H') : ∀ dx, H dx = none → dx ≠ a → Q .non (upd (upd H dx (exd dx [(f, v)])) a (exo a C (some dx))) := fun dx n ne =>
  q _ (fun b o e nb => by rw [upd_ne nb, upd_ne (ne_of_none e n)]; exact e) ⟨dx, upd_same, by rw [upd_ne ne, upd_same]⟩
theorem ex_next {H : Hp} {Q : VK} {a C dx : Addr} {f g : Str} {v u : V} (ha : H a = some (exo a C none)) (n : H dx = none) (ne : dx ≠ a) (q : ∀ H', Near a H H' → Ex H' a C [(g, u), (f, v)] → Q .non H') :
    Q .non (upd (upd (upd H dx (exd dx [(f, v)])) a (exo a C (some dx))) dx (exd dx ((g, u) :: [(f, v)]))) :=
  q _ (fun b o e nb => by rw [upd_ne (ne_of_none e n), upd_ne nb, upd_ne (ne_of_none e n)]; exact e) ⟨dx, by rw [upd_ne ne.symm, upd_same], upd_same⟩
/-! ### a list of one value so many times, shown -/
theorem Rds.rep {X : Cx} {H : Hp} {v : V} {d : PyData} {p : Addr} {n : Nat} (h : H p = some (.lst (List.replicate n v))) (np : p ≠ sysModules) (hv : De X.K H v d) : Rds X H (.ref p) (.list (List.replicate n d)) := by
  intro pins σ s u I r
  obtain rfl : u = Value.ref p := r
  obtain ⟨_, its, m, rv, at_p⟩ := (show ObjOk X.prog X.w H s.heap p (.lst (List.replicate n v)) from I.hok p _ h)
  have all : ∀ (n : Nat) (its : List Value), Vals (List.replicate n v) its → ∃ as, ReadsAll s.heap its (List.replicate n d) as ∧ (d.hasDict = true → sysModules ∉ as) := by
    intro n
    induction n with
    | zero =>
      intro its z
      cases z
      exact ⟨[], .nil, fun _ m => nomatch m⟩
    | succ n ih =>
      intro its z
      cases z with
      | cons r1 r2 =>
        obtain ⟨as, q1, n1⟩ := hv.rds pins σ s _ I r1
        obtain ⟨bs, q2, n2⟩ := ih _ r2
        exact ⟨as ++ bs, .cons q1 q2, fun e m => (List.mem_append.mp m).elim (n1 e) (n2 e)⟩
  obtain ⟨as, q, no⟩ := all n its rv
  refine ⟨_, .list at_p rfl rfl (by simpa using q), fun e m => ?_⟩
  rcases List.mem_cons.mp m with z | z
  · exact np z.symm
  · have hd : d.hasDict = true := by
      have key : ∀ k : Nat, PyData.hasDictAll (List.replicate k d) = true → d.hasDict = true := fun k => by
        induction k with
        | zero => intro z; cases z
        | succ k ih =>
          intro z
          rw [List.replicate_succ] at z
          have z2 : (d.hasDict || PyData.hasDictAll (List.replicate k d)) = true := by simpa [PyData.hasDictAll] using z
          rcases Bool.or_eq_true_iff.mp z2 with z2 | z2
          · exact z2
          · exact ih z2
      exact key n (by simpa [PyData.hasDict] using e)
    exact no hd z
theorem rep_show {d : PyData} {n : Nat} (sh : d.showable = true) : (PyData.list (List.replicate n d)).showable = true := by
  have key : ∀ k : Nat, PyData.showableAll (List.replicate k d) = true := fun k => by
    induction k with
    | zero => rfl
    | succ k ih => rw [List.replicate_succ, PyData.showableAll, sh, ih]; rfl
  rw [PyData.showable]
  exact key n
theorem rep_depth {d : PyData} {n k : Nat} (h : d.depth ≤ k) : (PyData.list (List.replicate n d)).depth ≤ k + 1 := by
  have key : ∀ m : Nat, PyData.depthAll (List.replicate m d) ≤ k := fun m => by
    induction m with
    | zero => exact Nat.zero_le _
    | succ m ih =>
      rw [List.replicate_succ, PyData.depthAll]
      exact Nat.max_le.mpr ⟨h, ih⟩
  rw [PyData.depth]
  have := key n
  omega
theorem rep_size {d : PyData} {n k : Nat} (h : d.shown.length ≤ k) : (PyData.list (List.replicate n d)).shown.length ≤ n * (k + 2) + 3 := by
  have all : ∀ m : Nat, PyData.shownAll (List.replicate m d) = List.replicate m d.shown := fun m => by
    induction m with
    | zero => rfl
    | succ m ih => rw [List.replicate_succ, PyData.shownAll, ih, List.replicate_succ]
  have e := listText_len_le (List.replicate n d.shown)
  rw [PyData.shown, all]
  simp only [List.map_replicate, List.sum_replicate_nat, List.length_replicate] at e
  have : n * d.shown.length ≤ n * k := Nat.mul_le_mul_left n h
  rw [Nat.mul_add]
  omega
/-! ### raise of own exceptions, whatever built-in class is their base -/
def sp1n (f : Str) (C : Addr) : Sp := fun vs H Q _ => ∃ (a : Addr) (v : V), vs = [.ref a, v] ∧ H a = some (exo a C none) ∧ ∀ d, H d = none → d ≠ a → Q .non (upd (upd H d (exd d [(f, v)])) a (exo a C (some d)))
def sp2n (f g : Str) (C : Addr) : Sp := fun vs H Q _ => ∃ (a : Addr) (v u : V), vs = [.ref a, v, u] ∧ H a = some (exo a C none) ∧ ∀ d, H d = none → d ≠ a → Q .non (upd (upd (upd H d (exd d [(f, v)])) a (exo a C (some d))) d (exd d ((g, u) :: [(f, v)])))
/-- the class x of the module, at C, is made with n values by place, and may be raised -/
def XRz (P : Program) (w : World) (K : PySem.W.Frag) (mg : Str → Option Value) (base : Heap) (x : Str) (C : Addr) (n : Nat) (sp : Sp) : Prop :=
  ∃ (fI : Addr) (fd : FuncData) (ps : List Str) (B newId initId : String) (tl : List Value), ExcBaseFacts B newId initId tl ∧ XCls K C fI tl newId ∧ mg x = some (.ref C) ∧ FnOk P w K mg base CX0 1 fI fd ps sp ∧
    KBn K fd ps (n + 1) [] (fun us _ => us) (fun vs _ => vs) ∧ PySem.W.subIn K (.ref C) (.type "BaseException") = some true ∧ PySem.W.typeIn K (.ref C) = some (.type "type")
section
variable {X : Cx} {pins : List (Addr × Obj)} {σ : St} {s : Shared}
/-- the exception without a dict is let go -/
theorem mk_bare {H : Hp} {Q : XK} {h0 h1 h2 : Heap} {g1 g2 : Array GenState} {d1 d2 : Drawn} {t1 t2 : Nat} {o1 o2 : OsState} {a C : Addr} (R : Raises X (.ref C)) (I : Inv X pins σ H ⟨h0, g1, d1, t1, o1⟩) (new : h0.objs.size ≤ a) (on : ∀ b o, h0.get? b = some o → h1.get? b = some o)
    (un : Un (frs X.stack) [] (upd H a (exo a C none)) (upd H a (exo a C none)) h1 h2) (ok : HOk X.prog X.w (upd H a (exo a C none)) h2) (os : o2 = o1) (gens : PyProof.Rows.AllBare g2) (q : Q (.ref C) none H) : MkP X pins σ Q (.ref a) ⟨h2, g2, d2, t2, o2⟩ := by
  obtain ⟨t0, at_a⟩ := exo_at ok upd_same
  have free : H a = none := I.hok.fresh new
  obtain ⟨G, g_in, g_out⟩ := restrict h2 fun b => decide (b ≠ a)
  have same : ∀ b, b ≠ a → G.get? b = h2.get? b := fun b n => g_in b (decide_eq_true n)
  have gone : G.get? a = none := g_out a (by simp)
  have old : ∀ {b : Addr} {o : Obj}, h0.get? b = some o → b ≠ a := fun e => Nat.ne_of_lt (Nat.lt_of_lt_of_le (Heap.lt_size e) new)
  have off : ∀ {b : Addr} {o : HO}, H b = some o → b ≠ a := fun e => ne_of_none e free
  have still : ∀ {b : Addr}, b ≠ a → H b = none → upd H a (exo a C none) b = none := fun n e => by rw [upd_ne n]; exact e
  have U : Un (frs X.stack) [] H H h0 G :=
    { keep := fun b o e n m x => (same b (old e)).trans (un.keep b o (on b o e) (still (old e) n) m x)
      slot := fun b o e n m x => by
        obtain ⟨sl, y⟩ := un.slot b o (on b o e) (still (old e) n) m x
        exact ⟨sl, (same b (old e)).trans y⟩
      free := fun _ _ _ n _ => n
      there := fun b o e x => by
        obtain ⟨o', y⟩ := un.there b o (on b o e) x
        exact ⟨o', (same b (old e)).trans y⟩
      tups := fun _ _ e => e
      frzs := fun _ _ _ e => e
      tbls := fun b ps e => ⟨#[], by rw [e]; simp⟩ }
  have okG : HOk X.prog X.w H G := fun b o e => by
    have y := ok b o (by rw [upd_ne (off e)]; exact e)
    have noOwn : ∀ {c : Addr}, upd H a (exo a C none) c = some (.own b) → c ≠ a := fun {c} z m => by
      rw [m, upd_same] at z
      exact exo_own (Option.some.inj z)
    refine y.stay (fun c v hc z => ?_) (fun c z => ?_) fun c xs z => ?_
    · have hca : c ≠ a := by
        rcases hc with m | m
        · rw [m]
          exact off e
        · exact noOwn m
      exact (same c hca).trans z
    · rw [upd_ne (noOwn z)] at z
      exact z
    · by_cases m : c = a
      · rw [m, upd_same] at z
        exact (exo_tup (Option.some.inj z)).elim
      · rw [upd_ne m] at z
        exact z
  have J : Inv X pins σ H ⟨G, g2, d2, t2, o2⟩ := I.call' (ch := []) os U okG gens fun b m => absurd m (by simp)
  refine ⟨a, _, _, ⟨G, g2, d2, t2, o2⟩, H, .ref C, none, rfl, J, fun b o e => ?_, gone, at_a, ⟨rfl, rfl⟩, rfl, rfl, free, rfl, gens, R, q⟩
  by_cases m : b = a
  · rw [m, gone] at e
    cases e
  · exact (same b m).symm.trans e
/-- what is asked so that C(vs ..) is raised: its dict, where it has one, is new -/
def Flies (C : Addr) (sp : Sp) (vs : List V) (H1 : Hp) (Q : XK) : Prop := ∀ a, H1 a = none → sp (.ref a :: vs) (upd H1 a (exo a C none)) (fun v H2 => v = .non ∧
  ((∃ (d : Addr) (fs : List (Str × V)), H2 a = some (exo a C (some d)) ∧ H2 d = some (exd d fs) ∧ H1 d = none ∧ Q (.ref C) (some d) (upd (del H2 a) d (.xd fs))) ∨ (H2 = upd H1 a (exo a C none) ∧ Q (.ref C) none H1))) E0
theorem run_flies {x : Str} {C : Addr} {n : Nat} {sp : Sp} {H : Hp} {Q : XK} {us : List Value} {vs : List V} (o : XRz X.prog X.w X.K X.mg X.base x C n sp) (hr : Room 2 X.A) (I : Inv X pins σ H s) (r : Vals vs us) (l1 : vs.length = n) (few : vs.length ≤ 1000) (z : Flies C sp vs H Q) :
    wpAny (model X.prog X.w) X.A (call (.ref C) us) (MkP X pins σ Q) X.xe s := by
  obtain ⟨fI, fd, ps, B, newId, initId, tl, FB, T, m, F, hb, sub, ty⟩ := o
  have R : Raises X (.ref C) := raises_own sub ty
  obtain ⟨hp, gs, dr, tk, os⟩ := s
  obtain ⟨nm, N, qn, bs, bm, hdct, sn, sub', ab, col, dd, k0, k1, k2, k3, k5, hC, same⟩ := PySem.W.excInit_of I.kIn T.ini
  have up : hp.objs.size ≤ hp.objs.size + 1 := Nat.le_succ _
  have hq := z (hp.objs.size + 1) (I.hok.fresh up)
  have stay : ∀ b o, hp.get? b = some o → (exLaid hp C us).get? b = some o := fun b o q => Heap.get?_push_of_some _ (Heap.get?_push_of_some _ q)
  have made : (exLaid hp C us).get? (hp.objs.size + 1) = some { cls := .ref C, data := .fields #[.ref hp.objs.size, .none, .none, .none, .bool false, .none] } := by
    unfold exLaid
    heap_get
  have I2 : Inv X pins σ (upd H (hp.objs.size + 1) (exo (hp.objs.size + 1) C none)) ⟨exLaid hp C us, gs, dr, tk, os⟩ := I.laid (t' := tk) stay up (exo_ok made)
  have r1 : Vals (V.ref (hp.objs.size + 1) :: vs) (Value.ref (hp.objs.size + 1) :: us) := .cons rfl r
  have n1 : (Value.ref (hp.objs.size + 1) :: us).length = n + 1 := by
    rw [List.length_cons, ← r.length, l1]
  have fewU : us.length ≤ sizeLine := by
    rw [← r.length]
    exact Nat.le_trans few (by decide)
  obtain ⟨oI, at_I, isI⟩ : ∃ oI, hp.get? fI = some oI ∧ oI.cls = .type "function" := by
    obtain ⟨o, q, c⟩ := Option.map_eq_some_iff.mp (show (X.K.lookup fI).map (·.cls) = some (.type "function") from beq_iff_eq.mp T.isF)
    exact ⟨o, I.kIn _ _ q, c⟩
  refine wpAny_call (kw_call FB same hC (PySem.W.looks_findIn I.kIn T.init) (fun self => PySem.W.exc_bind at_I isI self) fewU (codeAny_mono (F.run _ X.stack _ _ ⟨Value.ref (hp.objs.size + 1) :: us, []⟩ (Value.ref (hp.objs.size + 1) :: us) _ _ E0
    (hr.make C us []) (I2.env0.make C us []) (hb.to _ (Value.ref (hp.objs.size + 1) :: us) [] I2.kIn n1 rfl) r1 hq) ?_))
  rintro (er | _ | _ | _ | u) s' y
  · exact y.elim
  · exact y.elim
  · exact y.elim
  · exact y.elim
  · obtain ⟨v, H2, os2, bare2, un2, ok2, rv, ev, y⟩ := y
    subst ev
    refine ⟨rv, ?_⟩
    obtain ⟨h2, g2, d2, t2, os'⟩ := s'
    rcases y with ⟨d, fs, ea, ed, nd, q⟩ | ⟨e, q⟩
    · exact mk_end R I up stay un2 ok2 os2 bare2 ea ed nd q
    · subst e
      exact mk_bare R I up stay un2 ok2 os2 bare2 q
/-- x(e, ..) in a raise -/
theorem pmk_flies {x : Str} {C : Addr} {n : Nat} {sp : Sp} {e : Expr} {es : List Expr} {t : TA} {p pos : Pos} (o : XRz X.prog X.w X.K X.mg X.base x C n sp) (hr : Room 2 X.A) (hg : Gl X x) (ha : PA X (e :: es) t) (hdb : (x == ("__debug__" : Str)) = false := by decide)
    (he : starEach (e :: es) X.env = (false, eval e X.env) :: starEach es X.env := by rfl) (hpl : (backTo pos (starEach es X.env)).any (·.1) = false := by rfl) :
    PMk X (.Call (.Name x p) (e :: es) [] pos) (fun σ H Q => t σ H fun vs H1 => vs.length = n ∧ vs.length ≤ 1000 ∧ Flies C sp vs H1 Q) := by
  intro pins s σ H Q I h
  obtain ⟨fI, fd, ps, B, newId, initId, tl, FB, T, m, F, hb, sub, ty⟩ := id o
  exact wpAny_Call_Name_kw (ld_glob I hg m (PySem.W.callWith_K (h₀ := X.base) I.ok.mod.kin T.kp (thn (ha.run pos pins s σ H _ I h) fun us s1 ⟨vs, H1, I1, r, l1, l2, q⟩ => ⟨I1.kIn, run_flies o hr I1 r l1 l2 q⟩) he hpl) hdb)
theorem pmk_flies0 {x : Str} {C : Addr} {sp : Sp} {p pos : Pos} (o : XRz X.prog X.w X.K X.mg X.base x C 0 sp) (hr : Room 2 X.A) (hg : Gl X x) (hdb : (x == ("__debug__" : Str)) = false := by decide) : PMk X (.Call (.Name x p) [] [] pos) (fun _ H Q => Flies C sp [] H Q) := by
  intro pins s σ H Q I h
  obtain ⟨fI, fd, ps, B, newId, initId, tl, FB, T, m, F, hb, sub, ty⟩ := id o
  exact wpAny_Call_Name_kw (ld_glob I hg m (PySem.W.callWith_K0 I.kIn T.kp (run_flies (us := []) (vs := []) o hr I .nil rfl (Nat.zero_le _) h)) hdb)
theorem xd_eq {H : Hp} {a C d : Addr} {o o' : HO} {fs : List (Str × V)} (n : H a = none) (ne : d ≠ a) : upd (del (upd (upd (upd H a o) d o') a (exo a C (some d))) a) d (.xd fs) = upd H d (.xd fs) := by
  funext b
  by_cases hb : b = d
  · rw [hb, upd_same, upd_same]
  · rw [upd_ne hb, upd_ne hb]
    by_cases ha : b = a
    · rw [ha, del_same, n]
    · rw [del_ne ha, upd_ne ha, upd_ne hb, upd_ne ha]
theorem xd_eq2 {H : Hp} {a C d : Addr} {o o' o2 : HO} {fs : List (Str × V)} (n : H a = none) (ne : d ≠ a) : upd (del (upd (upd (upd (upd H a o) d o') a (exo a C (some d))) d o2) a) d (.xd fs) = upd H d (.xd fs) := by
  funext b
  by_cases hb : b = d
  · rw [hb, upd_same, upd_same]
  · rw [upd_ne hb, upd_ne hb]
    by_cases ha : b = a
    · rw [ha, del_same, n]
    · rw [del_ne ha, upd_ne hb, upd_ne ha, upd_ne hb, upd_ne ha]
theorem flies1 {H : Hp} {f : Str} {C : Addr} {v : V} {Q : XK} (q : ∀ d, H d = none → Q (.ref C) (some d) (upd H d (.xd [(f, v)]))) : Flies C (sp1n f C) [v] H Q := fun a na => ⟨a, v, rfl, upd_same, fun d nd ne => ⟨rfl, .inl ⟨d, [(f, v)], upd_same, by rw [upd_ne ne, upd_same], by rw [upd_ne ne] at nd; exact nd, by
  rw [xd_eq na ne]
  rw [upd_ne ne] at nd
  exact q d nd⟩⟩⟩
theorem flies2 {H : Hp} {f g : Str} {C : Addr} {v u : V} {Q : XK} (q : ∀ d, H d = none → Q (.ref C) (some d) (upd H d (.xd [(g, u), (f, v)]))) : Flies C (sp2n f g C) [v, u] H Q := fun a na => ⟨a, v, u, rfl, upd_same, fun d nd ne => ⟨rfl, .inl ⟨d, [(g, u), (f, v)], by rw [upd_ne (Ne.symm ne), upd_same], upd_same, by rw [upd_ne ne] at nd; exact nd, by
  rw [xd_eq2 na ne]
  rw [upd_ne ne] at nd
  exact q d nd⟩⟩⟩
theorem flies0 {H : Hp} {C : Addr} {Q : XK} (q : Q (.ref C) none H) : Flies C (sp0 C) [] H Q := fun a na => ⟨a, rfl, upd_same, rfl, .inr ⟨rfl, q⟩⟩
variable {x : Str} {C : Addr} {n : Nat} {sp : Sp} {W : WX} {e : Expr} {es : List Expr} {t : TA} {p pos pos2 : Pos}
/-- raise x(e, ..) -/
theorem ps_raiseN (o : XRz X.prog X.w X.K X.mg X.base x C n sp) (hr : Room 2 X.A) (hc : X.calm = true) (tk : Takes X W) (hg : Gl X x) (ha : PA X (e :: es) t) (hdb : (x == ("__debug__" : Str)) = false := by decide)
    (he : starEach (e :: es) X.env = (false, eval e X.env) :: starEach es X.env := by rfl) (hpl : (backTo pos (starEach es X.env)).any (·.1) = false := by rfl) :
    PS X (.Raise (some (.Call (.Name x p) (e :: es) [] pos)) none pos2) (fun _ σ H => t σ H fun vs H1 => vs.length = n ∧ vs.length ≤ 1000 ∧ Flies C sp vs H1 fun cls d H' => W cls d σ H') :=
  ps_raise hc tk (pmk_flies o hr hg ha hdb he hpl)
/-- raise x() -/
theorem ps_raiseE (o : XRz X.prog X.w X.K X.mg X.base x C 0 sp) (hr : Room 2 X.A) (hc : X.calm = true) (tk : Takes X W) (hg : Gl X x) (hdb : (x == ("__debug__" : Str)) = false := by decide) :
    PS X (.Raise (some (.Call (.Name x p) [] [] pos)) none pos2) (fun _ σ H => Flies C sp [] H fun cls d H' => W cls d σ H') := ps_raise hc tk (pmk_flies0 o hr hg hdb)
end
/-! ### try with several except clauses, each with a name of its own or with none -/
/-- what is wanted behind a suite whose name stands in slot i: there the name is gone -/
def behindName (i : Nat) (D : Ends) : Ends :=
  { nx := fun τ G => D.nx (τ.set i none) G, rt := D.rt, bk := fun τ G => D.bk (τ.set i none) G, ct := fun τ G => D.ct (τ.set i none) G }
/-- a clause: its class, its name's slot, its suite's reading -/
structure Clause where
  cls : Value
  slot : Option Nat
  ts : Addr → Value → Option Addr → TS
/-- the suite is entered with the exception at a -/
def Clause.enters (c : Clause) (a : Addr) (kd : Value) (dd : Option Addr) (D : Ends) (τ : St) (G : Hp) : Prop :=
  match c.slot with
  | none => c.ts a kd dd D τ G
  | some i => c.ts a kd dd (behindName i D) (τ.set i (some (.ref a))) G
/-- what the clauses, one after the other, wish of an exception -/
def wishes (K : PySem.W.Frag) (out : WX) (D : Ends) : List Clause → WX
  | [] => out
  | c :: r => fun kd dd τ G => ∃ hit, PySem.W.exmOne K kd c.cls = some hit ∧ (hit = true → ∀ a, G a = none → c.enters a kd dd D τ G) ∧ (hit = false → wishes K out D r kd dd τ G)
abbrev SuiteOk (X : Cx) (sts : List Stmt) (ts : Addr → Value → Option Addr → TS) : Prop :=
  ∀ (a : Addr) (ob : Obj) (kd : Value) (dd : Option Addr) (ps : List (Addr × Obj)), Zc kd dd ob → (∃ fv, ob.data = .fields fv) → PSs (X.suite a ((a, ob) :: ps)) sts (ts a kd dd)
inductive Clauses (X : Cx) : List ExceptHandler → List Clause → Prop
  | nil : Clauses X [] []
  | bare {x : Str} {c : Value} {ts : Addr → Value → Option Addr → TS} {st : Stmt} {sts : List Stmt} {p1 p2 : Pos} {hs : List ExceptHandler} {l : List Clause} (nm : Names X x c) (su : SuiteOk X (st :: sts) ts) (r : Clauses X hs l) :
      Clauses X (.ExceptHandler (some (.Name x p1)) none (st :: sts) p2 :: hs) (⟨c, none, ts⟩ :: l)
  | named {x y : Str} {i : Nat} {c : Value} {ts : Addr → Value → Option Addr → TS} {st : Stmt} {sts : List Stmt} {p1 p2 : Pos} {hs : List ExceptHandler} {l : List Clause} (nm : Names X x c) (at_i : X.N[i]? = some y) (lo : X.env.kindOf y = some .local) (su : SuiteOk X (st :: sts) ts)
      (r : Clauses X hs l) : Clauses X (.ExceptHandler (some (.Name x p1)) (some y) (st :: sts) p2 :: hs) (⟨c, some i, ts⟩ :: l)
section
variable {X : Cx} {body : List Stmt} {hd : ExceptHandler} {hs : List ExceptHandler} {l : List Clause} {pos : Pos} {tb : WX → TS} {out : WX}
theorem ps_tryN (top : X.stack = X.env :: X.outer) (own : X.env.frame = some X.env.locals) (nd : X.N.Nodup) (tk : Takes X out)
    (bd : ∀ (W : WX) (ps : List (Addr × Obj)) (xe : Value → Shared → Prop), Takes (X.tr ps xe) W → PassesOwn (model X.prog X.w) X.A X.env xe → PSs (X.tr ps xe) body (tb W))
    (cl : Clauses X (hd :: hs) l) : PS X (.Try body (hd :: hs) [] [] pos) (fun D τ G => tb (wishes X.K out D l) D τ G) := by
  refine ⟨fun pins s τ G D I q => wpAny_Try_except (wpAny_mono ((bd (wishes X.K out D l) (X.pn ++ pins) (fun e z1 => wpAny (model X.prog X.w) X.A (noteFrame e X.env) (fun _ z2 => wpAny (model X.prog X.w) X.A (setFlight e none)
    (fun _ z3 => wpAny (model X.prog X.w) X.A (handleBy e X.env (hd :: hs)) (SP X pins D) X.xe z3) X.xe z2) X.xe z1) (fun u z caught => ?_) PassesOwn.looking).run [] s τ G D (I.toTry _) q) ?_ fun _ _ w => w)⟩
  · -- an exception of the body
    have fit := I.ok
    have frs_ : X.A.frames = some (X.env :: X.outer) := fit.frames.trans (by rw [top])
    obtain ⟨a, B, sI, pins1, τ1, G1, kd, dd, rfl, J1, nb, up, sky, free, os, ag, wish⟩ := caught
    have J : Inv X pins τ1 G1 sI := J1.ofTry fit
    show wpAny (model X.prog X.w) X.A (noteFrame (.ref a) X.env) _ _ _
    refine Sky.land Zc.steady frs_ own (by rw [← top]; exact sky) fun h1 fly1 up1 => ?_
    have J2 : Inv X pins τ1 G1 { z with heap := h1 } := J.landed nb fly1.1 (up.trans up1) os ag
    obtain ⟨ob, fv, at_a, zc, isF⟩ := fly1.there
    -- the exception is no frame
    have noFrame : a ∉ frs (X.env :: X.outer) := fun m => by
      obtain ⟨_, o2, e2, no⟩ := fly1.2.2.1.mem m
      rw [at_a] at e2
      cases e2
      exact no _ isF
    have neL : a ≠ X.env.locals := fun e => noFrame (List.mem_filterMap.mpr ⟨X.env, List.mem_cons_self, by rw [own, e]⟩)
    have notF : a ∉ X.fs := fun m => by
      obtain ⟨en, hen, e⟩ := List.mem_filterMap.mp m
      exact noFrame (List.mem_filterMap.mpr ⟨en, List.mem_cons_of_mem _ hen, e⟩)
    have U := J2.suite at_a isF free neL notF
    have tyA : PySem.W.Looks (model X.prog X.w) h1 (typeOf (.ref a)) kd := fun _ _ _ _ kp w => wpAny_typeOf_ref (kp _ _ at_a) (by rw [zc.1]; exact w)
    -- a clause's class is looked up
    have class_ : ∀ {x : Str} {c : Value} {p1 : Pos} {Q : Value → Shared → Prop} {E : Value → Shared → Prop}, Names X x c → Q c { z with heap := h1 } →
        wpAny (model X.prog X.w) (X.A.mark (some (.ref a))) (eval (.Name x p1) X.env) Q E { z with heap := h1 } := fun {x c p1 Q E} nm w => by
      rcases nm with ⟨g, nodbg, m | ⟨m, v, noname⟩⟩
      · exact ld_glob (X := X.suite a ((a, ob) :: (X.pn ++ pins))) U g m w nodbg
      · exact ld_blt (X := X.suite a ((a, ob) :: (X.pn ++ pins))) U g m v w noname nodbg
    have walk : ∀ {hs' : List ExceptHandler} {l' : List Clause}, Clauses X hs' l' → wishes X.K out D l' kd dd τ1 G1 → wpAny (model X.prog X.w) X.A (handleBy (.ref a) X.env hs') (SP X pins D) X.xe { z with heap := h1 } := by
      intro hs' l' c
      induction c with
      | nil =>
        intro w
        obtain ⟨_, _, _, oe, vs, T, oT, _, e1, _, e2, e3, _⟩ := id fly1
        have on : wpAny (model X.prog X.w) X.A (setFlight (.ref a) X.env.frame) (fun _ z4 => wpAny (model X.prog X.w) X.A (throw (.ref a) : Sem Flow) (SP X pins D) X.xe z4) X.xe { z with heap := h1 } := by
          rw [own]
          exact HandSPX.setFlight_upZ fly1 fun h2 sky2 up2 => wpAny_throw (tk _ _ ⟨a, B, sI, pins, τ1, G1, kd, dd, rfl, J, nb, (up.trans up1).trans up2, .inr (.inr (by rw [top]; exact sky2)), free, os, ag, w⟩)
        refine wpAny_handleBy_nil ?_
        unfold PySem.passOn
        refine wpAny_bind (wpAny_field e1 e2 e3 ?_)
        rw [if_neg (by simp)]
        first
          | exact wpAny_bind on
          | exact wpAny_bind (wpAny_pure (wpAny_bind on))
      | @bare x c ts st sts p1 p2 hs2 l2 nm su r ih =>
        intro w
        obtain ⟨hit, ex, yes, no⟩ := w
        refine wpAny_handleBy_cons (codeAny_handlers_test (class_ nm ((PySem.W.exm_one (M := model X.prog X.w) J2.kIn tyA ex).here ?_))) (fun e => by cases e)
        cases hit with
        | false => exact ih (no rfl)
        | true =>
          refine codeAny_handlers_suite (HandSPX.lands_againZ fly1 fun h2 fly2 up2 => ?_)
          obtain ⟨ob2, fv2, at2, zc2, isF2⟩ := fly2.there
          have V := (J.landed (s' := { z with heap := h2 }) nb fly2.1 ((up.trans up1).trans up2) os ag).suite at2 isF2 free neL notF
          refine wpAny_mono ((su a ob2 kd dd (X.pn ++ pins) zc2 ⟨_, isF2⟩).run [] _ _ G1 _ V (yes rfl a free)) ?_ fun _ _ w => w.elim
          rintro (_ | _ | _ | u) z6 y
          · obtain ⟨τ6, G6, S6, q6⟩ := y
            exact ⟨_, _, S6.unsuite fit, q6⟩
          · obtain ⟨τ6, G6, S6, q6⟩ := y
            exact ⟨_, _, S6.unsuite fit, q6⟩
          · obtain ⟨τ6, G6, S6, q6⟩ := y
            exact ⟨_, _, S6.unsuite fit, q6⟩
          · obtain ⟨v6, τ6, G6, S6, r6, q6⟩ := y
            exact ⟨_, _, _, S6.unsuite fit, r6, q6⟩
      | @named x y i c ts st sts p1 p2 hs2 l2 nm at_i lo su r ih =>
        intro w
        obtain ⟨hit, ex, yes, no⟩ := w
        refine wpAny_handleBy_cons (codeAny_handlers_test (class_ nm ((PySem.W.exm_one (M := model X.prog X.w) J2.kIn tyA ex).here ?_))) (fun e => by cases e)
        cases hit with
        | false => exact ih (no rfl)
        | true =>
          refine codeAny_handlers_suite_as (HandSPX.lands_againZ fly1 fun h2 fly2 up2 => ?_)
          obtain ⟨ob2, fv2, at2, zc2, isF2⟩ := fly2.there
          have V := (J.landed (s' := { z with heap := h2 }) nb fly2.1 ((up.trans up1).trans up2) os ag).suite at2 isF2 free neL notF
          refine store_ok (X := X.suite a ((a, ob2) :: (X.pn ++ pins))) (v := .ref a) V nd at_i (.inl lo) rfl (fun z5 V5 => ?_) (.inr lo)
          have gone : ∀ {τ6 : St} {G6 : Hp} {R : Shared → Prop} {z6 : Shared}, Inv (X.suite a ((a, ob2) :: (X.pn ++ pins))) [] τ6 G6 z6 → (∀ z7, Inv X pins (τ6.set i none) G6 z7 → R z7) →
              wpAny (model X.prog X.w) X.A (do bindName X.env y .none; unbindBehindTheSuite X.env y p2) (fun _ z7 => R z7) X.xe z6 := fun {τ6 G6 R z6} S6 w => gone_ok (S6.unsuite fit) nd at_i lo w
          refine wpAny_mono ((su a ob2 kd dd (X.pn ++ pins) zc2 ⟨_, isF2⟩).run [] z5 _ G1 _ V5 (yes rfl a free)) ?_ fun _ _ w => w.elim
          rintro (_ | _ | _ | u) z6 k6
          · obtain ⟨τ6, G6, S6, q6⟩ := k6
            exact gone S6 fun z7 J7 => ⟨_, _, J7, q6⟩
          · obtain ⟨τ6, G6, S6, q6⟩ := k6
            exact gone S6 fun z7 J7 => ⟨_, _, J7, q6⟩
          · obtain ⟨τ6, G6, S6, q6⟩ := k6
            exact gone S6 fun z7 J7 => ⟨_, _, J7, q6⟩
          · obtain ⟨v6, τ6, G6, S6, r6, q6⟩ := k6
            exact gone S6 fun z7 J7 => ⟨_, _, _, J7, r6, q6⟩
    exact walk cl wish
  · rintro (_ | _ | _ | u) z1 y
    · obtain ⟨τ1, G1, J1, w⟩ := y
      exact wpAny_execs_nil ⟨τ1, G1, J1.ofTry I.ok, w⟩
    · obtain ⟨τ1, G1, J1, w⟩ := y
      exact ⟨τ1, G1, J1.ofTry I.ok, w⟩
    · obtain ⟨τ1, G1, J1, w⟩ := y
      exact ⟨τ1, G1, J1.ofTry I.ok, w⟩
    · obtain ⟨v, τ1, G1, J1, r, w⟩ := y
      exact ⟨v, τ1, G1, J1.ofTry I.ok, r, w⟩
end
/-! ### own words: a def by its name, its promise by its name -/
/-- the def x of the text stands in the module -/
def Has (K : PySem.W.Frag) (mg : Str → Option Value) (x : Str) (st : Stmt) (ps : List Str) : Prop :=
  ∃ f fd, mg x = some (.ref f) ∧ Binds K fd ps [] ∧ Fun K x x st f fd
/-- the def x keeps the promise sp -/
def Ok (P : Program) (w : World) (K : PySem.W.Frag) (mg : Str → Option Value) (base : Heap) (k : Nat) (x : Str) (ps : List Str) (sp : Sp) : Prop :=
  ∃ f fd, mg x = some (.ref f) ∧ PySem.W.keepIn K (.ref f) = true ∧ Binds K fd ps [] ∧ FnOk P w K mg base CX0 k f fd ps sp
theorem pe_cO {X : Cx} {k : Nat} {x : Str} {ps : List Str} {sp : Sp} {p pos : Pos} {e : Expr} {es : List Expr} {t : TA} {E : XK} (o : Ok X.prog X.w X.K X.mg X.base k x ps sp) (hr : Room k X.A) (hx : Passes CX0 X E) (hg : Gl X x)
    (ha : PA X (e :: es) t) (hdb : (x == ("__debug__" : Str)) = false := by decide) (he : starEach (e :: es) X.env = (false, eval e X.env) :: starEach es X.env := by rfl) (hpl : (backTo pos (starEach es X.env)).any (·.1) = false := by rfl) :
    PE X (.Call (.Name x p) (e :: es) [] pos) (tCall sp [] E t) := by
  obtain ⟨f, fd, g, kp, b, G⟩ := o
  exact pe_call G hr hg g kp b .nil hx ha hdb he hpl
theorem pe_cO0 {X : Cx} {k : Nat} {x : Str} {ps : List Str} {sp : Sp} {p pos : Pos} {E : XK} (o : Ok X.prog X.w X.K X.mg X.base k x ps sp) (hr : Room k X.A) (hx : Passes CX0 X E) (hg : Gl X x) (hdb : (x == ("__debug__" : Str)) = false := by decide) :
    PE X (.Call (.Name x p) [] [] pos) (tCall sp [] E tNil) := by
  obtain ⟨f, fd, g, kp, b, G⟩ := o
  exact pe_call0 G hr hg g kp b .nil hx hdb
/-! ### numbers of a fair size -/
def Sm (i : Int) : Prop := -(2 ^ 600) < i ∧ i < 2 ^ 600
theorem Sm.nat {i : Int} (h : Sm i) : i.natAbs < 2 ^ 600 := by
  obtain ⟨h1, h2⟩ := h
  omega
section
variable {X : Cx}
theorem op_mulS : OpR X (binaryOp .Mult) (rI (fun i j => Sm i ∧ Sm j) fun i j => .int (i * j)) := by
  intro pins s σ H x y v u Q I rx ry h
  obtain ⟨i, j, rfl, rfl, ⟨h1, h2⟩, q⟩ := h
  exact op_mulW pins s σ H _ _ v u Q I rx ry ⟨i, j, rfl, rfl, wide_mul h1.nat h2.nat (by decide) (by decide) (by decide), q⟩
theorem op_divS : OpR X (binaryOp .FloorDiv) (rI (fun _ j => j ≠ 0 ∧ Sm j) fun i j => .int (i.fdiv j)) := opI fun i j _ _ _ _ _ hc q =>
  PyProof.Rows.floordiv_int hc.1 q (.inl (PyProof.noPylong_of_log2 (Nat.lt_of_lt_of_le (PySem.Flt.log2_lt_of (by decide : 0 < 600) hc.2.nat) (by decide))))
end
/-! ### heaps: all but the pool stays -/
def Keep (pp : Addr) (H H' : Hp) : Prop := ∀ b o, H b = some o → b ≠ pp → H' b = some o
theorem Keep.refl {pp : Addr} {H : Hp} : Keep pp H H := fun _ _ h _ => h
theorem Keep.trans {pp : Addr} {H H1 H2 : Hp} (a : Keep pp H H1) (b : Keep pp H1 H2) : Keep pp H H2 := fun c o h n => b c o (a c o h n) n
theorem Same.keep {pp : Addr} {H H' : Hp} (a : Same H H') : Keep pp H H' := fun b o h _ => a b o h
theorem Keep.seq {pp a : Addr} {K : PySem.W.Frag} {H H' : Hp} {xs : List V} (e : Keep pp H H') (n : a ≠ pp) (h : SqL K H a xs) : SqL K H' a xs := by
  rcases h with (h | ⟨o, h⟩) | h
  · exact .inl (.inl (e _ _ h n))
  · exact .inl (.inr ⟨o, e _ _ h n⟩)
  · exact .inr h
theorem Same.new {H : Hp} {p : Addr} {o : HO} (n : H p = none) : Same H (upd H p o) := fun b u h => by
  rw [upd_ne (ne_of_none h n)]
  exact h
/-- a pool of draws stands at pp -/
def PoolAt (H : Hp) (pp : Addr) : Prop := ∃ c s : Int, 0 ≤ s ∧ s < 2147483647 ∧ H pp = some (.lst [.int c, .int s])
theorem PoolAt.keep {H H' : Hp} {pp p : Addr} (h : PoolAt H p) (e : Keep pp H H') (n : p ≠ pp) : PoolAt H' p := by
  obtain ⟨c, s, h0, h1, h2⟩ := h
  exact ⟨c, s, h0, h1, e _ _ h2 n⟩
theorem PoolAt.same {H H' : Hp} {p : Addr} (h : PoolAt H p) (e : Same H H') : PoolAt H' p := by
  obtain ⟨c, s, h0, h1, h2⟩ := h
  exact ⟨c, s, h0, h1, e _ _ h2⟩
theorem PoolAt.ne {H : Hp} {p q : Addr} (h : PoolAt H p) (n : H q = none) : q ≠ p := by
  obtain ⟨c, s, h0, h1, h2⟩ := h
  exact (ne_of_none h2 n).symm
theorem Keep.free {pp l : Addr} {H H' : Hp} (e : Keep pp H H') (h : PoolAt H' pp) (n : H' l = none) : H l = none := by
  cases q : H l with
  | none => rfl
  | some o =>
    rw [e l o q (h.ne n)] at n
    cases n
theorem atI0 {α : Type} {x : α} {xs : List α} : atI (x :: xs) 0 = some x := atI_nat (j := 0) rfl
theorem atI1 {α : Type} {x y : α} {xs : List α} : atI (x :: y :: xs) 1 = some y := atI_nat (j := 1) rfl
theorem kIntInt {K : PySem.W.Frag} : PySem.W.kitOne K (.type "int") (.type "int") = some true := kit_ty (show kitB "int" "int" = some true by decide +kernel)
theorem kIntBool {K : PySem.W.Frag} : PySem.W.kitOne K (.type "int") (.type "bool") = some false := kit_ty (show kitB "int" "bool" = some false by decide +kernel)
theorem kStrStr {K : PySem.W.Frag} : PySem.W.kitOne K (.type "str") (.type "str") = some true := kit_ty (show kitB "str" "str" = some true by decide +kernel)
theorem n29 : (2147483629 : Int) ≠ 0 := by decide
theorem n47 : (2147483647 : Int) ≠ 0 := by decide
theorem vne {i j : Int} (h : i ≠ j) : ¬ decide (V.int i = V.int j) = true := fun z => h (by injection of_decide_eq_true z)
theorem veq {i j : Int} (h : i = j) : decide (V.int i = V.int j) = true := decide_eq_true (by rw [h])
theorem sne {i j : Str} (h : i ≠ j) : ¬ decide (V.str i = V.str j) = true := fun z => h (by injection of_decide_eq_true z)
theorem of_veq {i j : Int} (h : decide (V.int i = V.int j) = true) : i = j := by injection of_decide_eq_true h
theorem of_seq {i j : Str} (h : decide (V.str i = V.str j) = true) : i = j := by injection of_decide_eq_true h
theorem of_vne {i j : Int} (h : ¬ decide (V.int i = V.int j) = true) : i ≠ j := fun z => h (by rw [z]; exact decide_eq_true rfl)
theorem of_sne {i j : Str} (h : ¬ decide (V.str i = V.str j) = true) : i ≠ j := fun z => h (by rw [z]; exact decide_eq_true rfl)
theorem iteN {c A B : Prop} [Decidable c] (h : ¬ c) (q : B) : if c then A else B := by
  rw [if_neg h]
  exact q
theorem iteP {c A B : Prop} [Decidable c] (h : c) (q : A) : if c then A else B := by
  rw [if_pos h]
  exact q
theorem bnot_dec {c : Prop} [Decidable c] (h : (!decide c) = true) : ¬ c := fun z => by
  rw [decide_eq_true z] at h
  cases h
theorem bnot_dec' {c : Prop} [Decidable c] (h : ¬ (!decide c) = true) : c := by
  by_cases z : c
  · exact z
  · exact absurd (by rw [decide_eq_false z]; rfl) h
/-! ### the built-ins, by name -/
theorem bb_isinstance : bootBuiltins "isinstance" = some (.builtin "isinstance") := by decide +kernel
theorem bb_len : bootBuiltins "len" = some (.builtin "len") := by decide +kernel
theorem bb_max : bootBuiltins "max" = some (.builtin "max") := by decide +kernel
theorem bb_min : bootBuiltins "min" = some (.builtin "min") := by decide +kernel
theorem bb_abs : bootBuiltins "abs" = some (.builtin "abs") := by decide +kernel
theorem bb_sum : bootBuiltins "sum" = some (.builtin "sum") := by decide +kernel
theorem bb_all : bootBuiltins "all" = some (.builtin "all") := by decide +kernel
theorem bb_any : bootBuiltins "any" = some (.builtin "any") := by decide +kernel
theorem bb_sorted : bootBuiltins "sorted" = some (.builtin "sorted") := by decide +kernel
theorem bb_repr : bootBuiltins "repr" = some (.builtin "repr") := by decide +kernel
theorem bb_ord : bootBuiltins "ord" = some (.builtin "ord") := by decide +kernel
theorem bb_chr : bootBuiltins "chr" = some (.builtin "chr") := by decide +kernel
theorem bb_next : bootBuiltins "next" = some (.builtin "next") := by decide +kernel
theorem bb_iter : bootBuiltins "iter" = some (.builtin "iter") := by decide +kernel
theorem bb_callable : bootBuiltins "callable" = some (.builtin "callable") := by decide +kernel
theorem bb_hasattr : bootBuiltins "hasattr" = some (.builtin "hasattr") := by decide +kernel
theorem bb_getattr : bootBuiltins "getattr" = some (.builtin "getattr") := by decide +kernel
theorem bb_int : bootBuiltins "int" = some (.type "int") := by decide +kernel
theorem bb_bool : bootBuiltins "bool" = some (.type "bool") := by decide +kernel
theorem bb_str : bootBuiltins "str" = some (.type "str") := by decide +kernel
theorem bb_list : bootBuiltins "list" = some (.type "list") := by decide +kernel
theorem bb_tuple : bootBuiltins "tuple" = some (.type "tuple") := by decide +kernel
theorem bb_set : bootBuiltins "set" = some (.type "set") := by decide +kernel
theorem bb_dict : bootBuiltins "dict" = some (.type "dict") := by decide +kernel
theorem bb_range : bootBuiltins "range" = some (.type "range") := by decide +kernel
theorem bb_zip : bootBuiltins "zip" = some (.type "zip") := by decide +kernel
theorem bb_enumerate : bootBuiltins "enumerate" = some (.type "enumerate") := by decide +kernel
theorem bb_reversed : bootBuiltins "reversed" = some (.type "reversed") := by decide +kernel
theorem bb_frozenset : bootBuiltins "frozenset" = some (.type "frozenset") := by decide +kernel
theorem bb_type : bootBuiltins "type" = some (.type "type") := by decide +kernel
/-! ### what stays; data that is tracked; comprehensions by what their elements are -/
section
/-- all that stands outside Z stays -/
def Fm (Z : Addr → Prop) (H H' : Hp) : Prop := ∀ b o, H b = some o → ¬ Z b → H' b = some o
abbrev Z0 : Addr → Prop := fun _ => False
abbrev Zp (pp : Addr) : Addr → Prop := fun b => b = pp
theorem Fm.refl {Z : Addr → Prop} {H : Hp} : Fm Z H H := fun _ _ h _ => h
theorem Fm.trans {Z : Addr → Prop} {H H1 H2 : Hp} (a : Fm Z H H1) (b : Fm Z H1 H2) : Fm Z H H2 := fun c o h n => b c o (a c o h n) n
theorem Fm.of {Z : Addr → Prop} {H H' : Hp} (s : Same H H') : Fm Z H H' := fun b o h _ => s b o h
theorem Fm.same {H H' : Hp} (s : Fm Z0 H H') : Same H H' := fun b o h => s b o h id
theorem Fm.keep {pp : Addr} {H H' : Hp} (s : Fm (Zp pp) H H') : Keep pp H H' := s
theorem Keep.fr {pp : Addr} {H H' : Hp} (s : Keep pp H H') : Fm (Zp pp) H H' := s
theorem Fm.new {Z : Addr → Prop} {H : Hp} {p : Addr} {o : HO} (n : H p = none) : Fm Z H (upd H p o) := Fm.of (Same.new n)
/-- a later store at a place that was free -/
theorem Fm.on {Z : Addr → Prop} {H H' : Hp} {p : Addr} {o : HO} (s : Fm Z H H') (n : H p = none) : Fm Z H (upd H' p o) := fun b u h z => by
  rw [upd_ne (ne_of_none h n)]
  exact s b u h z
mutual
/-- the value v is the data d, all of it tracked and outside Z -/
inductive Dt (Z : Addr → Prop) (H : Hp) : V → PyData → Prop
  | non : Dt Z H .non .none
  | bl (b : Bool) : Dt Z H (.bl b) (.bool b)
  | int (i : Int) : Dt Z H (.int i) (.int i)
  | str (x : Str) : Dt Z H (.str x) (.str x)
  | lst {a : Addr} {xs : List V} {ds : List PyData} : H a = some (.lst xs) → ¬ Z a → DtAll Z H xs ds → Dt Z H (.ref a) (.list ds)
  | tup {a : Addr} {xs : List V} {ds : List PyData} : H a = some (.tup xs) → ¬ Z a → DtAll Z H xs ds → Dt Z H (.ref a) (.tuple ds)
inductive DtAll (Z : Addr → Prop) (H : Hp) : List V → List PyData → Prop
  | nil : DtAll Z H [] []
  | cons {v : V} {vs : List V} {d : PyData} {ds : List PyData} : Dt Z H v d → DtAll Z H vs ds → DtAll Z H (v :: vs) (d :: ds)
end
variable {Z : Addr → Prop} {H H' : Hp} {K : PySem.W.Frag}
mutual
theorem Dt.fr' (s : Fm Z H H') {v : V} {d : PyData} (h : Dt Z H v d) : Dt Z H' v d :=
  match h with
  | .non => .non
  | .bl b => .bl b
  | .int i => .int i
  | .str x => .str x
  | .lst e n t => .lst (s _ _ e n) n (DtAll.fr' s t)
  | .tup e n t => .tup (s _ _ e n) n (DtAll.fr' s t)
theorem DtAll.fr' (s : Fm Z H H') {vs : List V} {ds : List PyData} (h : DtAll Z H vs ds) : DtAll Z H' vs ds :=
  match h with
  | .nil => .nil
  | .cons a b => .cons (Dt.fr' s a) (DtAll.fr' s b)
end
theorem Dt.fr {v : V} {d : PyData} (h : Dt Z H v d) (s : Fm Z H H') : Dt Z H' v d := Dt.fr' s h
theorem DtAll.fr {vs : List V} {ds : List PyData} (h : DtAll Z H vs ds) (s : Fm Z H H') : DtAll Z H' vs ds := DtAll.fr' s h
mutual
theorem Dt.dp' {v : V} {d : PyData} (h : Dt Z H v d) : Dp K H v d :=
  match h with
  | .non => .non
  | .bl b => .bl b
  | .int i => .int i
  | .str x => .str x
  | .lst e n t => .lst (SqL.of e) (DtAll.dp' t)
  | .tup e n t => .tup (SqT.of e) (DtAll.dp' t)
theorem DtAll.dp' {vs : List V} {ds : List PyData} (h : DtAll Z H vs ds) : DpAll K H vs ds :=
  match h with
  | .nil => .nil
  | .cons a b => .cons (Dt.dp' a) (DtAll.dp' b)
end
theorem Dt.dp {v : V} {d : PyData} (h : Dt Z H v d) : Dp K H v d := Dt.dp' h
mutual
theorem Dt.mono' {Z' : Addr → Prop} (z : ∀ a, Z' a → Z a) {v : V} {d : PyData} (h : Dt Z H v d) : Dt Z' H v d :=
  match h with
  | .non => .non
  | .bl b => .bl b
  | .int i => .int i
  | .str x => .str x
  | .lst e n t => .lst e (fun m => n (z _ m)) (DtAll.mono' z t)
  | .tup e n t => .tup e (fun m => n (z _ m)) (DtAll.mono' z t)
theorem DtAll.mono' {Z' : Addr → Prop} (z : ∀ a, Z' a → Z a) {vs : List V} {ds : List PyData} (h : DtAll Z H vs ds) : DtAll Z' H vs ds :=
  match h with
  | .nil => .nil
  | .cons a b => .cons (Dt.mono' z a) (DtAll.mono' z b)
end
theorem Dt.z0 {v : V} {d : PyData} (h : Dt Z H v d) : Dt Z0 H v d := Dt.mono' (fun _ m => m.elim) h
theorem Dt.mono {Z' : Addr → Prop} {v : V} {d : PyData} (h : Dt Z H v d) (z : ∀ a, Z' a → Z a) : Dt Z' H v d := Dt.mono' z h
theorem DtAll.len {vs : List V} {ds : List PyData} (h : DtAll Z H vs ds) : vs.length = ds.length := by
  induction vs generalizing ds with
  | nil => cases h; rfl
  | cons v vs ih => cases h with | cons a b => rw [List.length_cons, List.length_cons, ih b]
theorem DtAll.get {vs : List V} {ds : List PyData} (h : DtAll Z H vs ds) {i : Nat} {v : V} (e : vs[i]? = some v) : ∃ d, ds[i]? = some d ∧ Dt Z H v d := by
  induction vs generalizing ds i with
  | nil => simp at e
  | cons u vs ih =>
    cases h with
    | cons a b =>
      cases i with
      | zero =>
        simp at e
        subst e
        exact ⟨_, rfl, a⟩
      | succ i =>
        simp at e
        obtain ⟨d, e1, e2⟩ := ih b e
        exact ⟨d, by simpa using e1, e2⟩
theorem DtAll.append {vs us : List V} {ds es : List PyData} (h : DtAll Z H vs ds) (g : DtAll Z H us es) : DtAll Z H (vs ++ us) (ds ++ es) := by
  induction vs generalizing ds with
  | nil => cases h; exact g
  | cons v vs ih => cases h with | cons a b => exact .cons a (ih b)
theorem DtAll.take {vs : List V} {ds : List PyData} (h : DtAll Z H vs ds) (n : Nat) : DtAll Z H (vs.take n) (ds.take n) := by
  induction vs generalizing ds n with
  | nil => cases h; simp; exact .nil
  | cons v vs ih =>
    cases h with
    | cons a b =>
      cases n with
      | zero => exact .nil
      | succ n => exact .cons a (ih b n)
theorem DtAll.drop {vs : List V} {ds : List PyData} (h : DtAll Z H vs ds) (n : Nat) : DtAll Z H (vs.drop n) (ds.drop n) := by
  induction vs generalizing ds n with
  | nil => cases h; simp; exact .nil
  | cons v vs ih =>
    cases h with
    | cons a b =>
      cases n with
      | zero => exact .cons a b
      | succ n => exact ih b n
theorem DtAll.of_get {vs : List V} {ds : List PyData} (l : vs.length = ds.length) (h : ∀ (i : Nat) (v : V) (d : PyData), vs[i]? = some v → ds[i]? = some d → Dt Z H v d) : DtAll Z H vs ds := by
  induction vs generalizing ds with
  | nil =>
    cases ds with
    | nil => exact .nil
    | cons d ds => simp at l
  | cons v vs ih =>
    cases ds with
    | nil => simp at l
    | cons d ds =>
      refine .cons (h 0 v d rfl rfl) (ih (by simpa using l) fun i v' d' e1 e2 => h (i + 1) v' d' ?_ ?_)
      · rw [List.getElem?_cons_succ]
        exact e1
      · rw [List.getElem?_cons_succ]
        exact e2
theorem DtAll.ints (ns : List Int) : DtAll Z H (ns.map V.int) (ns.map PyData.int) := by
  induction ns with
  | nil => exact .nil
  | cons n ns ih => exact .cons (.int n) ih
theorem DtAll.ints_eq {vs : List V} {ns : List Int} (h : DtAll Z H vs (ns.map PyData.int)) : vs = ns.map V.int := by
  induction ns generalizing vs with
  | nil => cases h; rfl
  | cons n ns ih =>
    cases h with
    | cons a b =>
      cases a
      rw [ih b]
      rfl
theorem Dt.lst_inv {v : V} {ds : List PyData} (h : Dt Z H v (.list ds)) : ∃ a xs, v = .ref a ∧ H a = some (.lst xs) ∧ ¬ Z a ∧ DtAll Z H xs ds := by
  cases h with | lst e n t => exact ⟨_, _, rfl, e, n, t⟩
theorem Dt.tup_inv {v : V} {ds : List PyData} (h : Dt Z H v (.tuple ds)) : ∃ a xs, v = .ref a ∧ H a = some (.tup xs) ∧ ¬ Z a ∧ DtAll Z H xs ds := by
  cases h with | tup e n t => exact ⟨_, _, rfl, e, n, t⟩
theorem Dt.row_inv {v : V} {ns : List Int} (h : Dt Z H v (.list (ns.map PyData.int))) : ∃ a, v = .ref a ∧ H a = some (.lst (ns.map V.int)) ∧ ¬ Z a := by
  obtain ⟨a, xs, e, h1, h2, h3⟩ := h.lst_inv
  rw [h3.ints_eq] at h1
  exact ⟨a, e, h1, h2⟩
end
section
variable {J : It} {n : Nat} {G : Hp → Prop} {Y : Nat → Hp → V → Hp → Prop}
theorem get_snoc {α : Type} {xs : List α} {y z : α} {j : Nat} (h : (xs ++ [y])[j]? = some z) : xs[j]? = some z ∨ (j = xs.length ∧ y = z) := by
  by_cases hj : j < xs.length
  · rw [List.getElem?_append_left hj] at h
    exact .inl h
  · rw [List.getElem?_append_right (by omega)] at h
    by_cases h0 : j - xs.length = 0
    · rw [h0] at h
      exact .inr ⟨by omega, by simpa using h⟩
    · obtain ⟨k, hk⟩ : ∃ k, j - xs.length = k + 1 := ⟨j - xs.length - 1, by omega⟩
      rw [hk] at h
      simp at h
theorem Fm.wide {Z Z' : Addr → Prop} {H H' : Hp} (s : Fm Z H H') (z : ∀ a, Z a → Z' a) : Fm Z' H H' := fun b o h n => s b o h fun m => n (z _ m)
/-- Z, and D -/
def Zu (Z : Addr → Prop) (D : Addr) : Addr → Prop := fun b => Z b ∨ b = D
theorem Fm.zu {Z : Addr → Prop} {D : Addr} {H H' : Hp} (s : Fm Z H H') : Fm (Zu Z D) H H' := s.wide fun _ m => .inl m
theorem zu_ne {Z : Addr → Prop} {D a : Addr} (h : ¬ Z a) (n : a ≠ D) : ¬ Zu Z D a := fun m => m.elim h n
theorem zu_new {Z : Addr → Prop} {D a : Addr} {H : Hp} {o : HO} (h : ¬ Z a) (n : H a = none) (d : H D = some o) : ¬ Zu Z D a := zu_ne h (ne_of_none d n).symm
theorem Fm.at_zu {Z : Addr → Prop} {D : Addr} {H : Hp} {o : HO} : Fm (Zu Z D) H (upd H D o) := fun b u h n => by
  rw [upd_ne (fun m => n (.inr m))]
  exact h
mutual
theorem Dt.off' {Z : Addr → Prop} {D : Addr} {H : Hp} (n : H D = none) {v : V} {d : PyData} (h : Dt Z H v d) : Dt (Zu Z D) H v d :=
  match h with
  | .non => .non
  | .bl b => .bl b
  | .int i => .int i
  | .str x => .str x
  | .lst e m t => .lst e (zu_ne m (ne_of_none e n)) (DtAll.off' n t)
  | .tup e m t => .tup e (zu_ne m (ne_of_none e n)) (DtAll.off' n t)
theorem DtAll.off' {Z : Addr → Prop} {D : Addr} {H : Hp} (n : H D = none) {vs : List V} {ds : List PyData} (h : DtAll Z H vs ds) : DtAll (Zu Z D) H vs ds :=
  match h with
  | .nil => .nil
  | .cons a b => .cons (Dt.off' n a) (DtAll.off' n b)
end
theorem Dt.off {Z : Addr → Prop} {D : Addr} {H : Hp} {v : V} {d : PyData} (h : Dt Z H v d) (n : H D = none) : Dt (Zu Z D) H v d := Dt.off' n h
theorem Dt.un {Z : Addr → Prop} {D : Addr} {H : Hp} {v : V} {d : PyData} (h : Dt (Zu Z D) H v d) : Dt Z H v d := h.mono fun _ m => .inl m
/-- a comprehension without a test: R tells of each element, I holds of all heaps on the way -/
theorem lc_acc (w : Walk J n G Y) {g : TG} {te : TE} {vs : List Nat} {σ : St} {H1 : Hp} {D : Addr} {Qd : Hp → Prop} (Z : Addr → Prop) (I : Hp → Prop) (R : Nat → V → Hp → Prop)
    (hD : H1 D = none) (zD : ¬ Z D) (i0 : I H1) (iS : ∀ H l, I H → ¬ Z D → I (upd H D (.lst l))) (rS : ∀ i y H H', i < n → R i y H → Fm (Zu Z D) H H' → R i y H') (few : n < sizeLine)
    (hG : ∀ H, Fm Z H1 H → G H)
    (hs : ∀ i x H H' (Qk : V → Hp → Prop), i < n → Fm Z H1 H → I H → (∀ p, H p = none → p ≠ D) → Y i H x H' → (∀ y H4, Fm Z H H4 → I H4 → R i y H4 → Qk y H4) → g x (wipe σ vs) H' fun σ2 H2 => wipe σ2 vs = wipe σ vs ∧ te σ2 H2 Qk)
    (hd : ∀ H xs, Fm Z H1 H → I H → H D = some (.lst xs) → xs.length = n → (∀ j y, xs[j]? = some y → R j y H) → Qd H) :
    ∃ W : Nat → Nat → Hp → Prop, (∃ m, W 0 m (upd H1 D (.lst []))) ∧ ∀ i m H, W i m H →
      (J.stop i H ∧ Qd H) ∨ (J.go i H ∧ ∃ Nx : Hp → Prop, (∀ H', Nx H' → ∃ m', m' < m ∧ W (i + 1) m' H') ∧ ∀ x H', J.yld i H x H' → g x (wipe σ vs) H' fun σ2 H2 => wipe σ2 vs = wipe σ vs ∧ tYes σ2 H2 fun b H3 =>
        if b = true then te σ2 H3 fun y H4 => ∃ acc, H4 D = some (.lst acc) ∧ acc.length < sizeLine ∧ Nx (upd H4 D (.lst (acc ++ [y]))) else Nx H3) := by
  refine lc_it w (fun i H => i ≤ n ∧ Fm Z H1 H ∧ I H ∧ ∃ xs, H D = some (.lst xs) ∧ xs.length = i ∧ ∀ j y, xs[j]? = some y → R j y H) ?_ (fun i H _ p => hG H p.2.1) ?_ ?_
  · exact ⟨Nat.zero_le _, Fm.new hD, iS _ _ i0 zD, [], upd_same, rfl, fun j y e => by simp at e⟩
  · rintro i x H H' hi ⟨_, f, iH, xs, hx, hl, hr⟩ y
    refine hs i x H H' _ hi f iH (fun p m => (ne_of_none hx m).symm) y ?_
    intro y H4 f4 i4 r4
    refine ⟨xs, f4 _ _ hx zD, by omega, by omega, Fm.on (f.trans f4) hD, iS _ _ i4 zD, xs ++ [y], upd_same, by simp [hl], fun j y' e => ?_⟩
    rcases get_snoc e with e | ⟨e1, rfl⟩
    · have hj : j < xs.length := (List.getElem?_eq_some_iff.mp e).1
      exact rS _ _ _ _ (by omega) (rS _ _ _ _ (by omega) (hr j y' e) f4.zu) Fm.at_zu
    · obtain rfl : j = i := by omega
      exact rS _ _ _ _ hi r4 Fm.at_zu
  · rintro H ⟨_, f, iH, xs, hx, hl, hr⟩
    exact hd H xs f iH hx hl hr
end
section
variable {J : It} {n : Nat} {G : Hp → Prop} {Y : Nat → Hp → V → Hp → Prop}
/-- .. whose elements are data -/
theorem lc_dat (w : Walk J n G Y) {g : TG} {te : TE} {vs : List Nat} {σ : St} {H1 : Hp} {D : Addr} {Qd : Hp → Prop} (Z : Addr → Prop) (I : Hp → Prop) (ds : List PyData) (hn : ds.length = n)
    (hD : H1 D = none) (zD : ¬ Z D) (i0 : I H1) (iS : ∀ H l, I H → ¬ Z D → I (upd H D (.lst l))) (few : n < sizeLine)
    (hG : ∀ H, Fm Z H1 H → G H)
    (hs : ∀ i x d H H' (Qk : V → Hp → Prop), ds[i]? = some d → Fm Z H1 H → I H → (∀ p, H p = none → p ≠ D) → Y i H x H' → (∀ y H4, Fm Z H H4 → I H4 → Dt (Zu Z D) H4 y d → Qk y H4) → g x (wipe σ vs) H' fun σ2 H2 => wipe σ2 vs = wipe σ vs ∧ te σ2 H2 Qk)
    (hd : ∀ H xs, Fm Z H1 H → I H → H D = some (.lst xs) → DtAll (Zu Z D) H xs ds → Qd H) :
    ∃ W : Nat → Nat → Hp → Prop, (∃ m, W 0 m (upd H1 D (.lst []))) ∧ ∀ i m H, W i m H →
      (J.stop i H ∧ Qd H) ∨ (J.go i H ∧ ∃ Nx : Hp → Prop, (∀ H', Nx H' → ∃ m', m' < m ∧ W (i + 1) m' H') ∧ ∀ x H', J.yld i H x H' → g x (wipe σ vs) H' fun σ2 H2 => wipe σ2 vs = wipe σ vs ∧ tYes σ2 H2 fun b H3 =>
        if b = true then te σ2 H3 fun y H4 => ∃ acc, H4 D = some (.lst acc) ∧ acc.length < sizeLine ∧ Nx (upd H4 D (.lst (acc ++ [y]))) else Nx H3) := by
  refine lc_acc w Z I (fun i y H => ∀ d, ds[i]? = some d → Dt (Zu Z D) H y d) hD zD i0 iS (fun i y H H' _ r f d e => (r d e).fr f) few hG ?_ ?_
  · intro i x H H' Qk hi f iH ne y q
    have hi2 : i < ds.length := by omega
    refine hs i x ds[i] H H' Qk (List.getElem?_eq_getElem hi2) f iH ne y fun y H4 f4 i4 r4 => q y H4 f4 i4 fun d e => ?_
    rw [List.getElem?_eq_getElem hi2] at e
    cases e
    exact r4
  · intro H xs f iH hx hl hr
    exact hd H xs f iH hx (DtAll.of_get (by omega) fun i v d e1 e2 => hr i v e1 d e2)
/-- .. whose elements are ints -/
theorem lc_ints (w : Walk J n G Y) {g : TG} {te : TE} {vs : List Nat} {σ : St} {H1 : Hp} {D : Addr} {Qd : Hp → Prop} (Z : Addr → Prop) (I : Hp → Prop) (ks : List Int) (hn : ks.length = n)
    (hD : H1 D = none) (zD : ¬ Z D) (i0 : I H1) (iS : ∀ H l, I H → ¬ Z D → I (upd H D (.lst l))) (few : n < sizeLine)
    (hG : ∀ H, Fm Z H1 H → G H)
    (hs : ∀ i x k H H' (Qk : V → Hp → Prop), ks[i]? = some k → Fm Z H1 H → I H → (∀ p, H p = none → p ≠ D) → Y i H x H' → (∀ H4, Fm Z H H4 → I H4 → Qk (.int k) H4) → g x (wipe σ vs) H' fun σ2 H2 => wipe σ2 vs = wipe σ vs ∧ te σ2 H2 Qk)
    (hd : ∀ H, Fm Z H1 H → I H → H D = some (.lst (ks.map V.int)) → Qd H) :
    ∃ W : Nat → Nat → Hp → Prop, (∃ m, W 0 m (upd H1 D (.lst []))) ∧ ∀ i m H, W i m H →
      (J.stop i H ∧ Qd H) ∨ (J.go i H ∧ ∃ Nx : Hp → Prop, (∀ H', Nx H' → ∃ m', m' < m ∧ W (i + 1) m' H') ∧ ∀ x H', J.yld i H x H' → g x (wipe σ vs) H' fun σ2 H2 => wipe σ2 vs = wipe σ vs ∧ tYes σ2 H2 fun b H3 =>
        if b = true then te σ2 H3 fun y H4 => ∃ acc, H4 D = some (.lst acc) ∧ acc.length < sizeLine ∧ Nx (upd H4 D (.lst (acc ++ [y]))) else Nx H3) := by
  refine lc_dat w Z I (ks.map PyData.int) (by simp [hn]) hD zD i0 iS few hG ?_ ?_
  · intro i x d H H' Qk e f iH ne y q
    rw [List.getElem?_map] at e
    obtain ⟨k, e1, rfl⟩ := Option.map_eq_some_iff.mp e
    exact hs i x k H H' Qk e1 f iH ne y fun H4 f4 i4 => q _ H4 f4 i4 (.int k)
  · intro H xs f iH hx t
    exact hd H f iH (by rw [hx, t.ints_eq])
/-- .. whose elements are values that do not depend on the heap -/
theorem lc_vals (w : Walk J n G Y) {g : TG} {te : TE} {vs : List Nat} {σ : St} {H1 : Hp} {D : Addr} {Qd : Hp → Prop} (Z : Addr → Prop) (I : Hp → Prop) (ks : List V) (hn : ks.length = n)
    (hD : H1 D = none) (zD : ¬ Z D) (i0 : I H1) (iS : ∀ H l, I H → ¬ Z D → I (upd H D (.lst l))) (few : n < sizeLine)
    (hG : ∀ H, Fm Z H1 H → G H)
    (hs : ∀ i x k H H' (Qk : V → Hp → Prop), ks[i]? = some k → Fm Z H1 H → I H → (∀ p, H p = none → p ≠ D) → Y i H x H' → (∀ H4, Fm Z H H4 → I H4 → Qk k H4) → g x (wipe σ vs) H' fun σ2 H2 => wipe σ2 vs = wipe σ vs ∧ te σ2 H2 Qk)
    (hd : ∀ H, Fm Z H1 H → I H → H D = some (.lst ks) → Qd H) :
    ∃ W : Nat → Nat → Hp → Prop, (∃ m, W 0 m (upd H1 D (.lst []))) ∧ ∀ i m H, W i m H →
      (J.stop i H ∧ Qd H) ∨ (J.go i H ∧ ∃ Nx : Hp → Prop, (∀ H', Nx H' → ∃ m', m' < m ∧ W (i + 1) m' H') ∧ ∀ x H', J.yld i H x H' → g x (wipe σ vs) H' fun σ2 H2 => wipe σ2 vs = wipe σ vs ∧ tYes σ2 H2 fun b H3 =>
        if b = true then te σ2 H3 fun y H4 => ∃ acc, H4 D = some (.lst acc) ∧ acc.length < sizeLine ∧ Nx (upd H4 D (.lst (acc ++ [y]))) else Nx H3) := by
  refine lc_acc w Z I (fun i y H => ks[i]? = some y) hD zD i0 iS (fun i y H H' _ r f => r) few hG ?_ ?_
  · intro i x H H' Qk hi f iH ne y q
    have hi2 : i < ks.length := by omega
    refine hs i x ks[i] H H' Qk (List.getElem?_eq_getElem hi2) f iH ne y fun H4 f4 i4 => q _ H4 f4 i4 (List.getElem?_eq_getElem hi2)
  · intro H xs f iH hx hl hr
    refine hd H f iH ?_
    rw [hx]
    congr 2
    refine List.ext_getElem? fun i => ?_
    by_cases hi : i < xs.length
    · rw [List.getElem?_eq_getElem hi, hr i xs[i] (List.getElem?_eq_getElem hi)]
    · rw [List.getElem?_eq_none (by omega), List.getElem?_eq_none (by omega)]
end
/-! ### what the written part says of one own exception class -/
structure Cl (K : PySem.W.Frag) (C fI : Addr) (tl : List Value) (newId : String) (fs : List Str) : Prop where
  T : XCls K C fI tl newId
  look : XLook K C
  no : ∀ f ∈ fs, PySem.W.findIn K (.ref C) f = some none
  mro : (PySem.W.clsIn K C).map (·.mro) = some (.ref C :: tl)
  ty : PySem.W.typeIn K (.ref C) = some (.type "type")
theorem cl_of {K : PySem.W.Frag} {C fI : Addr} {tl : List Value} {newId : String} {fs : List Str} (g1 : PySem.W.specialIn K (.builtin "object.__class__") "__get__" = some (some (.builtin "getset_descriptor.__get__"))) (g2 : PySem.W.takesIn K (.builtin "object.__class__") = some true)
    (b : PySem.W.findIn K (.ref C) "__init__" = some (some (.ref fI)))
    (t : (PySem.W.excInitIn K C tl newId, PySem.W.excOver K C tl, PySem.W.hasDictIn K C, PySem.W.isFn K (.ref fI), PySem.W.keepIn K (.ref C)) = (true, true, true, true, true))
    (u : (PySem.W.findIn K (.ref C) "__setattr__", PySem.W.findIn K (.ref C) "__getattribute__", PySem.W.findIn K (.ref C) "__getattr__", PySem.W.findIn K (.ref C) "__class__") =
      (some (some (.builtin "object.__setattr__")), some (some (.builtin "BaseException.__getattribute__")), some none, some (some (.builtin "object.__class__"))))
    (v : (PySem.W.subIn K (.ref C) (.type "BaseException"), PySem.W.mroIn K C (.type "object"), (PySem.W.clsIn K C).map (·.mro), PySem.W.typeIn K (.ref C)) = (some true, some true, some (.ref C :: tl), some (.type "type")))
    (f : fs.map (fun f => PySem.W.findIn K (.ref C) f) = fs.map fun _ => some none) : Cl K C fI tl newId fs := by
  simp only [Prod.mk.injEq] at t u v
  obtain ⟨t1, t2, t3, t4, t5⟩ := t
  obtain ⟨u1, u2, u3, u4⟩ := u
  obtain ⟨v1, v2, v3, v4⟩ := v
  exact ⟨⟨t1, t2, t3, u1, b, t4, t5⟩, ⟨⟨u2, u3, v1, t3⟩, ⟨u2, u3, v1, t3, u4, g1, g2, v2⟩⟩, List.map_inj_left.mp f, v3, v4⟩
/-! ### the types of data; isinstance; integers -/
section
def tyD : PyData → String
  | .none => "NoneType"
  | .bool _ => "bool"
  | .int _ => "int"
  | .str _ => "str"
  | .list _ => "list"
  | .tuple _ => "tuple"
  | _ => "?"
def isInt : PyData → Bool
  | .int _ => true
  | _ => false
def isSeq : PyData → Bool
  | .list _ => true
  | .tuple _ => true
  | _ => false
def itemsD : PyData → List PyData
  | .list ds => ds
  | .tuple ds => ds
  | _ => []
variable {Z : Addr → Prop} {H H' : Hp} {K : PySem.W.Frag}
theorem Dt.ty {v : V} {d : PyData} (h : Dt Z H v d) : TyX K H v (.type (tyD d)) := by
  cases h with
  | non => exact .base .non
  | bl b => exact .base (.bl b)
  | int i => exact .base (.int i)
  | str x => exact .base (.str x)
  | lst e n t => exact .base (.lst e)
  | tup e n t => exact .base (.tup e)
theorem Dt.kInt {v : V} {d : PyData} (h : Dt Z H v d) : PySem.W.kitOne K (.type (tyD d)) (.type "int") = some (isInt d || (tyD d == "bool")) := by
  cases h with
  | non => exact kit_ty (show kitB "NoneType" "int" = some false by decide +kernel)
  | bl b => exact kit_ty (show kitB "bool" "int" = some true by decide +kernel)
  | int i => exact kit_ty (show kitB "int" "int" = some true by decide +kernel)
  | str x => exact kit_ty (show kitB "str" "int" = some false by decide +kernel)
  | lst e n t => exact kit_ty (show kitB "list" "int" = some false by decide +kernel)
  | tup e n t => exact kit_ty (show kitB "tuple" "int" = some false by decide +kernel)
theorem Dt.kBool {v : V} {d : PyData} (h : Dt Z H v d) : PySem.W.kitOne K (.type (tyD d)) (.type "bool") = some (tyD d == "bool") := by
  cases h with
  | non => exact kit_ty (show kitB "NoneType" "bool" = some false by decide +kernel)
  | bl b => exact kit_ty (show kitB "bool" "bool" = some true by decide +kernel)
  | int i => exact kit_ty (show kitB "int" "bool" = some false by decide +kernel)
  | str x => exact kit_ty (show kitB "str" "bool" = some false by decide +kernel)
  | lst e n t => exact kit_ty (show kitB "list" "bool" = some false by decide +kernel)
  | tup e n t => exact kit_ty (show kitB "tuple" "bool" = some false by decide +kernel)
theorem Dt.kStr {v : V} {d : PyData} (h : Dt Z H v d) : PySem.W.kitOne K (.type (tyD d)) (.type "str") = some (tyD d == "str") := by
  cases h with
  | non => exact kit_ty (show kitB "NoneType" "str" = some false by decide +kernel)
  | bl b => exact kit_ty (show kitB "bool" "str" = some false by decide +kernel)
  | int i => exact kit_ty (show kitB "int" "str" = some false by decide +kernel)
  | str x => exact kit_ty (show kitB "str" "str" = some true by decide +kernel)
  | lst e n t => exact kit_ty (show kitB "list" "str" = some false by decide +kernel)
  | tup e n t => exact kit_ty (show kitB "tuple" "str" = some false by decide +kernel)
theorem Dt.kList {v : V} {d : PyData} (h : Dt Z H v d) : PySem.W.kitOne K (.type (tyD d)) (.type "list") = some (tyD d == "list") := by
  cases h with
  | non => exact kit_ty (show kitB "NoneType" "list" = some false by decide +kernel)
  | bl b => exact kit_ty (show kitB "bool" "list" = some false by decide +kernel)
  | int i => exact kit_ty (show kitB "int" "list" = some false by decide +kernel)
  | str x => exact kit_ty (show kitB "str" "list" = some false by decide +kernel)
  | lst e n t => exact kit_ty (show kitB "list" "list" = some true by decide +kernel)
  | tup e n t => exact kit_ty (show kitB "tuple" "list" = some false by decide +kernel)
theorem Dt.kTup {v : V} {d : PyData} (h : Dt Z H v d) : PySem.W.kitOne K (.type (tyD d)) (.type "tuple") = some (tyD d == "tuple") := by
  cases h with
  | non => exact kit_ty (show kitB "NoneType" "tuple" = some false by decide +kernel)
  | bl b => exact kit_ty (show kitB "bool" "tuple" = some false by decide +kernel)
  | int i => exact kit_ty (show kitB "int" "tuple" = some false by decide +kernel)
  | str x => exact kit_ty (show kitB "str" "tuple" = some false by decide +kernel)
  | lst e n t => exact kit_ty (show kitB "list" "tuple" = some false by decide +kernel)
  | tup e n t => exact kit_ty (show kitB "tuple" "tuple" = some true by decide +kernel)
theorem Dt.kSeq {v : V} {d : PyData} (h : Dt Z H v d) : PySem.W.kitAny K (.type (tyD d)) [.type "list", .type "tuple"] = some (isSeq d) := by
  refine kitAny_cons h.kList (fun e => kitAny_cons (h.fr Fm.refl).kTup (fun e2 => ?_) fun e2 => ?_) fun e => ?_
  · cases h <;> first | rfl | (simp [tyD] at e2; done) | (simp [tyD, isInt] at e; done)
  · cases h <;> first | rfl | (simp [tyD] at e2; done)
  · cases h <;> first | rfl | (simp [tyD, isInt] at e; done)
theorem pairedLT : Paired ClsV [.ty "list", .ty "tuple"] [.type "list", .type "tuple"] := .cons (.ty _) (.cons (.ty _) .nil)
theorem Dt.seq {v : V} {d : PyData} (h : Dt Z H v d) (s : isSeq d = true) : ∃ a xs, v = .ref a ∧ DtAll Z H xs (itemsD d) ∧ (H a = some (.lst xs) ∨ H a = some (.tup xs)) ∧ ¬ Z a := by
  cases h with
  | lst e n t => exact ⟨_, _, rfl, t, .inl e, n⟩
  | tup e n t => exact ⟨_, _, rfl, t, .inr e, n⟩
  | non => cases s
  | bl b => cases s
  | int i => cases s
  | str x => cases s
end
section
variable {X : Cx} {tg : Expr}
/-- what is walked is a tracked list or a tuple -/
def iSeq (tl : TE) : TI := fun σ H R => tl σ H fun x H1 => ∃ (a : Addr) (xs : List V) (o : HO), x = .ref a ∧ (o = .lst xs ∨ o = .tup xs) ∧ H1 a = some o ∧ ∀ J, Walk J xs.length (fun H => H a = some o) (YAt xs) → R J H1
theorem pi_seq {l : Expr} {tl : TE} (hl : PE X l tl) : PI X tg l (iSeq tl) := by
  refine ⟨fun pins s σ H R I h => ?_⟩
  refine thn (hl.run pins s σ H _ I h) fun v s1 ⟨x, H1, I1, r1, q1⟩ => ?_
  obtain ⟨a, xs, o, e, ho, ha, q⟩ := q1
  subst e
  cases r1
  rcases ho with rfl | rfl
  · obtain ⟨its, rv, p, hz⟩ := I1.list (SqL.of (K := X.K) ha)
    refine wpAny_pyIter_list p.isList ?_
    refine ⟨s1.heap.objs.size, [s1.heap.objs.size], _, _, H1, rfl, I1.kept (t' := s1.toks) fun b o e => Heap.get?_push_of_some _ e, turn_list a _, ⟨_, Heap.get?_push_size _ rfl, rfl, rfl⟩, fun b hb => ?_, q _ (walk_list.mono (fun H h => SqL.of h) fun _ _ _ _ _ _ y => y)⟩
    have e : b = s1.heap.objs.size := by simpa using hb
    subst e
    exact I1.fpOk (Nat.le_refl _) (I1.hok.fresh (Nat.le_refl _))
  · obtain ⟨its, rv, p, hz⟩ := I1.tuple (SqT.of (K := X.K) ha)
    refine wpAny_pyIter_tuple (show s1.heap.IsTuple a its.toArray from p) ?_
    refine ⟨s1.heap.objs.size, [s1.heap.objs.size], _, _, H1, rfl, I1.kept (t' := s1.toks) fun b o e => Heap.get?_push_of_some _ e, turn_tuple a _, ⟨_, Heap.get?_push_size _ rfl, rfl, rfl⟩, fun b hb => ?_, q _ (walk_tup.mono (fun H h => SqT.of h) fun _ _ _ _ _ _ y => y)⟩
    have e : b = s1.heap.objs.size := by simpa using hb
    subst e
    exact I1.fpOk (Nat.le_refl _) (I1.hok.fresh (Nat.le_refl _))
end
/-! ### the rules over tracked lists and tuples: nothing of the written part is read (serve within comprehensions too) -/
section
/-- a tracked list or tuple -/
def Sq_ (H : Hp) (a : Addr) (xs : List V) : Prop := H a = some (.lst xs) ∨ H a = some (.tup xs)
variable {X : Cx}
def rIxl : R2 := fun x y H Q => ∃ p xs i v, x = .ref p ∧ y = .int i ∧ H p = some (.lst xs) ∧ atI xs i = some v ∧ Q v H
theorem ixl : IxR X rIxl := fun a b c d e f g h i j k l m r ⟨p, xs, n, z, e1, e2, q1, q2, q3⟩ hs => ix_list a b c d e f g h i j k l m r ⟨p, xs, n, z, e1, e2, SqL.of q1, q2, q3⟩ hs
def rIxt : R2 := fun x y H Q => ∃ p xs i v, x = .ref p ∧ y = .int i ∧ H p = some (.tup xs) ∧ atI xs i = some v ∧ Q v H
theorem ixt : IxR X rIxt := fun a b c d e f g h i j k l m r ⟨p, xs, n, z, e1, e2, q1, q2, q3⟩ hs => ix_tup a b c d e f g h i j k l m r ⟨p, xs, n, z, e1, e2, SqT.of q1, q2, q3⟩ hs
def rSll : V → Option Int → Option Int → Hp → VK → Prop := fun x lo hi H Q => ∃ a xs, x = .ref a ∧ H a = some (.lst xs) ∧ ∀ p, H p = none → Q (.ref p) (upd H p (.lst (cutV xs lo hi)))
theorem sll : SlR X rSll := fun a b c d e f g h i j k l m n o p q ⟨a1, xs, e1, h1, q1⟩ => sl_list a b c d e f g h i j k l m n o p q ⟨a1, xs, e1, SqL.of h1, q1⟩
def rSlt : V → Option Int → Option Int → Hp → VK → Prop := fun x lo hi H Q => ∃ a xs, x = .ref a ∧ H a = some (.tup xs) ∧
  ¬ (HT.sIx xs.length 0 lo = 0 ∧ HT.sIx xs.length xs.length hi = xs.length) ∧ ∀ p, H p = none → Q (.ref p) (upd H p (.tup (cutV xs lo hi)))
theorem slt : SlR X rSlt := fun a b c d e f g h i j k l m n o p q ⟨a1, xs, e1, h1, h2, q1⟩ => sl_tup a b c d e f g h i j k l m n o p q ⟨a1, xs, e1, SqT.of h1, h2, q1⟩
theorem lenT : CallR X (.builtin "len") (fun xs H Q => ∃ p ys, xs = [.ref p] ∧ Sq_ H p ys ∧ Q (.int ys.length) H) := fun a b c d e f g h i ⟨p, ys, e1, h1, q⟩ => call_len_seq a b c d e f g h i ⟨p, ys, e1, h1.imp SqL.of SqT.of, q⟩
theorem listT : CallR X (.type "list") (fun xs H Q => ∃ p ys, xs = [.ref p] ∧ Sq_ H p ys ∧ ∀ l, H l = none → Q (.ref l) (upd H l (.lst ys))) := fun a b c d e f g h i ⟨p, ys, e1, h1, q⟩ => call_list_of a b c d e f g h i ⟨p, ys, e1, h1.imp SqL.of SqT.of, q⟩
theorem tupT : CallR X (.type "tuple") (fun xs H Q => ∃ p ys, xs = [.ref p] ∧ ((H p = some (.lst ys) ∧ ∀ l, H l = none → Q (.ref l) (upd H l (.tup ys))) ∨ (H p = some (.tup ys) ∧ Q (.ref p) H))) :=
  fun a b c d e f g h i ⟨p, ys, e1, h1⟩ => call_tuple_of a b c d e f g h i ⟨p, ys, e1, h1.imp (fun z => ⟨SqL.of z.1, z.2⟩) fun z => ⟨SqT.of z.1, z.2⟩⟩
theorem eqD (hu : X.A.units + 64 < cLine) : OpR X (compareOp .Eq) (fun x y H Q => ∃ d e Z Z', Dt Z H x d ∧ Dt Z' H y e ∧ SeqAt.shaped d = true ∧ SeqAt.shaped e = true ∧ Q (.bl (PyData.eqv d e)) H) :=
  fun a b c d e f g h i j k l ⟨d1, e1, Z, Z', h1, h2, h3, h4, q⟩ => op_eqD hu a b c d e f g h i j k l ⟨d1, e1, h1.dp, h2.dp, h3, h4, q⟩
theorem neD (hu : X.A.units + 64 < cLine) : OpR X (compareOp .NotEq) (fun x y H Q => ∃ d e Z Z', Dt Z H x d ∧ Dt Z' H y e ∧ SeqAt.shaped d = true ∧ SeqAt.shaped e = true ∧ Q (.bl (!PyData.eqv d e)) H) :=
  fun a b c d e f g h i j k l ⟨d1, e1, Z, Z', h1, h2, h3, h4, q⟩ => op_neD hu a b c d e f g h i j k l ⟨d1, e1, h1.dp, h2.dp, h3, h4, q⟩
theorem inT : OpR X (compareOp .In) (fun x y H Q => ∃ p xs, y = .ref p ∧ Sq_ H p xs ∧ flatV x = true ∧ xs.all flatV = true ∧ Q (.bl (inV x xs)) H) :=
  fun a b c d e f g h i j k l ⟨p, xs, e1, h1, h2, h3, q⟩ => op_in_seq a b c d e f g h i j k l ⟨p, xs, e1, h1.imp SqL.of SqT.of, h2, h3, q⟩
theorem notInT : OpR X (compareOp .NotIn) (fun x y H Q => ∃ p xs, y = .ref p ∧ Sq_ H p xs ∧ flatV x = true ∧ xs.all flatV = true ∧ Q (.bl (!inV x xs)) H) :=
  fun a b c d e f g h i j k l ⟨p, xs, e1, h1, h2, h3, q⟩ => op_notIn_seq a b c d e f g h i j k l ⟨p, xs, e1, h1.imp SqL.of SqT.of, h2, h3, q⟩
theorem allT (hc : X.calm = true) : CallR X (.builtin "all") (fun vs H Q => ∃ (a : Addr) (bs : List Bool), vs = [V.ref a] ∧ H a = some (.lst (bs.map V.bl)) ∧ Q (.bl (bs.all id)) H) :=
  fun a b c d e f g h i ⟨p, bs, e1, h1, q⟩ => cr_all hc a b c d e f g h i ⟨p, bs, e1, SqL.of h1, q⟩
theorem anyT (hc : X.calm = true) : CallR X (.builtin "any") (fun vs H Q => ∃ (a : Addr) (bs : List Bool), vs = [V.ref a] ∧ H a = some (.lst (bs.map V.bl)) ∧ Q (.bl (bs.any id)) H) :=
  fun a b c d e f g h i ⟨p, bs, e1, h1, q⟩ => cr_any hc a b c d e f g h i ⟨p, bs, e1, SqL.of h1, q⟩
theorem sumT (hc : X.calm = true) : CallR X (.builtin "sum") (fun vs H Q => ∃ (a : Addr) (ns : List Int), vs = [V.ref a] ∧ H a = some (.lst (ns.map V.int)) ∧ Q (.int ns.sum) H) :=
  fun a b c d e f g h i ⟨p, ns, e1, h1, q⟩ => cr_sum hc a b c d e f g h i ⟨p, ns, e1, SqL.of h1, q⟩
def gTupT (n : Nat) (t : TGs) : TG := fun v σ H Q => ∃ a xs, v = .ref a ∧ H a = some (.tup xs) ∧ xs.length = n ∧ t xs σ H Q
theorem pgT {pos : Pos} {es : List Expr} {k : Nat} {t : TGs} {n : Nat} (hc : X.calm = true) (h : PGs X es t)
    (hn : (assignEach es X.env).length = n := by rfl) (hst : (assignEach es X.env).findIdx? (·.1) = none := by rfl) : PG X (.Tuple es k pos) (gTupT n t) :=
  ⟨fun a b c d e f g h1 h2 ⟨p, xs, e1, e2, e3, e4⟩ => (pg_tup hc h hn hst).run a b c d e f g h1 h2 ⟨p, xs, e1, SqT.of e2, e3, e4⟩⟩
def iZipT (ta : TA) : TI := fun σ H R => ta σ H fun vs H1 => ∃ (a b : Addr) (xs ys : List V), vs = [.ref a, .ref b] ∧ H1 a = some (.lst xs) ∧ H1 b = some (.lst ys) ∧
  ∀ J, Walk J (min xs.length ys.length) (fun H => H a = some (.lst xs) ∧ H b = some (.lst ys)) (YPair (fun i => xs[i]?) (fun i => ys[i]?)) → R J H1
def iEnumT (ta : TA) : TI := fun σ H R => ta σ H fun vs H1 => ∃ (a : Addr) (xs : List V), vs = [.ref a] ∧ H1 a = some (.lst xs) ∧
  ∀ J, Walk J xs.length (fun H => H a = some (.lst xs)) (YPair (fun i => some (.int (i : Nat))) (fun i => xs[i]?)) → R J H1
theorem pa_up {es : List Expr} {t : TA} (h : PA X es t) : PA X es (fun σ H Q => ∃ Q', t σ H Q' ∧ ∀ vs H1, Q' vs H1 → Q vs H1) :=
  ⟨fun pos pins s σ H Q I ⟨Q', w, k⟩ => thn (h.run pos pins s σ H Q' I w) fun us s1 ⟨vs, H1, I1, r, q⟩ => ⟨vs, H1, I1, r, k _ _ q⟩⟩
theorem pi_zipT {e e2 : Expr} {ta : TA} {p pos tpos : Pos} {elts : List Expr} {kk : Nat} (hg : Gl X "zip") (hm : X.mg "zip" = none) (ha : PA X [e, e2] ta)
    (hs : starEach [e, e2] X.env = (false, eval e X.env) :: starEach [e2] X.env := by rfl) (hpl : (backTo pos (starEach [e2] X.env)).any (·.1) = false := by rfl) :
    PI X (.Tuple elts kk tpos) (.Call (.Name "zip" p) [e, e2] [] pos) (iZipT ta) :=
  ⟨fun pins s σ H R I h => (pi_zip hg hm (pa_up ha) hs hpl).run pins s σ H R I ⟨_, h, fun vs H1 ⟨a, b, xs, ys, e1, h1, h2, k⟩ => ⟨a, b, xs, ys, e1, SqL.of h1, SqL.of h2, k _ ((walk_zip rfl).mono (fun H z => ⟨SqL.of z.1, SqL.of z.2⟩) fun _ _ _ _ _ _ y => y)⟩⟩⟩
theorem pi_enumT {e : Expr} {ta : TA} {p pos tpos : Pos} {elts : List Expr} {kk : Nat} (hg : Gl X "enumerate") (hm : X.mg "enumerate" = none) (ha : PA X [e] ta) (hs : starEach [e] X.env = [(false, eval e X.env)] := by rfl) :
    PI X (.Tuple elts kk tpos) (.Call (.Name "enumerate" p) [e] [] pos) (iEnumT ta) :=
  ⟨fun pins s σ H R I h => (pi_enum hg hm (pa_up ha) hs).run pins s σ H R I ⟨_, h, fun vs H1 ⟨a, xs, e1, h1, k⟩ => ⟨a, xs, e1, SqL.of h1, k _ (walk_enum.mono (fun H z => SqL.of z) fun _ _ _ _ _ _ y => y)⟩⟩⟩
end
/-! slices of lists -/
theorem cut_from {xs : List V} (i : Nat) : cutV xs (some (i : Int)) none = xs.drop i := by
  unfold cutV
  rw [HT.sIx_nat, HT.sIx_none, List.take_of_length_le (by rw [List.length_drop]; omega)]
  by_cases h : i ≤ xs.length
  · rw [Nat.min_eq_left h]
  · rw [Nat.min_eq_right (by omega), List.drop_eq_nil_of_le (Nat.le_refl _), List.drop_eq_nil_of_le (by omega)]
theorem cut_to {xs : List V} (i : Nat) : cutV xs none (some (i : Int)) = xs.take i := by
  unfold cutV
  rw [HT.sIx_nat, HT.sIx_none, List.drop_zero, Nat.sub_zero]
  by_cases h : i ≤ xs.length
  · rw [Nat.min_eq_left h]
  · rw [Nat.min_eq_right (by omega), List.take_of_length_le (Nat.le_refl _), List.take_of_length_le (by omega)]
theorem cut_last {xs : List V} : cutV xs none (some (-1)) = xs.dropLast := by
  unfold cutV
  have : HT.sIx xs.length xs.length (some (-1)) = xs.length - 1 := by
    show (if (-1 : Int) < 0 then ((-1 : Int) + (xs.length : Int)).toNat else min (-1 : Int).toNat xs.length) = xs.length - 1
    rw [if_pos (by decide)]
    omega
  rw [this, HT.sIx_none (xs.length) 0, List.drop_zero, Nat.sub_zero, List.dropLast_eq_take]
theorem cut_all {xs : List V} : cutV xs none none = xs := by
  unfold cutV
  rw [HT.sIx_none, HT.sIx_none, List.drop_zero, Nat.sub_zero, List.take_of_length_le (Nat.le_refl _)]
theorem cut_one {xs : List V} : cutV xs (some 1) none = xs.drop 1 := cut_from 1
/-! what may be compared -/
def Shp (n : Nat) (d : PyData) : Prop := d.canLay0 = true ∧ d.depth ≤ n
theorem Shp.ok {n : Nat} {d : PyData} (h : Shp n d) (z : n ≤ 64 := by decide) : SeqAt.shaped d = true := by
  show (d.canLay0 && decide (d.depth ≤ 64)) = true
  rw [h.1, Bool.true_and]
  exact decide_eq_true (Nat.le_trans h.2 z)
theorem shp_all {n : Nat} : ∀ {ds : List PyData}, (∀ d ∈ ds, Shp n d) → PyData.canLayAll0 ds = true ∧ PyData.depthAll ds ≤ n
  | [], _ => ⟨by simp [PyData.canLayAll0], by simp [PyData.depthAll]⟩
  | d :: ds, h => by
    obtain ⟨a1, a2⟩ := h d List.mem_cons_self
    obtain ⟨b1, b2⟩ := shp_all (ds := ds) fun x hx => h x (List.mem_cons_of_mem _ hx)
    exact ⟨by simp [PyData.canLayAll0, a1, b1], by simp only [PyData.depthAll]; omega⟩
theorem shp_list {n : Nat} {ds : List PyData} (h : ∀ d ∈ ds, Shp n d) : Shp (n + 1) (.list ds) := by
  obtain ⟨a, b⟩ := shp_all h
  exact ⟨by simp [PyData.canLay0, a], by simp only [PyData.depth]; omega⟩
theorem shp_tup {n : Nat} {ds : List PyData} (h : ∀ d ∈ ds, Shp n d) : Shp (n + 1) (.tuple ds) := by
  obtain ⟨a, b⟩ := shp_all h
  exact ⟨by simp [PyData.canLay0, a], by simp only [PyData.depth]; omega⟩
theorem shp_int {i : Int} : Shp 0 (.int i) := ⟨by simp [PyData.canLay0], by simp [PyData.depth]⟩
theorem shp_bool {i : Bool} : Shp 0 (.bool i) := ⟨by simp [PyData.canLay0], by simp [PyData.depth]⟩
theorem shp_none : Shp 0 .none := ⟨by simp [PyData.canLay0], by simp [PyData.depth]⟩
theorem Shp.mono {n m : Nat} {d : PyData} (h : Shp n d) (z : n ≤ m) : Shp m d := ⟨h.1, Nat.le_trans h.2 z⟩
def dRow (r : List Int) : PyData := .list (r.map PyData.int)
def dTab (M : List (List Int)) : PyData := .list (M.map dRow)
theorem shp_row (r : List Int) : Shp 1 (dRow r) := shp_list fun d hd => by
  obtain ⟨i, _, rfl⟩ := List.mem_map.mp hd
  exact shp_int
theorem shp_tab (M : List (List Int)) : Shp 2 (dTab M) := shp_list fun d hd => by
  obtain ⟨r, _, rfl⟩ := List.mem_map.mp hd
  exact shp_row r
theorem eqv_nil (ds : List PyData) : PyData.eqv (.list ds) (.list []) = ds.isEmpty := by
  cases ds <;> simp [PyData.eqv, PyData.eqvAll]
/-! elements told one by one -/
theorem choose_list {α : Type} {R : V → α → Prop} : ∀ (xs : List V), (∀ (j : Nat) (y : V), xs[j]? = some y → ∃ m, R y m) → ∃ ms : List α, ms.length = xs.length ∧ ∀ (j : Nat) (y : V) (m : α), xs[j]? = some y → ms[j]? = some m → R y m
  | [], _ => ⟨[], rfl, fun j y m e _ => by simp at e⟩
  | x :: xs, h => by
    obtain ⟨m, hm⟩ := h 0 x rfl
    obtain ⟨ms, hl, hr⟩ := choose_list xs fun j y e => h (j + 1) y (by rw [List.getElem?_cons_succ]; exact e)
    refine ⟨m :: ms, by simp [hl], fun j y m' e1 e2 => ?_⟩
    cases j with
    | zero =>
      simp at e1 e2
      subst e1 e2
      exact hm
    | succ j =>
      rw [List.getElem?_cons_succ] at e1 e2
      exact hr j y m' e1 e2
theorem mem_of_pair {α : Type} {R : V → α → Prop} {xs : List V} {ms : List α} (hl : ms.length = xs.length) (h : ∀ (j : Nat) (y : V) (m : α), xs[j]? = some y → ms[j]? = some m → R y m) {m : α} (hm : m ∈ ms) : ∃ y ∈ xs, R y m := by
  obtain ⟨j, hj, e⟩ := List.getElem_of_mem hm
  have hj2 : j < xs.length := by omega
  exact ⟨xs[j], List.getElem_mem hj2, h j _ _ (List.getElem?_eq_getElem hj2) (by rw [List.getElem?_eq_getElem hj, e])⟩
/-- a list of ints told one by one -/
theorem ints_of {p : Int → Prop} {xs : List V} (h : ∀ (j : Nat) (y : V), xs[j]? = some y → ∃ k, y = .int k ∧ p k) : ∃ ks : List Int, xs = ks.map V.int ∧ ks.length = xs.length ∧ ∀ k ∈ ks, p k := by
  obtain ⟨ks, hl, hr⟩ := choose_list (R := fun y k => y = .int k ∧ p k) xs h
  refine ⟨ks, ?_, hl, fun k hk => ?_⟩
  · refine List.ext_getElem (by simp [hl]) fun i h1 h2 => ?_
    rw [List.getElem_map]
    exact (hr i xs[i] _ (List.getElem?_eq_getElem h1) (List.getElem?_eq_getElem (by omega))).1
  · obtain ⟨y, _, _, z⟩ := mem_of_pair hl hr hk
    exact z
theorem PoolAt.upd' {H : Hp} {pp D : Addr} {o : HO} (h : PoolAt H pp) (n : D ≠ pp) : PoolAt (upd H D o) pp := by
  obtain ⟨c, s, h0, h1, h2⟩ := h
  exact ⟨c, s, h0, h1, by rw [upd_ne (Ne.symm n)]; exact h2⟩
theorem PoolAt.zp {H : Hp} {pp D : Addr} (h : PoolAt H pp) (n : H D = none) : ¬ Zp pp D := h.ne n
theorem DtAll.set {Z : Addr → Prop} {H : Hp} {vs : List V} {ds : List PyData} (h : DtAll Z H vs ds) {v : V} {d : PyData} (g : Dt Z H v d) {i : Nat} : DtAll Z H (vs.set i v) (ds.set i d) := by
  induction vs generalizing ds i with
  | nil => cases h; exact .nil
  | cons u vs ih =>
    cases h with
    | cons a b =>
      cases i with
      | zero => exact .cons g b
      | succ i => exact .cons a (ih b)
theorem gen {H : Hp} {p : Addr} (o : HO) (n : H p = none) : ∃ H', Same H H' ∧ H' p = some o ∧ upd H p o = H' := ⟨_, Same.new n, upd_same, rfl⟩
theorem cut_two {xs : List V} : cutV xs (some 2) none = xs.drop 2 := cut_from 2
theorem up {H : Hp} {a p : Addr} {o x : HO} (h : H a = some x) (n : H p = none) : (upd H p o) a = some x := Same.new n _ _ h
theorem Dt.up {Z : Addr → Prop} {H : Hp} {p : Addr} {o : HO} {v : V} {d : PyData} (h : Dt Z H v d) (n : H p = none) : Dt Z (upd H p o) v d := h.fr (Fm.new n)
theorem Fm.up {Z : Addr → Prop} {H H1 : Hp} {p : Addr} {o : HO} (f : Fm Z H H1) (n : H1 p = none) : Fm Z H (upd H1 p o) := f.trans (Fm.new n)
theorem PoolAt.fr {H H' : Hp} {p : Addr} (h : PoolAt H p) (e : Fm Z0 H H') : PoolAt H' p := h.same e.same
/-! ### what the top has written, bundle by bundle -/
/-- the class x stands at C, its __init__ is st -/
def CIn (K : PySem.W.Frag) (x q : Str) (st : Stmt) (C : Addr) (tl : List Value) (nw : String) (fs : List Str) : Prop :=
  ∃ fI fd, PySem.W.nsIn K mainGlobals x = some (some (.ref C)) ∧ Fun K "__init__" q st fI fd ∧ Cl K C fI tl nw fs
theorem cin_mk {K : PySem.W.Frag} {x q : Str} {st : Stmt} {C fI : Addr} {tl : List Value} {nw : String} {fs : List Str} {oc : Value} {od an : Option Addr} {osl : Array (Option Value)} {kV doc pm cdv ct : Value}
    (a : PySem.W.nsIn K mainGlobals x = some (some (.ref C))) (b : PySem.W.findIn K (.ref C) "__init__" = some (some (.ref fI)))
    (l : K.lookup fI = some ⟨oc, od, .func (PySem.W.fnOf "__init__" q (defArgs st) (defBody st) (defScope st) .none kV doc pm an cdv ct), osl⟩) (c : PySem.W.codeIn K cdv q = true) (k : PySem.W.keepIn K (.ref fI) = true)
    (g1 : PySem.W.specialIn K (.builtin "object.__class__") "__get__" = some (some (.builtin "getset_descriptor.__get__"))) (g2 : PySem.W.takesIn K (.builtin "object.__class__") = some true)
    (t : (PySem.W.excInitIn K C tl nw, PySem.W.excOver K C tl, PySem.W.hasDictIn K C, PySem.W.isFn K (.ref fI), PySem.W.keepIn K (.ref C)) = (true, true, true, true, true))
    (u : (PySem.W.findIn K (.ref C) "__setattr__", PySem.W.findIn K (.ref C) "__getattribute__", PySem.W.findIn K (.ref C) "__getattr__", PySem.W.findIn K (.ref C) "__class__") =
      (some (some (.builtin "object.__setattr__")), some (some (.builtin "BaseException.__getattribute__")), some none, some (some (.builtin "object.__class__"))))
    (v : (PySem.W.subIn K (.ref C) (.type "BaseException"), PySem.W.mroIn K C (.type "object"), (PySem.W.clsIn K C).map (·.mro), PySem.W.typeIn K (.ref C)) = (some true, some true, some (.ref C :: tl), some (.type "type")))
    (f : fs.map (fun f => PySem.W.findIn K (.ref C) f) = fs.map fun _ => some none) : CIn K x q st C tl nw fs := ⟨fI, _, a, fun_mk l c k, cl_of g1 g2 b t u v f⟩
theorem has_mk {K : PySem.W.Frag} {h : Heap} {mg : Str → Option Value} {x : Str} {st : Stmt} {ps : List Str} {f : Addr} {oc : Value} {od an : Option Addr} {osl : Array (Option Value)} {kV doc pm cdv ct : Value} (X : K.In h) (G : h.Ns mainGlobals mg)
    (b : ∀ (kV doc pm : Value) (an : Option Addr) (cdv ct : Value) (us : List Value), us.length = ps.length → bindArgs (PySem.W.fnOf x x (defArgs st) (defBody st) (defScope st) .none kV doc pm an cdv ct) ⟨us, []⟩ = pure (ps.zip us))
    (a : PySem.W.nsIn K mainGlobals x = some (some (.ref f))) (l : K.lookup f = some ⟨oc, od, .func (PySem.W.fnOf x x (defArgs st) (defBody st) (defScope st) .none kV doc pm an cdv ct), osl⟩) (c : PySem.W.codeIn K cdv x = true) (k : PySem.W.keepIn K (.ref f) = true) : Has K mg x st ps :=
  ⟨f, _, PySem.W.mg_of X G a, (fun_mk (st := st) l c k).binds (ps := ps) b, fun_mk (st := st) l c k⟩
theorem over_mk {K : PySem.W.Frag} {C f : Addr} {nm q : Str} {st : Stmt} {ps : List Str} {oc : Value} {od an : Option Addr} {osl : Array (Option Value)} {kV doc pm cdv ct : Value}
    (b : ∀ (kV doc pm : Value) (an : Option Addr) (cdv ct : Value) (us : List Value), us.length = ps.length → bindArgs (PySem.W.fnOf nm q (defArgs st) (defBody st) (defScope st) .none kV doc pm an cdv ct) ⟨us, []⟩ = pure (ps.zip us))
    (a : PySem.W.findIn K (.ref C) nm = some (some (.ref f))) (l : K.lookup f = some ⟨oc, od, .func (PySem.W.fnOf nm q (defArgs st) (defBody st) (defScope st) .none kV doc pm an cdv ct), osl⟩) (c : PySem.W.codeIn K cdv q = true) (k : PySem.W.keepIn K (.ref f) = true) (i : PySem.W.isFn K (.ref f) = true) :
    ∃ f fd, Meth K C nm f ∧ Fun K nm q st f fd ∧ Binds K fd ps [] :=
  ⟨f, _, ⟨a, i, k⟩, fun_mk (st := st) l c k, (fun_mk (st := st) l c k).binds (ps := ps) b⟩
/-! ### own operators: x op y by a method of the class of x (or of y) -/
section
variable {X : Cx} {CX : CXT} {k : Nat} {f C : Addr} {fd : FuncData} {ps : List Str} {sp : Sp} {E : XK}
/-- what comes back of a kept promise is no NotImplemented -/
theorem back_of {pins : List (Addr × Obj)} {σ : St} {Q : VK} {v : Value} {s' : Shared} (h : EP X pins σ Q v s') : PySem.W.CmpBack (EP X pins σ Q) v s' := by
  have h' := h
  obtain ⟨x, H', I, r, q⟩ := h'
  cases v <;> first | exact h | (exfalso; cases x <;> first | (obtain ⟨t, r⟩ := r; cases r; done) | (cases r; done))
/-- the two are instances of the class at C -/
def rOwn2 (C : Addr) (sp : Sp) (E : XK) : R2 := fun x y H Q => ∃ a b dx dy fs gs, x = .ref a ∧ y = .ref b ∧ H a = some (.ins C dx fs) ∧ H b = some (.ins C dy gs) ∧ sp [.ref a, .ref b] H Q E
theorem op_own2 {op : Operator} (F : FnOk X.prog X.w X.K X.mg X.base CX k f fd ps sp) (hr : Room k X.A) (hb : Binds X.K fd ps []) (hx : Passes CX X E) (hc : PySem.W.selfFirst X.K C = true)
    (hs : PySem.W.findIn X.K (.ref C) (PySem.dunder op.info.2) = some (some (.ref f))) (hf : PySem.W.isFn X.K (.ref f) = true) : OpR X (binaryOp op) (rOwn2 C sp E) := by
  intro pins s σ H x y v u Q I rx ry h
  obtain ⟨a, b, dx, dy, fs, gs, rfl, rfl, ha, hb', hq⟩ := h
  cases rx
  cases ry
  obtain ⟨mA, J, _⟩ := ins_get I.hok ha
  obtain ⟨mB, J', _⟩ := ins_get I.hok hb'
  obtain ⟨od, J, _⟩ := J.look
  obtain ⟨od', J', _⟩ := J'.look
  obtain ⟨m, hF⟩ := I.fr
  exact PySem.W.binop_K hF I.ok.mod.kin J J'.type hc hs hf (wpAny_mono (run_fn (vs := [.ref a, .ref b]) F hr hb .nil hx I (.cons rfl (.cons rfl .nil)) hq) (fun _ _ z => back_of z) fun _ _ z => z)
/-- the right one is an int -/
def rOwnI (C : Addr) (sp : Sp) (E : XK) : R2 := fun x y H Q => ∃ a i dx fs, x = .ref a ∧ y = .int i ∧ H a = some (.ins C dx fs) ∧ sp [.ref a, .int i] H Q E
theorem op_ownI {op : Operator} {fo ro rc : Option Value} (F : FnOk X.prog X.w X.K X.mg X.base CX k f fd ps sp) (hr : Room k X.A) (hb : Binds X.K fd ps []) (hx : Passes CX X E) (hc : PySem.W.selfFirst X.K C = true)
    (hs : PySem.W.findIn X.K (.ref C) (PySem.dunder op.info.2) = some (some (.ref f))) (hf : PySem.W.isFn X.K (.ref f) = true) (hR : PySem.W.findIn X.K (.ref C) (dunderR op.info.2) = some rc) (hp : rc = none ∨ ∃ g : Addr, rc = some (.ref g))
    (h1 : PySem.W.findIn X.K (.type "int") (PySem.dunder op.info.2) = some fo) (h2 : PySem.W.findIn X.K (.type "int") (dunderR op.info.2) = some ro) (hsub : PySem.W.subIn X.K (.type "int") (.ref C) = some false) : OpR X (binaryOp op) (rOwnI C sp E) := by
  intro pins s σ H x y v u Q I rx ry h
  obtain ⟨a, i, dx, fs, rfl, rfl, ha, hq⟩ := h
  cases rx
  obtain ⟨t, rfl⟩ := ry
  obtain ⟨mA, J, _⟩ := ins_get I.hok ha
  obtain ⟨od, J, _⟩ := J.look
  obtain ⟨m, hF⟩ := I.fr
  exact PySem.W.ksp_binT hF I.ok.mod.kin J rfl hc hs hf hR hp h1 h2 hsub (wpAny_mono (run_fn (vs := [.ref a, .int i]) F hr hb .nil hx I (.cons rfl (.cons ⟨t, rfl⟩ .nil)) hq) (fun _ _ z => back_of z) fun _ _ z => z)
/-- -x -/
theorem un_own (F : FnOk X.prog X.w X.K X.mg X.base CX k f fd ps sp) (hr : Room k X.A) (hb : Binds X.K fd ps []) (hx : Passes CX X E)
    (hs : PySem.W.findIn X.K (.ref C) "__neg__" = some (some (.ref f))) (hf : PySem.W.isFn X.K (.ref f) = true) : UnR X (unaryOp .USub) (fun x H Q => ∃ a dx fs, x = .ref a ∧ H a = some (.ins C dx fs) ∧ sp [.ref a] H Q E) := by
  intro pins s σ H x v Q I rx h
  obtain ⟨a, dx, fs, rfl, ha, hq⟩ := h
  cases rx
  obtain ⟨mA, J, _⟩ := ins_get I.hok ha
  obtain ⟨od, J, _⟩ := J.look
  obtain ⟨m, hF⟩ := I.fr
  exact PySem.W.ksp_neg hF I.ok.mod.kin J hs hf (run_fn (vs := [.ref a]) F hr hb .nil hx I (.cons rfl .nil) hq)
/-- x op= y of an own class -/
def rOwnIn (C : Addr) (sp : Sp) (E : XK) : R2 := fun x y H Q => ∃ a dx fs, x = .ref a ∧ H a = some (.ins C dx fs) ∧ sp [.ref a, y] H Q E
theorem op_ownIn {op : Operator} (F : FnOk X.prog X.w X.K X.mg X.base CX k f fd ps sp) (hr : Room k X.A) (hb : Binds X.K fd ps []) (hx : Passes CX X E) (hc : PySem.W.selfFirst X.K C = true)
    (hs : PySem.W.findIn X.K (.ref C) (dunderI op.info.2) = some (some (.ref f))) (hf : PySem.W.isFn X.K (.ref f) = true) : OpR X (inplaceOp op) (rOwnIn C sp E) := by
  intro pins s σ H x y v u Q I rx ry h
  obtain ⟨a, dx, fs, rfl, ha, hq⟩ := h
  cases rx
  obtain ⟨mA, J, _⟩ := ins_get I.hok ha
  obtain ⟨od, J, _⟩ := J.look
  obtain ⟨m, hF⟩ := I.fr
  exact PySem.W.ksp_inplace hF I.ok.mod.kin J hc hs hf (wpAny_mono (run_fn (vs := [.ref a, y]) F hr hb .nil hx I (.cons rfl (.cons ry .nil)) hq) (fun _ _ z => back_of z) fun _ _ z => z)
/-- == < <= > >= by a method of the class of the left one; the right one is an instance of the same class -/
theorem op_cmp2 {op : CmpOp} (F : FnOk X.prog X.w X.K X.mg X.base CX k f fd ps sp) (hr : Room k X.A) (hb : Binds X.K fd ps []) (hx : Passes CX X E)
    (hs : PySem.W.findIn X.K (.ref C) (cmpInfo op).2.1 = some (some (.ref f))) (hf : PySem.W.isFn X.K (.ref f) = true) (ho : compareOp op = richCompare op) : OpR X (compareOp op) (rOwn2 C sp E) := by
  intro pins s σ H x y v u Q I rx ry h
  obtain ⟨a, b, dx, dy, fs, gs, rfl, rfl, ha, hb', hq⟩ := h
  cases rx
  cases ry
  obtain ⟨mA, J, _⟩ := ins_get I.hok ha
  obtain ⟨mB, J', _⟩ := ins_get I.hok hb'
  obtain ⟨od, J, _⟩ := J.look
  obtain ⟨od', J', _⟩ := J'.look
  obtain ⟨m, hF⟩ := I.fr
  rw [ho]
  exact PySem.W.cmp_K hr.units0 hF I.ok.mod.kin J J'.type (by simp [PySem.W.notFirst]) hs hf (wpAny_mono (run_fn (vs := [.ref a, .ref b]) F hr hb .nil hx I (.cons rfl (.cons rfl .nil)) hq) (fun _ _ z => back_of z) fun _ _ z => z)
/-- the right one is a value of the built-in type T -/
def rOwnT (C : Addr) (T : String) (sp : Sp) (E : XK) : R2 := fun x y H Q => ∃ a dx fs, x = .ref a ∧ H a = some (.ins C dx fs) ∧ (∀ u : Value, RelV y u → typeOf u = pure (.type T)) ∧ sp [.ref a, y] H Q E
theorem op_cmpT {op : CmpOp} {T : String} (F : FnOk X.prog X.w X.K X.mg X.base CX k f fd ps sp) (hr : Room k X.A) (hb : Binds X.K fd ps []) (hx : Passes CX X E)
    (hs : PySem.W.findIn X.K (.ref C) (cmpInfo op).2.1 = some (some (.ref f))) (hf : PySem.W.isFn X.K (.ref f) = true) (hn : PySem.W.notFirst X.K C (.type T) = true) (ho : compareOp op = richCompare op) : OpR X (compareOp op) (rOwnT C T sp E) := by
  intro pins s σ H x y v u Q I rx ry h
  obtain ⟨a, dx, fs, rfl, ha, ht, hq⟩ := h
  cases rx
  obtain ⟨mA, J, _⟩ := ins_get I.hok ha
  obtain ⟨od, J, _⟩ := J.look
  obtain ⟨m, hF⟩ := I.fr
  rw [ho]
  exact PySem.W.cmp_K hr.units0 hF I.ok.mod.kin J (PySem.W.Looks.of_pure (ht u ry)) hn hs hf (wpAny_mono (run_fn (vs := [.ref a, y]) F hr hb .nil hx I (.cons rfl (.cons ry .nil)) hq) (fun _ _ z => back_of z) fun _ _ z => z)
end
/-! ### an int to the left, an own instance to the right -/
section
open PySem.W PySem.Calls PyProof.Rows
variable {prog : Program} {w : World} {A : Around} {E : Value → Shared → Prop} {s : Shared} {K : Frag} {x C L f f0 : Addr} {h₀ : Heap} {m : Str → Option Value} {ox : Obj} {od : Option Obj}
theorem binR {op : Operator} {i : Int} {t : Tok} {B : Builtin} {idl : String} {Q : Value → Shared → Prop} (F : Fr h₀ L s.heap m) (X₀ : K.In h₀) (I : InstAt s.heap x ox C od) (hc : selfFirst K C = true)
    (hs : findIn K (.ref C) (PySem.dunder op.info.2) = some (some (.ref f0))) (hr : findIn K (.ref C) (dunderR op.info.2) = some (some (.ref f))) (hf : isFn K (.ref f) = true)
    (fillsI : fillsNumberSlot (.type "int") op.info.2 = pure true) (slot : Slot "int" (PySem.dunder op.info.2) idl) (entry : entryFor table idl = some B) (args : argsOk idl ⟨[.int i t, .ref x], []⟩)
    (g : Meets (B ⟨[.int i t, .ref x], []⟩) (fun _ R s => s.heap.get? x = some ox ∧ R (.ok (.ret .notImplemented)) s)) (hsub : subIn K (.ref C) (.type "int") = some false)
    (h : wpAny (model prog w) A (call (.ref f) [.ref x, .int i t]) (PySem.W.CmpBack Q) E s) : wpAny (model prog w) A (binaryOp op (.int i t) (.ref x)) Q E s := by
  have X := X₀.keeps F.keep
  obtain ⟨cd, rest, hcd, hm⟩ := ksp_first hc
  rcases hi : op.info with ⟨sym, nm'⟩
  rw [hi] at hs hr fillsI slot
  dsimp only at hs hr fillsI slot
  have one := ksp_try X I hr hf h
  have L1 : Looks (model prog w) s.heap (typeOf (.int i t)) (.type "int") := Looks.of_pure rfl
  have L2 : Looks (model prog w) s.heap (typeOf (.ref x)) (.ref C) := I.type
  have L3 : Looks (model prog w) s.heap (fillsNumberSlot (.type "int") nm') true := Looks.of_pure fillsI
  have L4 : Looks (model prog w) s.heap (fillsNumberSlot (.ref C) nm') true := fills_K X hcd hm hs
  have L5 : Looks (model prog w) s.heap (isSubtype (.ref C) (.type "int")) false := looks_subIn X hsub
  have L6 : Looks (model prog w) s.heap (numberSlotInPython (.type "int") nm') false := Looks.of_pure rfl
  have hne : (Value.type "int" == Value.ref C) = false := Bool.eq_false_iff.mpr fun q => by cases beq_iff_eq.mp q
  simp only [binaryOp, hi]
  refine wpAny_holding (wpAny_bind ?_)
  unfold binaryOp1
  refine wpAny_bind (L1.here (wpAny_bind (L2.here (wpAny_bind (L3.here ?_)))))
  simp only [hne, Bool.false_eq_true, if_false]
  refine wpAny_bind (L4.here ?_)
  simp only [Bool.and_self, if_true]
  refine wpAny_bind (L5.here ?_)
  simp only [Bool.false_eq_true, if_false, Bool.not_false, if_true]
  refine wpAny_bind (L6.here ?_)
  simp only [Bool.false_eq_true, if_false, pure_bind]
  refine wpAny_bind (wpAny_tryMethod_declines (typeIs_int s i t) slot (call_meets slot (typeIs_int s i t) entry args g (And.intro I.at_ (And.intro rfl ?_))))
  dsimp only
  refine wpAny_bind (wpAny_mono one (fun r s' hr' => ?_) fun _ _ e => e)
  obtain ⟨v, rfl, hq⟩ := hr'
  exact wpAny_bind (wpAny_rule (wpAny_pure (wpAny_pure hq)))
end
section
variable {X : Cx} {CX : CXT} {k : Nat} {f f0 C : Addr} {fd : FuncData} {ps : List Str} {sp : Sp} {E : XK}
/-- the left one is an int -/
def rOwnR (C : Addr) (sp : Sp) (E : XK) : R2 := fun x y H Q => ∃ a i dx fs, x = .int i ∧ y = .ref a ∧ H a = some (.ins C dx fs) ∧ sp [.ref a, .int i] H Q E
theorem op_ownR {op : Operator} {B : Builtin} {idl : String} (F : FnOk X.prog X.w X.K X.mg X.base CX k f fd ps sp) (hr : Room k X.A) (hb : Binds X.K fd ps []) (hx : Passes CX X E) (hc : PySem.W.selfFirst X.K C = true)
    (hs : PySem.W.findIn X.K (.ref C) (PySem.dunder op.info.2) = some (some (.ref f0))) (hR : PySem.W.findIn X.K (.ref C) (dunderR op.info.2) = some (some (.ref f))) (hf : PySem.W.isFn X.K (.ref f) = true)
    (fillsI : fillsNumberSlot (.type "int") op.info.2 = pure true) (slot : Slot "int" (PySem.dunder op.info.2) idl) (entry : entryFor table idl = some B) (args : ∀ a b : Value, argsOk idl ⟨[a, b], []⟩)
    (g : ∀ (i : Int) (t : Tok) (x C dx : Addr), Meets (B ⟨[.int i t, .ref x], []⟩) (fun _ R s => s.heap.get? x = some (PySem.W.instObj C dx) ∧ R (.ok (.ret .notImplemented)) s)) (hsub : PySem.W.subIn X.K (.ref C) (.type "int") = some false) : OpR X (binaryOp op) (rOwnR C sp E) := by
  intro pins s σ H x y v u Q I rx ry h
  obtain ⟨a, i, dx, fs, rfl, rfl, ha, hq⟩ := h
  obtain ⟨t, rfl⟩ := rx
  cases ry
  obtain ⟨mA, J, _⟩ := ins_get I.hok ha
  obtain ⟨od, J, _⟩ := J.look
  obtain ⟨m, hF⟩ := I.fr
  exact binR hF I.ok.mod.kin J hc hs hR hf fillsI slot entry (args _ _) (g _ _ _ _ _) hsub (wpAny_mono (run_fn (vs := [.ref a, .int i]) F hr hb .nil hx I (.cons rfl (.cons ⟨t, rfl⟩ .nil)) hq) (fun _ _ z => back_of z) fun _ _ z => z)
end
theorem ni_add (i : Int) (t : Tok) (x C dx : Addr) : Meets (Builtin.«int.__add__» ⟨[.int i t, .ref x], []⟩) (fun _ R s => s.heap.get? x = some (PySem.W.instObj C dx) ∧ R (.ok (.ret .notImplemented)) s) :=
  .of_wp fun prog w A R s h => by obtain ⟨hp, g, d, tk, os⟩ := s; obtain ⟨hl, h⟩ := h; wp_walk using wpAny_loadPart' hl, wpAny_load hl; exact ⟨_, rfl, h⟩
theorem ni_sub (i : Int) (t : Tok) (x C dx : Addr) : Meets (Builtin.«int.__sub__» ⟨[.int i t, .ref x], []⟩) (fun _ R s => s.heap.get? x = some (PySem.W.instObj C dx) ∧ R (.ok (.ret .notImplemented)) s) :=
  .of_wp fun prog w A R s h => by obtain ⟨hp, g, d, tk, os⟩ := s; obtain ⟨hl, h⟩ := h; wp_walk using wpAny_loadPart' hl, wpAny_load hl; exact ⟨_, rfl, h⟩
theorem ni_mul (i : Int) (t : Tok) (x C dx : Addr) : Meets (Builtin.«int.__mul__» ⟨[.int i t, .ref x], []⟩) (fun _ R s => s.heap.get? x = some (PySem.W.instObj C dx) ∧ R (.ok (.ret .notImplemented)) s) :=
  .of_wp fun prog w A R s h => by obtain ⟨hp, g, d, tk, os⟩ := s; obtain ⟨hl, h⟩ := h; wp_walk using wpAny_loadPart' hl, wpAny_load hl; exact ⟨_, rfl, h⟩
theorem ni_floordiv (i : Int) (t : Tok) (x C dx : Addr) : Meets (Builtin.«int.__floordiv__» ⟨[.int i t, .ref x], []⟩) (fun _ R s => s.heap.get? x = some (PySem.W.instObj C dx) ∧ R (.ok (.ret .notImplemented)) s) :=
  .of_wp fun prog w A R s h => by obtain ⟨hp, g, d, tk, os⟩ := s; obtain ⟨hl, h⟩ := h; wp_walk using wpAny_loadPart' hl, wpAny_load hl; exact ⟨_, rfl, h⟩
theorem ni_mod (i : Int) (t : Tok) (x C dx : Addr) : Meets (Builtin.«int.__mod__» ⟨[.int i t, .ref x], []⟩) (fun _ R s => s.heap.get? x = some (PySem.W.instObj C dx) ∧ R (.ok (.ret .notImplemented)) s) :=
  .of_wp fun prog w A R s h => by obtain ⟨hp, g, d, tk, os⟩ := s; obtain ⟨hl, h⟩ := h; wp_walk using wpAny_loadPart' hl, wpAny_load hl; exact ⟨_, rfl, h⟩
theorem ni_truediv (i : Int) (t : Tok) (x C dx : Addr) : Meets (Builtin.«int.__truediv__» ⟨[.int i t, .ref x], []⟩) (fun _ R s => s.heap.get? x = some (PySem.W.instObj C dx) ∧ R (.ok (.ret .notImplemented)) s) :=
  .of_wp fun prog w A R s h => by obtain ⟨hp, g, d, tk, os⟩ := s; obtain ⟨hl, h⟩ := h; wp_walk using wpAny_loadPart' hl, wpAny_load hl; exact ⟨_, rfl, h⟩
/-! ### != by the text's own ==: object.__ne__ asks it and turns the answer round -/
section
open PySem.W PySem.Calls
variable {prog : Program} {w : World} {A : Around} {E : Value → Shared → Prop} {s : Shared} {K : Frag} {x C L f : Addr} {h₀ : Heap} {m : Str → Option Value} {ox : Obj} {od : Option Obj} {b : Value}
theorem ne_entry (X : K.In s.heap) (I : InstAt s.heap x ox C od) (he : findIn K (.ref C) "__eq__" = some (some (.ref f))) (hf : isFn K (.ref f) = true) (hu : A.units < cLine) {Q : Fin → Shared → Prop}
    (hcall : wpAny (model prog w) A (call (.ref f) [.ref x, b]) (fun v s' => ∃ r, v = .bool r ∧ Q (.done (.ret (.bool (!r)))) s') E s) :
    wpAny (model prog w) A (Builtin.«object.__ne__» ⟨[.ref x, b], []⟩) Q E s := by
  unfold Builtin.«object.__ne__»
  repeat (first
    | with_reducible refine wpAny_cRoomFor hu ?_
    | (refine wpAny_bind (m := callSpecialIfBound? (.ref x) (Str.ofString "__eq__") [b])
        (ifBound_K X I he hf (wpAny_mono hcall (fun r s' hr => by
          obtain ⟨b, rfl, hq⟩ := hr
          repeat (first | exact hq | exact wpAny_pure hq | exact wpAny_truthy_bool hq | (refine wpAny_bind (m := truthy (.bool _)) (wpAny_truthy_bool ?_)) | wp_step)) fun _ _ e => e)))
    | wp_step)
theorem ifBound_slot {name : Str} {id T : String} {args : List Value} {Q : Option Value → Shared → Prop} (S : PySem.Slot T name id) (X : K.In s.heap) (I : InstAt s.heap x ox C od) (hs : findIn K (.ref C) name = some (some (.builtin id)))
    (h : wpAny (model prog w) A (call (.builtin id) (.ref x :: args)) (fun v => Q (some v)) E s) : wpAny (model prog w) A (callSpecialIfBound? (.ref x) name args) Q E s := by
  simp only [callSpecialIfBound?, bindSpecialIfBound?]
  refine wpAny_holding (wpAny_bind (wpAny_bind (wpAny_bind (I.type.here ((looks_findIn X hs).here ?_)))))
  refine wpAny_bind (wpAny_askSetting (wpAny_ite ?_))
  have fin : wpAny (model prog w) A (call (.builtin id) ([.ref x] ++ args) >>= fun v => pure (some v)) Q E s := wpAny_bind (wpAny_mono h (fun v s' h' => wpAny_pure h') fun _ _ h' => h')
  split
  · rw [S.bind]
    exact wpAny_bind (wpAny_pure (wpAny_pure (by exact fin)))
  · rw [S.bind]
    exact wpAny_tryCatch (wpAny_bind (wpAny_pure (wpAny_pure (by exact fin))))
theorem try_ne {Q : Option Value → Shared → Prop} (X : K.In s.heap) (I : InstAt s.heap x ox C od) (hne : findIn K (.ref C) "__ne__" = some (some (.builtin "object.__ne__"))) (hob : subIn K (.ref C) (.type "object") = some true)
    (he : findIn K (.ref C) "__eq__" = some (some (.ref f))) (hf : isFn K (.ref f) = true) (hu : A.in1.units < cLine)
    (hcall : wpAny (model prog w) A.in1 (call (.ref f) [.ref x, b]) (fun v s' => ∃ r, v = .bool r ∧ Q (some (.bool (!r))) s') E s) : wpAny (model prog w) A (tryCompare (.ref x) "__ne__" b) Q E s := by
  unfold tryCompare
  refine wpAny_bind (ifBound_slot F.cmp_object.ne X I hne (wpAny_call (codeAny_call_builtin F.cmp_object.ne.plain F.cmpEntry_ne (PySem.W.check_slot F.cmpKind_ne F.cmpSplit_ne (I.type.andThen (looks_subIn X hob)) (F.cmpArgs_ne _ _)
    (ne_entry X I he hf hu (wpAny_mono hcall (fun v s' hv => ?_) fun _ _ e => e))))))
  obtain ⟨r, rfl, hq⟩ := hv
  exact ⟨r, rfl, wpAny_pure hq⟩
/-- != with any right side whose type is no subclass -/
theorem ne_K {tb : Value} {Q : Value → Shared → Prop} (hu : A.in1.units < cLine) (hu0 : A.units < cLine) (X : K.In s.heap) (I : InstAt s.heap x ox C od) (hb : Looks (model prog w) s.heap (typeOf b) tb) (hn : notFirst K C tb = true)
    (hne : findIn K (.ref C) "__ne__" = some (some (.builtin "object.__ne__"))) (hob : subIn K (.ref C) (.type "object") = some true) (he : findIn K (.ref C) "__eq__" = some (some (.ref f))) (hf : isFn K (.ref f) = true)
    (hcall : wpAny (model prog w) A.in1 (call (.ref f) [.ref x, b]) (fun v s' => ∃ r, v = .bool r ∧ Q (.bool (!r)) s') E s) : wpAny (model prog w) A (richCompare .NotEq (.ref x) b) Q E s := by
  have one : wpAny (model prog w) A (tryCompare (.ref x) "__ne__" b) (fun r s' => ∃ v, r = some v ∧ Q v s') E s :=
    try_ne X I hne hob he hf hu (wpAny_mono hcall (fun v s' hv => by obtain ⟨r, e, q⟩ := hv; exact ⟨r, e, _, rfl, q⟩) fun _ _ e => e)
  unfold richCompare
  simp only [oneThing_ref]
  refine wpAny_holding (wpAny_bind (wpAny_cRoomFor hu0 ?_))
  refine wpAny_bind (I.type.here (wpAny_bind (hb.here ?_)))
  rw [cmpInfo_NotEq]
  split
  · rename_i q
    have e : subIn K tb (.ref C) = some false := by
      rcases Bool.or_eq_true_iff.mp hn with e | e
      · rw [beq_iff_eq.mp e] at q; simp at q
      · exact beq_iff_eq.mp e
    refine wpAny_bind ((looks_subIn X e).here ?_)
    simp only [Bool.false_eq_true, if_false]
    refine wpAny_bind (wpAny_mono one (fun r s' z => ?_) fun _ _ e => e)
    obtain ⟨v, rfl, hq⟩ := z
    exact wpAny_pure hq
  · refine wpAny_bind (wpAny_pure ?_)
    simp only [Bool.false_eq_true, if_false]
    refine wpAny_bind (wpAny_mono one (fun r s' z => ?_) fun _ _ e => e)
    obtain ⟨v, rfl, hq⟩ := z
    exact wpAny_pure hq
end
section
variable {X : Cx} {CX : CXT} {k : Nat} {f C : Addr} {fd : FuncData} {ps : List Str} {sp : Sp} {E : XK}
/-- a promise kept one builtin further in -/
theorem run_in1 {pins : List (Addr × Obj)} {σ : St} {H : Hp} {s : Shared} {Q : VK} {us : List Value} {vs : List V} (F : FnOk X.prog X.w X.K X.mg X.base CX k f fd ps sp) (hr : Room (k + 1) X.A) (hb : Binds X.K fd ps []) (hx : Passes CX X E)
    (I : Inv X pins σ H s) (r : Vals vs us) (h : sp vs H Q E) : wpAny (model X.prog X.w) X.A.in1 (call (.ref f) us) (EP X pins σ Q) X.xe s := by
  have hl : (us ++ []).length = ps.length := by
    rw [List.append_nil, ← F.len _ _ _ _ h]
    exact r.length.symm
  refine wpAny_call (codeAny_mono (F.run X.A.in1 X.stack s H ⟨us, []⟩ us vs Q E hr.in1 I.env0.in1 (by simpa using hb s us I.kIn hl) r h) fun r s' hq => ?_)
  cases r with
  | error er => exact hx pins σ H s er s' I hq
  | ok fl =>
    cases fl with
    | ret u => exact I.after hq
    | next => exact False.elim hq
    | brk => exact False.elim hq
    | cont => exact False.elim hq
/-- what is asked of a class whose != is object's -/
structure NeC (K : PySem.W.Frag) (C f : Addr) : Prop where
  ne : PySem.W.findIn K (.ref C) "__ne__" = some (some (.builtin "object.__ne__"))
  ob : PySem.W.subIn K (.ref C) (.type "object") = some true
  eq : PySem.W.findIn K (.ref C) "__eq__" = some (some (.ref f))
  fn : PySem.W.isFn K (.ref f) = true
/-- the answer turned round -/
def rNotV (Q : VK) : VK := fun v H' => ∃ r, v = .bl r ∧ Q (.bl (!r)) H'
theorem not_back {pins : List (Addr × Obj)} {σ : St} {Q : VK} {v : Value} {s' : Shared} (h : EP X pins σ (rNotV Q) v s') : ∃ r, v = .bool r ∧ EP X pins σ Q (.bool (!r)) s' := by
  obtain ⟨x, H', I, r, b, e, q⟩ := h
  subst e
  cases r
  exact ⟨b, rfl, .bl (!b), H', I, rfl, q⟩
theorem op_ne2 (N : NeC X.K C f) (F : FnOk X.prog X.w X.K X.mg X.base CX k f fd ps sp) (hr : Room (k + 1) X.A) (hb : Binds X.K fd ps []) (hx : Passes CX X E) :
    OpR X (compareOp .NotEq) (fun x y H Q => ∃ a b dx dy fs gs, x = .ref a ∧ y = .ref b ∧ H a = some (.ins C dx fs) ∧ H b = some (.ins C dy gs) ∧ sp [.ref a, .ref b] H (rNotV Q) E) := by
  intro pins s σ H x y v u Q I rx ry h
  obtain ⟨a, b, dx, dy, fs, gs, rfl, rfl, ha, hb', hq⟩ := h
  cases rx
  cases ry
  obtain ⟨mA, J, _⟩ := ins_get I.hok ha
  obtain ⟨mB, J', _⟩ := ins_get I.hok hb'
  obtain ⟨od, J, _⟩ := J.look
  obtain ⟨od', J', _⟩ := J'.look
  show wpAny _ _ (richCompare .NotEq _ _) _ _ _
  exact ne_K hr.in1.units0 (hr.mono (Nat.le_succ _)).units0 I.kIn J J'.type (by simp [PySem.W.notFirst]) N.ne N.ob N.eq N.fn (wpAny_mono (run_in1 (vs := [.ref a, .ref b]) F hr hb hx I (.cons rfl (.cons rfl .nil)) hq) (fun _ _ z => not_back z) fun _ _ z => z)
theorem op_neT {T : String} (N : NeC X.K C f) (F : FnOk X.prog X.w X.K X.mg X.base CX k f fd ps sp) (hr : Room (k + 1) X.A) (hb : Binds X.K fd ps []) (hx : Passes CX X E) (hn : PySem.W.notFirst X.K C (.type T) = true) :
    OpR X (compareOp .NotEq) (fun x y H Q => ∃ a dx fs, x = .ref a ∧ H a = some (.ins C dx fs) ∧ (∀ u : Value, RelV y u → typeOf u = pure (.type T)) ∧ sp [.ref a, y] H (rNotV Q) E) := by
  intro pins s σ H x y v u Q I rx ry h
  obtain ⟨a, dx, fs, rfl, ha, ht, hq⟩ := h
  cases rx
  obtain ⟨mA, J, _⟩ := ins_get I.hok ha
  obtain ⟨od, J, _⟩ := J.look
  show wpAny _ _ (richCompare .NotEq _ _) _ _ _
  exact ne_K hr.in1.units0 (hr.mono (Nat.le_succ _)).units0 I.kIn J (PySem.W.Looks.of_pure (ht u ry)) hn N.ne N.ob N.eq N.fn (wpAny_mono (run_in1 (vs := [.ref a, y]) F hr hb hx I (.cons rfl (.cons ry .nil)) hq) (fun _ _ z => not_back z) fun _ _ z => z)
/-! ### a tuple or a list to the right -/
theorem op_eqRef {op : CmpOp} {T : String} (F : FnOk X.prog X.w X.K X.mg X.base CX k f fd ps sp) (hr : Room k X.A) (hb : Binds X.K fd ps []) (hx : Passes CX X E)
    (hs : PySem.W.findIn X.K (.ref C) (cmpInfo op).2.1 = some (some (.ref f))) (hf : PySem.W.isFn X.K (.ref f) = true) (hn : PySem.W.notFirst X.K C (.type T) = true) (ho : compareOp op = richCompare op) :
    OpR X (compareOp op) (fun x y H Q => ∃ a b dx fs, x = .ref a ∧ y = .ref b ∧ H a = some (.ins C dx fs) ∧ (∀ h : Heap, HOk X.prog X.w H h → ∃ o : Obj, h.get? b = some o ∧ o.cls = .type T) ∧ sp [.ref a, .ref b] H Q E) := by
  intro pins s σ H x y v u Q I rx ry h
  obtain ⟨a, b, dx, fs, rfl, rfl, ha, ht, hq⟩ := h
  cases rx
  cases ry
  obtain ⟨mA, J, _⟩ := ins_get I.hok ha
  obtain ⟨od, J, _⟩ := J.look
  obtain ⟨m, hF⟩ := I.fr
  obtain ⟨o, g, c⟩ := ht _ I.hok
  rw [ho]
  have Lb : PySem.W.Looks (model X.prog X.w) s.heap (typeOf (.ref b)) (.type T) := by
    exact c ▸ (PySem.W.Looks.ld g).andThen .now
  exact PySem.W.cmp_K hr.units0 hF I.ok.mod.kin J Lb hn hs hf (wpAny_mono (run_fn (vs := [.ref a, .ref b]) F hr hb .nil hx I (.cons rfl (.cons rfl .nil)) hq) (fun _ _ z => back_of z) fun _ _ z => z)
end
section
variable {X : Cx} {CX : CXT} {k : Nat} {f C : Addr} {fd : FuncData} {ps : List Str} {sp : Sp} {E : XK} {a b : Expr} {ta tb : TE} {pos : Pos}
/-- a[b], a an instance of an own class with __getitem__ -/
def rIxOwn (C : Addr) (sp : Sp) (E : XK) : R2 := fun x y H Q => ∃ a dx fs, x = .ref a ∧ H a = some (.ins C dx fs) ∧ sp [.ref a, y] H Q E
theorem pe_ixOwn (ha : PE X a ta) (hb : PE X b tb) (F : FnOk X.prog X.w X.K X.mg X.base CX k f fd ps sp) (hr : Room (k + 1) X.A) (hbi : Binds X.K fd ps []) (hx : Passes CX X E)
    (hs : PySem.W.findIn X.K (.ref C) "__getitem__" = some (some (.ref f))) (hf : PySem.W.fnIn X.K f = true) (hfn : PySem.W.isFn X.K (.ref f) = true)
    (hsl : ∀ v u : Value, subscripted b true v u = runValue (.builtin "lifetime.subscript" ⟨[v, u], []⟩) := by intro _ _; with_unfolding_all rfl) : PE X (.Subscript a b pos) (tOp (rIxOwn C sp E) ta tb) := by
  refine ⟨fun pins s σ H Q I h => ?_⟩
  refine PyProof.Rows.Subscript_ (binT ha hb I h fun v u s2 x y H2 I2 rx ry q => ?_)
  obtain ⟨z, dx, fs, rfl, hz, hq⟩ := q
  cases rx
  obtain ⟨mA, J, _⟩ := ins_get I2.hok hz
  obtain ⟨od, J, _⟩ := J.look
  obtain ⟨m, hF⟩ := I2.fr
  exact PySem.W.sub_K hF I2.ok.mod.kin J hs hf hfn (run_in1 (vs := [.ref z, y]) F hr hbi hx I2 (.cons rfl (.cons ry .nil)) hq) (hsl _ _)
end
/-! ### own classes: a method, a property, a class of errors as the top leaves them (gathered from k12) -/
section
variable {P : Program} {w : World} {K : PySem.W.Frag} {mg : Str → Option Value} {base : Heap} {C : Addr}
/-- an own method that nothing leaves but a value -/
def OwnM (P : Program) (w : World) (K : PySem.W.Frag) (mg : Str → Option Value) (base : Heap) (C : Addr) (k : Nat) (nm : Str) (ps : List Str) (sp : Sp) : Prop :=
  ∃ f fd, PySem.W.findIn K (.ref C) nm = some (some (.ref f)) ∧ PySem.W.isFn K (.ref f) = true ∧ Binds K fd ps [] ∧ FnOk P w K mg base (L2.CX P w) k f fd ps sp
/-- a property of an own class -/
def OwnP (P : Program) (w : World) (K : PySem.W.Frag) (mg : Str → Option Value) (base : Heap) (C : Addr) (k : Nat) (nm : Str) (sp : Sp) : Prop :=
  ∃ p g fd, PropOf K C nm p g ∧ Binds K fd ["self"] [] ∧ FnOk P w K mg base (L2.CX P w) k g fd ["self"] sp
theorem pe_propO {X : Cx} {k : Nat} {sp : Sp} {E : XK} {f : Str} {e : Expr} {pos : Pos} {ta : TE} (he : PE X e ta) (c : Cls X.K C) (m : OwnP X.prog X.w X.K X.mg X.base C k f sp) (hr : Room (k + 1) X.A) (hx : Passes (L2.CX X.prog X.w) X.nox E) (hab : attributeBase e f X.env (eval e X.env) = eval e X.env := by rfl) : PE X (.Attribute e f pos) (tProp C sp [] E ta) := by
  obtain ⟨p, g, fd, hp, hb, F⟩ := m
  exact pe_prop he c hp F hr hb .nil hx hab
theorem op_own2O {X : Cx} {k : Nat} {ps : List Str} {sp : Sp} {E : XK} {op : Operator} (m : OwnM X.prog X.w X.K X.mg X.base C k (PySem.dunder op.info.2) ps sp) (hr : Room k X.A) (hx : Passes (L2.CX X.prog X.w) X E) (hc : PySem.W.selfFirst X.K C = true) : OpR X (binaryOp op) (rOwn2 C sp E) := by
  obtain ⟨f, fd, hs, hf, hb, F⟩ := m
  exact op_own2 F hr hb hx hc hs hf
theorem op_cmp2O {X : Cx} {k : Nat} {ps : List Str} {sp : Sp} {E : XK} {op : CmpOp} (m : OwnM X.prog X.w X.K X.mg X.base C k (cmpInfo op).2.1 ps sp) (hr : Room k X.A) (hx : Passes (L2.CX X.prog X.w) X E) (ho : compareOp op = richCompare op) : OpR X (compareOp op) (rOwn2 C sp E) := by
  obtain ⟨f, fd, hs, hf, hb, F⟩ := m
  exact op_cmp2 F hr hb hx hs hf ho
/-- the class's != is object's -/
structure NeO (K : PySem.W.Frag) (C : Addr) : Prop where
  ne : PySem.W.findIn K (.ref C) "__ne__" = some (some (.builtin "object.__ne__"))
  ob : PySem.W.subIn K (.ref C) (.type "object") = some true
theorem op_ne2O {X : Cx} {k : Nat} {ps : List Str} {sp : Sp} {E : XK} (N : NeO X.K C) (m : OwnM X.prog X.w X.K X.mg X.base C k "__eq__" ps sp) (hr : Room (k + 1) X.A) (hx : Passes (L2.CX X.prog X.w) X E) :
    OpR X (compareOp .NotEq) (fun x y H Q => ∃ a b dx dy fs gs, x = .ref a ∧ y = .ref b ∧ H a = some (.ins C dx fs) ∧ H b = some (.ins C dy gs) ∧ sp [.ref a, .ref b] H (rNotV Q) E) := by
  obtain ⟨f, fd, hs, hf, hb, F⟩ := m
  exact op_ne2 ⟨N.ne, N.ob, hs, hf⟩ F hr hb hx
/-- a method called by its name -/
def OwnMeth (P : Program) (w : World) (K : PySem.W.Frag) (mg : Str → Option Value) (base : Heap) (C : Addr) (k : Nat) (nm : Str) (ps : List Str) (sp : Sp) : Prop :=
  ∃ f fd, Meth K C nm f ∧ Binds K fd ps [] ∧ FnOk P w K mg base (L2.CX P w) k f fd ps sp
theorem pe_methO {X : Cx} {C : Addr} {k : Nat} {m : Str} {ps : List Str} {sp : Sp} {E : XK} {o e : Expr} {es : List Expr} {apos pos : Pos} {pl : Sem Bool} {ta : TE} {t : TA} (he : PE X o ta) (c : Cls X.K C) (mm : OwnMeth X.prog X.w X.K X.mg X.base C k m ps sp) (hr : Room k X.A) (hx : Passes (L2.CX X.prog X.w) X E) (ha : PA X (e :: es) t)
    (hst : starEach (e :: es) X.env = (false, eval e X.env) :: starEach es X.env := by rfl) (hpl : (backTo pos (starEach es X.env)).any (·.1) = false := by rfl)
    (ht : eval (.Call (.Attribute o m apos) (e :: es) [] pos) X.env = (do
      let ov ← eval o X.env
      standAt apos.atName
      let (f, first) ← holding [ov] (getMethod ov m pl)
      callWith pos f first (backTo pos (starEach (e :: es) X.env)) (backToKw pos (keywordEach [] X.env))) := by rfl) : PE X (.Call (.Attribute o m apos) (e :: es) [] pos) (tMeth C m sp [] E ta t) := by
  obtain ⟨f, fd, hm, hb, F⟩ := mm
  exact pe_meth (pl := pl) he c hm F hr hb .nil hx ha hst hpl ht
/-- whether a value is an integer -/
def IntV (K : PySem.W.Frag) (H : Hp) (v : V) (b : Bool) : Prop := (∃ i, v = .int i ∧ b = true) ∨ (∃ x, v = .bl x ∧ b = false) ∨ (∃ t, TyX K H v t ∧ PySem.W.kitOne K t (.type "int") = some false ∧ b = false)
theorem kBoolInt {K : PySem.W.Frag} : PySem.W.kitOne K (.type "bool") (.type "int") = some true := kit_ty (show kitB "bool" "int" = some true by decide +kernel)
theorem kBoolBool {K : PySem.W.Frag} : PySem.W.kitOne K (.type "bool") (.type "bool") = some true := kit_ty (show kitB "bool" "bool" = some true by decide +kernel)
/-- a def of the text, its errors told -/
def OkX (P : Program) (w : World) (K : PySem.W.Frag) (mg : Str → Option Value) (base : Heap) (k : Nat) (x : Str) (ps : List Str) (sp : Sp) : Prop :=
  ∃ f fd, mg x = some (.ref f) ∧ PySem.W.keepIn K (.ref f) = true ∧ Binds K fd ps [] ∧ FnOk P w K mg base (L2.CX P w) k f fd ps sp
theorem pe_cX {X : Cx} {k : Nat} {x : Str} {ps : List Str} {sp : Sp} {p pos : Pos} {e : Expr} {es : List Expr} {t : TA} {E : XK} (o : OkX X.prog X.w X.K X.mg X.base k x ps sp) (hr : Room k X.A) (hx : Passes (L2.CX X.prog X.w) X E) (hg : Gl X x)
    (ha : PA X (e :: es) t) (hdb : (x == ("__debug__" : Str)) = false := by decide) (he : starEach (e :: es) X.env = (false, eval e X.env) :: starEach es X.env := by rfl) (hpl : (backTo pos (starEach es X.env)).any (·.1) = false := by rfl) :
    PE X (.Call (.Name x p) (e :: es) [] pos) (tCall sp [] E t) := by
  obtain ⟨f, fd, g, kp, b, G⟩ := o
  exact pe_call G hr hg g kp b .nil hx ha hdb he hpl
/-- a method as the top leaves it -/
def MFun (K : PySem.W.Frag) (C : Addr) (nm qual : Str) (st : Stmt) (ps : List Str) : Prop := ∃ f fd, PySem.W.findIn K (.ref C) nm = some (some (.ref f)) ∧ PySem.W.isFn K (.ref f) = true ∧ Fun K nm qual st f fd ∧ Binds K fd ps []
def PFun (K : PySem.W.Frag) (C : Addr) (nm qual : Str) (st : Stmt) : Prop := ∃ p g fd, PropOf K C nm p g ∧ Fun K nm qual st g fd ∧ Binds K fd ["self"] []
abbrev XValue (P : Program) (w : World) (K : PySem.W.Frag) (mg : Str → Option Value) (base : Heap) (x : Str) (CI : Addr) : Prop := XRz P w K mg base x CI 1 (sp1n "value" CI)
theorem new_same {H : Hp} {x dx : Addr} {o : HO} (hx : H x = none) (hd : H dx = none) : Same H (upd (upd H dx (.own x)) x o) := fun b u e => by
  rw [upd_ne (ne_of_none e hx), upd_ne (ne_of_none e hd)]
  exact e
theorem un_ownO {X : Cx} {k : Nat} {ps : List Str} {sp : Sp} {E : XK} (m : OwnM X.prog X.w X.K X.mg X.base C k "__neg__" ps sp) (hr : Room k X.A) (hx : Passes (L2.CX X.prog X.w) X E) : UnR X (unaryOp .USub) fun x H Q => ∃ a dx fs, x = .ref a ∧ H a = some (.ins C dx fs) ∧ sp [.ref a] H Q E := by
  obtain ⟨f, fd, hs, hf, hb, F⟩ := m
  exact un_own F hr hb hx hs hf
theorem op_cmpTO {X : Cx} {k : Nat} {ps : List Str} {sp : Sp} {E : XK} {op : CmpOp} {T : String} (m : OwnM X.prog X.w X.K X.mg X.base C k (cmpInfo op).2.1 ps sp) (hr : Room k X.A) (hx : Passes (L2.CX X.prog X.w) X E) (hn : PySem.W.notFirst X.K C (.type T) = true) (ho : compareOp op = richCompare op) : OpR X (compareOp op) (rOwnT C T sp E) := by
  obtain ⟨f, fd, hs, hf, hb, F⟩ := m
  exact op_cmpT F hr hb hx hs hf hn ho
theorem op_eqRefO {X : Cx} {k : Nat} {ps : List Str} {sp : Sp} {E : XK} {op : CmpOp} {T : String} (m : OwnM X.prog X.w X.K X.mg X.base C k (cmpInfo op).2.1 ps sp) (hr : Room k X.A) (hx : Passes (L2.CX X.prog X.w) X E) (hn : PySem.W.notFirst X.K C (.type T) = true) (ho : compareOp op = richCompare op) :
    OpR X (compareOp op) (fun x y H Q => ∃ a b dx fs, x = .ref a ∧ y = .ref b ∧ H a = some (.ins C dx fs) ∧ (∀ h : Heap, HOk X.prog X.w H h → ∃ o : Obj, h.get? b = some o ∧ o.cls = .type T) ∧ sp [.ref a, .ref b] H Q E) := by
  obtain ⟨f, fd, hs, hf, hb, F⟩ := m
  exact op_eqRef F hr hb hx hs hf hn ho
theorem op_neTO {X : Cx} {k : Nat} {ps : List Str} {sp : Sp} {E : XK} {T : String} (N : NeO X.K C) (m : OwnM X.prog X.w X.K X.mg X.base C k "__eq__" ps sp) (hr : Room (k + 1) X.A) (hx : Passes (L2.CX X.prog X.w) X E) (hn : PySem.W.notFirst X.K C (.type T) = true) :
    OpR X (compareOp .NotEq) (fun x y H Q => ∃ a dx fs, x = .ref a ∧ H a = some (.ins C dx fs) ∧ (∀ u : Value, RelV y u → typeOf u = pure (.type T)) ∧ sp [.ref a, y] H (rNotV Q) E) := by
  obtain ⟨f, fd, hs, hf, hb, F⟩ := m
  exact op_neT ⟨N.ne, N.ob, hs, hf⟩ F hr hb hx hn
theorem PE.imp {X : Cx} {e : Expr} {t t' : TE} (h : PE X e t) (k : ∀ σ H Q, t' σ H Q → t σ H Q) : PE X e t' := ⟨fun pins s σ H Q I w => h.run pins s σ H Q I (k _ _ _ w)⟩
theorem PSs.len {X : Cx} {st : List Stmt} {t : TS} (h : PSs X st t) : PSs X st (fun D τ H => τ.length = X.N.length → t D τ H) := ⟨fun pins s σ H D I w => h.run pins s σ H D I (w I.len)⟩
theorem PSs.imp {X : Cx} {st : List Stmt} {t t' : TS} (h : PSs X st t) (k : ∀ D τ H, t' D τ H → t D τ H) : PSs X st t' := ⟨fun pins s σ H D I w => h.run pins s σ H D I (k _ _ _ w)⟩
theorem two_of {α : Type} {τ : List α} (h : τ.length = 2) : ∃ x y, τ = [x, y] := by
  match τ, h with
  | [x, y], _ => exact ⟨x, y, rfl⟩
end
def top (i : Nat) : Stmt := PySem.Challenge.pw_twodivisions_k02_wholes_at_desks.main.body.getD i (.Pass ⟨0, 0, 0, 0⟩)
section
variable {X : Cx}
end
def Md (i : Int) : Prop := -(2 ^ 200) < i ∧ i < 2 ^ 200
theorem Md.sm {i : Int} (h : Md i) : Sm i := by
  obtain ⟨h1, h2⟩ := h
  exact ⟨by omega, by omega⟩
theorem fdiv_facts (x b : Int) (hb : b ≠ 0) : (0 < b → 0 ≤ x - x.fdiv b * b ∧ x - x.fdiv b * b < b) ∧ (b < 0 → b < x - x.fdiv b * b ∧ x - x.fdiv b * b ≤ 0) := by
  refine ⟨fun h => ?_, fun h => ?_⟩
  · have e := Int.mul_fdiv_add_fmod x b
    have h1 := Int.fmod_nonneg_of_pos x h
    have h2 := Int.fmod_lt_of_pos x h
    rw [Int.mul_comm] at e
    omega
  · have h' : 0 < -b := by omega
    have e := Int.mul_fdiv_add_fmod (-x) (-b)
    have h1 := Int.fmod_nonneg_of_pos (-x) h'
    have h2 := Int.fmod_lt_of_pos (-x) h'
    rw [Int.neg_fdiv_neg, Int.neg_mul, Int.mul_comm] at e
    omega
def five : List Str := ["down", "up", "zero", "positive", "near"]
structure IsDiv (r : Str) (x b q d : Int) : Prop where
  eq : x = q * b + d
  lt : -b < d ∧ d < b ∨ b < d ∧ d < -b
  down : r = "down" → (0 < b → 0 ≤ d) ∧ (b < 0 → d ≤ 0)
  up : r = "up" → (0 < b → d ≤ 0) ∧ (b < 0 → 0 ≤ d)
  zero : r = "zero" → (0 ≤ x → 0 ≤ d) ∧ (x ≤ 0 → d ≤ 0)
  pos : r = "positive" → 0 ≤ d
  near : r = "near" → (0 < b → -b < 2 * d ∧ 2 * d ≤ b) ∧ (b < 0 → b < 2 * d ∧ 2 * d ≤ -b)
theorem same_of {b q d q' d' : Int} (hb : b ≠ 0) (e : q * b + d = q' * b + d') (h1 : d - d' < b ∨ d - d' < -b) (h2 : d' - d < b ∨ d' - d < -b) (h3 : 0 < b → d - d' < b ∧ d' - d < b) (h4 : b < 0 → d - d' < -b ∧ d' - d < -b) : q = q' ∧ d = d' := by
  have e1 : (q - q') * b = d' - d := by
    rw [Int.sub_mul]
    omega
  have hq : q - q' = 0 := by
    by_cases z : q - q' = 0
    · exact z
    · exfalso
      by_cases hp : 0 < b
      · obtain ⟨h5, h6⟩ := h3 hp
        by_cases g : 1 ≤ q - q'
        · have := Int.mul_le_mul_of_nonneg_right g (Int.le_of_lt hp)
          omega
        · have g' : q - q' ≤ -1 := by omega
          have := Int.mul_le_mul_of_nonneg_right g' (Int.le_of_lt hp)
          omega
      · have hn : b < 0 := by omega
        obtain ⟨h5, h6⟩ := h4 hn
        have e2 : (q - q') * (-b) = d - d' := by
          rw [Int.mul_neg]
          omega
        by_cases g : 1 ≤ q - q'
        · have := Int.mul_le_mul_of_nonneg_right g (show 0 ≤ -b by omega)
          omega
        · have g' : q - q' ≤ -1 := by omega
          have := Int.mul_le_mul_of_nonneg_right g' (show 0 ≤ -b by omega)
          omega
  have hq' : q = q' := by omega
  subst hq'
  exact ⟨rfl, by omega⟩
theorem IsDiv.uniq {r : Str} {x b q d q' d' : Int} (hr : r ∈ five) (hb : b ≠ 0) (a : IsDiv r x b q d) (c : IsDiv r x b q' d') : q = q' ∧ d = d' := by
  have l1 := a.lt
  have l2 := c.lt
  have e : q * b + d = q' * b + d' := a.eq.symm.trans c.eq
  have key : ∀ (_ : 0 < b → d - d' < b ∧ d' - d < b) (_ : b < 0 → d - d' < -b ∧ d' - d < -b), q = q' ∧ d = d' := fun h3 h4 =>
    same_of hb e (by omega) (by omega) h3 h4
  simp only [five, List.mem_cons, List.not_mem_nil, or_false] at hr
  rcases hr with rfl | rfl | rfl | rfl | rfl
  · have z1 := a.down rfl
    have z2 := c.down rfl
    exact key (by omega) (by omega)
  · have z1 := a.up rfl
    have z2 := c.up rfl
    exact key (by omega) (by omega)
  · have z1 := a.zero rfl
    have z2 := c.zero rfl
    exact key (by omega) (by omega)
  · have z1 := a.pos rfl
    have z2 := c.pos rfl
    exact key (by omega) (by omega)
  · have z1 := a.near rfl
    have z2 := c.near rfl
    exact key (by omega) (by omega)
def ab (i : Int) : Int := if i < 0 then -i else i
theorem ab_neg {i : Int} (h : i < 0) : ab i = -i := if_pos h
theorem ab_pos {i : Int} (h : 0 ≤ i) : ab i = i := if_neg (by omega)
def Goes (r : Str) (rest b : Int) : Prop := r = "up" ∨ r = "positive" ∧ rest < 0 ∨ r = "near" ∧ (ab b < 2 * ab rest ∨ 2 * ab rest = ab b ∧ rest < 0)
theorem five_ne : ("down" : Str) ≠ "up" ∧ ("down" : Str) ≠ "zero" ∧ ("down" : Str) ≠ "positive" ∧ ("down" : Str) ≠ "near" ∧ ("up" : Str) ≠ "zero" ∧ ("up" : Str) ≠ "positive" ∧ ("up" : Str) ≠ "near" ∧
    ("zero" : Str) ≠ "positive" ∧ ("zero" : Str) ≠ "near" ∧ ("positive" : Str) ≠ "near" := by decide +kernel
theorem div_high {r r' : Str} {x b low : Int} (hr : r ∈ five) (hb : b ≠ 0) (el : low = x.fdiv b) (hr' : r' = r ∧ ¬ (r = "zero" ∧ low < 0) ∨ r = "zero" ∧ low < 0 ∧ r' = "up") (h0 : x - low * b ≠ 0) (g : Goes r' (x - low * b) b) : IsDiv r x b (low + 1) (x - low * b - b) := by
  obtain ⟨f1, f2⟩ := fdiv_facts x b hb
  rw [← el] at f1 f2
  have em : (low + 1) * b = low * b + b := by rw [Int.add_mul, Int.one_mul]
  have e0 : x = (low + 1) * b + (x - low * b - b) := by omega
  have hlow : low < 0 → (0 < b → low * b ≤ -b) ∧ (b < 0 → -b ≤ low * b) := fun hl => by
    refine ⟨fun hp => ?_, fun hn => ?_⟩
    · have := Int.mul_le_mul_of_nonneg_right (show low ≤ -1 by omega) (Int.le_of_lt hp)
      omega
    · have := Int.mul_le_mul_of_nonneg_right (show low ≤ -1 by omega) (show 0 ≤ -b by omega)
      rw [Int.mul_neg] at this
      omega
  generalize low * b = m at *
  have ab2 : (0 < b → ab b = b) ∧ (b < 0 → ab b = -b) := ⟨fun h => ab_pos (by omega), fun h => ab_neg h⟩
  have ab1 : (0 ≤ x - m → ab (x - m) = x - m) ∧ (x - m < 0 → ab (x - m) = -(x - m)) := ⟨fun h => ab_pos (by omega), fun h => ab_neg h⟩
  obtain ⟨n1, n2, n3, n4, n5, n6, n7, n8, n9, n10⟩ := five_ne
  simp only [five, List.mem_cons, List.not_mem_nil, or_false] at hr
  rcases hr with rfl | rfl | rfl | rfl | rfl
  · rcases hr' with ⟨rfl, _⟩ | ⟨z, _⟩
    · rcases g with z | ⟨z, _⟩ | ⟨z, _⟩
      · exact absurd z n1
      · exact absurd z n3
      · exact absurd z n4
    · exact absurd z n2
  · exact ⟨e0, by omega, fun z => absurd z.symm n1, fun _ => by omega, fun z => absurd z n5, fun z => absurd z n6, fun z => absurd z n7⟩
  · rcases hr' with ⟨rfl, z⟩ | ⟨_, hl, rfl⟩
    · rcases g with z | ⟨z, _⟩ | ⟨z, _⟩
      · exact absurd z n5.symm
      · exact absurd z n8
      · exact absurd z n9
    · have hl' := hlow hl
      refine ⟨e0, by omega, fun z => absurd z.symm n2, fun z => absurd z.symm n5, fun _ => ?_, fun z => absurd z n8, fun z => absurd z n9⟩
      by_cases hp : 0 < b <;> omega
  · rcases hr' with ⟨rfl, _⟩ | ⟨z, _⟩
    · rcases g with z | ⟨_, z⟩ | ⟨z, _⟩
      · exact absurd z n6.symm
      · exact ⟨e0, by omega, fun z => absurd z.symm n3, fun z => absurd z.symm n6, fun z => absurd z.symm n8, fun _ => by omega, fun z => absurd z n10⟩
      · exact absurd z n10
    · exact absurd z n8.symm
  · rcases hr' with ⟨rfl, _⟩ | ⟨z, _⟩
    · rcases g with z | ⟨z, _⟩ | ⟨_, z⟩
      · exact absurd z n7.symm
      · exact absurd z n10.symm
      · exact ⟨e0, by omega, fun z => absurd z.symm n4, fun z => absurd z.symm n7, fun z => absurd z.symm n9, fun z => absurd z.symm n10, fun _ => by omega⟩
    · exact absurd z n9.symm
theorem div_low {r r' : Str} {x b low : Int} (hr : r ∈ five) (hb : b ≠ 0) (el : low = x.fdiv b) (hr' : r' = r ∧ ¬ (r = "zero" ∧ low < 0) ∨ r = "zero" ∧ low < 0 ∧ r' = "up") (g : x - low * b = 0 ∨ ¬ Goes r' (x - low * b) b) : IsDiv r x b low (x - low * b) := by
  obtain ⟨f1, f2⟩ := fdiv_facts x b hb
  rw [← el] at f1 f2
  have e0 : x = low * b + (x - low * b) := by omega
  have hlow : 0 ≤ low → (0 < b → 0 ≤ low * b) ∧ (b < 0 → low * b ≤ 0) := fun hl => by
    refine ⟨fun hp => Int.mul_nonneg hl (Int.le_of_lt hp), fun hn => ?_⟩
    have := Int.mul_nonneg hl (show 0 ≤ -b by omega)
    rw [Int.mul_neg] at this
    omega
  generalize e9 : low * b = m at *
  have e1 : x = low * b + (x - m) := by
    rw [e9]
    exact e0
  have ab2 : (0 < b → ab b = b) ∧ (b < 0 → ab b = -b) := ⟨fun h => ab_pos (by omega), fun h => ab_neg h⟩
  have ab1 : (0 ≤ x - m → ab (x - m) = x - m) ∧ (x - m < 0 → ab (x - m) = -(x - m)) := ⟨fun h => ab_pos (by omega), fun h => ab_neg h⟩
  obtain ⟨n1, n2, n3, n4, n5, n6, n7, n8, n9, n10⟩ := five_ne
  simp only [five, List.mem_cons, List.not_mem_nil, or_false] at hr
  rcases hr with rfl | rfl | rfl | rfl | rfl
  · exact ⟨e1, by omega, fun _ => by omega, fun z => absurd z n1, fun z => absurd z n2, fun z => absurd z n3, fun z => absurd z n4⟩
  · rcases hr' with ⟨rfl, _⟩ | ⟨z, _⟩
    · have g' : x - m = 0 := g.elim id fun z => absurd (Or.inl rfl) z
      exact ⟨e1, by omega, fun z => absurd z.symm n1, fun _ => by omega, fun z => absurd z n5, fun z => absurd z n6, fun z => absurd z n7⟩
    · exact absurd z n5
  · refine ⟨e1, by omega, fun z => absurd z.symm n2, fun z => absurd z.symm n5, fun _ => ?_, fun z => absurd z n8, fun z => absurd z n9⟩
    rcases hr' with ⟨rfl, z⟩ | ⟨_, hl, rfl⟩
    · have hl : 0 ≤ low := by
        by_cases q : low < 0
        · exact absurd ⟨rfl, q⟩ z
        · omega
      have := hlow hl
      by_cases hp : 0 < b <;> omega
    · have g' : x - m = 0 := g.elim id fun z => absurd (Or.inl rfl) z
      omega
  · rcases hr' with ⟨rfl, _⟩ | ⟨z, _⟩
    · have g' : x - m = 0 ∨ 0 ≤ x - m := g.elim .inl fun z => .inr (by
        by_cases q : x - m < 0
        · exact absurd (Or.inr (Or.inl ⟨rfl, q⟩)) z
        · omega)
      exact ⟨e1, by omega, fun z => absurd z.symm n3, fun z => absurd z.symm n6, fun z => absurd z.symm n8, fun _ => by omega, fun z => absurd z n10⟩
    · exact absurd z n8.symm
  · rcases hr' with ⟨rfl, _⟩ | ⟨z, _⟩
    · have g' : x - m = 0 ∨ ¬ (ab b < 2 * ab (x - m) ∨ 2 * ab (x - m) = ab b ∧ x - m < 0) := g.elim .inl fun z => .inr fun q => z (Or.inr (Or.inr ⟨rfl, q⟩))
      exact ⟨e1, by omega, fun z => absurd z.symm n4, fun z => absurd z.symm n7, fun z => absurd z.symm n9, fun z => absurd z.symm n10, fun _ => by omega⟩
    · exact absurd z n9.symm
structure Txt (K : PySem.W.Frag) (mg : Str → Option Value) (aR : Addr) : Prop where
  isinstance : mg "isinstance" = none
  int : mg "int" = none
  bool : mg "bool" = none
  str : mg "str" = none
  abs : mg "abs" = none
  len : mg "len" = none
  list : mg "list" = none
  range : mg "range" = none
  max : mg "max" = none
  min : mg "min" = none
  gRULES : mg "RULES" = some (.ref aR)
  tRULES : ∀ H, SqT K H aR (five.map V.str)
section
variable {P : Program} {w : World} {K : PySem.W.Frag} {mg : Str → Option Value} {base : Heap} {aR : Addr}
abbrev s_is_integer : Stmt := top 7
theorem sc_is_integer : FnScope ["value"] ["value"] (defScope s_is_integer) := ⟨rfl, rfl, rfl, by decide +kernel, rfl, by decide +kernel, by decide +kernel⟩
def spIsInt : Sp := fun vs H Q _ => ∃ i : Int, vs = [.int i] ∧ Q (.bl true) H
theorem ok_is_integer (h : Has K mg "is_integer" s_is_integer ["value"]) (T : Txt K mg aR) : Ok P w K mg base 1 "is_integer" ["value"] spIsInt := by
  obtain ⟨f, fd, g, b, F⟩ := h
  refine ⟨f, fd, g, F.kp, b, F.ok sc_is_integer (fun vs H Q E h => ?_) (fun cdv A outer s H vs Q E hr h => ?_)⟩
  · obtain ⟨i, rfl, _⟩ := h
    rfl
  · obtain ⟨i, rfl, q⟩ := h
    refine ⟨_, (pss_one (ps_ret (pe_and (pe_callB call_isi (by rfl) T.isinstance (by decide +kernel) (pa_cons (pv 0) (pa_cons (pe_bltn (v := .ty "int") (by rfl) T.int (by decide +kernel) rfl) pa_nil))) (pe_one (pe_not (pe_callB call_isi (by rfl) T.isinstance (by decide +kernel) (pa_cons (pv 0) (pa_cons (pe_bltn (v := .ty "bool") (by rfl) T.bool (by decide +kernel) rfl) pa_nil)))))))), ?_⟩
    refine ⟨_, rfl, _, _, _, _, _, rfl, .ty _, .base (.int _), kIntInt, _, rfl, ?_⟩
    refine iteT ?_
    refine ⟨_, rfl, _, _, _, _, _, rfl, .ty _, .base (.int _), kIntBool, _, rfl, ?_⟩
    exact q
abbrev s_is_rule : Stmt := top 8
theorem sc_is_rule : FnScope ["value"] ["value"] (defScope s_is_rule) := ⟨rfl, rfl, rfl, by decide +kernel, rfl, by decide +kernel, by decide +kernel⟩
def spIsRule : Sp := fun vs H Q _ => ∃ r : Str, vs = [.str r] ∧ r ∈ five ∧ Q (.bl true) H
theorem in_five {r : Str} (h : r ∈ five) : inV (.str r) (five.map V.str) = true := by
  simp only [five, List.mem_cons, List.not_mem_nil, or_false] at h
  rcases h with rfl | rfl | rfl | rfl | rfl <;> decide +kernel
theorem ok_is_rule (h : Has K mg "is_rule" s_is_rule ["value"]) (T : Txt K mg aR) : Ok P w K mg base 1 "is_rule" ["value"] spIsRule := by
  obtain ⟨f, fd, g, b, F⟩ := h
  refine ⟨f, fd, g, F.kp, b, F.ok sc_is_rule (fun vs H Q E h => ?_) (fun cdv A outer s H vs Q E hr h => ?_)⟩
  · obtain ⟨r, rfl, _⟩ := h
    rfl
  · obtain ⟨r, rfl, h1, q⟩ := h
    refine ⟨_, (pss_one (ps_ret (pe_and (pe_callB call_isi (by rfl) T.isinstance (by decide +kernel) (pa_cons (pv 0) (pa_cons (pe_bltn (v := .ty "str") (by rfl) T.str (by decide +kernel) rfl) pa_nil))) (pe_one (pe_cmpR op_in_seq (pv 0) (pe_glob (v := .ref aR) rfl T.gRULES rfl) (by rfl)))))), ?_⟩
    refine ⟨_, rfl, _, _, _, _, _, rfl, .ty _, .base (.str _), kStrStr, _, rfl, ?_⟩
    refine iteT ?_
    refine ⟨_, rfl, _, _, rfl, .inr (T.tRULES _), rfl, rfl, ?_⟩
    show Q (.bl (inV (.str r) (five.map V.str))) H
    rw [in_five h1]
    exact q
abbrev s_goes_up : Stmt := top 10
theorem sc_goes_up : FnScope ["rule", "rest", "base"] ["rule", "rest", "base"] (defScope s_goes_up) := ⟨rfl, rfl, rfl, by decide +kernel, rfl, by decide +kernel, by decide +kernel⟩
def spGoes : Sp := fun vs H Q _ => ∃ (r : Str) (i b : Int), vs = [.str r, .int i, .int b] ∧ Sm i ∧ Sm b ∧ (Goes r i b → Q (.bl true) H) ∧ (¬ Goes r i b → Q (.bl false) H)
theorem sm_ab {i : Int} (h : Sm i) : Sm (ab i) := by
  obtain ⟨h1, h2⟩ := h
  unfold ab
  split <;> exact ⟨by omega, by omega⟩
theorem sm_two : Sm 2 := ⟨by omega, by omega⟩
theorem ok_goes_up (h : Has K mg "goes_up" s_goes_up ["rule", "rest", "base"]) (T : Txt K mg aR) : Ok P w K mg base 1 "goes_up" ["rule", "rest", "base"] spGoes := by
  obtain ⟨f, fd, g, b, F⟩ := h
  refine ⟨f, fd, g, F.kp, b, F.ok sc_goes_up (fun vs H Q E h => ?_) (fun cdv A outer s H vs Q E hr h => ?_)⟩
  · obtain ⟨r, i, b, rfl, _⟩ := h
    rfl
  · obtain ⟨r, i, b, rfl, s1, s2, q1, q2⟩ := h
    refine ⟨_, (pss_cons (ps_if (pt_cmpR op_eq (pv 0) pe_str (nomark _))
      (pss_one (ps_ret pe_bl))
      pss_nil)
    (pss_cons (ps_if (pt_cmpR op_eq (pv 0) pe_str (nomark _))
      (pss_one (ps_ret (pe_cmpR op_lt (pv 1) pe_int (nomark _))))
      pss_nil)
    (pss_cons (ps_if (pt_cmpR op_eq (pv 0) pe_str (nomark _))
      (pss_one (ps_ret (pe_or (pe_cmpR op_gt (pe_op op_mulS pe_int (pe_callB call_abs (by rfl) T.abs (by decide +kernel) (pa_cons (pv 1) pa_nil))) (pe_callB call_abs (by rfl) T.abs (by decide +kernel) (pa_cons (pv 2) pa_nil)) (nomark _)) (pe_one (pe_and (pe_cmpR op_eq (pe_op op_mulS pe_int (pe_callB call_abs (by rfl) T.abs (by decide +kernel) (pa_cons (pv 1) pa_nil))) (pe_callB call_abs (by rfl) T.abs (by decide +kernel) (pa_cons (pv 2) pa_nil)) (nomark _)) (pe_one (pe_cmpR op_lt (pv 1) pe_int (nomark _))))))))
      pss_nil)
    (pss_one (ps_ret pe_bl))))), ?_⟩
    obtain ⟨n1, n2, n3, n4, n5, n6, n7, n8, n9, n10⟩ := five_ne
    refine ⟨_, rfl, rfl, _, rfl, ?_⟩
    refine ite2 (fun c1 => ?_) (fun c1 => ?_)
    · exact q1 (.inl (of_seq c1))
    · have c1 := of_sne c1
      refine ⟨_, rfl, rfl, _, rfl, ?_⟩
      refine ite2 (fun c2 => ?_) (fun c2 => ?_)
      · have c2 := of_seq c2
        subst c2
        refine ⟨_, rfl, _, _, rfl, rfl, ?_⟩
        show Q (.bl (decide (i < 0))) H
        by_cases hi : i < 0
        · rw [decide_eq_true hi]
          exact q1 (.inr (.inl ⟨rfl, hi⟩))
        · rw [decide_eq_false hi]
          refine q2 fun z => ?_
          rcases z with z | ⟨_, z⟩ | ⟨z, _⟩
          · exact c1 z
          · exact hi z
          · exact n10 z
      · have c2 := of_sne c2
        refine ⟨_, rfl, rfl, _, rfl, ?_⟩
        refine ite2 (fun c3 => ?_) (fun c3 => ?_)
        · have c3 := of_seq c3
          subst c3
          refine ⟨_, rfl, _, rfl, _, _, rfl, rfl, ⟨sm_two, sm_ab s1⟩, _, rfl, _, rfl, _, _, rfl, rfl, _, rfl, ?_⟩
          show if decide (ab b < 2 * ab i) = true then Q (.bl true) H else _
          refine ite2 (fun c4 => ?_) (fun c4 => ?_)
          · exact q1 (.inr (.inr ⟨rfl, .inl (of_decide_eq_true c4)⟩))
          · have c4 : ¬ ab b < 2 * ab i := fun z => c4 (decide_eq_true z)
            refine ⟨_, rfl, _, rfl, _, _, rfl, rfl, ⟨sm_two, sm_ab s1⟩, _, rfl, _, rfl, rfl, _, rfl, ?_⟩
            show if decide (V.int (2 * ab i) = V.int (ab b)) = true then _ else Q (.bl false) H
            refine ite2 (fun c5 => ?_) (fun c5 => ?_)
            · refine ⟨_, rfl, _, _, rfl, rfl, ?_⟩
              show Q (.bl (decide (i < 0))) H
              by_cases hi : i < 0
              · rw [decide_eq_true hi]
                exact q1 (.inr (.inr ⟨rfl, .inr ⟨of_veq c5, hi⟩⟩))
              · rw [decide_eq_false hi]
                refine q2 fun z => ?_
                rcases z with z | ⟨z, _⟩ | ⟨_, z | ⟨_, z⟩⟩
                · exact c1 z
                · exact c2 z
                · exact c4 z
                · exact hi z
            · have c5 := of_vne c5
              refine q2 fun z => ?_
              rcases z with z | ⟨z, _⟩ | ⟨_, z | ⟨z, _⟩⟩
              · exact c1 z
              · exact c2 z
              · exact c4 z
              · exact c5 z
        · have c3 := of_sne c3
          refine q2 fun z => ?_
          rcases z with z | ⟨z, _⟩ | ⟨z, _⟩
          · exact c1 z
          · exact c2 z
          · exact c3 z
end
section
variable {P : Program} {w : World} {K : PySem.W.Frag} {mg : Str → Option Value} {base : Heap} {aR : Addr}
abbrev s_divide : Stmt := top 11
theorem sc_divide : FnScope ["rule", "x", "base", "low", "rest"] ["rule", "x", "base"] (defScope s_divide) := ⟨rfl, rfl, rfl, by decide +kernel, rfl, by decide +kernel, by decide +kernel⟩
def spDivide : Sp := fun vs H Q _ => ∃ (r : Str) (x b : Int), vs = [.str r, .int x, .int b] ∧ r ∈ five ∧ b ≠ 0 ∧ Md x ∧ Md b ∧ ∀ q d p, IsDiv r x b q d → H p = none → Q (.ref p) (upd H p (.tup [.int q, .int d]))
theorem low_sm {x b : Int} (h : Md x) : Sm (x.fdiv b) := by
  have := Int.natAbs_fdiv_le_natAbs x b
  obtain ⟨h1, h2⟩ := h
  exact ⟨by omega, by omega⟩
theorem rest_sm {x b : Int} (hb : b ≠ 0) (h : Md b) : Sm (x - x.fdiv b * b) := by
  obtain ⟨f1, f2⟩ := fdiv_facts x b hb
  obtain ⟨h1, h2⟩ := h
  exact ⟨by omega, by omega⟩
theorem ok_divide (h : Has K mg "divide" s_divide ["rule", "x", "base"]) (O_is_rule : Ok P w K mg base 1 "is_rule" ["value"] spIsRule) (O_is_integer : Ok P w K mg base 1 "is_integer" ["value"] spIsInt) (O_goes_up : Ok P w K mg base 1 "goes_up" ["rule", "rest", "base"] spGoes) :
    Ok P w K mg base 2 "divide" ["rule", "x", "base"] spDivide := by
  obtain ⟨f, fd, g, b, F⟩ := h
  refine ⟨f, fd, g, F.kp, b, F.ok sc_divide (fun vs H Q E h => ?_) (fun cdv A outer s H vs Q E hr h => ?_)⟩
  · obtain ⟨r, i, b, rfl, _⟩ := h
    rfl
  · obtain ⟨r, x, b, rfl, h5, hb, mx, mb, q⟩ := h
    refine ⟨_, (pss_cons (ps_if (pt_not (pt_val (pe_cO O_is_rule (hr.mono (by decide)) pass0 rfl (pa_cons (pv 0) pa_nil))))
      (pss_one ps_never)
      pss_nil)
    (pss_cons (ps_if (pt_not (pt_val (pe_cO O_is_integer (hr.mono (by decide)) pass0 rfl (pa_cons (pv 1) pa_nil))))
      (pss_one ps_never)
      pss_nil)
    (pss_cons (ps_if (PW.pt (pw_or (pt_not (pt_val (pe_cO O_is_integer (hr.mono (by decide)) pass0 rfl (pa_cons (pv 2) pa_nil)))) (pw_or1 (pt_cmpR op_eq (pv 2) pe_int (nomark _)))))
      (pss_one ps_never)
      pss_nil)
    (pss_cons (ps_set (i := 3) sc_divide.nd rfl (Or.inl rfl) (pe_op op_divS (pv 1) (pv 2)))
    (pss_cons (ps_set (i := 4) sc_divide.nd rfl (Or.inl rfl) (pe_op op_sub (pv 1) (pe_op op_mulS (pv 3) (pv 2))))
    (pss_cons (ps_if (PW.pt (pw_and (pt_cmpR op_eq (pv 0) pe_str (nomark _)) (pw_and1 (pt_cmpR op_lt (pv 3) pe_int (nomark _)))))
      (pss_one (ps_set (i := 0) sc_divide.nd rfl (Or.inl rfl) pe_str))
      pss_nil)
    (pss_cons (ps_if (PW.pt (pw_and (pt_cmpR op_ne (pv 4) pe_int (nomark _)) (pw_and1 (pt_val (pe_cO O_goes_up (hr.mono (by decide)) pass0 rfl (pa_cons (pv 0) (pa_cons (pv 4) (pa_cons (pv 2) pa_nil))))))))
      (pss_one (ps_ret (pe_tup (pa_cons (pe_op op_add (pv 3) pe_int) (pa_cons (pe_op op_sub (pv 4) (pv 2)) pa_nil)))))
      pss_nil)
    (pss_one (ps_ret (pe_tup (pa_cons (pv 3) (pa_cons (pv 4) pa_nil)))))))))))), ?_⟩
    refine ⟨_, rfl, r, rfl, h5, _, rfl, ?_⟩
    refine iteF ?_
    refine ⟨_, rfl, _, rfl, _, rfl, ?_⟩
    refine iteF ?_
    refine ⟨_, rfl, _, rfl, _, rfl, ?_⟩
    refine iteF ?_
    refine ⟨_, rfl, rfl, _, rfl, ?_⟩
    refine iteN (vne hb) ?_
    refine ⟨_, rfl, _, rfl, _, _, rfl, rfl, ⟨hb, mb.sm⟩, ?_⟩
    refine ⟨_, rfl, _, rfl, _, rfl, _, _, rfl, rfl, ⟨low_sm mx, mb.sm⟩, _, _, rfl, rfl, ?_⟩
    refine ⟨_, rfl, rfl, _, rfl, ?_⟩
    have leaf : ∀ r' : Str, (r' = r ∧ ¬ (r = "zero" ∧ x.fdiv b < 0) ∨ r = "zero" ∧ x.fdiv b < 0 ∧ r' = "up") →
        (x - x.fdiv b * b ≠ 0 → Goes r' (x - x.fdiv b * b) b → IsDiv r x b (x.fdiv b + 1) (x - x.fdiv b * b - b)) ∧ ((x - x.fdiv b * b = 0 ∨ ¬ Goes r' (x - x.fdiv b * b) b) → IsDiv r x b (x.fdiv b) (x - x.fdiv b * b)) :=
      fun r' hr' => ⟨fun h0 g => div_high h5 hb rfl hr' h0 g, fun g => div_low h5 hb rfl hr' g⟩
    refine ite2 (fun c1 => ?_) (fun c1 => ?_)
    · refine ⟨_, rfl, _, _, rfl, rfl, _, rfl, ?_⟩
      refine ite2 (fun c2 => ?_) (fun c2 => ?_)
      · obtain ⟨l1, l2⟩ := leaf "up" (.inr ⟨of_seq c1, of_decide_eq_true c2, rfl⟩)
        refine ⟨_, rfl, rfl, _, rfl, ?_⟩
        refine ite2 (fun c3 => ?_) (fun c3 => ?_)
        · have c3 : x - x.fdiv b * b ≠ 0 := fun z => bnot_dec c3 (congrArg V.int z)
          refine ⟨_, rfl, _, rfl, _, rfl, _, _, _, rfl, rest_sm hb mb, mb.sm, fun g => ?_, fun g => ?_⟩
          · refine ⟨_, rfl, ?_⟩
            refine iteT ?_
            refine ⟨_, rfl, _, _, rfl, rfl, _, rfl, _, rfl, _, _, rfl, rfl, (by show 2 ≤ sizeLine; decide), fun p hp => ?_⟩
            exact q _ _ p (l1 c3 g) hp
          · refine ⟨_, rfl, ?_⟩
            refine iteF ?_
            refine ⟨_, rfl, _, rfl, (by show 2 ≤ sizeLine; decide), fun p hp => ?_⟩
            exact q _ _ p (l2 (.inr g)) hp
        · have c3 : x - x.fdiv b * b = 0 := of_veq (decide_eq_true (bnot_dec' c3))
          refine iteF ?_
          refine ⟨_, rfl, _, rfl, (by show 2 ≤ sizeLine; decide), fun p hp => ?_⟩
          exact q _ _ p (l2 (.inl c3)) hp
      · obtain ⟨l1, l2⟩ := leaf r (.inl ⟨rfl, fun z => c2 (decide_eq_true z.2)⟩)
        refine ⟨_, rfl, rfl, _, rfl, ?_⟩
        refine ite2 (fun c3 => ?_) (fun c3 => ?_)
        · have c3 : x - x.fdiv b * b ≠ 0 := fun z => bnot_dec c3 (congrArg V.int z)
          refine ⟨_, rfl, _, rfl, _, rfl, _, _, _, rfl, rest_sm hb mb, mb.sm, fun g => ?_, fun g => ?_⟩
          · refine ⟨_, rfl, ?_⟩
            refine iteT ?_
            refine ⟨_, rfl, _, _, rfl, rfl, _, rfl, _, rfl, _, _, rfl, rfl, (by show 2 ≤ sizeLine; decide), fun p hp => ?_⟩
            exact q _ _ p (l1 c3 g) hp
          · refine ⟨_, rfl, ?_⟩
            refine iteF ?_
            refine ⟨_, rfl, _, rfl, (by show 2 ≤ sizeLine; decide), fun p hp => ?_⟩
            exact q _ _ p (l2 (.inr g)) hp
        · have c3 : x - x.fdiv b * b = 0 := of_veq (decide_eq_true (bnot_dec' c3))
          refine iteF ?_
          refine ⟨_, rfl, _, rfl, (by show 2 ≤ sizeLine; decide), fun p hp => ?_⟩
          exact q _ _ p (l2 (.inl c3)) hp
    · obtain ⟨l1, l2⟩ := leaf r (.inl ⟨rfl, fun z => of_sne c1 z.1⟩)
      refine iteF ?_
      refine ⟨_, rfl, rfl, _, rfl, ?_⟩
      refine ite2 (fun c3 => ?_) (fun c3 => ?_)
      · have c3 : x - x.fdiv b * b ≠ 0 := fun z => bnot_dec c3 (congrArg V.int z)
        refine ⟨_, rfl, _, rfl, _, rfl, _, _, _, rfl, rest_sm hb mb, mb.sm, fun g => ?_, fun g => ?_⟩
        · refine ⟨_, rfl, ?_⟩
          refine iteT ?_
          refine ⟨_, rfl, _, _, rfl, rfl, _, rfl, _, rfl, _, _, rfl, rfl, (by show 2 ≤ sizeLine; decide), fun p hp => ?_⟩
          exact q _ _ p (l1 c3 g) hp
        · refine ⟨_, rfl, ?_⟩
          refine iteF ?_
          refine ⟨_, rfl, _, rfl, (by show 2 ≤ sizeLine; decide), fun p hp => ?_⟩
          exact q _ _ p (l2 (.inr g)) hp
      · have c3 : x - x.fdiv b * b = 0 := of_veq (decide_eq_true (bnot_dec' c3))
        refine iteF ?_
        refine ⟨_, rfl, _, rfl, (by show 2 ≤ sizeLine; decide), fun p hp => ?_⟩
        exact q _ _ p (l2 (.inl c3)) hp
end
section
variable {P : Program} {w : World} {K : PySem.W.Frag} {mg : Str → Option Value} {base : Heap} {aR : Addr}
abbrev s__law_pool : Stmt := top 19
theorem sc__law_pool : FnScope ["_law_script", "_law_k", "_law_cell", "_law_seed"] ["_law_script", "_law_k"] (defScope s__law_pool) := ⟨rfl, rfl, rfl, by decide +kernel, rfl, by decide +kernel, by decide +kernel⟩
def spPool (K : PySem.W.Frag) : Sp := fun vs H Q _ => ∃ (a : Addr) (ns : List Int) (k : Nat), vs = [.ref a, .int k] ∧ SqL K H a (ns.map V.int) ∧ k < 64 ∧ ∀ pp H', Same H H' → H pp = none → PoolAt H' pp → Q (.ref pp) H'
theorem seed_ok (c : Int) (k : Nat) (hk : k < 64) : Sm (7919 * (k : Int)) ∧ (c.fmod 2147483629 + 7919 * (k : Int) * (k : Int) + 31).natAbs < 2 ^ 64 := by
  have h1 := Int.fmod_nonneg_of_pos c (show (0 : Int) < 2147483629 by decide)
  have h2 := Int.fmod_lt_of_pos c (show (0 : Int) < 2147483629 by decide)
  have h3 : 0 ≤ 7919 * (k : Int) * (k : Int) := Int.mul_nonneg (by omega) (by omega)
  have h4 : 7919 * (k : Int) * (k : Int) ≤ 7919 * (k : Int) * 64 := Int.mul_le_mul_of_nonneg_left (by omega) (by omega)
  exact ⟨⟨by omega, by omega⟩, by omega⟩
theorem ok__law_pool (h : Has K mg "_law_pool" s__law_pool ["_law_script", "_law_k"]) (T : Txt K mg aR) : Ok P w K mg base 1 "_law_pool" ["_law_script", "_law_k"] (spPool K) := by
  obtain ⟨f, fd, g, b, F⟩ := h
  refine ⟨f, fd, g, F.kp, b, F.ok sc__law_pool (fun vs H Q E h => ?_) (fun cdv A outer s H vs Q E hr h => ?_)⟩
  · obtain ⟨a, ns, k, rfl, _⟩ := h
    rfl
  · obtain ⟨a, ns, k, rfl, hS, hk, q⟩ := h
    refine ⟨_, (pss_cons (ps_set (i := 2) sc__law_pool.nd rfl (Or.inl rfl) pe_int)
    (pss_cons (ps_if (pt_cmpR op_lt (pv 1) (pe_callB call_len_seq (by rfl) T.len (by decide +kernel) (pa_cons (pv 0) pa_nil)) (nomark _))
      (pss_one (ps_set (i := 2) sc__law_pool.nd rfl (Or.inl rfl) (pe_ix ix_list (pv 0) (pv 1) (fun _ _ => rfl))))
      pss_nil)
    (pss_cons (ps_set (i := 3) sc__law_pool.nd rfl (Or.inl rfl) (pe_op op_modN (pe_op op_pow (pe_op op_add (pe_op op_add (pe_op op_modN (pe_callTy call_int1 (by rfl) T.int (by decide +kernel) (pa_cons (pv 2) pa_nil)) pe_int) (pe_op op_mulS (pe_op op_mulS pe_int (pv 1)) (pv 1))) pe_int) pe_int) pe_int))
    (pss_cons (ps_if (pt_cmpR op_lt (pv 2) (pe_op op_pow pe_int pe_int) (nomark _))
      (pss_one (ps_set (i := 2) sc__law_pool.nd rfl (Or.inl rfl) pe_int))
      pss_nil)
    (pss_one (ps_ret (pe_lst (pa_cons (pv 2) (pa_cons (pv 3) pa_nil))))))))), ?_⟩
    have z0 : ∀ c : Int, 0 ≤ ((c.fmod 2147483629 + 7919 * (k : Int) * (k : Int) + 31) ^ (3 : Int).toNat).fmod 2147483647 := fun c => Int.fmod_nonneg_of_pos _ (by decide)
    have z1 : ∀ c : Int, ((c.fmod 2147483629 + 7919 * (k : Int) * (k : Int) + 31) ^ (3 : Int).toNat).fmod 2147483647 < 2147483647 := fun c => Int.fmod_lt_of_pos _ (by decide)
    refine ⟨_, rfl, _, rfl, _, _, rfl, .inl hS, _, _, rfl, rfl, _, rfl, ?_⟩
    refine ite2 (fun c1 => ?_) (fun c1 => ?_)
    · have hlt : k < ns.length := by
        have := of_decide_eq_true c1
        rw [List.length_map] at this
        omega
      refine ⟨_, rfl, _, rfl, a, _, _, .int ns[k], rfl, rfl, hS, atI_nat (by rw [List.getElem?_map, List.getElem?_eq_getElem hlt]; rfl), ?_⟩
      obtain ⟨k1, k2⟩ := seed_ok ns[k] k hk
      refine ⟨_, rfl, .inl ⟨_, rfl, _, _, rfl, rfl, n29, _, rfl, _, _, rfl, rfl, ⟨⟨by decide, by decide⟩, ⟨by omega, by omega⟩⟩, _, rfl, _, _, rfl, rfl, ⟨k1, ⟨by omega, by omega⟩⟩, _, _, rfl, rfl, _, _, rfl, rfl, _, _, rfl, rfl, ⟨by decide, by decide, k2⟩, _, _, rfl, rfl, n47, ?_⟩⟩
      refine ⟨_, rfl, _, _, rfl, rfl, ⟨by decide, by decide, by decide⟩, _, _, rfl, rfl, _, rfl, ?_⟩
      refine ite2 (fun c2 => ?_) (fun c2 => ?_)
      · refine ⟨_, rfl, _, rfl, (by show 2 ≤ sizeLine; decide), fun p hp => ?_⟩
        exact q p _ (Same.new hp) hp ⟨_, _, z0 ns[k], z1 ns[k], upd_same⟩
      · refine ⟨_, rfl, _, rfl, (by show 2 ≤ sizeLine; decide), fun p hp => ?_⟩
        exact q p _ (Same.new hp) hp ⟨_, _, z0 ns[k], z1 ns[k], upd_same⟩
    · obtain ⟨k1, k2⟩ := seed_ok 0 k hk
      refine ⟨_, rfl, .inl ⟨_, rfl, _, _, rfl, rfl, n29, _, rfl, _, _, rfl, rfl, ⟨⟨by decide, by decide⟩, ⟨by omega, by omega⟩⟩, _, rfl, _, _, rfl, rfl, ⟨k1, ⟨by omega, by omega⟩⟩, _, _, rfl, rfl, _, _, rfl, rfl, _, _, rfl, rfl, ⟨by decide, by decide, k2⟩, _, _, rfl, rfl, n47, ?_⟩⟩
      refine ⟨_, rfl, _, _, rfl, rfl, ⟨by decide, by decide, by decide⟩, _, _, rfl, rfl, _, rfl, ?_⟩
      refine ite2 (fun c2 => ?_) (fun c2 => ?_)
      · refine ⟨_, rfl, _, rfl, (by show 2 ≤ sizeLine; decide), fun p hp => ?_⟩
        exact q p _ (Same.new hp) hp ⟨_, _, z0 0, z1 0, upd_same⟩
      · refine ⟨_, rfl, _, rfl, (by show 2 ≤ sizeLine; decide), fun p hp => ?_⟩
        exact q p _ (Same.new hp) hp ⟨_, _, z0 0, z1 0, upd_same⟩
abbrev s__law_draw : Stmt := top 20
theorem sc__law_draw : FnScope ["_law_pool_here", "_law_many", "_law_digit"] ["_law_pool_here", "_law_many"] (defScope s__law_draw) := ⟨rfl, rfl, rfl, by decide +kernel, rfl, by decide +kernel, by decide +kernel⟩
def spDraw : Sp := fun vs H Q _ => ∃ (pp : Addr) (n : Int), vs = [.ref pp, .int n] ∧ 0 < n ∧ Sm n ∧ PoolAt H pp ∧ ∀ d H', 0 ≤ d → d < n → PoolAt H' pp → Keep pp H H' → Q (.int d) H'
theorem ok__law_draw (h : Has K mg "_law_draw" s__law_draw ["_law_pool_here", "_law_many"]) (T : Txt K mg aR) : Ok P w K mg base 1 "_law_draw" ["_law_pool_here", "_law_many"] spDraw := by
  obtain ⟨f, fd, g, b, F⟩ := h
  refine ⟨f, fd, g, F.kp, b, F.ok sc__law_draw (fun vs H Q E h => ?_) (fun cdv A outer s H vs Q E hr h => ?_)⟩
  · obtain ⟨pp, n, rfl, _⟩ := h
    rfl
  · obtain ⟨pp, n, rfl, hn, sn, ⟨c, z, z0, z1, hp⟩, q⟩ := h
    have hn0 : n ≠ 0 := by omega
    refine ⟨_, (pss_cons (ps_if (pt_cmpR op_gt (pe_ix ix_list (pv 0) pe_int (fun _ _ => rfl)) pe_int (nomark _))
      (pss_cons (ps_set (i := 2) sc__law_draw.nd rfl (Or.inl rfl) (pe_op op_modN (pe_callTy call_int1 (by rfl) T.int (by decide +kernel) (pa_cons (pe_ix ix_list (pv 0) pe_int (fun _ _ => rfl)) pa_nil)) (pv 1)))
      (pss_cons (ps_asg (pe_op op_divS (pe_ix ix_list (pv 0) pe_int (fun _ _ => rfl)) (pv 1)) (pg_sub (pv 0) pe_int set_list))
      (pss_one (ps_ret (pv 2)))))
      pss_nil)
    (pss_cons (ps_asg (pe_op op_modN (pe_callTy call_int1 (by rfl) T.int (by decide +kernel) (pa_cons (pe_op op_add (pe_op op_mulS (pe_ix ix_list (pv 0) pe_int (fun _ _ => rfl)) pe_int) pe_int) pa_nil)) pe_int) (pg_sub (pv 0) pe_int set_list))
    (pss_one (ps_ret (pe_op op_modN (pe_op op_divS (pe_op op_modN (pe_callTy call_int1 (by rfl) T.int (by decide +kernel) (pa_cons (pe_op op_mulS (pe_ix ix_list (pv 0) pe_int (fun _ _ => rfl)) (pe_ix ix_list (pv 0) pe_int (fun _ _ => rfl))) pa_nil)) pe_int) pe_int) (pv 1)))))), ?_⟩
    refine ⟨_, rfl, pp, _, _, _, rfl, rfl, SqL.of hp, atI0, _, _, rfl, rfl, _, rfl, ?_⟩
    refine ite2 (fun c1 => ?_) (fun c1 => ?_)
    · refine ⟨_, rfl, pp, _, _, _, rfl, rfl, SqL.of hp, atI0, .inl ⟨_, rfl, _, rfl, _, _, rfl, rfl, hn0, ?_⟩⟩
      refine ⟨_, rfl, pp, _, _, _, rfl, rfl, SqL.of hp, atI0, _, rfl, _, _, rfl, rfl, ⟨hn0, sn⟩, _, rfl, pp, _, _, 0, rfl, rfl, hp, rfl, ?_⟩
      refine ⟨_, rfl, ?_⟩
      exact q _ _ (Int.fmod_nonneg_of_pos _ hn) (Int.fmod_lt_of_pos _ hn) ⟨_, z, z0, z1, upd_same⟩ fun b o e nb => by
        rw [upd_ne nb]
        exact e
    · have s0 : 0 ≤ (z * 48271 + 11).fmod 2147483647 := Int.fmod_nonneg_of_pos _ (by decide)
      have s1 : (z * 48271 + 11).fmod 2147483647 < 2147483647 := Int.fmod_lt_of_pos _ (by decide)
      refine ⟨_, rfl, pp, _, _, _, rfl, rfl, SqL.of hp, atI1, _, _, rfl, rfl, ⟨⟨by omega, by omega⟩, ⟨by decide, by decide⟩⟩, _, _, rfl, rfl, .inl ⟨_, rfl, _, _, rfl, rfl, n47, _, rfl, pp, _, _, 1, rfl, rfl, hp, rfl, ?_⟩⟩
      have e2 : (upd H pp (.lst ([V.int c, V.int z].set 1 (.int ((z * 48271 + 11).fmod 2147483647))))) pp = some (.lst [V.int c, V.int ((z * 48271 + 11).fmod 2147483647)]) := upd_same
      refine ⟨_, rfl, pp, _, _, _, rfl, rfl, SqL.of e2, atI1, _, rfl, pp, _, _, _, rfl, rfl, SqL.of e2, atI1, _, _, rfl, rfl, ⟨⟨by omega, by omega⟩, ⟨by omega, by omega⟩⟩, .inl ⟨_, rfl, _, _, rfl, rfl, n29, _, _, rfl, rfl, ⟨by decide, ⟨by decide, by decide⟩⟩, _, rfl, _, _, rfl, rfl, hn0, ?_⟩⟩
      exact q _ _ (Int.fmod_nonneg_of_pos _ hn) (Int.fmod_lt_of_pos _ hn) ⟨_, _, s0, s1, e2⟩ fun b o e nb => by
        rw [upd_ne nb]
        exact e
abbrev s__law_choose : Stmt := top 21
theorem sc__law_choose : FnScope ["_law_pool_here", "_law_items"] ["_law_pool_here", "_law_items"] (defScope s__law_choose) := ⟨rfl, rfl, rfl, by decide +kernel, rfl, by decide +kernel, by decide +kernel⟩
def spChoose (K : PySem.W.Frag) : Sp := fun vs H Q _ => ∃ (pp l : Addr) (xs : List V), vs = [.ref pp, .ref l] ∧ SqL K H l xs ∧ l ≠ pp ∧ 0 < xs.length ∧ xs.length < 1000000 ∧ PoolAt H pp ∧ ∀ v H', v ∈ xs → PoolAt H' pp → Keep pp H H' → Q v H'
theorem ok__law_choose (h : Has K mg "_law_choose" s__law_choose ["_law_pool_here", "_law_items"]) (T : Txt K mg aR) (O__law_draw : Ok P w K mg base 1 "_law_draw" ["_law_pool_here", "_law_many"] spDraw) : Ok P w K mg base 2 "_law_choose" ["_law_pool_here", "_law_items"] (spChoose K) := by
  obtain ⟨f, fd, g, b, F⟩ := h
  refine ⟨f, fd, g, F.kp, b, F.ok sc__law_choose (fun vs H Q E h => ?_) (fun cdv A outer s H vs Q E hr h => ?_)⟩
  · obtain ⟨pp, l, xs, rfl, _⟩ := h
    rfl
  · obtain ⟨pp, l, xs, rfl, hS, hne, hl0, hl1, hP, q⟩ := h
    refine ⟨_, (pss_one (ps_ret (pe_ix ix_list (pv 1) (pe_cO O__law_draw (hr.mono (by decide)) pass0 rfl (pa_cons (pv 0) (pa_cons (pe_callB call_len_seq (by rfl) T.len (by decide +kernel) (pa_cons (pv 1) pa_nil)) pa_nil))) (fun _ _ => rfl)))), ?_⟩
    refine ⟨_, rfl, _, rfl, _, rfl, l, xs, rfl, .inl hS, pp, _, rfl, by omega, ⟨by omega, by omega⟩, hP, fun d H' d0 d1 P' k' => ?_⟩
    have hj : d.toNat < xs.length := by omega
    refine ⟨l, xs, d, xs[d.toNat], rfl, rfl, k'.seq hne hS, ?_, q _ H' (List.getElem_mem hj) P' k'⟩
    exact at_of (j := d.toNat) (by omega) (List.getElem?_eq_getElem hj)
end
section
variable {P : Program} {w : World} {K : PySem.W.Frag} {mg : Str → Option Value} {base : Heap} {aR : Addr}
theorem sm_b (c : Bool) : Sm (if c = true then 1 else 0) := by
  cases c <;> exact ⟨by decide, by decide⟩
def sp (b : Int) : Int := 1 - 2 * (if decide (b < 0) = true then 1 else 0)
theorem sp_of (b : Int) : b < 0 ∧ sp b = -1 ∨ 0 ≤ b ∧ sp b = 1 := by
  by_cases h : b < 0
  · exact .inl ⟨h, by unfold sp; rw [decide_eq_true h]; rfl⟩
  · exact .inr ⟨by omega, by unfold sp; rw [decide_eq_false h]; rfl⟩
theorem sp_sm (b : Int) : Sm (sp b) := by
  rcases sp_of b with ⟨_, h⟩ | ⟨_, h⟩ <;> (rw [h]; exact ⟨by decide, by decide⟩)
theorem part_of (x : Int) {b : Int} (hb : b ≠ 0) : 0 ≤ x.fmod (ab b) ∧ x.fmod (ab b) < ab b ∧ 0 < ab b := by
  have h : 0 < ab b := by
    unfold ab
    split <;> omega
  exact ⟨Int.fmod_nonneg_of_pos _ h, Int.fmod_lt_of_pos _ h, h⟩
def lp (x b : Int) (c : Bool) : Int := x.fmod (ab b) - ab b * (if c = true then 1 else 0)
theorem lp_or {x b : Int} {c : Bool} : lp x b c = x.fmod (ab b) ∨ lp x b c = x.fmod (ab b) - ab b := by
  unfold lp
  cases c
  · exact .inl (by simp)
  · exact .inr (by simp)
theorem lp_t {x b : Int} : lp x b true = x.fmod (ab b) - ab b := by unfold lp; simp
theorem lp_f {x b : Int} : lp x b false = x.fmod (ab b) := by unfold lp; simp
theorem ab_or (b : Int) : ab b = b ∧ 0 ≤ b ∨ ab b = -b ∧ b < 0 := by
  by_cases h : b < 0
  · exact .inr ⟨ab_neg h, h⟩
  · exact .inl ⟨ab_pos (by omega), by omega⟩
theorem lq_sm {x b p : Int} (hb : b ≠ 0) (mx : Md x) (mb : Md b) (hp : p = x.fmod (ab b) ∨ p = x.fmod (ab b) - ab b) : Sm ((x - p).fdiv (ab b)) := by
  have h := Int.natAbs_fdiv_le_natAbs (x - p) (ab b)
  obtain ⟨h1, h2, h3⟩ := part_of x hb
  obtain ⟨m1, m2⟩ := mx
  obtain ⟨m3, m4⟩ := mb
  have := ab_or b
  exact ⟨by omega, by omega⟩
theorem ldiv_eq {x b p : Int} (hb : b ≠ 0) (hp : p = x.fmod (ab b) ∨ p = x.fmod (ab b) - ab b) : x = (x - p).fdiv (ab b) * sp b * b + p := by
  obtain ⟨h1, h2, h3⟩ := part_of x hb
  have e := Int.mul_fdiv_add_fmod x (ab b)
  have key : ∃ m, x - p = ab b * m := by
    rcases hp with rfl | rfl
    · exact ⟨x.fdiv (ab b), by omega⟩
    · refine ⟨x.fdiv (ab b) + 1, ?_⟩
      rw [Int.mul_add, Int.mul_one]
      omega
  obtain ⟨m, em⟩ := key
  have e1 : (x - p).fdiv (ab b) = m := by
    rw [em, Int.fdiv_eq_ediv_of_nonneg _ (by omega), Int.mul_ediv_cancel_left _ (by omega)]
  rw [e1]
  have e2 : sp b * b = ab b := by
    rcases sp_of b with ⟨z, h⟩ | ⟨z, h⟩
    · rw [h, ab_neg z]
      omega
    · rw [h, ab_pos z]
      omega
  rw [Int.mul_assoc, e2, Int.mul_comm]
  omega
theorem ldiv_down {x b : Int} (hb : b ≠ 0) (c : Bool) (h1 : c = true → b < 0 ∧ 0 < x.fmod (ab b)) (h2 : c = false → ¬ (b < 0 ∧ 0 < x.fmod (ab b))) : IsDiv "down" x b ((x - lp x b c).fdiv (ab b) * sp b) (lp x b c) := by
  obtain ⟨n1, n2, n3, n4, n5, n6, n7, n8, n9, n10⟩ := five_ne
  obtain ⟨p1, p2, p3⟩ := part_of x hb
  have ho := ab_or b
  have e := ldiv_eq (p := lp x b c) hb lp_or
  cases c
  · have h2 := h2 rfl
    refine ⟨e, ?_, fun _ => ?_, fun z => absurd z n1, fun z => absurd z n2, fun z => absurd z n3, fun z => absurd z n4⟩ <;> rw [lp_f] <;> omega
  · have h1 := h1 rfl
    refine ⟨e, ?_, fun _ => ?_, fun z => absurd z n1, fun z => absurd z n2, fun z => absurd z n3, fun z => absurd z n4⟩ <;> rw [lp_t] <;> omega
theorem ldiv_up {x b : Int} (hb : b ≠ 0) (c : Bool) (h1 : c = true → 0 < b ∧ 0 < x.fmod (ab b)) (h2 : c = false → ¬ (0 < b ∧ 0 < x.fmod (ab b))) : IsDiv "up" x b ((x - lp x b c).fdiv (ab b) * sp b) (lp x b c) := by
  obtain ⟨n1, n2, n3, n4, n5, n6, n7, n8, n9, n10⟩ := five_ne
  obtain ⟨p1, p2, p3⟩ := part_of x hb
  have ho := ab_or b
  have e := ldiv_eq (p := lp x b c) hb lp_or
  cases c
  · have h2 := h2 rfl
    refine ⟨e, ?_, fun z => absurd z.symm n1, fun _ => ?_, fun z => absurd z n5, fun z => absurd z n6, fun z => absurd z n7⟩ <;> rw [lp_f] <;> omega
  · have h1 := h1 rfl
    refine ⟨e, ?_, fun z => absurd z.symm n1, fun _ => ?_, fun z => absurd z n5, fun z => absurd z n6, fun z => absurd z n7⟩ <;> rw [lp_t] <;> omega
theorem fmod_of_neg {x b : Int} (hb : b ≠ 0) (hx : 0 ≤ x) (h : x < ab b) : x.fmod (ab b) = x := by
  obtain ⟨p1, p2, p3⟩ := part_of x hb
  rw [Int.fmod_eq_emod_of_nonneg _ (by omega)]
  exact Int.emod_eq_of_lt hx h
theorem ldiv_zero {x b : Int} (hb : b ≠ 0) (c : Bool) (h1 : c = true → x < 0 ∧ 0 < x.fmod (ab b)) (h2 : c = false → ¬ (x < 0 ∧ 0 < x.fmod (ab b))) : IsDiv "zero" x b ((x - lp x b c).fdiv (ab b) * sp b) (lp x b c) := by
  obtain ⟨n1, n2, n3, n4, n5, n6, n7, n8, n9, n10⟩ := five_ne
  obtain ⟨p1, p2, p3⟩ := part_of x hb
  have ho := ab_or b
  have e := ldiv_eq (p := lp x b c) hb lp_or
  cases c
  · have h2 := h2 rfl
    refine ⟨e, ?_, fun z => absurd z.symm n2, fun z => absurd z.symm n5, fun _ => ?_, fun z => absurd z n8, fun z => absurd z n9⟩
    · rw [lp_f]
      omega
    · rw [lp_f]
      refine ⟨fun _ => p1, fun z => ?_⟩
      by_cases z0 : x = 0
      · subst z0
        rw [fmod_of_neg hb (by omega) (by omega)]
        omega
      · omega
  · have h1 := h1 rfl
    refine ⟨e, ?_, fun z => absurd z.symm n2, fun z => absurd z.symm n5, fun _ => ?_, fun z => absurd z n8, fun z => absurd z n9⟩ <;> rw [lp_t] <;> omega
theorem ldiv_near {x b : Int} (hb : b ≠ 0) (c : Bool) (h1 : c = true → ab b < 2 * x.fmod (ab b)) (h2 : c = false → ¬ ab b < 2 * x.fmod (ab b)) : IsDiv "near" x b ((x - lp x b c).fdiv (ab b) * sp b) (lp x b c) := by
  obtain ⟨n1, n2, n3, n4, n5, n6, n7, n8, n9, n10⟩ := five_ne
  obtain ⟨p1, p2, p3⟩ := part_of x hb
  have ho := ab_or b
  have e := ldiv_eq (p := lp x b c) hb lp_or
  cases c
  · have h2 := h2 rfl
    refine ⟨e, ?_, fun z => absurd z.symm n4, fun z => absurd z.symm n7, fun z => absurd z.symm n9, fun z => absurd z.symm n10, fun _ => ?_⟩ <;> rw [lp_f] <;> omega
  · have h1 := h1 rfl
    refine ⟨e, ?_, fun z => absurd z.symm n4, fun z => absurd z.symm n7, fun z => absurd z.symm n9, fun z => absurd z.symm n10, fun _ => ?_⟩ <;> rw [lp_t] <;> omega
theorem ldiv_positive {x b : Int} (hb : b ≠ 0) : IsDiv "positive" x b ((x - x.fmod (ab b)).fdiv (ab b) * sp b) (x.fmod (ab b)) := by
  obtain ⟨n1, n2, n3, n4, n5, n6, n7, n8, n9, n10⟩ := five_ne
  obtain ⟨p1, p2, p3⟩ := part_of x hb
  have ho := ab_or b
  exact ⟨ldiv_eq hb (.inl rfl), by omega, fun z => absurd z.symm n3, fun z => absurd z.symm n6, fun z => absurd z.symm n8, fun _ => p1, fun z => absurd z n10⟩
abbrev s__law_divide : Stmt := top 22
theorem sc__law_divide : FnScope ["_law_rule", "_law_x", "_law_base", "_law_size", "_law_spun", "_law_part"] ["_law_rule", "_law_x", "_law_base"] (defScope s__law_divide) := ⟨rfl, rfl, rfl, by decide +kernel, rfl, by decide +kernel, by decide +kernel⟩
theorem ok__law_divide (h : Has K mg "_law_divide" s__law_divide ["_law_rule", "_law_x", "_law_base"]) (T : Txt K mg aR) : Ok P w K mg base 1 "_law_divide" ["_law_rule", "_law_x", "_law_base"] spDivide := by
  obtain ⟨f, fd, g, b, F⟩ := h
  refine ⟨f, fd, g, F.kp, b, F.ok sc__law_divide (fun vs H Q E h => ?_) (fun cdv A outer s H vs Q E hr h => ?_)⟩
  · obtain ⟨r, i, b, rfl, _⟩ := h
    rfl
  · obtain ⟨r, x, b, rfl, h5, hb, mx, mb, q⟩ := h
    obtain ⟨p1, p2, p3⟩ := part_of x hb
    have hs0 : ab b ≠ 0 := by omega
    have hsz : Sm (ab b) := sm_ab mb.sm
    refine ⟨_, (pss_cons (ps_par (by rfl) sc__law_divide.nd (i := 3) (j := 4) rfl rfl (by decide) rfl rfl (pa_cons (pe_callB call_abs (by rfl) T.abs (by decide +kernel) (pa_cons (pv 2) pa_nil)) (pa_cons (pe_op op_sub pe_int (pe_op op_mulS pe_int (pe_callTy call_int1 (by rfl) T.int (by decide +kernel) (pa_cons (pe_cmpR op_lt (pv 2) pe_int (nomark _)) pa_nil)))) pa_nil)) (by rfl))
    (pss_cons (ps_set (i := 5) sc__law_divide.nd rfl (Or.inl rfl) (pe_op op_modN (pe_callTy call_int1 (by rfl) T.int (by decide +kernel) (pa_cons (pv 1) pa_nil)) (pv 3)))
    (pss_cons (ps_if (pt_cmpR op_eq (pv 0) pe_str (nomark _))
      (pss_one (ps_set (i := 5) sc__law_divide.nd rfl (Or.inl rfl) (pe_op op_sub (pv 5) (pe_op op_mulS (pv 3) (pe_callTy call_int1 (by rfl) T.int (by decide +kernel) (pa_cons (pe_and (pe_cmpR op_lt (pv 2) pe_int (nomark _)) (pe_one (pe_cmpR op_gt (pv 5) pe_int (nomark _)))) pa_nil))))))
      (pss_one (ps_if (pt_cmpR op_eq (pv 0) pe_str (nomark _))
        (pss_one (ps_set (i := 5) sc__law_divide.nd rfl (Or.inl rfl) (pe_op op_sub (pv 5) (pe_op op_mulS (pv 3) (pe_callTy call_int1 (by rfl) T.int (by decide +kernel) (pa_cons (pe_and (pe_cmpR op_gt (pv 2) pe_int (nomark _)) (pe_one (pe_cmpR op_gt (pv 5) pe_int (nomark _)))) pa_nil))))))
        (pss_one (ps_if (pt_cmpR op_eq (pv 0) pe_str (nomark _))
          (pss_one (ps_set (i := 5) sc__law_divide.nd rfl (Or.inl rfl) (pe_op op_sub (pv 5) (pe_op op_mulS (pv 3) (pe_callTy call_int1 (by rfl) T.int (by decide +kernel) (pa_cons (pe_and (pe_cmpR op_lt (pv 1) pe_int (nomark _)) (pe_one (pe_cmpR op_gt (pv 5) pe_int (nomark _)))) pa_nil))))))
          (pss_one (ps_if (pt_cmpR op_eq (pv 0) pe_str (nomark _))
            (pss_one (ps_set (i := 5) sc__law_divide.nd rfl (Or.inl rfl) (pe_op op_sub (pv 5) (pe_op op_mulS (pv 3) (pe_callTy call_int1 (by rfl) T.int (by decide +kernel) (pa_cons (pe_cmpR op_gt (pe_op op_mulS pe_int (pv 5)) (pv 3) (nomark _)) pa_nil))))))
            pss_nil)))))))
    (pss_one (ps_ret (pe_tup (pa_cons (pe_op op_mulS (pe_op op_divS (pe_op op_sub (pv 1) (pv 5)) (pv 3)) (pv 4)) (pa_cons (pv 5) pa_nil)))))))), ?_⟩
    refine ⟨_, rfl, _, rfl, _, rfl, _, _, rfl, rfl, .inr ⟨_, rfl, _, _, rfl, rfl, ⟨sm_two, sm_b _⟩, _, _, rfl, rfl, _, _, rfl, ?_⟩⟩
    refine ⟨_, rfl, .inl ⟨_, rfl, _, rfl, _, _, rfl, rfl, hs0, ?_⟩⟩
    have tt : ∀ z : Str, decide (V.str z = V.str z) = true := fun z => decide_eq_true rfl
    simp only [five, List.mem_cons, List.not_mem_nil, or_false] at h5
    rcases h5 with rfl | rfl | rfl | rfl | rfl
    · refine ⟨_, rfl, rfl, _, rfl, ?_⟩
      refine iteP (tt _) ?_
      refine ⟨_, rfl, _, rfl, _, rfl, _, _, rfl, rfl, _, rfl, ?_⟩
      refine ite2 (fun c1 => ?_) (fun c1 => ?_)
      · have c1 := of_decide_eq_true c1
        refine ⟨_, rfl, _, _, rfl, rfl, .inr ⟨_, rfl, _, _, rfl, rfl, ⟨sm_ab mb.sm, sm_b _⟩, _, _, rfl, rfl, ?_⟩⟩
        refine ⟨_, rfl, _, rfl, _, _, rfl, rfl, _, rfl, _, _, rfl, rfl, ⟨hs0, hsz⟩, _, rfl, _, _, rfl, rfl, ⟨lq_sm hb mx mb (lp_or (c := (decide (0 < x.fmod (ab b))))), sp_sm b⟩, _, rfl, (by show 2 ≤ sizeLine; decide), fun p hp => q _ _ p (ldiv_down hb (decide (0 < x.fmod (ab b))) (fun z => ⟨c1, of_decide_eq_true z⟩) (fun z h => of_decide_eq_false z h.2)) hp⟩
      · have c1 := fun z => c1 (decide_eq_true z)
        refine .inr ⟨_, rfl, _, _, rfl, rfl, ⟨sm_ab mb.sm, sm_b _⟩, _, _, rfl, rfl, ?_⟩
        refine ⟨_, rfl, _, rfl, _, _, rfl, rfl, _, rfl, _, _, rfl, rfl, ⟨hs0, hsz⟩, _, rfl, _, _, rfl, rfl, ⟨lq_sm hb mx mb (lp_or (c := false)), sp_sm b⟩, _, rfl, (by show 2 ≤ sizeLine; decide), fun p hp => q _ _ p (ldiv_down hb false (fun z => nomatch z) (fun _ h => c1 h.1)) hp⟩
    · refine ⟨_, rfl, rfl, _, rfl, ?_⟩
      refine iteN (sne (by decide +kernel)) ?_
      refine ⟨_, rfl, rfl, _, rfl, ?_⟩
      refine iteP (tt _) ?_
      refine ⟨_, rfl, _, rfl, _, rfl, _, _, rfl, rfl, _, rfl, ?_⟩
      refine ite2 (fun c1 => ?_) (fun c1 => ?_)
      · have c1 := of_decide_eq_true c1
        refine ⟨_, rfl, _, _, rfl, rfl, .inr ⟨_, rfl, _, _, rfl, rfl, ⟨sm_ab mb.sm, sm_b _⟩, _, _, rfl, rfl, ?_⟩⟩
        refine ⟨_, rfl, _, rfl, _, _, rfl, rfl, _, rfl, _, _, rfl, rfl, ⟨hs0, hsz⟩, _, rfl, _, _, rfl, rfl, ⟨lq_sm hb mx mb (lp_or (c := (decide (0 < x.fmod (ab b))))), sp_sm b⟩, _, rfl, (by show 2 ≤ sizeLine; decide), fun p hp => q _ _ p (ldiv_up hb (decide (0 < x.fmod (ab b))) (fun z => ⟨c1, of_decide_eq_true z⟩) (fun z h => of_decide_eq_false z h.2)) hp⟩
      · have c1 := fun z => c1 (decide_eq_true z)
        refine .inr ⟨_, rfl, _, _, rfl, rfl, ⟨sm_ab mb.sm, sm_b _⟩, _, _, rfl, rfl, ?_⟩
        refine ⟨_, rfl, _, rfl, _, _, rfl, rfl, _, rfl, _, _, rfl, rfl, ⟨hs0, hsz⟩, _, rfl, _, _, rfl, rfl, ⟨lq_sm hb mx mb (lp_or (c := false)), sp_sm b⟩, _, rfl, (by show 2 ≤ sizeLine; decide), fun p hp => q _ _ p (ldiv_up hb false (fun z => nomatch z) (fun _ h => c1 h.1)) hp⟩
    · refine ⟨_, rfl, rfl, _, rfl, ?_⟩
      refine iteN (sne (by decide +kernel)) ?_
      refine ⟨_, rfl, rfl, _, rfl, ?_⟩
      refine iteN (sne (by decide +kernel)) ?_
      refine ⟨_, rfl, rfl, _, rfl, ?_⟩
      refine iteP (tt _) ?_
      refine ⟨_, rfl, _, rfl, _, rfl, _, _, rfl, rfl, _, rfl, ?_⟩
      refine ite2 (fun c1 => ?_) (fun c1 => ?_)
      · have c1 := of_decide_eq_true c1
        refine ⟨_, rfl, _, _, rfl, rfl, .inr ⟨_, rfl, _, _, rfl, rfl, ⟨sm_ab mb.sm, sm_b _⟩, _, _, rfl, rfl, ?_⟩⟩
        refine ⟨_, rfl, _, rfl, _, _, rfl, rfl, _, rfl, _, _, rfl, rfl, ⟨hs0, hsz⟩, _, rfl, _, _, rfl, rfl, ⟨lq_sm hb mx mb (lp_or (c := (decide (0 < x.fmod (ab b))))), sp_sm b⟩, _, rfl, (by show 2 ≤ sizeLine; decide), fun p hp => q _ _ p (ldiv_zero hb (decide (0 < x.fmod (ab b))) (fun z => ⟨c1, of_decide_eq_true z⟩) (fun z h => of_decide_eq_false z h.2)) hp⟩
      · have c1 := fun z => c1 (decide_eq_true z)
        refine .inr ⟨_, rfl, _, _, rfl, rfl, ⟨sm_ab mb.sm, sm_b _⟩, _, _, rfl, rfl, ?_⟩
        refine ⟨_, rfl, _, rfl, _, _, rfl, rfl, _, rfl, _, _, rfl, rfl, ⟨hs0, hsz⟩, _, rfl, _, _, rfl, rfl, ⟨lq_sm hb mx mb (lp_or (c := false)), sp_sm b⟩, _, rfl, (by show 2 ≤ sizeLine; decide), fun p hp => q _ _ p (ldiv_zero hb false (fun z => nomatch z) (fun _ h => c1 h.1)) hp⟩
    · refine ⟨_, rfl, rfl, _, rfl, ?_⟩
      refine iteN (sne (by decide +kernel)) ?_
      refine ⟨_, rfl, rfl, _, rfl, ?_⟩
      refine iteN (sne (by decide +kernel)) ?_
      refine ⟨_, rfl, rfl, _, rfl, ?_⟩
      refine iteN (sne (by decide +kernel)) ?_
      refine ⟨_, rfl, rfl, _, rfl, ?_⟩
      refine iteN (sne (by decide +kernel)) ?_
      refine ⟨_, rfl, _, rfl, _, _, rfl, rfl, _, rfl, _, _, rfl, rfl, ⟨hs0, hsz⟩, _, rfl, _, _, rfl, rfl, ⟨lq_sm hb mx mb (.inl rfl), sp_sm b⟩, _, rfl, (by show 2 ≤ sizeLine; decide), fun p hp => q _ _ p (ldiv_positive hb) hp⟩
    · refine ⟨_, rfl, rfl, _, rfl, ?_⟩
      refine iteN (sne (by decide +kernel)) ?_
      refine ⟨_, rfl, rfl, _, rfl, ?_⟩
      refine iteN (sne (by decide +kernel)) ?_
      refine ⟨_, rfl, rfl, _, rfl, ?_⟩
      refine iteN (sne (by decide +kernel)) ?_
      refine ⟨_, rfl, rfl, _, rfl, ?_⟩
      refine iteP (tt _) ?_
      have hpm : Sm (x.fmod (ab b)) := by
        obtain ⟨m1, m2⟩ := hsz
        exact ⟨by omega, by omega⟩
      refine ⟨_, rfl, _, rfl, _, rfl, _, _, rfl, rfl, ⟨sm_two, hpm⟩, _, rfl, _, _, rfl, rfl, .inr ⟨_, rfl, _, _, rfl, rfl, ⟨sm_ab mb.sm, sm_b _⟩, _, _, rfl, rfl, ?_⟩⟩
      refine ⟨_, rfl, _, rfl, _, _, rfl, rfl, _, rfl, _, _, rfl, rfl, ⟨hs0, hsz⟩, _, rfl, _, _, rfl, rfl, ⟨lq_sm hb mx mb (lp_or (c := (decide (ab b < 2 * x.fmod (ab b))))), sp_sm b⟩, _, rfl, (by show 2 ≤ sizeLine; decide), fun p hp => q _ _ p (ldiv_near hb (decide (ab b < 2 * x.fmod (ab b))) (fun z => of_decide_eq_true z) (fun z h => of_decide_eq_false z h)) hp⟩
end
section
variable {P : Program} {w : World} {K : PySem.W.Frag} {mg : Str → Option Value} {base : Heap} {aR : Addr}
theorem shaped2 (a b : Int) : SeqAt.shaped (.tuple [.int a, .int b]) = true := rfl
theorem eqv2 {a b c d : Int} (h : a = c) (g : b = d) : PyData.eqv (.tuple [.int a, .int b]) (.tuple [.int c, .int d]) = true := by
  subst h
  subst g
  exact PySem.SeqAt.eqv_refl _ rfl
theorem dp2 {H : Hp} {p : Addr} {a b : Int} (h : H p = some (.tup [.int a, .int b])) : Dp K H (.ref p) (.tuple [.int a, .int b]) := .tup (SqT.of h) (.cons (.int _) (.cons (.int _) .nil))
abbrev s__law_number : Stmt := top 23
theorem sc__law_number : FnScope ["_law_pool_here", "_law_some"] ["_law_pool_here"] (defScope s__law_number) := ⟨rfl, rfl, rfl, by decide +kernel, rfl, by decide +kernel, by decide +kernel⟩
def spNumber : Sp := fun vs H Q _ => ∃ pp, vs = [.ref pp] ∧ PoolAt H pp ∧ ∀ x H', -(10 ^ 20) ≤ x → x ≤ 10 ^ 20 → PoolAt H' pp → Keep pp H H' → Q (.int x) H'
theorem ok__law_number (h : Has K mg "_law_number" s__law_number ["_law_pool_here"]) (O__law_draw : Ok P w K mg base 1 "_law_draw" ["_law_pool_here", "_law_many"] spDraw)
    (O__law_choose : Ok P w K mg base 2 "_law_choose" ["_law_pool_here", "_law_items"] (spChoose K)) : Ok P w K mg base 3 "_law_number" ["_law_pool_here"] spNumber := by
  obtain ⟨f, fd, g, b, F⟩ := h
  refine ⟨f, fd, g, F.kp, b, F.ok sc__law_number (fun vs H Q E h => ?_) (fun cdv A outer s H vs Q E hr h => ?_)⟩
  · obtain ⟨pp, rfl, _⟩ := h
    rfl
  · obtain ⟨pp, rfl, hP, q⟩ := h
    refine ⟨_, (pss_cons (ps_set (i := 1) sc__law_number.nd rfl (Or.inl rfl) (pe_lst (pa_cons (pe_op op_sub (pe_cO O__law_draw (hr.mono (by decide)) pass0 rfl (pa_cons (pv 0) (pa_cons pe_int pa_nil))) pe_int) (pa_cons (pe_op op_sub (pe_cO O__law_draw (hr.mono (by decide)) pass0 rfl (pa_cons (pv 0) (pa_cons pe_int pa_nil))) pe_int) (pa_cons (pe_op op_sub (pe_cO O__law_draw (hr.mono (by decide)) pass0 rfl (pa_cons (pv 0) (pa_cons (pe_op op_pow pe_int pe_int) pa_nil))) (pe_op op_pow pe_int pe_int)) pa_nil)))))
    (pss_one (ps_ret (pe_cO O__law_choose (hr.mono (by decide)) pass0 rfl (pa_cons (pv 0) (pa_cons (pv 1) pa_nil)))))), ?_⟩
    refine ⟨_, rfl, pp, _, rfl, (by decide), ⟨by decide, by decide⟩, hP, fun d0 H1 a0 b0 P1 k1 => ?_⟩
    refine ⟨_, _, rfl, rfl, ?_⟩
    refine ⟨_, rfl, pp, _, rfl, (by decide), ⟨by decide, by decide⟩, P1, fun d1 H2 a1 b1 P2 k2 => ?_⟩
    refine ⟨_, _, rfl, rfl, ?_⟩
    refine ⟨_, rfl, _, _, rfl, rfl, ⟨by decide, by decide, by decide⟩, pp, _, rfl, (by decide), ⟨by decide, by decide⟩, P2, fun d2 H3 a2 b2 P3 k3 => ?_⟩
    have b2 : d2 < 10 ^ 20 := b2
    refine ⟨_, _, rfl, rfl, ⟨by decide, by decide, by decide⟩, _, _, rfl, rfl, (by show 3 ≤ sizeLine; decide), fun l hl => ?_⟩
    have k4 : Keep pp H (upd H3 l (.lst [.int (d0 - 20), .int (d1 - 1000), .int (d2 - 10 ^ (19 : Int).toNat)])) := ((k1.trans k2).trans k3).trans (Same.keep (Same.new hl))
    refine ⟨_, rfl, _, rfl, pp, l, _, rfl, SqL.of upd_same, P3.ne hl, (by show 0 < 3; decide), (by show 3 < 1000000; decide), P3.same (Same.new hl), fun v H' hv P' k' => ?_⟩
    have e19 : (10 : Int) ^ (19 : Int).toNat = 10 ^ 19 := rfl
    simp only [List.mem_cons, List.not_mem_nil, or_false] at hv
    rcases hv with rfl | rfl | rfl
    · exact q _ H' (by omega) (by omega) P' (k4.trans k')
    · exact q _ H' (by omega) (by omega) P' (k4.trans k')
    · exact q (d2 - 10 ^ 19) H' (by omega) (by omega) P' (k4.trans k')
end
/-! ### desks, wholes, blocks: what stands where -/
def DeskF (r : Str) : List (Str × V) := [("_rule", .str r)]
def DeskAt (CD : Addr) (H : Hp) (d : Addr) (r : Str) : Prop := (∃ dx, H d = some (.ins CD dx (DeskF r))) ∧ r ∈ five
def WholeF (d : Addr) (n : Int) : List (Str × V) := [("_desk", .ref d), ("_amount", .int n)]
def WholeAt (CW : Addr) (H : Hp) (x d : Addr) (n : Int) : Prop := ∃ dx, H x = some (.ins CW dx (WholeF d n))
def BlockF (d : Addr) (r : Str) (e : V) : List (Str × V) := [("_desk", .ref d), ("_rule", .str r), ("_elder", e)]
def BlockAt (CB : Addr) (H : Hp) (b d : Addr) (r : Str) (e : V) : Prop := ∃ dx, H b = some (.ins CB dx (BlockF d r e))
theorem DeskAt.same {CD : Addr} {H H' : Hp} {d : Addr} {r : Str} (h : DeskAt CD H d r) (s : Same H H') : DeskAt CD H' d r := by
  obtain ⟨⟨dx, e⟩, m⟩ := h
  exact ⟨⟨dx, s _ _ e⟩, m⟩
theorem WholeAt.same {CW : Addr} {H H' : Hp} {x d : Addr} {n : Int} (h : WholeAt CW H x d n) (s : Same H H') : WholeAt CW H' x d n := by
  obtain ⟨dx, e⟩ := h
  exact ⟨dx, s _ _ e⟩
/-- an integer, or a whole, that amounts to n -/
def Amt (CW : Addr) (H : Hp) (y : V) (n : Int) : Prop := y = .int n ∨ ∃ x d, y = .ref x ∧ WholeAt CW H x d n
theorem Amt.same {CW : Addr} {H H' : Hp} {y : V} {n : Int} (h : Amt CW H y n) (s : Same H H') : Amt CW H' y n := by
  rcases h with h | ⟨x, d, e, h⟩
  · exact .inl h
  · exact .inr ⟨x, d, e, h.same s⟩
/-- whether a value is a rule -/
def RuleV (K : PySem.W.Frag) (H : Hp) (v : V) (b : Bool) : Prop := (∃ r, v = .str r ∧ r ∈ five ∧ b = true) ∨ (∃ r, v = .str r ∧ inV (.str r) (five.map V.str) = false ∧ b = false) ∨ (∃ t, TyX K H v t ∧ PySem.W.kitOne K t (.type "str") = some false ∧ b = false)
/-- what the text's top has of the classes -/
structure DTx (K : PySem.W.Frag) (mg : Str → Option Value) (CB CD CW : Addr) : Prop where
  mB : mg "RuleBlock" = some (.ref CB)
  mD : mg "Desk" = some (.ref CD)
  mW : mg "Whole" = some (.ref CW)
  clB : Cls K CB
  clD : Cls K CD
  clW : Cls K CW
  bD : NoAttr K CB "_desk"
  bR : NoAttr K CB "_rule"
  bE : NoAttr K CB "_elder"
  dR : NoAttr K CD "_rule"
  wD : NoAttr K CW "_desk"
  wA : NoAttr K CW "_amount"
  c1 : PySem.W.findIn K (.ref CW) "__class__" = some (some (.builtin "object.__class__"))
  c2 : PySem.W.specialIn K (.builtin "object.__class__") "__get__" = some (some (.builtin "getset_descriptor.__get__"))
  c3 : PySem.W.takesIn K (.builtin "object.__class__") = some true
  c4 : PySem.W.mroIn K CW (.type "object") = some true
  kWI : PySem.W.kitOne K (.ref CW) (.type "int") = some false
  kWW : PySem.W.kitOne K (.ref CW) (.ref CW) = some true
  kIW : PySem.W.kitOne K (.type "int") (.ref CW) = some false
section
variable {P : Program} {w : World} {K : PySem.W.Frag} {mg : Str → Option Value} {base : Heap} {aR CB CD CW : Addr}
theorem DTx.ty (T : DTx K mg CB CD CW) {H : Hp} {a dx : Addr} {fs : List (Str × V)} (e : H a = some (.ins CW dx fs)) : TyX K H (.ref a) (.ref CW) := .base (.ins e T.clW T.c1 T.c2 T.c3 T.c4)
def spRuleA (K : PySem.W.Frag) : Sp := fun vs H Q _ => ∃ v b, vs = [v] ∧ RuleV K H v b ∧ Q (.bl b) H
theorem ok_is_ruleA (h : Has K mg "is_rule" s_is_rule ["value"]) (T : Txt K mg aR) : Ok P w K mg base 1 "is_rule" ["value"] (spRuleA K) := by
  obtain ⟨f, fd, g, b, F⟩ := h
  refine ⟨f, fd, g, F.kp, b, F.ok sc_is_rule (fun vs H Q E h => ?_) (fun cdv A outer s H vs Q E hr h => ?_)⟩
  · obtain ⟨v, b, rfl, _⟩ := h
    rfl
  · obtain ⟨v, b, rfl, rv, q⟩ := h
    refine ⟨_, (pss_one (ps_ret (pe_and (pe_callB call_isi (by rfl) T.isinstance (by decide +kernel) (pa_cons (pv 0) (pa_cons (pe_bltn (v := .ty "str") (by rfl) T.str (by decide +kernel) rfl) pa_nil))) (pe_one (pe_cmpR op_in_seq (pv 0) (pe_glob (v := .ref aR) rfl T.gRULES rfl) (by rfl)))))), ?_⟩
    rcases rv with ⟨r, rfl, m, rfl⟩ | ⟨r, rfl, m, rfl⟩ | ⟨t, ty, k, rfl⟩
    · refine ⟨_, rfl, _, _, _, _, _, rfl, .ty _, .base (.str _), kStrStr, _, rfl, iteT ?_⟩
      refine ⟨_, rfl, _, _, rfl, .inr (T.tRULES _), rfl, rfl, ?_⟩
      show Q (.bl (inV (.str r) (five.map V.str))) H
      rw [in_five m]
      exact q
    · refine ⟨_, rfl, _, _, _, _, _, rfl, .ty _, .base (.str _), kStrStr, _, rfl, iteT ?_⟩
      refine ⟨_, rfl, _, _, rfl, .inr (T.tRULES _), rfl, rfl, ?_⟩
      show Q (.bl (inV (.str r) (five.map V.str))) H
      rw [m]
      exact q
    · refine ⟨_, rfl, _, _, _, _, _, rfl, .ty _, ty, k, _, rfl, ?_⟩
      exact iteF q
def spIntA (K : PySem.W.Frag) : Sp := fun vs H Q _ => ∃ v b, vs = [v] ∧ IntV K H v b ∧ Q (.bl b) H
theorem ok_is_integerA (h : Has K mg "is_integer" s_is_integer ["value"]) (T : Txt K mg aR) : Ok P w K mg base 1 "is_integer" ["value"] (spIntA K) := by
  obtain ⟨f, fd, g, b, F⟩ := h
  refine ⟨f, fd, g, F.kp, b, F.ok sc_is_integer (fun vs H Q E h => ?_) (fun cdv A outer s H vs Q E hr h => ?_)⟩
  · obtain ⟨v, b, rfl, _⟩ := h
    rfl
  · obtain ⟨v, b, rfl, iv, q⟩ := h
    refine ⟨_, (pss_one (ps_ret (pe_and (pe_callB call_isi (by rfl) T.isinstance (by decide +kernel) (pa_cons (pv 0) (pa_cons (pe_bltn (v := .ty "int") (by rfl) T.int (by decide +kernel) rfl) pa_nil))) (pe_one (pe_not (pe_callB call_isi (by rfl) T.isinstance (by decide +kernel) (pa_cons (pv 0) (pa_cons (pe_bltn (v := .ty "bool") (by rfl) T.bool (by decide +kernel) rfl) pa_nil)))))))), ?_⟩
    rcases iv with ⟨i, rfl, rfl⟩ | ⟨x, rfl, rfl⟩ | ⟨t, ty, k, rfl⟩
    · refine ⟨_, rfl, _, _, _, _, _, rfl, .ty _, .base (.int _), kIntInt, _, rfl, ?_⟩
      refine iteT ?_
      exact ⟨_, rfl, _, _, _, _, _, rfl, .ty _, .base (.int _), kIntBool, _, rfl, q⟩
    · refine ⟨_, rfl, _, _, _, _, _, rfl, .ty _, .base (.bl _), kBoolInt, _, rfl, ?_⟩
      refine iteT ?_
      exact ⟨_, rfl, _, _, _, _, _, rfl, .ty _, .base (.bl _), kBoolBool, _, rfl, q⟩
    · refine ⟨_, rfl, _, _, _, _, _, rfl, .ty _, ty, k, _, rfl, ?_⟩
      exact iteF q
/-! ### is_amount, amount_of; the property amount -/
abbrev s_is_amount : Stmt := top 16
theorem sc_is_amount : FnScope ["value"] ["value"] (defScope s_is_amount) := ⟨rfl, rfl, rfl, by decide +kernel, rfl, by decide +kernel, by decide +kernel⟩
def spIsAmt (CW : Addr) : Sp := fun vs H Q _ => ∃ v n, vs = [v] ∧ Amt CW H v n ∧ Q (.bl true) H
theorem ok_is_amount (h : Has K mg "is_amount" s_is_amount ["value"]) (T : Txt K mg aR) (D : DTx K mg CB CD CW) (O_is_integer : Ok P w K mg base 1 "is_integer" ["value"] (spIntA K)) : Ok P w K mg base 2 "is_amount" ["value"] (spIsAmt CW) := by
  obtain ⟨f, fd, g, b, F⟩ := h
  refine ⟨f, fd, g, F.kp, b, F.ok sc_is_amount (fun vs H Q E h => ?_) (fun cdv A outer s H vs Q E hr h => ?_)⟩
  · obtain ⟨v, n, rfl, _⟩ := h
    rfl
  · obtain ⟨v, n, rfl, m, q⟩ := h
    refine ⟨_, (pss_one (ps_ret (pe_or (pe_cO O_is_integer (hr.mono (by decide)) pass0 rfl (pa_cons (pv 0) pa_nil)) (pe_one (pe_callB call_isi (by rfl) T.isinstance (by decide +kernel) (pa_cons (pv 0) (pa_cons (pe_glob (v := .ref CW) (by rfl) D.mW rfl) pa_nil))))))), ?_⟩
    rcases m with rfl | ⟨x, d, rfl, dx, e⟩
    · exact ⟨_, rfl, _, _, rfl, .inl ⟨n, rfl, rfl⟩, _, rfl, iteT q⟩
    · refine ⟨_, rfl, _, _, rfl, .inr (.inr ⟨_, D.ty e, D.kWI, rfl⟩), _, rfl, iteF ?_⟩
      exact ⟨_, rfl, _, _, _, _, _, rfl, .own _, D.ty e, D.kWW, q⟩
abbrev s_Whole_amount : Stmt := inClass (top 15) 1
theorem sc_Whole_amount : FnScope ["self"] ["self"] (defScope s_Whole_amount) := ⟨rfl, rfl, rfl, by decide +kernel, rfl, by decide +kernel, by decide +kernel⟩
def spAmount (CW : Addr) : Sp := fun vs H Q _ => ∃ x d n, vs = [.ref x] ∧ WholeAt CW H x d n ∧ Q (.int n) H
theorem ok_Whole_amount (h : PFun K CW "amount" "Whole.amount" s_Whole_amount) (D : DTx K mg CB CD CW) : OwnP P w K mg base CW 1 "amount" (spAmount CW) := by
  obtain ⟨p, g, fd, hp, F, b⟩ := h
  refine ⟨p, g, fd, hp, b, F.okX sc_Whole_amount (fun vs H Q E h => ?_) (fun cdv A outer s H vs Q E hr h => ?_)⟩
  · obtain ⟨x, d, n, rfl, _⟩ := h
    rfl
  · obtain ⟨x, d, n, rfl, ⟨dx, e⟩, z⟩ := h
    exact ⟨_, pss_one (ps_ret (pe_fld (pv 0) rfl)), _, rfl, x, CW, dx, _, _, rfl, e, D.clW, D.wA, rfl, z⟩
abbrev s_amount_of : Stmt := top 17
theorem sc_amount_of : FnScope ["value"] ["value"] (defScope s_amount_of) := ⟨rfl, rfl, rfl, by decide +kernel, rfl, by decide +kernel, by decide +kernel⟩
def spAmtOf (CW : Addr) : Sp := fun vs H Q _ => ∃ v n, vs = [v] ∧ Amt CW H v n ∧ Q (.int n) H
theorem ok_amount_of (h : Has K mg "amount_of" s_amount_of ["value"]) (T : Txt K mg aR) (D : DTx K mg CB CD CW) (pA : OwnP P w K mg base CW 1 "amount" (spAmount CW)) : OkX P w K mg base 3 "amount_of" ["value"] (spAmtOf CW) := by
  obtain ⟨f, fd, g, b, F⟩ := h
  refine ⟨f, fd, g, F.kp, b, F.okX sc_amount_of (fun vs H Q E h => ?_) (fun cdv A outer s H vs Q E hr h => ?_)⟩
  · obtain ⟨v, n, rfl, _⟩ := h
    rfl
  · obtain ⟨v, n, rfl, m, q⟩ := h
    refine ⟨_, (pss_one (ps_ret (pe_ifExp (pt_val (pe_callB call_isi (by rfl) T.isinstance (by decide +kernel) (pa_cons (pv 0) (pa_cons (pe_glob (v := .ref CW) (by rfl) D.mW rfl) pa_nil)))) (pe_propO (pv 0) D.clW pA (hr.mono (by decide)) passL) (pv 0)))), ?_⟩
    rcases m with rfl | ⟨x, d, rfl, dx, e⟩
    · exact ⟨_, rfl, _, _, _, _, _, rfl, .own _, .base (.int _), D.kIW, _, rfl, iteF ⟨_, rfl, q⟩⟩
    · exact ⟨_, rfl, _, _, _, _, _, rfl, .own _, D.ty e, D.kWW, _, rfl, iteT ⟨_, rfl, x, dx, _, rfl, e, x, d, n, rfl, ⟨dx, e⟩, q⟩⟩
end
/-! ### Desk.rule; wholes: __init__, _divided, parts and the operators -/
section
variable {P : Program} {w : World} {K : PySem.W.Frag} {mg : Str → Option Value} {base : Heap} {aR CB CD CW CZ : Addr}
abbrev s_Desk_rule : Stmt := inClass (top 14) 1
theorem sc_Desk_rule : FnScope ["self"] ["self"] (defScope s_Desk_rule) := ⟨rfl, rfl, rfl, by decide +kernel, rfl, by decide +kernel, by decide +kernel⟩
def spRule (CD : Addr) : Sp := fun vs H Q _ => ∃ d r, vs = [.ref d] ∧ DeskAt CD H d r ∧ Q (.str r) H
theorem ok_Desk_rule (h : PFun K CD "rule" "Desk.rule" s_Desk_rule) (D : DTx K mg CB CD CW) : OwnP P w K mg base CD 1 "rule" (spRule CD) := by
  obtain ⟨p, g, fd, hp, F, b⟩ := h
  refine ⟨p, g, fd, hp, b, F.okX sc_Desk_rule (fun vs H Q E h => ?_) (fun cdv A outer s H vs Q E hr h => ?_)⟩
  · obtain ⟨d, r, rfl, _⟩ := h
    rfl
  · obtain ⟨d, r, rfl, ⟨⟨dx, e⟩, _⟩, z⟩ := h
    exact ⟨_, pss_one (ps_ret (pe_fld (pv 0) rfl)), _, rfl, d, CD, dx, _, _, rfl, e, D.clD, D.dR, rfl, z⟩
abbrev s_Whole___init__ : Stmt := inClass (top 15) 0
theorem sc_Whole___init__ : FnScope ["self", "desk", "amount"] ["self", "desk", "amount"] (defScope s_Whole___init__) := ⟨rfl, rfl, rfl, by decide +kernel, rfl, by decide +kernel, by decide +kernel⟩
def spWInit (CW : Addr) : Sp := fun vs H Q _ => ∃ (a dx d : Addr) (n : Int), vs = [.ref a, .ref d, .int n] ∧ H a = some (.ins CW dx []) ∧ Q .non (upd H a (.ins CW dx (WholeF d n)))
theorem ok_Whole_init {fI : Addr} {fd : FuncData} (F : Fun K "__init__" "Whole.__init__" s_Whole___init__ fI fd) (D : DTx K mg CB CD CW) : FnOk P w K mg base (L2.CX P w) 1 fI fd ["self", "desk", "amount"] (spWInit CW) := by
  refine F.okX sc_Whole___init__ (fun vs H Q E h => ?_) (fun cdv A outer s H vs Q E hr h => ?_)
  · obtain ⟨a, dx, d, n, rfl, _⟩ := h
    rfl
  · obtain ⟨a, dx, d, n, rfl, ea, z⟩ := h
    refine ⟨_, (pss_cons (ps_fld (pv 0) (pv 1) rfl) (pss_one (ps_fld (pv 0) (pv 2) rfl))), ?_⟩
    refine ⟨_, rfl, _, rfl, a, CW, dx, [], rfl, ea, D.clW, D.wD, by show 0 < 1000; decide, ?_⟩
    refine ⟨_, rfl, _, rfl, a, CW, dx, _, rfl, upd_same, D.clW, D.wA, by show 1 < 1000; decide, ?_⟩
    rw [upd_upd]
    exact z
/-- Whole(desk, amount) -/
def MkW (P : Program) (w : World) (K : PySem.W.Frag) (mg : Str → Option Value) (base : Heap) (CW : Addr) : Prop :=
  ∃ (f : Addr) (fd : FuncData), Mk K CW f ∧ FnOk P w K mg base (L2.CX P w) 1 f fd ["self", "desk", "amount"] (spWInit CW) ∧ Binds K fd ["self", "desk", "amount"] [] ∧ mg "Whole" = some (.ref CW)
theorem pe_mkW {X : Cx} {E : XK} {p pos : Pos} {e1 e2 : Expr} {t : TA} (m : MkW X.prog X.w X.K X.mg X.base CW) (hr : Room 2 X.A) (hx : Passes (L2.CX X.prog X.w) X E) (hg : Gl X "Whole") (ha : PA X [e1, e2] t)
    (he : starEach [e1, e2] X.env = (false, eval e1 X.env) :: starEach [e2] X.env := by rfl) (hpl : (backTo pos (starEach [e2] X.env)).any (·.1) = false := by rfl) :
    PE X (.Call (.Name "Whole" p) [e1, e2] [] pos) (tMake CW (spWInit CW) [] E t) := by
  obtain ⟨f, fd, M, F, b, g⟩ := m
  exact pe_make M F hr hg g b .nil hx ha (by decide) he hpl
theorem winit {H : Hp} {Qp : Hp → Prop} {E : XK} {d : Addr} {n : Int} {x dx : Addr} (hx : H x = none) (hd : H dx = none) (z : ∀ H', Same H H' → WholeAt CW H' x d n → Qp H') :
    spWInit CW [.ref x, .ref d, .int n] (upd (upd H dx (.own x)) x (.ins CW dx [])) (fun v H2 => v = .non ∧ Qp H2) E := by
  refine ⟨x, dx, d, n, rfl, upd_same, rfl, ?_⟩
  rw [upd_upd]
  exact z _ (new_same hx hd) ⟨dx, upd_same⟩
abbrev s_Whole__divided : Stmt := inClass (top 15) 3
theorem sc_Whole__divided : FnScope ["self", "x", "base"] ["self", "x", "base"] (defScope s_Whole__divided) := ⟨rfl, rfl, rfl, by decide +kernel, rfl, by decide +kernel, by decide +kernel⟩
def spDivd (CD CW CZ : Addr) : Sp := fun vs H Q E => ∃ (x d : Addr) (n a b : Int) (r : Str), vs = [.ref x, .int a, .int b] ∧ WholeAt CW H x d n ∧ DeskAt CD H d r ∧ Md a ∧ Md b ∧
  (b ≠ 0 → ∀ q e p, IsDiv r a b q e → H p = none → Q (.ref p) (upd H p (.tup [.int q, .int e]))) ∧ (b = 0 → E (.ref CZ) none H)
theorem ok_Whole__divided {f : Addr} {fd : FuncData} (F : Fun K "_divided" "Whole._divided" s_Whole__divided f fd) (D : DTx K mg CB CD CW) (XZ : XRz P w K mg base "DivisionByZero" CZ 0 (sp0 CZ)) (pR : OwnP P w K mg base CD 1 "rule" (spRule CD)) (O_divide : Ok P w K mg base 2 "divide" ["rule", "x", "base"] spDivide) :
    FnOk P w K mg base (L2.CX P w) 4 f fd ["self", "x", "base"] (spDivd CD CW CZ) := by
  refine F.okX sc_Whole__divided (fun vs H Q E h => ?_) (fun cdv A outer s H vs Q E hr h => ?_)
  · obtain ⟨x, d, n, a, b, r, rfl, _⟩ := h
    rfl
  · obtain ⟨x, d, n, a, b, r, rfl, ⟨dx, e⟩, Dk, ma, mb, z1, z2⟩ := h
    refine ⟨_, (pss_cons (ps_if (pt_cmpR op_eq (pv 2) pe_int (nomark _))
        (pss_one (ps_raiseE XZ (hr.mono (by decide)) rfl (takes_of rfl rfl rfl rfl) rfl))
        pss_nil)
      (pss_one (ps_ret (pe_cO O_divide (hr.mono (by decide)) pass0 rfl (pa_cons (pe_propO (pe_fld (pv 0) rfl) D.clD pR (hr.mono (by decide)) passL) (pa_cons (pv 1) (pa_cons (pv 2) pa_nil))))))), ?_⟩
    obtain ⟨⟨dd, ed⟩, m5⟩ := id Dk
    by_cases b0 : b = 0
    · subst b0
      exact ⟨_, rfl, rfl, _, rfl, iteP (by decide) (flies0 (z2 rfl))⟩
    · refine ⟨_, rfl, rfl, _, rfl, iteN (vne b0) ?_⟩
      refine ⟨_, rfl, x, CW, dx, _, _, rfl, e, D.clW, D.wD, rfl, d, dd, _, rfl, ed, d, r, rfl, Dk, _, rfl, _, rfl, r, a, b, rfl, m5, b0, ma, mb, z1 b0⟩
abbrev s_Whole_parts : Stmt := inClass (top 15) 2
theorem sc_Whole_parts : FnScope ["self", "other"] ["self", "other"] (defScope s_Whole_parts) := ⟨rfl, rfl, rfl, by decide +kernel, rfl, by decide +kernel, by decide +kernel⟩
def spParts (CD CW CZ : Addr) : Sp := fun vs H Q E => ∃ (x d : Addr) (y : V) (n m : Int) (r : Str), vs = [.ref x, y] ∧ WholeAt CW H x d n ∧ Amt CW H y m ∧ DeskAt CD H d r ∧ Md n ∧ Md m ∧
  (m ≠ 0 → ∀ q e p, IsDiv r n m q e → H p = none → Q (.ref p) (upd H p (.tup [.int q, .int e]))) ∧ (m = 0 → E (.ref CZ) none H)
theorem ok_Whole_parts {f : Addr} {fd : FuncData} (F : Fun K "parts" "Whole.parts" s_Whole_parts f fd) (D : DTx K mg CB CD CW) (mV : OwnMeth P w K mg base CW 4 "_divided" ["self", "x", "base"] (spDivd CD CW CZ)) (O_amount_of : OkX P w K mg base 3 "amount_of" ["value"] (spAmtOf CW)) :
    FnOk P w K mg base (L2.CX P w) 5 f fd ["self", "other"] (spParts CD CW CZ) := by
  refine F.okX sc_Whole_parts (fun vs H Q E h => ?_) (fun cdv A outer s H vs Q E hr h => ?_)
  · obtain ⟨x, d, y, n, m, r, rfl, _⟩ := h
    rfl
  · obtain ⟨x, d, y, n, m, r, rfl, Wx, am, Dk, mn, mm, z1, z2⟩ := h
    obtain ⟨dx, e⟩ := id Wx
    refine ⟨_, (pss_one (ps_ret (pe_methO (E := E) (pv 0) D.clW mV hr (passes_call (takes_of rfl rfl rfl rfl) (fun _ _ _ _ z => z)) (pa_cons (pe_fld (pv 0) rfl) (pa_cons (pe_cX O_amount_of (hr.mono (by decide)) passL rfl (pa_cons (pv 1) pa_nil)) pa_nil))))), ?_⟩
    refine ⟨_, rfl, x, dx, _, rfl, e, rfl, _, rfl, x, CW, dx, _, _, rfl, e, D.clW, D.wA, rfl, _, rfl, y, m, rfl, am, ?_⟩
    exact ⟨x, d, n, n, m, r, rfl, Wx, Dk, mn, mm, z1, z2⟩
/-- what the operators stand on -/
structure WCls (P : Program) (w : World) (K : PySem.W.Frag) (mg : Str → Option Value) (base : Heap) (CB CD CW CZ : Addr) : Prop where
  D : DTx K mg CB CD CW
  isA : Ok P w K mg base 2 "is_amount" ["value"] (spIsAmt CW)
  mkW : MkW P w K mg base CW
  divd : OwnMeth P w K mg base CW 4 "_divided" ["self", "x", "base"] (spDivd CD CW CZ)
  parts : OwnMeth P w K mg base CW 5 "parts" ["self", "other"] (spParts CD CW CZ)
def spWOp (CD CW CZ : Addr) (pick : Int → Int → Int) : Sp := fun vs H Q E => ∃ (x d : Addr) (y : V) (n m : Int) (r : Str), vs = [.ref x, y] ∧ WholeAt CW H x d n ∧ Amt CW H y m ∧ DeskAt CD H d r ∧ Md n ∧ Md m ∧
  (m ≠ 0 → ∀ q e c H', IsDiv r n m q e → Same H H' → WholeAt CW H' c d (pick q e) → Q (.ref c) H') ∧ (m = 0 → E (.ref CZ) none H)
def spWRop (CD CW : Addr) (pick : Int → Int → Int) : Sp := fun vs H Q _ => ∃ (x d : Addr) (n m : Int) (r : Str), vs = [.ref x, .int m] ∧ WholeAt CW H x d n ∧ DeskAt CD H d r ∧ Md n ∧ Md m ∧ n ≠ 0 ∧
  ∀ q e c H', IsDiv r m n q e → Same H H' → WholeAt CW H' c d (pick q e) → Q (.ref c) H'
def spWIop (CD CW : Addr) (pick : Int → Int → Int) : Sp := fun vs H Q _ => ∃ (x d : Addr) (y : V) (n m : Int) (r : Str), vs = [.ref x, y] ∧ WholeAt CW H x d n ∧ Amt CW H y m ∧ DeskAt CD H d r ∧ Md n ∧ Md m ∧ m ≠ 0 ∧
  ∀ q e H', IsDiv r n m q e → Keep x H H' → WholeAt CW H' x d (pick q e) → Q (.ref x) H'
abbrev s_Whole___floordiv__ : Stmt := inClass (top 15) 4
theorem sc_Whole___floordiv__ : FnScope ["self", "other"] ["self", "other"] (defScope s_Whole___floordiv__) := ⟨rfl, rfl, rfl, by decide +kernel, rfl, by decide +kernel, by decide +kernel⟩
theorem ok_Whole___floordiv__ {f : Addr} {fd : FuncData} (F : Fun K "__floordiv__" "Whole.__floordiv__" s_Whole___floordiv__ f fd) (L : WCls P w K mg base CB CD CW CZ) : FnOk P w K mg base (L2.CX P w) 6 f fd ["self", "other"] (spWOp CD CW CZ (fun q _ => q)) := by
  refine F.okX sc_Whole___floordiv__ (fun vs H Q E h => ?_) (fun cdv A outer s H vs Q E hr h => ?_)
  · obtain ⟨x, d, y, n, m, r, rfl, _⟩ := h
    rfl
  · obtain ⟨x, d, y, n, m, r, rfl, Wx, am, Dk, mn, mm, z1, z2⟩ := h
    have D := L.D
    obtain ⟨dx, e⟩ := id Wx
    refine ⟨_, (pss_cons (ps_if (pt_not (pt_val (pe_cO L.isA (hr.mono (by decide)) pass0 rfl (pa_cons (pv 1) pa_nil))))
        (pss_one ps_never)
        pss_nil)
      (pss_one (ps_ret (pe_mkW L.mkW (hr.mono (by decide)) passL rfl (pa_cons (pe_fld (pv 0) rfl) (pa_cons (pe_ix ix_tup (pe_methO (E := E) (pv 0) D.clW L.parts hr (passes_call (takes_of rfl rfl rfl rfl) (fun _ _ _ _ z => z)) (pa_cons (pv 1) pa_nil)) pe_int (fun _ _ => rfl)) pa_nil)))))), ?_⟩
    refine ⟨_, rfl, y, m, rfl, am, _, rfl, iteN (by decide) ?_⟩
    refine ⟨_, rfl, x, CW, dx, _, _, rfl, e, D.clW, D.wD, rfl, ?_⟩
    refine ⟨_, rfl, x, dx, _, rfl, e, rfl, _, rfl, x, d, y, n, m, r, rfl, Wx, am, Dk, mn, mm, fun m0 q e2 p di hp => ?_, z2⟩
    refine ⟨p, _, 0, _, rfl, rfl, SqT.of upd_same, (by first | exact atI0 | exact atI1), fun c dc hc hd ne => ?_⟩
    refine winit hc hd fun H' s' Wc => ?_
    exact z1 m0 q e2 c H' di ((Same.new hp).trans s') Wc
abbrev s_Whole___mod__ : Stmt := inClass (top 15) 5
theorem sc_Whole___mod__ : FnScope ["self", "other"] ["self", "other"] (defScope s_Whole___mod__) := ⟨rfl, rfl, rfl, by decide +kernel, rfl, by decide +kernel, by decide +kernel⟩
theorem ok_Whole___mod__ {f : Addr} {fd : FuncData} (F : Fun K "__mod__" "Whole.__mod__" s_Whole___mod__ f fd) (L : WCls P w K mg base CB CD CW CZ) : FnOk P w K mg base (L2.CX P w) 6 f fd ["self", "other"] (spWOp CD CW CZ (fun _ e => e)) := by
  refine F.okX sc_Whole___mod__ (fun vs H Q E h => ?_) (fun cdv A outer s H vs Q E hr h => ?_)
  · obtain ⟨x, d, y, n, m, r, rfl, _⟩ := h
    rfl
  · obtain ⟨x, d, y, n, m, r, rfl, Wx, am, Dk, mn, mm, z1, z2⟩ := h
    have D := L.D
    obtain ⟨dx, e⟩ := id Wx
    refine ⟨_, (pss_cons (ps_if (pt_not (pt_val (pe_cO L.isA (hr.mono (by decide)) pass0 rfl (pa_cons (pv 1) pa_nil))))
        (pss_one ps_never)
        pss_nil)
      (pss_one (ps_ret (pe_mkW L.mkW (hr.mono (by decide)) passL rfl (pa_cons (pe_fld (pv 0) rfl) (pa_cons (pe_ix ix_tup (pe_methO (E := E) (pv 0) D.clW L.parts hr (passes_call (takes_of rfl rfl rfl rfl) (fun _ _ _ _ z => z)) (pa_cons (pv 1) pa_nil)) pe_int (fun _ _ => rfl)) pa_nil)))))), ?_⟩
    refine ⟨_, rfl, y, m, rfl, am, _, rfl, iteN (by decide) ?_⟩
    refine ⟨_, rfl, x, CW, dx, _, _, rfl, e, D.clW, D.wD, rfl, ?_⟩
    refine ⟨_, rfl, x, dx, _, rfl, e, rfl, _, rfl, x, d, y, n, m, r, rfl, Wx, am, Dk, mn, mm, fun m0 q e2 p di hp => ?_, z2⟩
    refine ⟨p, _, 1, _, rfl, rfl, SqT.of upd_same, (by first | exact atI0 | exact atI1), fun c dc hc hd ne => ?_⟩
    refine winit hc hd fun H' s' Wc => ?_
    exact z1 m0 q e2 c H' di ((Same.new hp).trans s') Wc
abbrev s_Whole___rfloordiv__ : Stmt := inClass (top 15) 6
theorem sc_Whole___rfloordiv__ : FnScope ["self", "other"] ["self", "other"] (defScope s_Whole___rfloordiv__) := ⟨rfl, rfl, rfl, by decide +kernel, rfl, by decide +kernel, by decide +kernel⟩
theorem ok_Whole___rfloordiv__ {f : Addr} {fd : FuncData} (F : Fun K "__rfloordiv__" "Whole.__rfloordiv__" s_Whole___rfloordiv__ f fd) (L : WCls P w K mg base CB CD CW CZ) : FnOk P w K mg base (L2.CX P w) 6 f fd ["self", "other"] (spWRop CD CW (fun q _ => q)) := by
  refine F.okX sc_Whole___rfloordiv__ (fun vs H Q E h => ?_) (fun cdv A outer s H vs Q E hr h => ?_)
  · obtain ⟨x, d, n, m, r, rfl, _⟩ := h
    rfl
  · obtain ⟨x, d, n, m, r, rfl, Wx, Dk, mn, mm, n0, z⟩ := h
    have D := L.D
    obtain ⟨dx, e⟩ := id Wx
    refine ⟨_, (pss_cons (ps_if (pt_not (pt_val (pe_cO L.isA (hr.mono (by decide)) pass0 rfl (pa_cons (pv 1) pa_nil))))
        (pss_one ps_never)
        pss_nil)
      (pss_one (ps_ret (pe_mkW L.mkW (hr.mono (by decide)) passL rfl (pa_cons (pe_fld (pv 0) rfl) (pa_cons (pe_ix ix_tup (pe_methO (pv 0) D.clW L.divd (hr.mono (by decide)) (passes_call (takes_of rfl rfl rfl rfl) (fun _ _ _ _ z => z)) (pa_cons (pv 1) (pa_cons (pe_fld (pv 0) rfl) pa_nil))) pe_int (fun _ _ => rfl)) pa_nil)))))), ?_⟩
    refine ⟨_, rfl, _, m, rfl, .inl rfl, _, rfl, iteN (by decide) ?_⟩
    refine ⟨_, rfl, x, CW, dx, _, _, rfl, e, D.clW, D.wD, rfl, ?_⟩
    refine ⟨_, rfl, x, dx, _, rfl, e, rfl, _, rfl, _, rfl, x, CW, dx, _, _, rfl, e, D.clW, D.wA, rfl, x, d, n, m, n, r, rfl, Wx, Dk, mm, mn, fun m0 q e2 p di hp => ?_, fun z0 => absurd z0 n0⟩
    refine ⟨p, _, 0, _, rfl, rfl, SqT.of upd_same, (by first | exact atI0 | exact atI1), fun c dc hc hd ne => ?_⟩
    refine winit hc hd fun H' s' Wc => ?_
    exact z q e2 c H' di ((Same.new hp).trans s') Wc
abbrev s_Whole___rmod__ : Stmt := inClass (top 15) 7
theorem sc_Whole___rmod__ : FnScope ["self", "other"] ["self", "other"] (defScope s_Whole___rmod__) := ⟨rfl, rfl, rfl, by decide +kernel, rfl, by decide +kernel, by decide +kernel⟩
theorem ok_Whole___rmod__ {f : Addr} {fd : FuncData} (F : Fun K "__rmod__" "Whole.__rmod__" s_Whole___rmod__ f fd) (L : WCls P w K mg base CB CD CW CZ) : FnOk P w K mg base (L2.CX P w) 6 f fd ["self", "other"] (spWRop CD CW (fun _ e => e)) := by
  refine F.okX sc_Whole___rmod__ (fun vs H Q E h => ?_) (fun cdv A outer s H vs Q E hr h => ?_)
  · obtain ⟨x, d, n, m, r, rfl, _⟩ := h
    rfl
  · obtain ⟨x, d, n, m, r, rfl, Wx, Dk, mn, mm, n0, z⟩ := h
    have D := L.D
    obtain ⟨dx, e⟩ := id Wx
    refine ⟨_, (pss_cons (ps_if (pt_not (pt_val (pe_cO L.isA (hr.mono (by decide)) pass0 rfl (pa_cons (pv 1) pa_nil))))
        (pss_one ps_never)
        pss_nil)
      (pss_one (ps_ret (pe_mkW L.mkW (hr.mono (by decide)) passL rfl (pa_cons (pe_fld (pv 0) rfl) (pa_cons (pe_ix ix_tup (pe_methO (pv 0) D.clW L.divd (hr.mono (by decide)) (passes_call (takes_of rfl rfl rfl rfl) (fun _ _ _ _ z => z)) (pa_cons (pv 1) (pa_cons (pe_fld (pv 0) rfl) pa_nil))) pe_int (fun _ _ => rfl)) pa_nil)))))), ?_⟩
    refine ⟨_, rfl, _, m, rfl, .inl rfl, _, rfl, iteN (by decide) ?_⟩
    refine ⟨_, rfl, x, CW, dx, _, _, rfl, e, D.clW, D.wD, rfl, ?_⟩
    refine ⟨_, rfl, x, dx, _, rfl, e, rfl, _, rfl, _, rfl, x, CW, dx, _, _, rfl, e, D.clW, D.wA, rfl, x, d, n, m, n, r, rfl, Wx, Dk, mm, mn, fun m0 q e2 p di hp => ?_, fun z0 => absurd z0 n0⟩
    refine ⟨p, _, 1, _, rfl, rfl, SqT.of upd_same, (by first | exact atI0 | exact atI1), fun c dc hc hd ne => ?_⟩
    refine winit hc hd fun H' s' Wc => ?_
    exact z q e2 c H' di ((Same.new hp).trans s') Wc
abbrev s_Whole___ifloordiv__ : Stmt := inClass (top 15) 8
theorem sc_Whole___ifloordiv__ : FnScope ["self", "other"] ["self", "other"] (defScope s_Whole___ifloordiv__) := ⟨rfl, rfl, rfl, by decide +kernel, rfl, by decide +kernel, by decide +kernel⟩
theorem ok_Whole___ifloordiv__ {f : Addr} {fd : FuncData} (F : Fun K "__ifloordiv__" "Whole.__ifloordiv__" s_Whole___ifloordiv__ f fd) (L : WCls P w K mg base CB CD CW CZ) : FnOk P w K mg base (L2.CX P w) 6 f fd ["self", "other"] (spWIop CD CW (fun q _ => q)) := by
  refine F.okX sc_Whole___ifloordiv__ (fun vs H Q E h => ?_) (fun cdv A outer s H vs Q E hr h => ?_)
  · obtain ⟨x, d, y, n, m, r, rfl, _⟩ := h
    rfl
  · obtain ⟨x, d, y, n, m, r, rfl, Wx, am, Dk, mn, mm, m0, z⟩ := h
    have D := L.D
    obtain ⟨dx, e⟩ := id Wx
    refine ⟨_, (pss_cons (ps_if (pt_not (pt_val (pe_cO L.isA (hr.mono (by decide)) pass0 rfl (pa_cons (pv 1) pa_nil))))
        (pss_one ps_never)
        pss_nil)
      (pss_cons (ps_fld (pv 0) (pe_ix ix_tup (pe_methO (pv 0) D.clW L.parts hr (passes_call (takes_of rfl rfl rfl rfl) (fun _ _ _ _ z => z)) (pa_cons (pv 1) pa_nil)) pe_int (fun _ _ => rfl)) rfl)
      (pss_one (ps_ret (pv 0))))), ?_⟩
    refine ⟨_, rfl, y, m, rfl, am, _, rfl, iteN (by decide) ?_⟩
    refine ⟨_, rfl, x, dx, _, rfl, e, rfl, _, rfl, x, d, y, n, m, r, rfl, Wx, am, Dk, mn, mm, fun _ q e2 p di hp => ?_, fun z0 => absurd z0 m0⟩
    refine ⟨p, _, 0, _, rfl, rfl, SqT.of upd_same, (by first | exact atI0 | exact atI1), ?_⟩
    have e3 := (Same.new (o := .tup [.int q, .int e2]) hp) _ _ e
    refine ⟨_, rfl, x, CW, dx, _, rfl, e3, D.clW, D.wA, by show 2 < 1000; decide, ?_⟩
    refine ⟨_, rfl, z q e2 _ di (fun b o h nb => ?_) ⟨dx, upd_same⟩⟩
    rw [upd_ne nb]
    exact (Same.new hp) _ _ h
abbrev s_Whole___imod__ : Stmt := inClass (top 15) 9
theorem sc_Whole___imod__ : FnScope ["self", "other"] ["self", "other"] (defScope s_Whole___imod__) := ⟨rfl, rfl, rfl, by decide +kernel, rfl, by decide +kernel, by decide +kernel⟩
theorem ok_Whole___imod__ {f : Addr} {fd : FuncData} (F : Fun K "__imod__" "Whole.__imod__" s_Whole___imod__ f fd) (L : WCls P w K mg base CB CD CW CZ) : FnOk P w K mg base (L2.CX P w) 6 f fd ["self", "other"] (spWIop CD CW (fun _ e => e)) := by
  refine F.okX sc_Whole___imod__ (fun vs H Q E h => ?_) (fun cdv A outer s H vs Q E hr h => ?_)
  · obtain ⟨x, d, y, n, m, r, rfl, _⟩ := h
    rfl
  · obtain ⟨x, d, y, n, m, r, rfl, Wx, am, Dk, mn, mm, m0, z⟩ := h
    have D := L.D
    obtain ⟨dx, e⟩ := id Wx
    refine ⟨_, (pss_cons (ps_if (pt_not (pt_val (pe_cO L.isA (hr.mono (by decide)) pass0 rfl (pa_cons (pv 1) pa_nil))))
        (pss_one ps_never)
        pss_nil)
      (pss_cons (ps_fld (pv 0) (pe_ix ix_tup (pe_methO (pv 0) D.clW L.parts hr (passes_call (takes_of rfl rfl rfl rfl) (fun _ _ _ _ z => z)) (pa_cons (pv 1) pa_nil)) pe_int (fun _ _ => rfl)) rfl)
      (pss_one (ps_ret (pv 0))))), ?_⟩
    refine ⟨_, rfl, y, m, rfl, am, _, rfl, iteN (by decide) ?_⟩
    refine ⟨_, rfl, x, dx, _, rfl, e, rfl, _, rfl, x, d, y, n, m, r, rfl, Wx, am, Dk, mn, mm, fun _ q e2 p di hp => ?_, fun z0 => absurd z0 m0⟩
    refine ⟨p, _, 1, _, rfl, rfl, SqT.of upd_same, (by first | exact atI0 | exact atI1), ?_⟩
    have e3 := (Same.new (o := .tup [.int q, .int e2]) hp) _ _ e
    refine ⟨_, rfl, x, CW, dx, _, rfl, e3, D.clW, D.wA, by show 2 < 1000; decide, ?_⟩
    refine ⟨_, rfl, z q e2 _ di (fun b o h nb => ?_) ⟨dx, upd_same⟩⟩
    rw [upd_ne nb]
    exact (Same.new hp) _ _ h
end
/-! ### wholes compared; desks made, set, asked; blocks -/
section
variable {P : Program} {w : World} {K : PySem.W.Frag} {mg : Str → Option Value} {base : Heap} {aR CB CD CW CZ CR CN : Addr}
abbrev s_Whole___eq__ : Stmt := inClass (top 15) 10
theorem sc_Whole___eq__ : FnScope ["self", "other"] ["self", "other"] (defScope s_Whole___eq__) := ⟨rfl, rfl, rfl, by decide +kernel, rfl, by decide +kernel, by decide +kernel⟩
def spWEq (K : PySem.W.Frag) (CW : Addr) : Sp := fun vs H Q _ => ∃ (x d : Addr) (v : V) (n : Int), vs = [.ref x, v] ∧ WholeAt CW H x d n ∧
  ((∃ y d' m, v = .ref y ∧ WholeAt CW H y d' m ∧ Q (.bl (decide (n = m))) H) ∨ (∃ t, TyX K H v t ∧ PySem.W.kitOne K t (.ref CW) = some false ∧ Q (.bl false) H))
theorem ok_Whole___eq__ {f : Addr} {fd : FuncData} (F : Fun K "__eq__" "Whole.__eq__" s_Whole___eq__ f fd) (T : Txt K mg aR) (D : DTx K mg CB CD CW) : FnOk P w K mg base (L2.CX P w) 1 f fd ["self", "other"] (spWEq K CW) := by
  refine F.okX sc_Whole___eq__ (fun vs H Q E h => ?_) (fun cdv A outer s0 H vs Q E hr h => ?_)
  · obtain ⟨x, d, v, n, rfl, _⟩ := h
    rfl
  · obtain ⟨x, d, v, n, rfl, ⟨dx, e⟩, h⟩ := h
    refine ⟨_, (pss_one (ps_ret (pe_and (pe_callB call_isi (by rfl) T.isinstance (by decide +kernel) (pa_cons (pv 1) (pa_cons (pe_glob (v := .ref CW) (by rfl) D.mW rfl) pa_nil))) (pe_one (pe_cmpR op_eq (pe_fld (pv 0) rfl) (pe_fld (pv 1) rfl) (nomark _)))))), ?_⟩
    rcases h with ⟨y, d', m, rfl, ⟨dy, e2⟩, z⟩ | ⟨t, ty, k, z⟩
    · refine ⟨_, rfl, _, _, _, _, _, rfl, .own _, D.ty e2, D.kWW, _, rfl, iteT ?_⟩
      refine ⟨_, rfl, x, CW, dx, _, _, rfl, e, D.clW, D.wA, rfl, _, rfl, y, CW, dy, _, _, rfl, e2, D.clW, D.wA, rfl, rfl, ?_⟩
      have eq : decide (V.int n = V.int m) = decide (n = m) := decide_eq_decide.mpr ⟨fun h => by injection h, fun h => by rw [h]⟩
      rw [eq]
      exact z
    · exact ⟨_, rfl, _, _, _, _, _, rfl, .own _, ty, k, _, rfl, iteF z⟩
/-! desks -/
abbrev s_Desk___init__ : Stmt := inClass (top 14) 0
theorem sc_Desk___init__ : FnScope ["self", "rule"] ["self", "rule"] (defScope s_Desk___init__) := ⟨rfl, rfl, rfl, by decide +kernel, rfl, by decide +kernel, by decide +kernel⟩
def spDInit (K : PySem.W.Frag) (CD CR : Addr) : Sp := fun vs H Q E => ∃ (a dx : Addr) (v : V), vs = [.ref a, v] ∧ H a = some (.ins CD dx []) ∧
  ((∃ r, v = .str r ∧ r ∈ five ∧ Q .non (upd H a (.ins CD dx (DeskF r)))) ∨ (RuleV K H v false ∧ ∀ d, H d = none → E (.ref CR) (some d) (upd H d (.xd [("value", v)]))))
theorem ok_Desk_init {fI : Addr} {fd : FuncData} (F : FunD K "__init__" "Desk.__init__" (defArgs s_Desk___init__) (defBody s_Desk___init__) (defScope s_Desk___init__) [.str "down"] [] fI fd) (D : DTx K mg CB CD CW) (O_is_rule : Ok P w K mg base 1 "is_rule" ["value"] (spRuleA K)) (XR : XValue P w K mg base "InvalidRule" CR) :
    FnOk P w K mg base (L2.CX P w) 3 fI fd ["self", "rule"] (spDInit K CD CR) := by
  refine F.ok sc_Desk___init__ (fun vs H Q E h => ?_) (fun cdv A outer s H vs Q E hr h => ?_)
  · obtain ⟨a, dx, v, rfl, _⟩ := h
    rfl
  · obtain ⟨a, dx, v, rfl, ea, h⟩ := h
    refine ⟨_, (pss_cons (ps_if (pt_not (pt_val (pe_cO O_is_rule (hr.mono (by decide)) pass0 rfl (pa_cons (pv 1) pa_nil))))
        (pss_one (ps_raiseN XR hr rfl (takes_of rfl rfl rfl rfl) rfl (pa_cons (pv 1) pa_nil)))
        pss_nil)
      (pss_one (ps_fld (pv 0) (pv 1) rfl))), ?_⟩
    rcases h with ⟨r, rfl, m, z⟩ | ⟨rv, z⟩
    · refine ⟨_, rfl, _, _, rfl, .inl ⟨r, rfl, m, rfl⟩, _, rfl, iteN (by decide) ?_⟩
      exact ⟨_, rfl, _, rfl, a, CD, dx, [], rfl, ea, D.clD, D.dR, by show 0 < 1000; decide, z⟩
    · refine ⟨_, rfl, _, _, rfl, rv, _, rfl, iteP (by decide) ?_⟩
      exact ⟨_, rfl, rfl, by show 1 ≤ 1000; decide, flies1 z⟩
abbrev s_Desk_set_rule : Stmt := inClass (top 14) 3
theorem sc_Desk_set_rule : FnScope ["self", "rule"] ["self", "rule"] (defScope s_Desk_set_rule) := ⟨rfl, rfl, rfl, by decide +kernel, rfl, by decide +kernel, by decide +kernel⟩
def spSet (K : PySem.W.Frag) (CD CR : Addr) : Sp := fun vs H Q E => ∃ (d : Addr) (v : V) (r : Str), vs = [.ref d, v] ∧ DeskAt CD H d r ∧
  ((∃ r', v = .str r' ∧ r' ∈ five ∧ ∀ H', Keep d H H' → DeskAt CD H' d r' → Q .non H') ∨ (RuleV K H v false ∧ ∀ dd, H dd = none → E (.ref CR) (some dd) (upd H dd (.xd [("value", v)]))))
theorem ok_Desk_set_rule {f : Addr} {fd : FuncData} (F : Fun K "set_rule" "Desk.set_rule" s_Desk_set_rule f fd) (D : DTx K mg CB CD CW) (O_is_rule : Ok P w K mg base 1 "is_rule" ["value"] (spRuleA K)) (XR : XValue P w K mg base "InvalidRule" CR) :
    FnOk P w K mg base (L2.CX P w) 3 f fd ["self", "rule"] (spSet K CD CR) := by
  refine F.okX sc_Desk_set_rule (fun vs H Q E h => ?_) (fun cdv A outer s H vs Q E hr h => ?_)
  · obtain ⟨d, v, r, rfl, _⟩ := h
    rfl
  · obtain ⟨d, v, r, rfl, ⟨⟨dx, ed⟩, m5⟩, h⟩ := h
    refine ⟨_, (pss_cons (ps_if (pt_not (pt_val (pe_cO O_is_rule (hr.mono (by decide)) pass0 rfl (pa_cons (pv 1) pa_nil))))
        (pss_one (ps_raiseN XR hr rfl (takes_of rfl rfl rfl rfl) rfl (pa_cons (pv 1) pa_nil)))
        pss_nil)
      (pss_one (ps_fld (pv 0) (pv 1) rfl))), ?_⟩
    rcases h with ⟨r', rfl, m, z⟩ | ⟨rv, z⟩
    · refine ⟨_, rfl, _, _, rfl, .inl ⟨r', rfl, m, rfl⟩, _, rfl, iteN (by decide) ?_⟩
      refine ⟨_, rfl, _, rfl, d, CD, dx, _, rfl, ed, D.clD, D.dR, by show 1 < 1000; decide, ?_⟩
      exact z _ (fun b o h nb => by rw [upd_ne nb]; exact h) ⟨⟨dx, upd_same⟩, m⟩
    · refine ⟨_, rfl, _, _, rfl, rv, _, rfl, iteP (by decide) ?_⟩
      exact ⟨_, rfl, rfl, by show 1 ≤ 1000; decide, flies1 z⟩
abbrev s_Desk_make : Stmt := inClass (top 14) 4
theorem sc_Desk_make : FnScope ["self", "value"] ["self", "value"] (defScope s_Desk_make) := ⟨rfl, rfl, rfl, by decide +kernel, rfl, by decide +kernel, by decide +kernel⟩
def spDMake (K : PySem.W.Frag) (CW CN : Addr) : Sp := fun vs H Q E => ∃ (d : Addr) (v : V), vs = [.ref d, v] ∧
  ((∃ n, v = .int n ∧ ∀ c H', H c = none → Same H H' → WholeAt CW H' c d n → Q (.ref c) H') ∨ (IntV K H v false ∧ ∀ dd, H dd = none → E (.ref CN) (some dd) (upd H dd (.xd [("value", v)]))))
theorem ok_Desk_make {f : Addr} {fd : FuncData} (F : Fun K "make" "Desk.make" s_Desk_make f fd) (O_is_integer : Ok P w K mg base 1 "is_integer" ["value"] (spIntA K)) (mkW : MkW P w K mg base CW) (XN : XValue P w K mg base "InvalidNumber" CN) :
    FnOk P w K mg base (L2.CX P w) 3 f fd ["self", "value"] (spDMake K CW CN) := by
  refine F.okX sc_Desk_make (fun vs H Q E h => ?_) (fun cdv A outer s H vs Q E hr h => ?_)
  · obtain ⟨d, v, rfl, _⟩ := h
    rfl
  · obtain ⟨d, v, rfl, h⟩ := h
    refine ⟨_, (pss_cons (ps_if (pt_not (pt_val (pe_cO O_is_integer (hr.mono (by decide)) pass0 rfl (pa_cons (pv 1) pa_nil))))
        (pss_one (ps_raiseN XN hr rfl (takes_of rfl rfl rfl rfl) rfl (pa_cons (pv 1) pa_nil)))
        pss_nil)
      (pss_one (ps_ret (pe_mkW mkW hr passL rfl (pa_cons (pv 0) (pa_cons (pv 1) pa_nil)))))), ?_⟩
    rcases h with ⟨n, rfl, z⟩ | ⟨iv, z⟩
    · refine ⟨_, rfl, _, _, rfl, .inl ⟨n, rfl, rfl⟩, _, rfl, iteN (by decide) ?_⟩
      exact ⟨_, rfl, _, rfl, fun c dc hc hd ne => winit hc hd fun H' s' Wc => z c H' hc s' Wc⟩
    · refine ⟨_, rfl, _, _, rfl, iv, _, rfl, iteP (by decide) ?_⟩
      exact ⟨_, rfl, rfl, by show 1 ≤ 1000; decide, flies1 z⟩
/-! blocks -/
abbrev s_RuleBlock___init__ : Stmt := inClass (top 13) 0
theorem sc_RuleBlock___init__ : FnScope ["self", "desk", "rule"] ["self", "desk", "rule"] (defScope s_RuleBlock___init__) := ⟨rfl, rfl, rfl, by decide +kernel, rfl, by decide +kernel, by decide +kernel⟩
def spBInit (CB : Addr) : Sp := fun vs H Q _ => ∃ (a dx d : Addr) (r : Str), vs = [.ref a, .ref d, .str r] ∧ H a = some (.ins CB dx []) ∧ Q .non (upd H a (.ins CB dx (BlockF d r .non)))
theorem ok_Block_init {fI : Addr} {fd : FuncData} (F : Fun K "__init__" "RuleBlock.__init__" s_RuleBlock___init__ fI fd) (D : DTx K mg CB CD CW) : FnOk P w K mg base (L2.CX P w) 1 fI fd ["self", "desk", "rule"] (spBInit CB) := by
  refine F.okX sc_RuleBlock___init__ (fun vs H Q E h => ?_) (fun cdv A outer s H vs Q E hr h => ?_)
  · obtain ⟨a, dx, d, r, rfl, _⟩ := h
    rfl
  · obtain ⟨a, dx, d, r, rfl, ea, z⟩ := h
    refine ⟨_, (pss_cons (ps_fld (pv 0) (pv 1) rfl) (pss_cons (ps_fld (pv 0) (pv 2) rfl) (pss_one (ps_fld (pv 0) pe_non rfl)))), ?_⟩
    refine ⟨_, rfl, _, rfl, a, CB, dx, [], rfl, ea, D.clB, D.bD, by show 0 < 1000; decide, ?_⟩
    refine ⟨_, rfl, _, rfl, a, CB, dx, _, rfl, upd_same, D.clB, D.bR, by show 1 < 1000; decide, ?_⟩
    refine ⟨_, rfl, a, CB, dx, _, rfl, upd_same, D.clB, D.bE, by show 2 < 1000; decide, ?_⟩
    rw [upd_upd, upd_upd]
    exact z
def MkB (P : Program) (w : World) (K : PySem.W.Frag) (mg : Str → Option Value) (base : Heap) (CB : Addr) : Prop :=
  ∃ (f : Addr) (fd : FuncData), Mk K CB f ∧ FnOk P w K mg base (L2.CX P w) 1 f fd ["self", "desk", "rule"] (spBInit CB) ∧ Binds K fd ["self", "desk", "rule"] [] ∧ mg "RuleBlock" = some (.ref CB)
theorem pe_mkB {X : Cx} {E : XK} {p pos : Pos} {e1 e2 : Expr} {t : TA} (m : MkB X.prog X.w X.K X.mg X.base CB) (hr : Room 2 X.A) (hx : Passes (L2.CX X.prog X.w) X E) (hg : Gl X "RuleBlock") (ha : PA X [e1, e2] t)
    (he : starEach [e1, e2] X.env = (false, eval e1 X.env) :: starEach [e2] X.env := by rfl) (hpl : (backTo pos (starEach [e2] X.env)).any (·.1) = false := by rfl) :
    PE X (.Call (.Name "RuleBlock" p) [e1, e2] [] pos) (tMake CB (spBInit CB) [] E t) := by
  obtain ⟨f, fd, M, F, b, g⟩ := m
  exact pe_make M F hr hg g b .nil hx ha (by decide) he hpl
abbrev s_Desk_using : Stmt := inClass (top 14) 5
theorem sc_Desk_using : FnScope ["self", "rule"] ["self", "rule"] (defScope s_Desk_using) := ⟨rfl, rfl, rfl, by decide +kernel, rfl, by decide +kernel, by decide +kernel⟩
def spUsing (K : PySem.W.Frag) (CB CR : Addr) : Sp := fun vs H Q E => ∃ (d : Addr) (v : V), vs = [.ref d, v] ∧
  ((∃ r, v = .str r ∧ r ∈ five ∧ ∀ b H', H b = none → Same H H' → BlockAt CB H' b d r .non → Q (.ref b) H') ∨ (RuleV K H v false ∧ ∀ dd, H dd = none → E (.ref CR) (some dd) (upd H dd (.xd [("value", v)]))))
theorem ok_Desk_using {f : Addr} {fd : FuncData} (F : Fun K "using" "Desk.using" s_Desk_using f fd) (O_is_rule : Ok P w K mg base 1 "is_rule" ["value"] (spRuleA K)) (mkB : MkB P w K mg base CB) (XR : XValue P w K mg base "InvalidRule" CR) :
    FnOk P w K mg base (L2.CX P w) 3 f fd ["self", "rule"] (spUsing K CB CR) := by
  refine F.okX sc_Desk_using (fun vs H Q E h => ?_) (fun cdv A outer s H vs Q E hr h => ?_)
  · obtain ⟨d, v, rfl, _⟩ := h
    rfl
  · obtain ⟨d, v, rfl, h⟩ := h
    refine ⟨_, (pss_cons (ps_if (pt_not (pt_val (pe_cO O_is_rule (hr.mono (by decide)) pass0 rfl (pa_cons (pv 1) pa_nil))))
        (pss_one (ps_raiseN XR hr rfl (takes_of rfl rfl rfl rfl) rfl (pa_cons (pv 1) pa_nil)))
        pss_nil)
      (pss_one (ps_ret (pe_mkB mkB hr passL rfl (pa_cons (pv 0) (pa_cons (pv 1) pa_nil)))))), ?_⟩
    rcases h with ⟨r, rfl, m, z⟩ | ⟨rv, z⟩
    · refine ⟨_, rfl, _, _, rfl, .inl ⟨r, rfl, m, rfl⟩, _, rfl, iteN (by decide) ?_⟩
      refine ⟨_, rfl, _, rfl, fun c dc hc hd ne => ⟨c, dc, d, r, rfl, upd_same, rfl, ?_⟩⟩
      rw [upd_upd]
      exact z c _ hc (new_same hc hd) ⟨dc, upd_same⟩
    · refine ⟨_, rfl, _, _, rfl, rv, _, rfl, iteP (by decide) ?_⟩
      exact ⟨_, rfl, rfl, by show 1 ≤ 1000; decide, flies1 z⟩
abbrev s_RuleBlock___enter__ : Stmt := inClass (top 13) 1
theorem sc_RuleBlock___enter__ : FnScope ["self"] ["self"] (defScope s_RuleBlock___enter__) := ⟨rfl, rfl, rfl, by decide +kernel, rfl, by decide +kernel, by decide +kernel⟩
/-- all but what stands at b and at d stays -/
def Keep2 (b d : Addr) (H H' : Hp) : Prop := ∀ c o, H c = some o → c ≠ b → c ≠ d → H' c = some o
def spEnter (CB CD : Addr) : Sp := fun vs H Q _ => ∃ (b d : Addr) (r r0 : Str), vs = [.ref b] ∧ BlockAt CB H b d r .non ∧ r ∈ five ∧ DeskAt CD H d r0 ∧ ∀ H', Keep2 b d H H' → BlockAt CB H' b d r (.str r0) → DeskAt CD H' d r → Q (.ref d) H'
theorem block_ne {H : Hp} {b d : Addr} {r r0 : Str} {e : V} (B : BlockAt CB H b d r e) (D : DeskAt CD H d r0) : b ≠ d := fun m => by
  obtain ⟨dx, h⟩ := B
  obtain ⟨⟨dy, g⟩, _⟩ := D
  rw [m, g] at h
  injection h with h
  injection h with h1 h2 h3
  have := congrArg List.length h3
  simp [DeskF, BlockF] at this
theorem ok_Block_enter {f : Addr} {fd : FuncData} (F : Fun K "__enter__" "RuleBlock.__enter__" s_RuleBlock___enter__ f fd) (D : DTx K mg CB CD CW) (pR : OwnP P w K mg base CD 1 "rule" (spRule CD)) (mS : OwnMeth P w K mg base CD 3 "set_rule" ["self", "rule"] (spSet K CD CR)) :
    FnOk P w K mg base (L2.CX P w) 4 f fd ["self"] (spEnter CB CD) := by
  refine F.okX sc_RuleBlock___enter__ (fun vs H Q E h => ?_) (fun cdv A outer s H vs Q E hr h => ?_)
  · obtain ⟨b, d, r, r0, rfl, _⟩ := h
    rfl
  · obtain ⟨b, d, r, r0, rfl, B, m, Dk, z⟩ := h
    have nb := block_ne B Dk
    obtain ⟨dx, eb⟩ := B
    obtain ⟨⟨dd, ed⟩, m0⟩ := id Dk
    refine ⟨_, (pss_cons (ps_fld (pv 0) (pe_propO (pe_fld (pv 0) rfl) D.clD pR (hr.mono (by decide)) passL) rfl)
      (pss_cons (ps_expr (pe_methO (pe_fld (pv 0) rfl) D.clD mS (hr.mono (by decide)) passL (pa_cons (pe_fld (pv 0) rfl) pa_nil)))
      (pss_one (ps_ret (pe_fld (pv 0) rfl))))), ?_⟩
    refine ⟨_, rfl, b, CB, dx, _, _, rfl, eb, D.clB, D.bD, rfl, d, dd, _, rfl, ed, d, r0, rfl, Dk, ?_⟩
    refine ⟨_, rfl, b, CB, dx, _, rfl, eb, D.clB, D.bE, by show 3 < 1000; decide, ?_⟩
    have e1 : (upd H b (.ins CB dx (BlockF d r (.str r0)))) b = some (.ins CB dx (BlockF d r (.str r0))) := upd_same
    have e2 : (upd H b (.ins CB dx (BlockF d r (.str r0)))) d = some (.ins CD dd (DeskF r0)) := by rw [upd_ne (Ne.symm nb)]; exact ed
    refine ⟨_, rfl, b, CB, dx, _, _, rfl, e1, D.clB, D.bD, rfl, d, dd, _, rfl, e2, rfl, _, rfl, b, CB, dx, _, _, rfl, e1, D.clB, D.bR, rfl, d, _, r0, rfl, ⟨⟨dd, e2⟩, m0⟩, .inl ⟨r, rfl, m, fun H' k Dk' => ?_⟩⟩
    have e3 := k _ _ e1 nb
    refine ⟨_, rfl, b, CB, dx, _, _, rfl, e3, D.clB, D.bD, rfl, z H' (fun c o h n1 n2 => k c o (by rw [upd_ne n1]; exact h) n2) ⟨dx, e3⟩ Dk'⟩
abbrev s_RuleBlock___exit__ : Stmt := inClass (top 13) 2
theorem sc_RuleBlock___exit__ : FnScope ["self", "kind", "value", "trace", "desk"] ["self", "kind", "value", "trace"] (defScope s_RuleBlock___exit__) := ⟨rfl, rfl, rfl, by decide +kernel, rfl, by decide +kernel, by decide +kernel⟩
def spExit (CB CD : Addr) : Sp := fun vs H Q _ => ∃ (b d : Addr) (r r0 r1 : Str) (k v t : V), vs = [.ref b, k, v, t] ∧ BlockAt CB H b d r (.str r0) ∧ r0 ∈ five ∧ DeskAt CD H d r1 ∧ ∀ H', Keep d H H' → DeskAt CD H' d r0 → Q .non H'
theorem ok_Block_exit {f : Addr} {fd : FuncData} (F : Fun K "__exit__" "RuleBlock.__exit__" s_RuleBlock___exit__ f fd) (D : DTx K mg CB CD CW) : FnOk P w K mg base (L2.CX P w) 1 f fd ["self", "kind", "value", "trace"] (spExit CB CD) := by
  refine F.okX sc_RuleBlock___exit__ (fun vs H Q E h => ?_) (fun cdv A outer s H vs Q E hr h => ?_)
  · obtain ⟨b, d, r, r0, r1, k, v, t, rfl, _⟩ := h
    rfl
  · obtain ⟨b, d, r, r0, r1, k, v, t, rfl, B, m, Dk, z⟩ := h
    obtain ⟨dx, eb⟩ := B
    obtain ⟨⟨dd, ed⟩, m1⟩ := Dk
    refine ⟨_, (pss_cons (ps_set (i := 4) sc_RuleBlock___exit__.nd rfl (.inl rfl) (pe_fld (pv 0) rfl)) (pss_one (ps_fld (pv 4) (pe_fld (pv 0) rfl) rfl))), ?_⟩
    refine ⟨_, rfl, b, CB, dx, _, _, rfl, eb, D.clB, D.bD, rfl, ?_⟩
    refine ⟨_, rfl, b, CB, dx, _, _, rfl, eb, D.clB, D.bE, rfl, _, rfl, d, CD, dd, _, rfl, ed, D.clD, D.dR, by show 1 < 1000; decide, ?_⟩
    exact z _ (fun c o h n => by rw [upd_ne n]; exact h) ⟨⟨dd, upd_same⟩, m⟩
end
/-! ### what is due of nested rules -/
section
variable {P : Program} {w : World} {K : PySem.W.Frag} {mg : Str → Option Value} {base : Heap} {aR : Addr}
theorem dpStrs {H : Hp} : ∀ xs : List Str, DpAll K H (xs.map V.str) (xs.map PyData.str)
  | [] => .nil
  | x :: xs => .cons (.str x) (dpStrs xs)
theorem strOk_five {r : Str} (h : r ∈ five) : PyData.strOk r = true := by
  simp only [five, List.mem_cons, List.not_mem_nil, or_false] at h
  rcases h with rfl | rfl | rfl | rfl | rfl <;> decide +kernel
theorem layStrs : ∀ xs : List Str, (∀ r ∈ xs, r ∈ five) → PyData.canLayAll0 (xs.map PyData.str) = true
  | [], _ => rfl
  | x :: xs, h => by
    rw [List.map_cons, PyData.canLayAll0, layStrs xs (fun r hr => h r (List.mem_cons_of_mem _ hr)), PyData.canLay0, strOk_five (h x List.mem_cons_self)]
    rfl
theorem depthStrs : ∀ xs : List Str, PyData.depthAll (xs.map PyData.str) ≤ 1
  | [] => Nat.zero_le _
  | x :: xs => by
    rw [List.map_cons, PyData.depthAll]
    exact Nat.max_le.mpr ⟨by simp [PyData.depth], depthStrs xs⟩
theorem shapedStrs (xs : List Str) (hx : ∀ r ∈ xs, r ∈ five) : SeqAt.shaped (.list (xs.map PyData.str)) = true := by
  have h := depthStrs xs
  unfold SeqAt.shaped
  rw [PyData.canLay0, layStrs xs hx, PyData.depth, Bool.true_and]
  exact decide_eq_true (by omega)
theorem cut_rest {v : V} {t : List V} : cutV (v :: t) (some 1) none = t := by
  unfold cutV
  simp [HT.sIx]
/-- the list that nested rules are due: outer, the rules within, the number, the base -/
inductive DueIs : Str → List Str → Int → Int → List V → Prop
  | last {o : Str} {x b q d : Int} (h : IsDiv o x b q d) : DueIs o [] x b [.int q, .int d]
  | more {o r : Str} {rs : List Str} {x b q d : Int} {vs : List V} (u : DueIs r rs x b vs) (h : IsDiv o x b q d) : DueIs o (r :: rs) x b (vs ++ [.str o, .int q, .int d])
theorem DueIs.len {o : Str} {rs : List Str} {x b : Int} {vs : List V} (h : DueIs o rs x b vs) : vs.length = 2 + 3 * rs.length := by
  induction h with
  | last _ => rfl
  | more _ _ ih => simp [ih]; omega
theorem DueIs.uniq {o : Str} {rs : List Str} {x b : Int} {vs ws : List V} (ho : o ∈ five) (hrs : ∀ r ∈ rs, r ∈ five) (hb : b ≠ 0) (h : DueIs o rs x b vs) (g : DueIs o rs x b ws) : vs = ws := by
  induction h generalizing ws with
  | last h =>
    cases g with
    | last g =>
      obtain ⟨e1, e2⟩ := IsDiv.uniq ho hb h g
      rw [e1, e2]
  | more u h ih =>
    cases g with
    | more u2 g =>
      obtain ⟨e1, e2⟩ := IsDiv.uniq ho hb h g
      rw [e1, e2, ih (hrs _ List.mem_cons_self) (fun r hr => hrs r (List.mem_cons_of_mem _ hr)) hb u2]
abbrev s__law_due : Stmt := top 25
abbrev N__law_due : List Str := ["_law_outer", "_law_rules", "_law_x", "_law_base", "_law_later", "_law_part"]
theorem sc__law_due : FnScope N__law_due ["_law_outer", "_law_rules", "_law_x", "_law_base"] (defScope s__law_due) := ⟨rfl, rfl, rfl, by decide +kernel, rfl, by decide +kernel, by decide +kernel⟩
def spDue (K : PySem.W.Frag) (n : Nat) : Sp := fun vs H Q _ => ∃ (o : Str) (l : Addr) (rs : List Str) (x b : Int), vs = [.str o, .ref l, .int x, .int b] ∧ o ∈ five ∧ SqL K H l (rs.map V.str) ∧ rs.length = n ∧ n < 100 ∧ (∀ r ∈ rs, r ∈ five) ∧ b ≠ 0 ∧ Md x ∧ Md b ∧
  ∀ vs p H', DueIs o rs x b vs → Same H H' → H' p = some (.lst vs) → Q (.ref p) H'
theorem fn__law_due {f : Addr} {fd : FuncData} (g : mg "_law_due" = some (.ref f)) (b : Binds K fd ["_law_outer", "_law_rules", "_law_x", "_law_base"] []) (F : Fun K "_law_due" "_law_due" s__law_due f fd) (O__law_divide : Ok P w K mg base 1 "_law_divide" ["_law_rule", "_law_x", "_law_base"] spDivide) :
    ∀ n, FnOk P w K mg base CX0 (n + 2) f fd ["_law_outer", "_law_rules", "_law_x", "_law_base"] (spDue K n) := by
  intro n
  induction n with
  | zero =>
    refine (F.ok sc__law_due (fun vs H Q E h => ?_) (fun cdv A outer s H vs Q E hr h => ?_))
    · obtain ⟨o, l, rs, x, b1, rfl, _⟩ := h
      rfl
    · obtain ⟨o, l, rs, x, b1, rfl, m, hl, len, _, ms, b0, mx, mb, z⟩ := h
      obtain rfl := List.eq_nil_of_length_eq_zero len
      refine ⟨_, (pss_cons (ps_if (pt_cmpR (op_eqD hr.units) (pv 1) (pe_lst pa_nil) (nomark _))
        (pss_one (ps_ret (pe_lst (pa_cons (pe_ix ix_tup (pe_cO O__law_divide (hr.mono (by decide)) pass0 rfl (pa_cons (pv 0) (pa_cons (pv 2) (pa_cons (pv 3) pa_nil)))) pe_int (fun _ _ => rfl)) (pa_cons (pe_ix ix_tup (pe_cO O__law_divide (hr.mono (by decide)) pass0 rfl (pa_cons (pv 0) (pa_cons (pv 2) (pa_cons (pv 3) pa_nil)))) pe_int (fun _ _ => rfl)) pa_nil)))))
        pss_nil)
        (pss_cons ps_never (pss_one ps_never))), ?_⟩
      refine ⟨_, rfl, by decide, fun l0 hl0 => ?_⟩
      have s1 : Same H (upd H l0 (.lst [])) := Same.new hl0
      refine ⟨_, _, .lst (s1.seq hl) (dpStrs []), .lst (SqL.of upd_same) (dpStrs []), shapedStrs [] (by simp), shapedStrs [] (by simp), _, rfl, iteP (by decide +kernel) ?_⟩
      generalize upd H l0 (.lst []) = H1 at s1 ⊢
      refine ⟨_, rfl, _, rfl, _, rfl, o, x, b1, rfl, m, b0, mx, mb, fun q d p1 di hp => ?_⟩
      have s2 : Same H1 (upd H1 p1 (.tup [.int q, .int d])) := Same.new hp
      refine ⟨p1, _, 0, _, rfl, rfl, SqT.of upd_same, atI0, ?_⟩
      generalize upd H1 p1 (.tup [.int q, .int d]) = H2 at s2 ⊢
      refine ⟨_, rfl, _, rfl, _, rfl, o, x, b1, rfl, m, b0, mx, mb, fun q' d' p2 di' hp2 => ?_⟩
      have s3 : Same H2 (upd H2 p2 (.tup [.int q', .int d'])) := Same.new hp2
      obtain ⟨e1, e2⟩ := IsDiv.uniq m b0 di' di
      refine ⟨p2, _, 1, _, rfl, rfl, SqT.of upd_same, atI1, ?_⟩
      generalize upd H2 p2 (.tup [.int q', .int d']) = H3 at s3 ⊢
      refine ⟨by show 2 ≤ sizeLine; decide, fun l3 hl3 => ?_⟩
      rw [e2]
      exact z _ l3 _ (.last di) (((s1.trans s2).trans s3).trans (Same.new hl3)) upd_same
  | succ n ih =>
    refine (F.ok sc__law_due (fun vs H Q E h => ?_) (fun cdv A outer s H vs Q E hr h => ?_))
    · obtain ⟨o, l, rs, x, b1, rfl, _⟩ := h
      rfl
    · obtain ⟨o, l, rs, x, b1, rfl, m, hl, len, few, ms, b0, mx, mb, z⟩ := h
      obtain ⟨r, rt, rfl⟩ : ∃ r rt, rs = r :: rt := by
        cases rs with
        | nil => cases len
        | cons r rt => exact ⟨r, rt, rfl⟩
      refine ⟨_, (pss_cons (ps_if (pt_cmpR (op_eqD hr.units) (pv 1) (pe_lst pa_nil) (nomark _))
        (pss_one ps_never)
        pss_nil)
      (pss_cons (ps_asg (pe_cO O__law_divide (hr.mono (by omega)) pass0 rfl (pa_cons (pv 0) (pa_cons (pv 2) (pa_cons (pv 3) pa_nil)))) (pg_tup (by rfl) (pgs_cons (pg_name (i := 4) sc__law_due.nd rfl (.inl rfl)) (pgs_cons (pg_name (i := 5) sc__law_due.nd rfl (.inl rfl)) pgs_nil))))
      (pss_one (ps_ret (pe_op op_cat (pe_cO (⟨f, fd, g, F.kp, b, ih⟩ : Ok P w K mg base (n + 2) "_law_due" ["_law_outer", "_law_rules", "_law_x", "_law_base"] (spDue K n)) (hr.mono (by omega)) pass0 rfl (pa_cons (pe_ix ix_list (pv 1) pe_int (fun _ _ => rfl)) (pa_cons (pe_slice sl_list (pv 1) (po_some pe_int) po_none) (pa_cons (pv 2) (pa_cons (pv 3) pa_nil))))) (pe_lst (pa_cons (pv 0) (pa_cons (pv 4) (pa_cons (pv 5) pa_nil))))))))), ?_⟩
      refine ⟨_, rfl, by decide, fun l0 hl0 => ?_⟩
      have s1 : Same H (upd H l0 (.lst [])) := Same.new hl0
      refine ⟨_, _, .lst (s1.seq hl) (dpStrs (r :: rt)), .lst (SqL.of upd_same) (dpStrs []), shapedStrs _ ms, shapedStrs [] (by simp), _, rfl, iteN (by simp [PyData.eqv, PyData.eqvAll]) ?_⟩
      generalize upd H l0 (.lst []) = H1 at s1 ⊢
      refine ⟨_, rfl, _, rfl, _, rfl, o, x, b1, rfl, m, b0, mx, mb, fun q d p1 di hp => ?_⟩
      have s2 : Same H1 (upd H1 p1 (.tup [.int q, .int d])) := Same.new hp
      refine ⟨p1, _, rfl, SqT.of upd_same, rfl, _, _, rfl, _, _, rfl, rfl, ?_⟩
      generalize upd H1 p1 (.tup [.int q, .int d]) = H2 at s2 ⊢
      have s12 := s1.trans s2
      refine ⟨_, rfl, l, _, 0, _, rfl, rfl, s12.seq hl, atI0, ?_⟩
      refine ⟨_, rfl, _, rfl, l, _, rfl, s12.seq hl, fun l2 hl2 => ?_⟩
      rw [show cutV ((r :: rt).map V.str) (some 1) none = rt.map V.str from cut_rest]
      have s3 : Same H2 (upd H2 l2 (.lst (rt.map V.str))) := Same.new hl2
      have e3 : (upd H2 l2 (.lst (rt.map V.str))) l2 = some (.lst (rt.map V.str)) := upd_same
      generalize upd H2 l2 (.lst (rt.map V.str)) = H3 at s3 e3 ⊢
      refine ⟨_, rfl, _, rfl, r, l2, rt, x, b1, rfl, ms r List.mem_cons_self, SqL.of e3, Nat.succ.inj len, by omega, fun r2 h2 => ms r2 (List.mem_cons_of_mem _ h2), b0, mx, mb, fun vs p2 H4 due s4 hp2 => ?_⟩
      refine ⟨_, rfl, _, rfl, _, rfl, by show 3 ≤ sizeLine; decide, fun l3 hl3 => ?_⟩
      have s5 : Same H4 (upd H4 l3 (.lst [.str o, .int q, .int d])) := Same.new hl3
      refine ⟨p2, l3, vs, _, rfl, rfl, s5 _ _ hp2, upd_same, ?_, fun p3 hp3 => ?_⟩
      · rw [due.len]
        have l4 : rt.length = n := Nat.succ.inj len
        rw [l4]
        exact Nat.le_trans (show 2 + 3 * n + 3 ≤ 500 by omega) (by decide)
      · exact z _ p3 _ (.more due di) ((((s12.trans s3).trans s4).trans s5).trans (Same.new hp3)) upd_same
theorem ok__law_due (h : Has K mg "_law_due" s__law_due ["_law_outer", "_law_rules", "_law_x", "_law_base"]) (O__law_divide : Ok P w K mg base 1 "_law_divide" ["_law_rule", "_law_x", "_law_base"] spDivide) :
    ∀ n, Ok P w K mg base (n + 2) "_law_due" ["_law_outer", "_law_rules", "_law_x", "_law_base"] (spDue K n) := fun n => by
  obtain ⟨f, fd, g, b, F⟩ := h
  exact ⟨f, fd, g, F.kp, b, fn__law_due g b F O__law_divide n⟩
def spDueA (K : PySem.W.Frag) : Sp := fun vs H Q E => ∃ n, n ≤ 3 ∧ spDue K n vs H Q E
theorem okA__law_due (h : Has K mg "_law_due" s__law_due ["_law_outer", "_law_rules", "_law_x", "_law_base"]) (O__law_divide : Ok P w K mg base 1 "_law_divide" ["_law_rule", "_law_x", "_law_base"] spDivide) : Ok P w K mg base 5 "_law_due" ["_law_outer", "_law_rules", "_law_x", "_law_base"] (spDueA K) := by
  obtain ⟨f, fd, g, b, F⟩ := h
  refine ⟨f, fd, g, F.kp, b, ⟨fun vs H Q E h => ?_, fun A outer s H args us vs Q E hr e0 bt r h => ?_⟩⟩
  · obtain ⟨n, _, h⟩ := h
    exact (fn__law_due (P := P) (w := w) (base := base) g b F O__law_divide n).len _ _ _ _ h
  · obtain ⟨n, le, h⟩ := h
    exact (fn__law_due g b F O__law_divide n).run A outer s H args us vs Q E (hr.mono (by omega)) e0 bt r h
end
/-! ### _law_places_right -/
section
variable {P : Program} {w : World} {K : PySem.W.Frag} {mg : Str → Option Value} {base : Heap} {aR CB CD CW CZ CN : Addr}
/-- what the law asks of wholes at desks -/
structure WOps (P : Program) (w : World) (K : PySem.W.Frag) (mg : Str → Option Value) (base : Heap) (CB CD CW CZ CN : Addr) : Prop where
  L : WCls P w K mg base CB CD CW CZ
  make : OwnMeth P w K mg base CD 3 "make" ["self", "value"] (spDMake K CW CN)
  rule : OwnP P w K mg base CD 1 "rule" (spRule CD)
  amount : OwnP P w K mg base CW 1 "amount" (spAmount CW)
  div : OwnM P w K mg base CW 6 "__floordiv__" ["self", "other"] (spWOp CD CW CZ (fun q _ => q))
  mod : OwnM P w K mg base CW 6 "__mod__" ["self", "other"] (spWOp CD CW CZ (fun _ e => e))
  rdiv : OwnM P w K mg base CW 6 "__rfloordiv__" ["self", "other"] (spWRop CD CW (fun q _ => q))
  rmod : OwnM P w K mg base CW 6 "__rmod__" ["self", "other"] (spWRop CD CW (fun _ e => e))
  idiv : OwnM P w K mg base CW 6 "__ifloordiv__" ["self", "other"] (spWIop CD CW (fun q _ => q))
  imod : OwnM P w K mg base CW 6 "__imod__" ["self", "other"] (spWIop CD CW (fun _ e => e))
  eq : OwnM P w K mg base CW 1 "__eq__" ["self", "other"] (spWEq K CW)
  ne : NeO K CW
  first : PySem.W.selfFirst K CW = true
  nI : PySem.W.notFirst K CW (.type "int") = true
theorem op_ownInO {X : Cx} {k : Nat} {C : Addr} {ps : List Str} {sp : Sp} {E : XK} {op : Operator} (m : OwnM X.prog X.w X.K X.mg X.base C k (dunderI op.info.2) ps sp) (hr : Room k X.A) (hx : Passes (L2.CX X.prog X.w) X E) (hc : PySem.W.selfFirst X.K C = true) : PIp X op (rOwnIn C sp E) := by
  obtain ⟨f, fd, hs, hf, hb, F⟩ := m
  exact op_ownIn F hr hb hx hc hs hf
theorem dpInts {H : Hp} : ∀ xs : List Int, DpAll K H (xs.map V.int) (xs.map PyData.int)
  | [] => .nil
  | x :: xs => .cons (.int x) (dpInts xs)
theorem shaped_ii (a b : Int) : SeqAt.shaped (.list [.int a, .int b]) = true := rfl
theorem eqv_ii {a b c d : Int} (h : a = c) (g : b = d) : PyData.eqv (.list [.int a, .int b]) (.list [.int c, .int d]) = true := by
  subst h
  subst g
  exact PySem.SeqAt.eqv_refl _ rfl
theorem dp_ii {H : Hp} {l : Addr} {a b : Int} (h : H l = some (.lst [.int a, .int b])) : Dp K H (.ref l) (.list [.int a, .int b]) := .lst (SqL.of h) (.cons (.int _) (.cons (.int _) .nil))
abbrev s__law_places_right : Stmt := top 28
abbrev N__law_places_right : List Str := ["_law_desk", "_law_x", "_law_base", "_law_rule", "_law_one", "_law_two", "_law_held", "_law_whole"]
theorem sc__law_places_right : FnScope N__law_places_right ["_law_desk", "_law_x", "_law_base", "_law_rule"] (defScope s__law_places_right) := ⟨rfl, rfl, rfl, by decide +kernel, rfl, by decide +kernel, by decide +kernel⟩
def spPlaces (CD : Addr) : Sp := fun vs H Q _ => ∃ (d : Addr) (x b : Int) (r : Str), vs = [.ref d, .int x, .int b, .str r] ∧ DeskAt CD H d r ∧ Md x ∧ Md b ∧ b ≠ 0 ∧ ∀ H', Same H H' → Q (.bl true) H'
theorem ok__law_places_right (h : Has K mg "_law_places_right" s__law_places_right ["_law_desk", "_law_x", "_law_base", "_law_rule"]) (W : WOps P w K mg base CB CD CW CZ CN) (O__law_divide : Ok P w K mg base 1 "_law_divide" ["_law_rule", "_law_x", "_law_base"] spDivide) :
    Ok P w K mg base 8 "_law_places_right" ["_law_desk", "_law_x", "_law_base", "_law_rule"] (spPlaces CD) := by
  obtain ⟨f, fd, g, bb, F⟩ := h
  refine ⟨f, fd, g, F.kp, bb, F.ok sc__law_places_right (fun vs H Q E h => ?_) (fun cdv A outer s0 H vs Q E hr h => ?_)⟩
  · obtain ⟨d, x, b, r, rfl, _⟩ := h
    rfl
  · obtain ⟨d, x, b, r, rfl, Dk, mx, mb, b0, z⟩ := h
    have D := W.L.D
    obtain ⟨⟨dd, ed⟩, m5⟩ := id Dk
    refine ⟨_, (pss_cons (ps_par (by rfl) sc__law_places_right.nd (i := 4) (j := 5) rfl rfl (by decide) rfl rfl (pa_cons (pe_methO (pv 0) D.clD W.make (hr.mono (by decide)) passL (pa_cons (pv 1) pa_nil)) (pa_cons (pe_methO (pv 0) D.clD W.make (hr.mono (by decide)) passL (pa_cons (pv 1) pa_nil)) pa_nil)) (by rfl))
      (pss_cons (ps_set (i := 6) sc__law_places_right.nd rfl (.inl rfl) (pe_lst (pa_cons (pv 4) (pa_cons (pv 5) pa_nil))))
      (pss_cons (ps_aug (i := 4) sc__law_places_right.nd rfl (.inl rfl) (pv 2) (op_ownInO (op := .FloorDiv) W.idiv (hr.mono (by decide)) passL W.first))
      (pss_cons (ps_aug (i := 5) sc__law_places_right.nd rfl (.inl rfl) (pe_methO (pv 0) D.clD W.make (hr.mono (by decide)) passL (pa_cons (pv 2) pa_nil)) (op_ownInO (op := .Mod) W.imod (hr.mono (by decide)) passL W.first))
      (pss_cons (ps_if (pt_cmpR (op_neD hr.units) (pe_lc (own := [("_law_whole", 7)]) (g := (gName 7)) (tt := tYes) rfl sc__law_places_right.nd (pi_list (pv 6)) (blkOk_by (N := N__law_places_right) (sc := defScope s__law_places_right) (by decide +kernel)) (fun _ _ _ _ _ => (pg_name (i := 7) sc__law_places_right.nd rfl (.inl rfl))) (fun _ _ _ _ _ => pts_nil) (fun _ _ _ _ _ => (pe_propO (pv 7) D.clW W.amount (hr.mono (by decide)) passL))) (pe_lst (pa_cons (pe_propO (pv 4) D.clW W.amount (hr.mono (by decide)) passL) (pa_cons (pe_propO (pv 5) D.clW W.amount (hr.mono (by decide)) passL) pa_nil))) (nomark _))
        (pss_one (ps_ret pe_bl))
        pss_nil)
      (pss_cons (ps_if (pt_cmpR (op_neD hr.units) (pe_lst (pa_cons (pe_propO (pv 4) D.clW W.amount (hr.mono (by decide)) passL) (pa_cons (pe_propO (pv 5) D.clW W.amount (hr.mono (by decide)) passL) pa_nil))) (pe_lst (pa_cons (pe_ix ix_tup (pe_cO O__law_divide (hr.mono (by decide)) pass0 rfl (pa_cons (pv 3) (pa_cons (pv 1) (pa_cons (pv 2) pa_nil)))) pe_int (fun _ _ => rfl)) (pa_cons (pe_ix ix_tup (pe_cO O__law_divide (hr.mono (by decide)) pass0 rfl (pa_cons (pv 3) (pa_cons (pv 1) (pa_cons (pv 2) pa_nil)))) pe_int (fun _ _ => rfl)) pa_nil))) (nomark _))
        (pss_one (ps_ret pe_bl))
        pss_nil)
      (pss_one (ps_ret (pe_and (pe_cmpR (op_cmp2O (op := .Eq) W.eq (hr.mono (by decide)) passL rfl) (pv 4) (pe_methO (pv 0) D.clD W.make (hr.mono (by decide)) passL (pa_cons (pe_propO (pv 4) D.clW W.amount (hr.mono (by decide)) passL) pa_nil)) (nomark _)) (pe_and (pe_cmpR (op_neTO (T := "int") W.ne W.eq (hr.mono (by decide)) passL W.nI) (pv 4) (pe_propO (pv 4) D.clW W.amount (hr.mono (by decide)) passL) (nomark _)) (pe_one (pe_cmpR (op_ne2O W.ne W.eq (hr.mono (by decide)) passL) (pv 4) (pe_methO (pv 0) D.clD W.make (hr.mono (by decide)) passL (pa_cons (pe_op op_add (pe_propO (pv 4) D.clW W.amount (hr.mono (by decide)) passL) pe_int) pa_nil)) (nomark _))))))))))))), ?_⟩
    refine ⟨_, rfl, d, dd, _, rfl, ed, rfl, _, rfl, d, _, rfl, .inl ⟨x, rfl, fun o1 H1 n1 s1 W1 => ?_⟩⟩
    have ed1 := s1 _ _ ed
    refine ⟨_, rfl, d, dd, _, rfl, ed1, rfl, _, rfl, d, _, rfl, .inl ⟨x, rfl, fun o2 H2 n2 s2 W2 => ?_⟩⟩
    have s02 : Same H H2 := s1.trans s2
    obtain ⟨y1, w1⟩ := W1.same s2
    obtain ⟨y2, w2⟩ := id W2
    have ne12 : o1 ≠ o2 := by
      obtain ⟨y, w⟩ := W1
      exact ne_of_none w n2
    have nd1 : d ≠ o1 := ne_of_none ed n1
    have nd2 : d ≠ o2 := ne_of_none ed1 n2
    refine ⟨_, _, rfl, ?_⟩
    refine ⟨_, rfl, _, rfl, by show 2 ≤ sizeLine; decide, fun l hl => ?_⟩
    have s3 : Same H2 (upd H2 l (.lst [.ref o1, .ref o2])) := Same.new hl
    have l3 : (upd H2 l (.lst [.ref o1, .ref o2])) l = some (.lst [.ref o1, .ref o2]) := upd_same
    have nl1 : l ≠ o1 := (ne_of_none w1 hl).symm
    have nl2 : l ≠ o2 := (ne_of_none w2 hl).symm
    generalize upd H2 l (.lst [.ref o1, .ref o2]) = H3 at s3 l3 ⊢
    have s03 := s02.trans s3
    refine ⟨_, rfl, _, rfl, o1, y1, _, rfl, s3 _ _ w1, o1, d, .int b, x, b, r, rfl, ⟨y1, s3 _ _ w1⟩, .inl rfl, Dk.same s03, mx, mb, b0, fun q e H4 di k4 W4 => ?_⟩
    have ed4 := k4 _ _ (s03 _ _ ed) nd1
    refine ⟨_, rfl, _, rfl, d, dd, _, rfl, ed4, rfl, _, rfl, d, _, rfl, .inl ⟨b, rfl, fun o3 H5 n5 s5 W5 => ?_⟩⟩
    have w25 := s5 _ _ (k4 _ _ (s3 _ _ w2) (Ne.symm ne12))
    refine ⟨o2, y2, _, rfl, w25, o2, d, .ref o3, x, b, r, rfl, ⟨y2, w25⟩, .inr ⟨o3, d, rfl, W5⟩, ⟨⟨dd, s5 _ _ ed4⟩, m5⟩, mx, mb, b0, fun q2 e2 H6 di2 k6 W6 => ?_⟩
    obtain ⟨hq, he⟩ := IsDiv.uniq m5 b0 di2 di
    subst hq
    subst he
    obtain ⟨z1, v1⟩ := W4
    have v16 := k6 _ _ (s5 _ _ v1) ne12
    obtain ⟨z2, v2⟩ := W6
    have ed6 := k6 _ _ (s5 _ _ ed4) nd2
    have l6 := k6 _ _ (s5 _ _ (k4 _ _ l3 nl1)) nl2
    -- what of the desk's heap stays
    have s06 : Same H H6 := fun c o h => k6 _ _ (s5 _ _ (k4 _ _ (s03 _ _ h) (ne_of_none h n1))) (ne_of_none (s1 _ _ h) n2)
    have one : WholeAt CW H6 o1 d q2 := ⟨z1, v16⟩
    have two : WholeAt CW H6 o2 d e2 := ⟨z2, v2⟩
    refine ⟨_, rfl, l, rfl, ⟨_, SqL.of l6⟩, fun D0 hD => ?_⟩
    refine lc_list (K := K) (xs := [.ref o1, .ref o2]) (fun i G => Same H6 G ∧ G D0 = some (.lst (([q2, e2].take i).map V.int))) ⟨Same.new hD, upd_same⟩ (fun i G _ p => SqL.of (p.1 _ _ l6)) ?_ ?_
    · rintro i v G hx ⟨sm, gD⟩
      have stay : ∀ o, Same H6 (upd G D0 o) := fun o c o2 h => by
        rw [upd_ne (ne_of_none h hD)]
        exact sm _ _ h
      match i, hx with
      | 0, hx =>
        obtain rfl := Option.some.inj hx
        refine ⟨rfl, ?_⟩
        exact ⟨_, rfl, o1, z1, _, rfl, sm _ _ v16, o1, d, q2, rfl, one.same sm, _, gD, by show 0 < sizeLine; decide, stay _, upd_same⟩
      | 1, hx =>
        obtain rfl := Option.some.inj hx
        refine ⟨rfl, ?_⟩
        exact ⟨_, rfl, o2, z2, _, rfl, sm _ _ v2, o2, d, e2, rfl, two.same sm, _, gD, by show 1 < sizeLine; decide, stay _, upd_same⟩
      | n + 2, hx => simp at hx
    · rintro G ⟨sm, gD⟩
      refine ⟨_, rfl, o1, z1, _, rfl, sm _ _ v16, o1, d, q2, rfl, one.same sm, _, rfl, o2, z2, _, rfl, sm _ _ v2, o2, d, e2, rfl, two.same sm, by show 2 ≤ sizeLine; decide, fun l2 hl2 => ?_⟩
      have u1 : Same G (upd G l2 (.lst [.int q2, .int e2])) := Same.new hl2
      refine ⟨_, _, dp_ii (u1 _ _ gD), dp_ii upd_same, rfl, rfl, _, rfl, iteN (by rw [eqv_ii rfl rfl]; decide) ?_⟩
      generalize upd G l2 (.lst [.int q2, .int e2]) = G1 at u1 ⊢
      have t1 := sm.trans u1
      refine ⟨_, rfl, o1, z1, _, rfl, t1 _ _ v16, o1, d, q2, rfl, one.same t1, _, rfl, o2, z2, _, rfl, t1 _ _ v2, o2, d, e2, rfl, two.same t1, by show 2 ≤ sizeLine; decide, fun l3 hl3 => ?_⟩
      have u2 : Same G1 (upd G1 l3 (.lst [.int q2, .int e2])) := Same.new hl3
      have y3 : (upd G1 l3 (.lst [.int q2, .int e2])) l3 = some (.lst [.int q2, .int e2]) := upd_same
      generalize upd G1 l3 (.lst [.int q2, .int e2]) = G2 at u2 y3 ⊢
      refine ⟨_, rfl, _, rfl, _, rfl, r, x, b, rfl, m5, b0, mx, mb, fun q3 e3 p1 d3 hp1 => ?_⟩
      have u3 : Same G2 (upd G2 p1 (.tup [.int q3, .int e3])) := Same.new hp1
      refine ⟨p1, _, 0, _, rfl, rfl, SqT.of upd_same, atI0, ?_⟩
      generalize upd G2 p1 (.tup [.int q3, .int e3]) = G3 at u3 ⊢
      refine ⟨_, rfl, _, rfl, _, rfl, r, x, b, rfl, m5, b0, mx, mb, fun q4 e4 p2 d4 hp2 => ?_⟩
      have u4 : Same G3 (upd G3 p2 (.tup [.int q4, .int e4])) := Same.new hp2
      refine ⟨p2, _, 1, _, rfl, rfl, SqT.of upd_same, atI1, ?_⟩
      generalize upd G3 p2 (.tup [.int q4, .int e4]) = G4 at u4 ⊢
      refine ⟨by show 2 ≤ sizeLine; decide, fun l4 hl4 => ?_⟩
      have u5 : Same G4 (upd G4 l4 (.lst [.int q3, .int e4])) := Same.new hl4
      obtain ⟨f1, f2⟩ := IsDiv.uniq m5 b0 d3 di
      obtain ⟨f3, f4⟩ := IsDiv.uniq m5 b0 d4 di
      refine ⟨_, _, dp_ii (((u3.trans u4).trans u5) _ _ y3), dp_ii upd_same, rfl, rfl, _, rfl, iteN (by rw [eqv_ii f1.symm f4.symm]; decide) ?_⟩
      generalize upd G4 l4 (.lst [.int q3, .int e4]) = G5 at u5 ⊢
      have t5 := ((((t1.trans u2).trans u3).trans u4).trans u5)
      have one5 := one.same t5
      have ed5 := t5 _ _ ed6
      refine ⟨_, rfl, _, rfl, d, dd, _, rfl, ed5, rfl, _, rfl, o1, z1, _, rfl, t5 _ _ v16, o1, d, q2, rfl, one5, d, _, rfl, .inl ⟨q2, rfl, fun o4 G6 n6 u6 W7 => ?_⟩⟩
      obtain ⟨y7, w7⟩ := id W7
      refine ⟨o1, o4, z1, y7, _, _, rfl, rfl, u6 _ _ (t5 _ _ v16), w7, o1, d, _, q2, rfl, one5.same u6, .inl ⟨o4, d, q2, rfl, W7, _, rfl, ite2 (fun _ => ?_) (fun c => absurd (decide_eq_true rfl) c)⟩⟩
      have t6 := t5.trans u6
      have one6 := one.same t6
      refine ⟨_, rfl, _, rfl, o1, z1, _, rfl, t6 _ _ v16, o1, d, q2, rfl, one6, o1, z1, _, rfl, t6 _ _ v16, (fun u hu => by cases u <;> first | rfl | exact hu.elim | (obtain ⟨t, e⟩ := hu; cases e)), o1, d, _, q2, rfl, one6, .inr ⟨_, .base (.int _), D.kIW, _, rfl, _, rfl, ite2 (fun _ => ?_) (fun c => absurd rfl c)⟩⟩
      refine ⟨_, rfl, _, rfl, d, dd, _, rfl, t6 _ _ ed6, rfl, _, rfl, o1, z1, _, rfl, t6 _ _ v16, o1, d, q2, rfl, one6, _, _, rfl, rfl, d, _, rfl, .inl ⟨_, rfl, fun o5 G7 n7 u7 W8 => ?_⟩⟩
      obtain ⟨y8, w8⟩ := id W8
      refine ⟨o1, o5, z1, y8, _, _, rfl, rfl, u7 _ _ (t6 _ _ v16), w8, o1, d, _, q2, rfl, one6.same u7, .inl ⟨o5, d, _, rfl, W8, _, rfl, ?_⟩⟩
      rw [decide_eq_false (show ¬ q2 = q2 + 1 by omega)]
      exact z _ ((s06.trans t6).trans u7)
end
/-! ### defs that raise nothing, called while an exception is handled -/
structure RoomM (k : Nat) (A : Around) : Prop where
  dp : A.depth + 3 * k + 5 < recursionLimit
  un : A.units + 16 * k + 200 < cLine
theorem Room.m {k : Nat} {A : Around} (r : Room k A) (h : Option Value) : RoomM k (A.mark h) := ⟨r.dp, r.un⟩
theorem RoomM.cold {k : Nat} {A : Around} (r : RoomM k A) : Room k { A with handled := none } := ⟨rfl, r.dp, r.un⟩
theorem RoomM.deeper {k : Nat} {A : Around} (r : RoomM (k + 1) A) (env : Env) : RoomM k (A.deeper env) := ⟨(r.cold.deeper env).dp, (r.cold.deeper env).un⟩
/-- such a def, called wherever there is room -/
structure FnM (P : Program) (w : World) (K : PySem.W.Frag) (mg : Str → Option Value) (base : Heap) (k : Nat) (f : Addr) (fd : FuncData) (ps : List Str) (sp : Sp) : Prop where
  lens : ∀ vs H Q E, sp vs H Q E → vs.length = ps.length
  goes : ∀ (A : Around) (outer : List Env) (s : Shared) (H : Hp) (args : Args) (us : List Value) (vs : List V) (Q : VK), RoomM k A → Env0 P w K mg base A outer s H →
    BindsTo s fd args (ps.zip us) → Vals vs us → sp vs H Q E0 → codeAny (model P w) A (.call (.ref f) args) (CR CX0 outer P w H s Q E0) s
/-- its frame: nothing is promised of what is handled, nothing may be raised -/
abbrev cxM (P : Program) (w : World) (K : PySem.W.Frag) (mg : Str → Option Value) (base : Heap) (N : List Str) (qual : Str) (scope : Scope) (f : Addr) (cd : Value) (A : Around) (outer : List Env) (s : Shared) (H : Hp) : Cx :=
  { cxOf CX0 P w K mg base N qual scope f cd A outer s H E0 with calm := false, xe := fun _ _ => False }
theorem fnM_of {P : Program} {w : World} {K : PySem.W.Frag} {mg : Str → Option Value} {base : Heap} {k : Nat} {f : Addr} {name qual : Str} {params : Arguments} {body : List Stmt} {scope : Scope} {dV kV doc pm cdv ct oc : Value} {an od : Option Addr}
    {osl : Array (Option Value)} {N ps : List Str} {sp : Sp} (lk : K.lookup f = some ⟨oc, od, .func (PySem.W.fnOf name qual params body scope dV kV doc pm an cdv ct), osl⟩) (hcd : PySem.W.codeIn K cdv qual = true) (S : FnScope N ps scope)
    (len : ∀ vs H Q E, sp vs H Q E → vs.length = ps.length)
    (hbody : ∀ (A : Around) (outer : List Env) (s : Shared) (H : Hp) (vs : List V) (Q : VK), RoomM k (A.deeper (PyProof.Rows.envOfC qual scope s.heap.objs.size f cdv)) → sp vs H Q E0 →
      ∃ t, PSs (cxM P w K mg base N qual scope f cdv A outer s H) body t ∧ t { nx := fun _ H' => Q .non H', rt := Q } (start N vs) H) :
    FnM P w K mg base (k + 1) f (PySem.W.fnOf name qual params body scope dV kV doc pm an cdv ct) ps sp := by
  refine ⟨len, fun A outer s H args us vs Q room e0 hb r hsp => ?_⟩
  have many := len _ _ _ _ hsp
  have cold : Env0 P w K mg base { A with handled := none } outer s H := ⟨e0.frames, e0.mod, e0.bs, e0.bsz, e0.funs, e0.frf, e0.hok, e0.bare⟩
  have part : K.In s.heap := e0.mod.kin.keeps fun b o z => (e0.bs b o z).1
  have below : s.heap.NoLimit := e0.mod.nolimit.keeps fun b o z => (e0.bs b o z).1
  have kinds : ∀ y ∈ ps.zip us, scope.names.lookup y.1 = some .local ∨ (scope.names.lookup y.1 = some .cell ∧ ((PySem.cellsFrom (s.heap.objs.size + 1) scope.names []).lookup y.1).isSome = true) := by
    rintro ⟨n, v⟩ hy
    exact (S.par n (List.of_mem_zip hy).1).imp id fun q => ⟨q, PySem.W.cellsFrom_some _ _ _ (.inl q)⟩
  refine PySem.codeAny_call_function room.cold.depth (part _ _ lk) rfl S.co S.gen rfl (PySem.W.codeRec_of part hcd) (hb _ _ _ _ (PySem.wpAny_newFunctionEnv_cells S.kind kinds ?_))
  intro env he s1 x
  subst he
  obtain ⟨t, ht, hq⟩ := hbody A outer s H vs Q (room.deeper _) hsp
  have J := inv_start (CX := CX0) (N := N) (qual := qual) (f := f) (cd := cdv) (E := E0) S rfl cold many r x
  have o := J.ok
  have I : Inv (cxM P w K mg base N qual scope f cdv A outer s H) [] (start N vs) H s1 :=
    ⟨⟨o.mod, o.kind, o.glob, o.blt, o.above, o.inj, o.has, o.cab, fun z => (by cases z), Around.frames_deeper e0.frames, o.stk, o.exf, o.bs, o.bsz, o.noex, o.exfs, o.funs, o.frf⟩, J.os, J.bare, J.base, J.loc, J.cell, J.free, J.freeC, J.pin, J.hok, J.len⟩
  refine ⟨below.keeps x.toInCall.keep, PySem.codeAny_func (wpAny_mono (ht.run [] s1 (start N vs) H _ I hq) ?_ fun _ _ z => z.elim)⟩
  rintro (_ | _ | _ | u) s' hs
  · obtain ⟨σ', H', J, q⟩ := hs
    exact ⟨V.non, H', J.os, J.bare, J.base, J.hok, rfl, q⟩
  · exact hs.elim fun _ z => z.elim fun _ z => z.2.elim
  · exact hs.elim fun _ z => z.elim fun _ z => z.2.elim
  · obtain ⟨v, σ', H', J, rv, q⟩ := hs
    exact ⟨v, H', J.os, J.bare, J.base, J.hok, rv, q⟩
theorem Fun.okM {P : Program} {w : World} {K : PySem.W.Frag} {mg : Str → Option Value} {base : Heap} {x qual : Str} {st : Stmt} {f : Addr} {fd : FuncData} {N ps : List Str} {k : Nat} {sp : Sp} (F : Fun K x qual st f fd) (S : FnScope N ps (defScope st)) (len : ∀ vs H Q E, sp vs H Q E → vs.length = ps.length)
    (hbody : ∀ (cdv : Value) (A : Around) (outer : List Env) (s : Shared) (H : Hp) (vs : List V) (Q : VK), RoomM k (A.deeper (PyProof.Rows.envOfC qual (defScope st) s.heap.objs.size f cdv)) → sp vs H Q E0 →
      ∃ t, PSs (cxM P w K mg base N qual (defScope st) f cdv A outer s H) (defBody st) t ∧ t { nx := fun _ H' => Q .non H', rt := Q } (start N vs) H) : FnM P w K mg base (k + 1) f fd ps sp := by
  obtain ⟨oc, od, kV, doc, pm, an, cdv, ct, osl, rfl, lk, hcd⟩ := F.ex
  exact fnM_of lk hcd S len fun A outer s H vs Q room hsp => hbody cdv A outer s H vs Q room hsp
/-! ### __exit__, also while an exception is handled -/
section
variable {P : Program} {w : World} {K : PySem.W.Frag} {mg : Str → Option Value} {base : Heap} {CB CD CW : Addr}
theorem ok_Block_exitM {f : Addr} {fd : FuncData} (F : Fun K "__exit__" "RuleBlock.__exit__" s_RuleBlock___exit__ f fd) (D : DTx K mg CB CD CW) : FnM P w K mg base 1 f fd ["self", "kind", "value", "trace"] (spExit CB CD) := by
  refine Fun.okM F sc_RuleBlock___exit__ (fun vs H Q E h => ?_) (fun cdv A outer s H vs Q room h => ?_)
  · obtain ⟨b, d, r, r0, r1, k, v, t, rfl, _⟩ := h
    rfl
  · obtain ⟨b, d, r, r0, r1, k, v, t, rfl, B, m, Dk, z⟩ := h
    obtain ⟨dx, eb⟩ := B
    obtain ⟨⟨dd, ed⟩, m1⟩ := Dk
    refine ⟨_, (pss_cons (ps_set (i := 4) sc_RuleBlock___exit__.nd rfl (.inl rfl) (pe_fld (pv 0) rfl)) (pss_one (ps_fld (pv 4) (pe_fld (pv 0) rfl) rfl))), ?_⟩
    refine ⟨_, rfl, b, CB, dx, _, _, rfl, eb, D.clB, D.bD, rfl, ?_⟩
    refine ⟨_, rfl, b, CB, dx, _, _, rfl, eb, D.clB, D.bE, rfl, _, rfl, d, CD, dd, _, rfl, ed, D.clD, D.dR, by show 1 < 1000; decide, ?_⟩
    exact z _ (fun c o h n => by rw [upd_ne n]; exact h) ⟨⟨dd, upd_same⟩, m⟩
end
/-! ### an expression is asked; where it raises, the error is noted and what R does of it is told -/
section
variable {X : Cx} {e : Expr} {te : WX → TE}
theorem leave_run {R : Value → Sem Flow} {Q : Value → Shared → Prop} {QK : VK} {pins : List (Addr × Obj)} {σ : St} {H : Hp} {s : Shared} {D : Ends} {W : WX} (top : X.stack = X.env :: X.outer) (own : X.env.frame = some X.env.locals) (I : Inv X pins σ H s)
    (he : ∀ (W : WX) (pn : List (Addr × Obj)) (xe : Value → Shared → Prop), Takes (X.tr pn xe) W → PassesOwn (model X.prog X.w) X.A X.env xe → PE (X.tr pn xe) e (te W)) (q : te W σ H QK) (ok : ∀ u z, EP X pins σ QK u z → Q u z)
    (bad : ∀ (a : Addr) (B : Heap) (sI z : Shared) (kd : Value) (dd : Option Addr) (τ : St) (G : Hp) (h1 : Heap), Inv X pins τ G sI → (∀ b o, sI.heap.get? b = some o → b ∉ frs X.stack → B.get? b = some o) → sI.heap.UpToSlots h1 → G a = none → z.os = sI.os → PyProof.Rows.AllBare z.gens →
      HandSPX.FlyingZ B (X.env :: X.outer) a (Zc kd dd) h1 → Inv X pins τ G { z with heap := h1 } → W kd dd τ G → wpAny (model X.prog X.w) X.A (R (.ref a)) (SP X pins D) X.xe { z with heap := h1 }) :
    wpAny (model X.prog X.w) X.A (eval e X.env) Q (fun err z => wpAny (model X.prog X.w) X.A (noteFrame err X.env >>= fun _ => setFlight err .none >>= fun _ => R err) (SP X pins D) X.xe z) s := by
  refine wpAny_mono ((he W (X.pn ++ pins) (fun err z => wpAny (model X.prog X.w) X.A (noteFrame err X.env) (fun _ z1 => wpAny (model X.prog X.w) X.A (setFlight err .none) (fun _ z2 => wpAny (model X.prog X.w) X.A (R err) (SP X pins D) X.xe z2) X.xe z1) X.xe z) (fun u z caught => ?_) PassesOwn.looking).run [] s σ H QK (I.toTry _) q)
    (fun u z y => ok u z ?_) fun err z y => wpAny_bind (wpAny_mono y (fun _ z1 y1 => wpAny_bind y1) fun _ _ y1 => y1)
  · have fit := I.ok
    have frs_ : X.A.frames = some (X.env :: X.outer) := fit.frames.trans (by rw [top])
    obtain ⟨a, B, sI, pins1, τ1, G1, kd, dd, rfl, J1, nb, up, sky, free, os, ag, wish⟩ := caught
    have J : Inv X pins τ1 G1 sI := J1.ofTry fit
    show wpAny _ _ (noteFrame (.ref a) X.env) _ _ _
    refine Sky.land Zc.steady frs_ own (by rw [← top]; exact sky) fun h1 fly1 up1 => ?_
    exact bad a B sI z kd dd τ1 G1 h1 J nb (up.trans up1) free os ag fly1 (J.landed nb fly1.1 (up.trans up1) os ag) wish
  · obtain ⟨v, G, J1, r, w⟩ := y
    exact ⟨v, G, J1.ofTry I.ok, r, w⟩
end
/-! ### lambdas as values: their function objects are told -/
section
open LamX
variable {X : Cx} {pins : List (Addr × Obj)} {σ : St} {H : Hp} {s : Shared}
/-- at f: the lambda of this text, its names captured from the cells clo, its code object at c' -/
def LamO (f : Addr) (q : Str) (params : Arguments) (body : Expr) (scope : Scope) (clo : List (Str × Addr)) (c' : Addr) : HO :=
  .ext fun h => ∃ pm ctv : Value, h.get? f = some (PySem.W.kla_obj "<lambda>" q params body scope clo pm c' ctv)
theorem lamO_ok {P : Program} {w : World} {G : Hp} {h : Heap} {f c' : Addr} {q : Str} {params : Arguments} {body : Expr} {scope : Scope} {clo : List (Str × Addr)} {pm ctv : Value} (e : h.get? f = some (PySem.W.kla_obj "<lambda>" q params body scope clo pm c' ctv)) :
    ObjOk P w G h f (LamO f q params body scope clo c') := ⟨⟨pm, ctv, e⟩, ⟨_, e⟩, fun _ _ ⟨a, b, z⟩ k => ⟨a, b, k _ z⟩⟩
theorem lamO_at {P : Program} {w : World} {G : Hp} {h : Heap} {f c' : Addr} {q : Str} {params : Arguments} {body : Expr} {scope : Scope} {clo : List (Str × Addr)} (ok : HOk P w G h) (e : G f = some (LamO f q params body scope clo c')) :
    ∃ pm ctv : Value, h.get? f = some (PySem.W.kla_obj "<lambda>" q params body scope clo pm c' ctv) := (show ObjOk P w G h f (.ext _) from ok f _ e).1
theorem lamO_tbl {f c' : Addr} {q : Str} {params : Arguments} {body : Expr} {scope : Scope} {clo : List (Str × Addr)} (ps : Array Value) : LamO f q params body scope clo c' ≠ .tbl ps := fun z => by
  unfold LamO at z
  cases z
/-- the lambda is made, and told from then on -/
theorem lam_told {T : List (Addr × Str)} {c P : Addr} {params : Arguments} {body : Expr} {scope : Scope} {pos : Pos} {E Q : Value → Shared → Prop} (I : Inv X pins σ H s) (TB : TabB X.base X.mg c P) (code : X.env.code = .ref c) (inT : (P, X.env.qual ++ "<lambda>") ∈ T)
    (one : ∀ p ∈ T, p.1 = P → p.2 = X.env.qual ++ "<lambda>") (tabs : Tabs T H) (dfl : defaultsOf params X.env = ([], [])) (free : ∀ y ∈ scope.names, y.2 = .free → ∃ c, X.env.cells.lookup y.1 = some c)
    (z : ∀ (f c' : Addr) (G : Hp) (s' : Shared), Inv X pins σ G s' → ExtN H G → Tabs T G → H f = none → G f = some (LamO f (X.env.qual ++ "<lambda>") params body scope (cloFrom X.env.cells scope.names []) c') → G c' = some (CodeO c' (X.env.qual ++ "<lambda>")) → Q (.ref f) s') :
    wpAny (model X.prog X.w) X.A (eval (.Lambda params body scope pos) X.env) Q E s := by
  obtain ⟨ps, hP, tri, among⟩ := tabs _ inT
  have bP := TB.bm.keeps I.bk
  have at_P : s.heap.get? P = some { cls := .none, data := .fields ps } := I.hok P _ hP
  refine PySem.W.kla_eval dfl ?_
  cases look : codeAmong pos ps.toList with
  | none =>
    refine PySem.W.kla_makeFunction (mg := X.mg) (c := c) (P := P) (ps := ps) (closure_ok free) I.ok.glob (I.mod.glob.keeps I.bk) code (TB.code.keeps I.bk) at_P tri look TB.gP bP fun c' ctv h1 tk but low high rec_ tab => ?_
    obtain ⟨c2, oc, vs, t, e2, at_c, dc, vc⟩ := rec_
    cases e2
    have far : s.heap.objs.size ≤ h1.objs.size := Nat.le_trans low (Nat.le_of_lt high)
    have nC : H c' = none := I.hok.fresh low
    -- the code object and the table first, the function then
    have J := inv_table (t' := tk) (more := #[rawInt pos.line, rawInt pos.col, .ref c']) (h' := h1) I hP (fun b o hb e => but b o hb e) tab low ⟨oc, vs, t, at_c, dc, vc⟩
    have nF : H h1.objs.size = none := I.hok.fresh far
    have J2 := J.laid (a := h1.objs.size) (o := LamO h1.objs.size (X.env.qual ++ "<lambda>") params body scope (cloFrom X.env.cells scope.names []) c') (t' := tk)
      (h' := h1.push (PySem.W.kla_obj "<lambda>" (X.env.qual ++ "<lambda>") params body scope (cloFrom X.env.cells scope.names []) ((X.mg "__name__").getD .none) c' ctv)) (fun b o e => Heap.get?_push_of_some _ e) (Nat.le_refl _) (lamO_ok (Heap.get?_push_size _ rfl))
    have nFc : h1.objs.size ≠ c' := Nat.ne_of_gt high
    have grow : ∀ b o, H b = some o → (∀ ps, o ≠ .tbl ps) → (upd (upd (upd H P (.tbl (ps ++ #[rawInt pos.line, rawInt pos.col, .ref c']))) c' (CodeO c' (X.env.qual ++ "<lambda>"))) h1.objs.size
        (LamO h1.objs.size (X.env.qual ++ "<lambda>") params body scope (cloFrom X.env.cells scope.names []) c')) b = some o := fun b o e n => by
      rw [upd_ne (ne_of_none e nF), upd_ne (ne_of_none e nC), upd_ne (fun m => n ps (Option.some.inj (e.symm.trans (by rw [m]; exact hP))))]
      exact e
    refine z h1.objs.size c' _ _ J2 grow (fun p hp => ?_) nF upd_same (by rw [upd_ne (Ne.symm nFc), upd_same])
    by_cases hb : p.1 = P
    · have long : (ps ++ #[rawInt pos.line, rawInt pos.col, .ref c']).toList = ps.toList ++ [rawInt pos.line, rawInt pos.col, .ref c'] := by simp
      have nPf : P ≠ h1.objs.size := ne_of_none hP nF
      rw [one p hp hb, hb]
      refine ⟨_, by rw [upd_ne nPf, upd_ne (ne_of_none hP nC), upd_same], by rw [long]; exact PySem.TriplesOk_snoc _ _ _ _ tri, fun p2 cv h2 => ?_⟩
      rw [long] at h2
      rcases among_app _ tri h2 with y | y
      · obtain ⟨c0, e1, e2⟩ := among p2 cv y
        exact ⟨c0, e1, grow _ _ e2 codeO_ne⟩
      · exact ⟨c', y, by rw [upd_ne (Ne.symm nFc), upd_same]⟩
    · obtain ⟨ps2, a1, a2, a3⟩ := tabs p hp
      refine ⟨ps2, ?_, a2, fun p2 cv h2 => ?_⟩
      · rw [upd_ne (ne_of_none a1 nF), upd_ne (ne_of_none a1 nC), upd_ne hb]
        exact a1
      · obtain ⟨c0, e1, e2⟩ := a3 p2 cv h2
        exact ⟨c0, e1, grow _ _ e2 codeO_ne⟩
  | some cv =>
    obtain ⟨c', e, co⟩ := among pos cv look
    subst e
    refine PySem.W.kla_makeFunctionHit (mg := X.mg) (c := c) (P := P) (ps := ps) (closure_ok free) I.ok.glob (I.mod.glob.keeps I.bk) code (TB.code.keeps I.bk) at_P tri look bP fun ctv h1 tk kp far => ?_
    have nF : H h1.objs.size = none := I.hok.fresh far
    have J := (I.kept (t' := tk) (h' := h1) kp).laid (a := h1.objs.size) (o := LamO h1.objs.size (X.env.qual ++ "<lambda>") params body scope (cloFrom X.env.cells scope.names []) c') (t' := tk)
      (h' := h1.push (PySem.W.kla_obj "<lambda>" (X.env.qual ++ "<lambda>") params body scope (cloFrom X.env.cells scope.names []) ((X.mg "__name__").getD .none) c' ctv)) (fun b o e => Heap.get?_push_of_some _ e) (Nat.le_refl _) (lamO_ok (Heap.get?_push_size _ rfl))
    have grow : ∀ b o, H b = some o → (upd H h1.objs.size (LamO h1.objs.size (X.env.qual ++ "<lambda>") params body scope (cloFrom X.env.cells scope.names []) c')) b = some o := fun b o e => by
      rw [upd_ne (ne_of_none e nF)]
      exact e
    exact z h1.objs.size c' _ _ J (.of grow) (tabs.ext grow) nF upd_same (grow _ _ co)
/-- what a lambda as a value asks: f is new, and told -/
def tLamV (T : List (Addr × Str)) (q : Str) (params : Arguments) (body : Expr) (scope : Scope) (clo : List (Str × Addr)) : TE := fun _ H Q => Tabs T H ∧ ∀ (f c' : Addr) (G : Hp), ExtN H G → Tabs T G → H f = none → G f = some (LamO f q params body scope clo c') → G c' = some (CodeO c' q) → Q (.ref f) G
theorem pe_lamV {T : List (Addr × Str)} {c P : Addr} {params : Arguments} {body : Expr} {scope : Scope} {pos : Pos} (TB : TabB X.base X.mg c P) (code : X.env.code = .ref c) (inT : (P, X.env.qual ++ "<lambda>") ∈ T) (one : ∀ p ∈ T, p.1 = P → p.2 = X.env.qual ++ "<lambda>")
    (L : LamS X.env.scope scope) (dfl : defaultsOf params X.env = ([], [])) : PE X (.Lambda params body scope pos) (tLamV T (X.env.qual ++ "<lambda>") params body scope (cloFrom X.env.cells scope.names [])) :=
  ⟨fun pins s σ H Q I h => lam_told I TB code inT one h.1 dfl (L.has I.ok) fun f c' G s' J e t n a b => ⟨.ref f, G, J, rfl, h.2 f c' G e t n a b⟩⟩
end
section
open LamX
variable {X : Cx} {pins : List (Addr × Obj)} {σ : St} {H : Hp} {s : Shared}
abbrev LamF (X : Cx) (f : Addr) (params : Arguments) (body : Expr) (scope : Scope) (c' : Addr) (G : Hp) : Prop :=
  G f = some (LamO f (X.env.qual ++ "<lambda>") params body scope (cloFrom X.env.cells scope.names []) c') ∧ G c' = some (CodeO c' (X.env.qual ++ "<lambda>"))
/-- a lambda takes no arguments -/
abbrev Bare (X : Cx) (params : Arguments) (body : Expr) (scope : Scope) : Prop :=
  ∀ (pm cv ctv : Value), bindArgs (PySem.W.kla_fn "<lambda>" (X.env.qual ++ "<lambda>") params body scope (cloFrom X.env.cells scope.names []) pm cv ctv) ⟨[], []⟩ = pure []
/-- x(), in a def that is called from X's frame at s and was handed a lambda of X -/
theorem pe_act2 {CXg : CXT} {Eg : XK} {Ng : List Str} {qg a : Str} {sg scope : Scope} {g : Addr} {cdg : Value} {params : Arguments} {body : Expr} {k i : Nat} {pn : List (Addr × Obj)} {xe : Value → Shared → Prop} {W : WX} {tb : XK → TE} {p1 p2 : Pos}
    (I : Inv X pins σ H s) (L : LamS X.env.scope scope) (bare : Bare X params body scope) (tk : Takes ((cxOf CXg X.prog X.w X.K X.mg X.base Ng qg sg g cdg X.A X.stack s H Eg).tr pn xe) W)
    (room : Room (k + 1) (X.A.deeper (PyProof.Rows.envOfC qg sg s.heap.objs.size g cdg)))
    (bod : ∀ (A : Around) (outer : List Env) (s : Shared) (H : Hp) (E : XK) (f c' : Addr), Room k (A.deeper (lamEnv X scope s.heap.objs.size f c')) → PE (lamCx X A outer s H E scope f c') body (tb E))
    (at_i : Ng[i]? = some a) (vis : Vis sg a) (nd : (a == ("__debug__" : Str)) = false := by decide) (nc : (a == ("__classdict__" : Str)) = false := by decide) :
    PE ((cxOf CXg X.prog X.w X.K X.mg X.base Ng qg sg g cdg X.A X.stack s H Eg).tr pn xe) (.Call (.Name a p1) [] [] p2) (fun τ G Q => ∃ (E : XK) (f c' : Addr), (∀ cls d τ G, E cls d G → W cls d τ G) ∧ τ[i]? = some (some (.ref f)) ∧ LamF X f params body scope c' G ∧ tb E σ G Q) := by
  refine ⟨fun pz z τ G Q J w => ?_⟩
  obtain ⟨E, f, c', wish, in_i, ⟨ef, ec⟩, ht⟩ := w
  refine wpAny_Call_Name_kw (thn ((pe_var (pos := p1) at_i vis nd nc).run pz z τ G (fun v G1 => v = .ref f ∧ G1 = G) J ⟨.ref f, in_i, rfl, rfl⟩) fun u z1 hu => ?_)
  obtain ⟨v, G1, J1, rv, rfl, rfl⟩ := hu
  obtain rfl : u = Value.ref f := rv
  obtain ⟨pm, ctv, at_f⟩ := lamO_at J1.hok ef
  obtain ⟨⟨oc, vs, t, at_c, dc, vc⟩, _, _⟩ := (show ObjOk _ _ _ _ c' (CodeO c' (X.env.qual ++ "<lambda>")) from J1.hok c' _ ec)
  refine PySem.W.callWith_F0 ⟨_, _, _, _, at_f⟩ (PySem.wpAny_call ?_)
  have un : Un (frs X.stack) [] H G1 s.heap z1.heap := J1.base
  have runs : codeAny (model X.prog X.w) (X.A.deeper (PyProof.Rows.envOfC qg sg s.heap.objs.size g cdg)) (.call (.ref f) ⟨[], []⟩)
      (CR (L2.CX X.prog X.w) (PyProof.Rows.envOfC qg sg s.heap.objs.size g cdg :: X.stack) X.prog X.w G1 z1 Q E) z1 := by
    refine PySem.W.kla_callFunE room.depth at_f rfl L.co L.gen rfl ⟨c', oc, vs, t, rfl, at_c, dc, vc⟩ ?_
    rw [bare]
    refine PySem.wpAny_pure (PySem.wpAny_newFunctionEnv (fun y hy => (L.own y hy).2) (fun y hy => absurd hy (by simp)) (fun h1 ns but => ⟨J1.nolimit.fresh _ but, ?_⟩) L.kind)
    have kp : ∀ b o, z1.heap.get? b = some o → h1.get? b = some o := fun b o e => but.extBut b o (Nat.ne_of_lt (Heap.lt_size e)) (Heap.get?_push_of_some _ e)
    have S := lam_start2 (E := E) (f := f) (c' := c') (tk := z1.toks + ([] : List (Str × Value)).length) I L J1.env0 room.hd un ns kp
    show codeAny _ _ (.expr body (lamEnv X scope z1.heap.objs.size f c')) _ _
    refine PySem.W.kla_codeExpr (PySem.wpAny_mono ((bod _ _ z1 G1 E f c' (room.deeper _)).run [] _ _ G1 Q S ht) (fun v z2 y => ?_) fun _ _ y => y)
    obtain ⟨v', G2, S2, r2, q2⟩ := y
    exact ⟨v', G2, S2.os, S2.bare, S2.base, S2.hok, r2, q2⟩
  refine PySem.codeAny_mono runs ?_
  rintro (er | _ | _ | _ | u) z2 y
  · exact passes_call tk wish pz τ G1 z1 er z2 J1 y
  · exact y.elim
  · exact y.elim
  · exact y.elim
  · exact J1.after y
end
/-! ### a comprehension whose element looks back at the def that holds it -/
section
open PyProof.Rows hiding St
variable {X : Cx}
/-- from the block back to its def -/
def Back (X : Cx) (pins : List (Addr × Obj)) (σ : St) (s : Shared) (H : Hp) (scope : Scope) (ce : Env) (fp : List Addr) : Prop :=
  ∀ (pz : List (Addr × Obj)) (τ : St) (G : Hp) (z : Shared), Inv (X.blk s H scope ce fp) pz τ G z → Inv X pins σ G z
theorem pe_lcB {elt tg iter : Expr} {scope : Scope} {own : List (Str × Nat)} {pos : Pos} {wi : TI} {g : TG} {te : St → TE} (calm : X.calm = true) (nd : X.N.Nodup) (wk : PI X tg iter wi) (bk : BlkOk X.N X.env.scope scope own)
    (gg : ∀ (s : Shared) (H : Hp) (C : Addr) (cl : List (Str × Addr)) (fp : List Addr), PG (X.blk s H scope (compEnvC scope cl C X.env) fp) tg g)
    (ee : ∀ (pins : List (Addr × Obj)) (σ : St) (s : Shared) (H : Hp) (C : Addr) (cl : List (Str × Addr)) (fp : List Addr), Back X pins σ s H scope (compEnvC scope cl C X.env) fp → PE (X.blk s H scope (compEnvC scope cl C X.env) fp) elt (te σ))
    (same : ∀ x, foldedSetIterable iter X.env x = pure x := by intro _; rfl) : PE X (.ListComp elt [⟨tg, iter, [], 0⟩] scope pos) (fun σ H Q => tLc wi g tYes (te σ) (own.map (·.2)) σ H Q) := by
  refine ⟨fun pins s σ H Q I w => ?_⟩
  rw [eval_ListComp]
  have caught : ∀ y ∈ scope.names, y.2 = .free → ∃ c, X.env.cells.lookup y.1 = some c := fun y hy e => (bk.free y hy e).elim (fun k => I.ok.has _ (.inl k)) fun k => I.ok.has _ (.inr k)
  refine wpAny_comprehension_free (use := none) rfl same (closure_ok caught) bk.kind (fun y hy e => by rw [bk.uniq y hy, e]) (thn (wk.run pins s σ H _ I w) fun v1 s1 h1 => thn h1 fun v2 s2 h2 => ?_)
  obtain ⟨it, fp, turn_at, J, H2, rfl, I2, T, st2, frees, w⟩ := h2
  refine wpAny_newObj_type (newEnv_comp ?_) (by show 0 ≤ sizeLine; decide)
  have newD : H2 s2.heap.objs.size = none := I2.hok.fresh (Nat.le_refl _)
  obtain ⟨W, ⟨m0, w0⟩, turn⟩ := w s2.heap.objs.size newD
  generalize eD : s2.heap.objs.size = D at newD w0 turn
  -- the list that is filled
  have stay3 : ∀ b o, s2.heap.get? b = some o → (s2.heap.push { cls := .type "list", data := .seq ([] : List Value).toArray }).get? b = some o := fun b o e => Heap.get?_push_of_some _ e
  have I3 : Inv X pins σ (upd H2 D (.lst [])) { s2 with heap := s2.heap.push { cls := .type "list", data := .seq ([] : List Value).toArray } } :=
    I2.laid (t' := s2.toks) stay3 (Nat.le_of_eq eD) ⟨Nat.zero_le _, [], 0, .nil, by rw [← eD]; exact Heap.get?_push_size _ rfl⟩
  have size3 : (s2.heap.push { cls := .type "list", data := .seq ([] : List Value).toArray }).objs.size = s2.heap.objs.size + 1 := Heap.size_push _ _
  have frees3 : ∀ b ∈ fp, FpOk X pins (upd H2 D (.lst [])) b ∧ b < (s2.heap.push { cls := .type "list", data := .seq ([] : List Value).toArray }).objs.size := fun b hb => by
    obtain ⟨o, e, _⟩ := T.obj _ _ st2 b hb
    have lt := Heap.lt_size e
    refine ⟨⟨?_, (frees b hb).2⟩, by rw [size3]; exact Nat.lt_succ_of_lt lt⟩
    rw [upd_ne (by rw [← eD]; exact Nat.ne_of_lt lt)]
    exact (frees b hb).1
  have st3 : turn_at 0 (s2.heap.push { cls := .type "list", data := .seq ([] : List Value).toArray }) := T.keep _ _ _ st2 fun b _ o e => stay3 b o e
  generalize e3 : ({ s2 with heap := s2.heap.push { cls := .type "list", data := .seq ([] : List Value).toArray } } : Shared) = s3 at I3
  have h3 : s3.heap = s2.heap.push { cls := .type "list", data := .seq ([] : List Value).toArray } := by rw [← e3]
  rw [← h3] at frees3 st3
  have I4 := block_start I3 bk nd frees3
  have pg := gg s3 (upd H2 D (.lst [])) s3.heap.objs.size (cellsFrom (s3.heap.objs.size + 1) scope.names (cloFrom X.env.cells scope.names [])) fp
  have pe := ee pins σ s3 (upd H2 D (.lst [])) s3.heap.objs.size (cellsFrom (s3.heap.objs.size + 1) scope.names (cloFrom X.env.cells scope.names [])) fp
  show codeAny _ _ (.compStart (.ListComp elt [⟨tg, iter, [], 0⟩] scope pos) 0 (.ref it) (.ref D) (compEnvC scope (cellsFrom (s3.heap.objs.size + 1) scope.names (cloFrom X.env.cells scope.names [])) s3.heap.objs.size X.env))
    (compPost (model X.prog X.w) X.A X.xe none (EP X pins σ Q) (.ref D) s3.heap.objs.size) { s3 with heap := pushCells (s3.heap.push { cls := .type "dict", data := .dict #[] }) scope.names }
  have free3 : ∀ b ∈ fp, (upd H2 D (.lst [])) b = none := fun b hb => (frees3 b hb).1.1
  generalize eC : compEnvC scope (cellsFrom (s3.heap.objs.size + 1) scope.names (cloFrom X.env.cells scope.names [])) s3.heap.objs.size X.env = ce at I4 pg pe ⊢
  have locals : ce.locals = s3.heap.objs.size := by rw [← eC]; rfl
  generalize eH : upd H2 D (.lst []) = H3 at I3 I4 pg pe w0 free3 frees3
  generalize e4 : ({ s3 with heap := pushCells (s3.heap.push { cls := .type "dict", data := .dict #[] }) scope.names } : Shared) = s4 at I4 ⊢
  have st4 : turn_at 0 s4.heap := T.keep _ _ _ st3 fun b _ o e => by
    rw [← e4]
    exact pushCells_keeps _ _ _ _ (Heap.get?_push_of_some _ e)
  -- the way back
  have back : Back X pins σ s3 H3 scope ce fp := fun pz τ G z V => I3.call' (ch := fp) V.os V.base V.hok V.bare fun b hb => by
    obtain ⟨⟨_, y1, _, y3, y4, y5⟩, _⟩ := frees3 b hb
    exact ⟨y3, y1, y4, y5⟩
  have walked : ∀ {τ : St} {G : Hp} {z : Shared}, Inv (X.blk s3 H3 scope ce fp) [] τ G z → (∀ b ∈ fp, G b = none) → ∀ b ∈ fp, FpOk (X.blk s3 H3 scope ce fp) [] G b := fun {τ G z} V n b hb =>
    ⟨n b hb, (V.ok.exf b hb).1, V.ok.exfs b hb, .inl hb, fun x c e => (V.ok.exf b hb).2 x c e, fun p hp => absurd (show p ∈ ([] : List (Addr × Obj)) ++ [] from hp) (by simp)⟩
  have loop : codeAny (model X.prog X.w) X.A (.compLoop (.ListComp elt [⟨tg, iter, [], 0⟩] scope pos) 0 (.ref it) (.ref D) ce) (compPost (model X.prog X.w) X.A X.xe none (EP X pins σ Q) (.ref D) s3.heap.objs.size) s4 := by
    refine compLoop_any (fun n z => ∃ i G, Inv (X.blk s3 H3 scope ce fp) [] (wipe σ (own.map (·.2))) G z ∧ turn_at i z.heap ∧ (∀ b ∈ fp, G b = none) ∧ W i n G) ?_ m0 ⟨0, H3, I4, st4, free3, w0⟩
    rintro n z5 ⟨i, G5, V5, st5, n5, w5⟩
    rcases turn i n G5 w5 with ⟨stop, done⟩ | ⟨go, Nx, next, step⟩
    · refine thnF (T.done (X.blk s3 H3 scope ce fp) rfl rfl rfl calm i [] z5 _ G5 (fun _ _ => False) V5 (walked V5 n5) st5 stop) fun r z6 hz => ?_
      obtain ⟨rfl, V6⟩ := hz
      have I7 := back [] _ _ _ V6
      obtain ⟨m, ns, _⟩ := V6.loc
      have ns2 : z6.heap.Ns s3.heap.objs.size m := locals ▸ (show z6.heap.Ns ce.locals m from ns)
      have nC : G5 s3.heap.objs.size = none := locals ▸ (show G5 ce.locals = none from V6.free)
      obtain ⟨f0, f1, f2, f3, f4, f5⟩ := I3.fpOk (Nat.le_refl _) nC
      exact ⟨m, ns2, fun h'' but => ⟨.ref D, G5, I7.turned (t' := z6.toks) (fun b o hb e => (but.2 b hb).trans e) f0 f1 f3 f4 f5, rfl, done⟩⟩
    · refine thnF (T.item (X.blk s3 H3 scope ce fp) rfl rfl rfl calm i [] z5 _ G5 (fun _ _ => False) V5 (walked V5 n5) st5 go) fun r z6 hz => ?_
      obtain ⟨u, rfl, hz⟩ := hz
      refine thnF hz fun _ z7 hz => ?_
      obtain ⟨x, G7, V7, r7, y7, st7, n7⟩ := hz
      have V7' := V7.pinned (walked V7 n7) (T.obj _ _ st7)
      refine thnF (pg.run _ z7 _ G7 x u _ V7' r7 (step x G7 y7)) fun _ z8 hz => ?_
      obtain ⟨τ8, G8, V8, wiped, yes⟩ := hz
      refine thnF (((pts_nil : PTs (X.blk s3 H3 scope ce fp) [] tYes)).run _ z8 τ8 G8 (fun b G => b = true ∧ te σ τ8 G fun y H4 => ∃ acc, H4 D = some (.lst acc) ∧ acc.length < sizeLine ∧ Nx (upd H4 D (.lst (acc ++ [y])))) V8 ⟨rfl, yes⟩) fun b z9 hz => ?_
      obtain ⟨G9, V9, rfl, q9⟩ := hz
      simp only [if_true]
      refine thnF ((pe back).run _ z9 τ8 G9 _ V9 q9) fun y z10 hz => ?_
      obtain ⟨yv, G10, V10, r10, acc, atD, few, nx⟩ := hz
      refine app_ok (X := X.blk s3 H3 scope ce fp) V10 atD few r10 fun z11 V11 => ?_
      obtain ⟨m', less, w'⟩ := next _ nx
      have pinned : ∀ b ∈ fp, ∀ o, z7.heap.get? b = some o → z11.heap.get? b = some o ∧ (upd G10 D (.lst (acc ++ [yv]))) b = none := fun b hb o e =>
        let y := V11.pin (b, o) (List.mem_append_right _ (List.mem_append_right _ (mem_pinsAt hb e)))
        ⟨y.1, y.2.1⟩
      refine ⟨m', less, i + 1, _, (V11.unpinned (pins := [])).weak (by rw [← wiped, wipe_length]) (fun j v e => ?_), T.keep _ _ _ st7 fun b hb o e => (pinned b hb o e).1, fun b hb => ?_, w'⟩
      · rw [← wiped] at e
        exact (wipe_some e).1
      · obtain ⟨o, e, _⟩ := T.obj _ _ st7 b hb
        exact (pinned b hb o e).2
  exact codeAny_compStart_list loop (T.self X.A 0 _ _ _ st4 loop)
end
/-! ### a def that is handed a lambda and calls it -/
section
open LamX
/-- a lambda of the def X: its text, and what it does -/
structure LamD (X : Cx) (k : Nat) where
  params : Arguments
  body : Expr
  scope : Scope
  t : XK → TE
  L : LamS X.env.scope scope
  bare : Bare X params body scope
  bod : ∀ (A : Around) (outer : List Env) (s : Shared) (H : Hp) (E : XK) (f c' : Addr), Room k (A.deeper (lamEnv X scope s.heap.objs.size f c')) → PE (lamCx X A outer s H E scope f c') body (t E)
abbrev LamD.at {X : Cx} {k : Nat} (d : LamD X k) (f c' : Addr) (G : Hp) : Prop := LamF X f d.params d.body d.scope c' G
/-- the def x stands at g, as the text wrote it: one parameter a, the slots Ng -/
structure OneP (K : PySem.W.Frag) (mg : Str → Option Value) (x a : Str) (Ng : List Str) (st : Stmt) (g : Addr) (cdv : Value) : Prop where
  at_ : mg x = some (.ref g)
  kp : PySem.W.keepIn K (.ref g) = true
  lk : ∃ (oc kV doc pm ct : Value) (od an : Option Addr) (osl : Array (Option Value)), K.lookup g = some ⟨oc, od, .func (PySem.W.fnOf x x (defArgs st) (defBody st) (defScope st) .none kV doc pm an cdv ct), osl⟩ ∧
    Binds K (PySem.W.fnOf x x (defArgs st) (defBody st) (defScope st) .none kV doc pm an cdv ct) [a] []
  cd : PySem.W.codeIn K cdv x = true
  sc : FnScope Ng [a] (defScope st)
  slot : Ng[0]? = some a
  vis : Vis (defScope st) a
/-- the def's body does TT of whatever the lambda does -/
def Handed (X : Cx) (k : Nat) (x a : Str) (Ng : List Str) (st : Stmt) (g : Addr) (cdv : Value) (TT : (XK → Hp → VK → Prop) → Hp → VK → Prop) : Prop :=
  ∀ (d : LamD X k) (f c' : Addr) (s : Shared) (H : Hp) (Q : VK) (tl : XK → Hp → VK → Prop), d.at f c' H →
    (∀ (W : WX) (pn : List (Addr × Obj)) (xe : Value → Shared → Prop) (p1 p2 : Pos), Takes ((cxOf CX0 X.prog X.w X.K X.mg X.base Ng x (defScope st) g cdv X.A X.stack s H E0).tr pn xe) W →
      PE ((cxOf CX0 X.prog X.w X.K X.mg X.base Ng x (defScope st) g cdv X.A X.stack s H E0).tr pn xe) (.Call (.Name a p1) [] [] p2) (fun τ G R => ∃ (E : XK) (f' c'' : Addr), (∀ cls dd τ G, E cls dd G → W cls dd τ G) ∧ τ[0]? = some (some (.ref f')) ∧ d.at f' c'' G ∧ tl E G R)) →
    TT tl H Q → ∃ t, PSs (cxOf CX0 X.prog X.w X.K X.mg X.base Ng x (defScope st) g cdv X.A X.stack s H E0).nox (defBody st) t ∧ t { nx := fun _ G => Q .non G, rt := Q } (L2.start Ng [.ref f]) H
section
variable {X : Cx} {pins : List (Addr × Obj)} {σ : St} {H : Hp} {s : Shared} {k : Nat} {x a : Str} {Ng : List Str} {st : Stmt} {g : Addr} {cdv : Value} {TT : (XK → Hp → VK → Prop) → Hp → VK → Prop}
theorem run_handed {Q : VK} (I : Inv X pins σ H s) (D : OneP X.K X.mg x a Ng st g cdv) (room : Room (k + 2) X.A) (G : Handed X k x a Ng st g cdv TT) (d : LamD X k) {f c' : Addr} (kn : d.at f c' H) (nd : (a == ("__debug__" : Str)) = false) (nc : (a == ("__classdict__" : Str)) = false)
    (w : TT (fun E G' Q' => d.t E σ G' Q') H Q) : codeAny (model X.prog X.w) X.A (.call (.ref g) ⟨[.ref f], []⟩) (CR CX0 X.stack X.prog X.w H s Q E0) s := by
  obtain ⟨oc, kV, doc, pm, ct, od, an, osl, lk, bi⟩ := D.lk
  refine run_ofS (N := Ng) (ps := [a]) (us := [.ref f]) (vs := [.ref f]) lk D.cd D.sc room I.env0 (bi s [.ref f] I.kIn rfl) (.cons rfl .nil) rfl fun room' => ?_
  obtain ⟨t, ht, q⟩ := G d f c' s H Q _ kn (fun W pn xe p1 p2 tk => pe_act2 (i := 0) I d.L d.bare tk room' (fun A outer s H E f c' r => d.bod A outer s H E f c' r) D.slot D.vis nd nc) w
  exact ⟨t, ht.nox, q⟩
/-- x(e), e a lambda of X -/
theorem pe_handX {e : Expr} {te : TE} {p pos : Pos} (D : OneP X.K X.mg x a Ng st g cdv) (room : Room (k + 2) X.A) (G : Handed X k x a Ng st g cdv TT) (gl : Gl X x) (he : PE X e te) (nd : (a == ("__debug__" : Str)) = false := by decide) (nc : (a == ("__classdict__" : Str)) = false := by decide) (ndx : (x == ("__debug__" : Str)) = false := by decide)
    (ev : starEach [e] X.env = (false, eval e X.env) :: starEach [] X.env := by rfl) (pl : (backTo pos (starEach [] X.env)).any (·.1) = false := by rfl) :
    PE X (.Call (.Name x p) [e] [] pos) (fun σ H Q => te σ H fun v H1 => ∃ (d : LamD X k) (f c' : Addr), v = .ref f ∧ d.at f c' H1 ∧ TT (fun E G' Q' => d.t E σ G' Q') H1 Q) := by
  refine ⟨fun pins s σ H Q I h => wpAny_Call_Name_kw (ld_glob I gl D.at_ (PySem.W.callWith_K (h₀ := X.base) I.ok.mod.kin D.kp (thn ((pa_cons he pa_nil ev).run pos pins s σ H (fun vs H1 => match vs with | [v] => ∃ (d : LamD X k) (f c' : Addr), v = .ref f ∧ d.at f c' H1 ∧ TT (fun E G' Q' => d.t E σ G' Q') H1 Q | _ => False) I ?_) fun us s1 hu => ?_) ev pl) ndx)⟩
  · exact h
  · obtain ⟨vs, H1, I1, r, w⟩ := hu
    obtain ⟨v, rfl⟩ : ∃ v, vs = [v] := by
      match vs, w with
      | [v], _ => exact ⟨v, rfl⟩
    obtain ⟨d, f, c', rfl, kn, w⟩ := w
    obtain ⟨u, rfl, ru⟩ := vals1 r
    obtain rfl : u = Value.ref f := ru
    refine ⟨I1.kIn, PySem.wpAny_call (PySem.codeAny_mono (run_handed I1 D room G d kn nd nc w) ?_)⟩
    rintro (er | _ | _ | _ | u) s2 y
    · exact y.elim
    · exact y.elim
    · exact y.elim
    · exact y.elim
    · exact I1.after y
def tHandB (X : Cx) (k : Nat) (TT : (XK → Hp → VK → Prop) → Hp → VK → Prop) (te : TE) (σ : St) : TE := fun τ H Q => te τ H fun v H1 => ∃ (d : LamD X k) (f c' : Addr), v = .ref f ∧ d.at f c' H1 ∧ TT (fun E G' Q' => d.t E σ G' Q') H1 Q
/-- the same in a comprehension's block, whose def is X -/
theorem pe_handB {s0 : Shared} {H0 : Hp} {scope : Scope} {ce : Env} {fp : List Addr} {e : Expr} {te : TE} {p pos : Pos} (bk : Back X pins σ s0 H0 scope ce fp) (D : OneP X.K X.mg x a Ng st g cdv) (room : Room (k + 2) X.A) (G : Handed X k x a Ng st g cdv TT) (gl : Gl (X.blk s0 H0 scope ce fp) x)
    (he : PE (X.blk s0 H0 scope ce fp) e te) (nd : (a == ("__debug__" : Str)) = false := by decide) (nc : (a == ("__classdict__" : Str)) = false := by decide) (ndx : (x == ("__debug__" : Str)) = false := by decide)
    (ev : starEach [e] (X.blk s0 H0 scope ce fp).env = (false, eval e (X.blk s0 H0 scope ce fp).env) :: starEach [] (X.blk s0 H0 scope ce fp).env := by rfl) (pl : (backTo pos (starEach [] (X.blk s0 H0 scope ce fp).env)).any (·.1) = false := by rfl) :
    PE (X.blk s0 H0 scope ce fp) (.Call (.Name x p) [e] [] pos) (tHandB X k TT te σ) := by
  refine ⟨fun pz z τ H Q I h => wpAny_Call_Name_kw (ld_glob I gl D.at_ (PySem.W.callWith_K (h₀ := X.base) I.ok.mod.kin D.kp (thn ((pa_cons he pa_nil ev).run pos pz z τ H (fun vs H1 => match vs with | [v] => ∃ (d : LamD X k) (f c' : Addr), v = .ref f ∧ d.at f c' H1 ∧ TT (fun E G' Q' => d.t E σ G' Q') H1 Q | _ => False) I ?_) fun us s1 hu => ?_) ev pl) ndx)⟩
  · exact h
  · obtain ⟨vs, H1, I1, r, w⟩ := hu
    obtain ⟨v, rfl⟩ : ∃ v, vs = [v] := by
      match vs, w with
      | [v], _ => exact ⟨v, rfl⟩
    obtain ⟨d, f, c', rfl, kn, w⟩ := w
    obtain ⟨u, rfl, ru⟩ := vals1 r
    obtain rfl : u = Value.ref f := ru
    refine ⟨I1.kIn, PySem.wpAny_call (PySem.codeAny_mono (run_handed (bk _ _ _ _ I1) D room G d kn nd nc w) ?_)⟩
    rintro (er | _ | _ | _ | u) s2 y
    · exact y.elim
    · exact y.elim
    · exact y.elim
    · exact y.elim
    · exact I1.after y
end
end
/-! ### with of an own block around one return; the block's exit also where an error leaves it -/
section
variable {X : Cx} {C fe fx : Addr} {ke kx : Nat} {de dx_ : FuncData} {pe_ : List Str} {spE spX : Sp} {ctx e : Expr} {tctx : TE} {te : WX → TE} {Wout : WX} {rp pos : Pos}
def wExit (b : Addr) (spX : Sp) (Wout : WX) : WX := fun cls d σ H => (∃ c : Addr, cls = .ref c) ∧ ∀ k v t : V, spX [.ref b, k, v, t] H (fun r H' => r = .non ∧ Wout cls d σ H') E0
def tWith (C : Addr) (spE spX : Sp) (Wout : WX) (tctx : TE) (te : WX → TE) : TS := fun D σ H => tctx σ H fun v H1 => ∃ b dx fs, v = .ref b ∧ H1 b = some (.ins C dx fs) ∧
  spE [.ref b] H1 (fun _ H2 => te (wExit b spX Wout) σ H2 fun u H3 => spX [.ref b, .non, .non, .non] H3 (fun _ H4 => D.rt u H4) E0) E0
open PyProof.Rows hiding St in
open PySem.W PySem.Calls PySem.Spec in
theorem ps_with (top : X.stack = X.env :: X.outer) (own : X.env.frame = some X.env.locals) (exF : X.ex = []) (tk : Takes X Wout) (room : Room ke X.A) (roomX : RoomM kx X.A)
    (en : PySem.W.findIn X.K (.ref C) "__enter__" = some (some (.ref fe))) (enF : PySem.W.isFn X.K (.ref fe) = true) (FE : FnOk X.prog X.w X.K X.mg X.base CX0 ke fe de ["self"] spE) (bE : Binds X.K de ["self"] [])
    (ex : PySem.W.findIn X.K (.ref C) "__exit__" = some (some (.ref fx))) (exN : PySem.W.isFn X.K (.ref fx) = true) (FX : FnM X.prog X.w X.K X.mg X.base kx fx dx_ pe_ spX) (bX : Binds X.K dx_ pe_ [])
    (hc : PE X ctx tctx) (he : ∀ (W : WX) (pn : List (Addr × Obj)) (xe : Value → Shared → Prop), Takes (X.tr pn xe) W → PassesOwn (model X.prog X.w) X.A X.env xe → PE (X.tr pn xe) e (te W)) :
    PS X (.With [⟨ctx, none⟩] [.Return (some e) rp] pos) (tWith C spE spX Wout tctx te) := by
  refine ⟨fun pins s σ H D I h => PySem.W.kw_exec0 (wpAny_mono (hc.run pins s σ H _ I h) (fun u s1 y => ?_) fun _ _ z => z)⟩
  obtain ⟨v, H1, I1, rv, b, dx, fs, rfl, hb, q⟩ := y
  obtain rfl : u = Value.ref b := rv
  obtain ⟨mA, J, _⟩ := ins_get I1.hok hb
  obtain ⟨od, J, _⟩ := J.look
  obtain ⟨cd, cdA, alongE⟩ := PySem.W.kw_along en
  obtain ⟨cd2, cdB, alongX⟩ := PySem.W.kw_along ex
  cases cdA.symm.trans cdB
  have K1 := I1.kIn
  obtain ⟨hp, gs, dr, tk1, os1⟩ := s1
  have L1 := PySem.W.kw_special (M := model X.prog X.w) (name := "__enter__") K1 J cdA alongE
  have L2 := PySem.W.kw_special (M := model X.prog X.w) (name := "__exit__") K1 J cdA alongX
  have L3 : PySem.W.Looks (model X.prog X.w) hp (bindSpecial (.ref fe) (.ref b)) (.ref fe, [.ref b]) := PySem.W.bind_fn K1 _ (beq_iff_eq.mp enF)
  have L4 : PySem.W.Looks (model X.prog X.w) hp (bindSpecial (.ref fx) (.ref b)) (.ref fx, [.ref b]) := PySem.W.bind_fn K1 _ (beq_iff_eq.mp exN)
  have L5 : PySem.W.Looks (model X.prog X.w) hp (aMethodOfAnotherBuiltinTypeStops (.ref fe) cd.mro) () := PySem.W.Looks.of_pure rfl
  have L6 : PySem.W.Looks (model X.prog X.w) hp (aMethodOfAnotherBuiltinTypeStops (.ref fx) cd.mro) () := PySem.W.Looks.of_pure rfl
  unfold PySem.W.KwIn PySem.withItem
  refine wpAny_bind (wpAny_pure ?_)
  refine wpAny_bind (wpAny_standAt ?_)
  simp only [Bool.false_eq_true, if_false]
  kw_lk
  refine wpAny_mono (run_fn (vs := [.ref b]) FE room bE .nil pass0 I1 (.cons rfl .nil) q) (fun r2 s2 y => ?_) fun _ _ z => z
  obtain ⟨v2, H2, I2, rv2, q⟩ := y
  kw_lk
  refine wpAny_attempt (kw_held ?_)
  refine wpAny_execs_cons (wpAny_Return_some ?_)
  refine leave_run (W := wExit b spX Wout) (QK := fun u H3 => spX [.ref b, .non, .non, .non] H3 (fun _ H4 => D.rt u H4) E0) top own I2 he q (fun u z y => ?_) ?_
  · obtain ⟨v3, H3, I3, rv3, q3⟩ := y
    show wpAny _ _ _ _ _ _
    refine wpAny_bind (wpAny_standAt ?_)
    refine wpAny_bind (wpAny_holding ?_)
    refine wpAny_call (codeAny_mono (FX.goes X.A X.stack z H3 ⟨[.ref b, .none, .none, .none], []⟩ [.ref b, .none, .none, .none] [.ref b, .non, .non, .non] _ roomX I3.env0 (bX z [.ref b, .none, .none, .none] I3.kIn (FX.lens _ _ _ _ q3).symm.symm) (.cons rfl (.cons rfl (.cons rfl (.cons rfl .nil)))) q3) ?_)
    rintro (er | _ | _ | _ | w) z1 y
    · exact y.elim
    · exact y.elim
    · exact y.elim
    · exact y.elim
    · obtain ⟨r5, H5, I5, _, q5⟩ := I3.after y
      exact wpAny_pure ⟨v3, σ, H5, I5, rv3, q5⟩
  · intro a B sI z kd dd τ1 G h1 J nb up free os ag fly1 J2 wish
    obtain ⟨kin, aB, frB, oe, vs, T, oT, ts, at_a, zc, da, tbv, TB, Ta, at_T, dT, ht3⟩ := id fly1
    have nT : G T = none := (J.inGround nb).gone TB
    -- neither the error nor its traceback is a frame
    have noFrame : ∀ (c : Addr) (o : Obj) (fv : Array Value), h1.get? c = some o → o.data = .fields fv → c ∉ frs (X.env :: X.outer) := fun c o fv g d m => by
      obtain ⟨_, o2, g2, no⟩ := frB.mem m
      rw [g] at g2
      obtain rfl := Option.some.inj g2
      exact no _ d
    have inFrames : X.env.locals ∈ frs (X.env :: X.outer) := List.mem_filterMap.mpr ⟨X.env, List.mem_cons_self, own⟩
    have below : ∀ c, c ∈ X.fs → c ∈ frs (X.env :: X.outer) := fun c m => by
      obtain ⟨en, h, e⟩ := List.mem_filterMap.mp m
      exact List.mem_filterMap.mpr ⟨en, List.mem_cons_of_mem _ h, e⟩
    have fa := noFrame a oe vs at_a da
    have fT := noFrame T oT ts at_T dT
    have pinned : ∀ (c : Addr) (o : Obj) (fv : Array Value), h1.get? c = some o → o.data = .fields fv → G c = none → c ∉ frs (X.env :: X.outer) →
        h1.get? c = some o ∧ G c = none ∧ c ≠ X.env.locals ∧ c ∉ X.fs ∧ ∀ v, o.data ≠ .cell v := fun c o fv g d n f => ⟨g, n, fun m => f (by rw [m]; exact inFrames), fun m => f (below c m), fun v m => by
      rw [d] at m
      exact Data.noConfusion m⟩
    have Jp : Inv X ((a, oe) :: (T, oT) :: pins) τ1 G { z with heap := h1 } :=
      ⟨J2.ok, J2.os, J2.bare, J2.base, J2.loc, J2.cell, J2.free, J2.freeC, fun p hp => by
        rcases List.mem_append.mp hp with m | m
        · exact J2.pin p (List.mem_append_left _ m)
        · rcases List.mem_cons.mp m with m | m
          · rw [m]
            exact pinned a oe vs at_a da free fa
          · rcases List.mem_cons.mp m with m | m
            · rw [m]
              exact pinned T oT ts at_T dT nT fT
            · exact J2.pin p (List.mem_append_right _ m), J2.hok, J2.len⟩
    obtain ⟨⟨cK, rfl⟩, wish⟩ := wish
    refine wpAny_bind (wpAny_standAt (wpAny_holding (wpAny_bind (wpAny_typeOf_ref at_a ?_))))
    rw [zc.1]
    obtain ⟨x1, tx1⟩ : ∃ x, ts[1]? = some x := by
      have few : 3 < ts.size := by
        rcases Nat.lt_or_ge 3 ts.size with h | h
        · exact h
        · rw [Array.getElem?_eq_none h] at ht3
          cases ht3
      exact ⟨ts[1]'(by omega), Array.getElem?_eq_getElem (by omega)⟩
    have e0 := Jp.env0
    -- the block's exit
    have exit : ∀ (tv : V) (tu : Value), RelV tv tu → codeAny (model X.prog X.w) (X.A.mark (some (.ref a))) (.call (.ref fx) ⟨[.ref b, .ref cK, .ref a, tu], []⟩) (CR CX0 X.stack X.prog X.w G { z with heap := h1 } (fun r H' => r = .non ∧ Wout (.ref cK) dd τ1 H') E0) { z with heap := h1 } := fun tv tu rt =>
      FX.goes _ X.stack _ G ⟨[.ref b, .ref cK, .ref a, tu], []⟩ [.ref b, .ref cK, .ref a, tu] [.ref b, .ref cK, .ref a, tv] _ ⟨roomX.dp, roomX.un⟩ ⟨e0.frames, e0.mod, e0.bs, e0.bsz, e0.funs, e0.frf, e0.hok, e0.bare⟩
        (bX _ [.ref b, .ref cK, .ref a, tu] Jp.kIn (FX.lens _ _ _ _ (wish (.ref cK) (.ref a) tv)).symm.symm) (.cons rfl (.cons rfl (.cons rfl (.cons rt .nil)))) (wish (.ref cK) (.ref a) tv)
    -- behind it the error goes on
    have goes : ∀ (w : Value) (s6 : Shared), CE X.stack X.prog X.w G { z with heap := h1 } (fun r H' => r = .non ∧ Wout (.ref cK) dd τ1 H') w s6 → w = .none ∧ wpAny (model X.prog X.w) X.A (PySem.passOn "with" (.ref a) X.env) (SP X pins D) X.xe s6 := fun w s6 y => by
      obtain ⟨r6, H6, J6, rv6, rfl, out⟩ := Jp.after y
      refine ⟨rv6, ?_⟩
      obtain ⟨ha6, na6, _⟩ := J6.pin (a, oe) (List.mem_append_right _ List.mem_cons_self)
      obtain ⟨hT6, nT6, _⟩ := J6.pin (T, oT) (List.mem_append_right _ (List.mem_cons_of_mem _ List.mem_cons_self))
      have ha6 : s6.heap.get? a = some oe := ha6
      have hT6 : s6.heap.get? T = some oT := hT6
      have J7 : Inv X pins τ1 H6 s6 := ⟨J6.ok, J6.os, J6.bare, J6.base, J6.loc, J6.cell, J6.free, J6.freeC, fun p hp => by
        rcases List.mem_append.mp hp with m | m
        · exact J6.pin p (List.mem_append_left _ m)
        · exact J6.pin p (List.mem_append_right _ (List.mem_cons_of_mem _ (List.mem_cons_of_mem _ m))), J6.hok, J6.len⟩
      -- what stood before the error is neither the error nor its traceback
      have old : ∀ c o, sI.heap.get? c = some o → c ≠ a ∧ c ≠ T := fun c o g => by
        by_cases m : c ∈ frs X.stack
        · rw [top] at m
          exact ⟨fun k => fa (k ▸ m), fun k => fT (k ▸ m)⟩
        · have inB := nb c o g m
          refine ⟨fun k => ?_, fun k => ?_⟩
          · rw [k, aB] at inB
            cases inB
          · rw [k, TB] at inB
            cases inB
      obtain ⟨rest, keepR, dropR⟩ := restrict s6.heap fun c => decide (c ≠ a ∧ c ≠ T)
      have inRest : ∀ c o, rest.get? c = some o → s6.heap.get? c = some o ∧ c ≠ a ∧ c ≠ T := fun c o g => by
        by_cases m : c ≠ a ∧ c ≠ T
        · rw [keepR c (decide_eq_true m)] at g
          exact ⟨g, m⟩
        · rw [dropR c (decide_eq_false m)] at g
          cases g
      have I7 : Inv X pins τ1 H6 { s6 with heap := rest } := J7.less (a := a) (b := T) (fun c o g => (inRest c o g).1) (fun c o m1 m2 g => (keepR c (decide_eq_true ⟨m1, m2⟩)).trans g) ⟨oe, vs, ha6, da⟩ ⟨oT, ts, hT6, dT⟩ na6 nT6
        (fun c o g => by
          obtain ⟨o2, g2⟩ := J.base.there c o g (by rw [exF]; exact List.not_mem_nil)
          exact old c o2 g2) fun p hp => old p.1 p.2 (J.pin p hp).1
      have gone : ∀ c, c = a ∨ c = T → (PySem.W.hideAll rest (frs X.stack)).get? c = none := fun c m => by
        cases g : (PySem.W.hideAll rest (frs X.stack)).get? c with
        | none => rfl
        | some o =>
          obtain ⟨_, m1, m2⟩ := inRest c o (PySem.W.of_hideAll _ g)
          exact (m.elim m1 m2).elim
      have fly7 : HandSPX.FlyingZ (PySem.W.hideAll rest (frs X.stack)) (X.env :: X.outer) a (Zc (.ref cK) dd) s6.heap := by
        refine ⟨fun c o g => (inRest c o (PySem.W.of_hideAll _ g)).1, gone a (.inl rfl), ?_, oe, vs, T, oT, ts, ha6, zc, da, tbv, gone T (.inr rfl), Ta, hT6, dT, ht3⟩
        rw [← top]
        exact funFrames_none (B := PySem.W.hideAll rest (frs X.stack)) J7.stack fun c m => PySem.W.hideAll_none _ m
      have onward : wpAny (model X.prog X.w) X.A (setFlight (.ref a) X.env.frame) (fun _ s8 => wpAny (model X.prog X.w) X.A (throw (.ref a) : Sem Flow) (SP X pins D) X.xe s8) X.xe s6 := by
        rw [own]
        refine HandSPX.setFlight_upZ fly7 fun h8 sky8 up8 => wpAny_throw (tk _ _ ⟨a, PySem.W.hideAll rest (frs X.stack), { s6 with heap := rest }, pins, τ1, H6, .ref cK, dd, rfl, I7, fun c o g m => PySem.W.hideAll_get _ g m, ?_, .inr (.inr (by rw [top]; rw [top] at sky8; exact sky8)), na6, rfl, J7.bare, out⟩)
        exact Heap.UpToSlots.trans (Heap.UpToSlots.of_keeps fun c o g => (inRest c o g).1) up8
      unfold PySem.passOn
      refine wpAny_bind (wpAny_field ha6 da tbv ?_)
      rw [if_neg (by simp)]
      first
        | exact wpAny_bind onward
        | exact wpAny_bind (wpAny_pure (wpAny_bind onward))
    unfold PySem.tracebackOf PySem.withItem.marked
    refine wpAny_bind (wpAny_bind (wpAny_field at_a da tbv (wpAny_bind (wpAny_field at_T dT tx1 ?_))))
    have last : ∀ (tv : V) (tu : Value), RelV tv tu → wpAny (model X.prog X.w) X.A (PySem.run (.call (.ref fx) ⟨[.ref b, .ref cK, .ref a, tu], []⟩) (some (.ref a))) (fun fl s6 => fl = .ret .none ∧ wpAny (model X.prog X.w) X.A (PySem.passOn "with" (.ref a) X.env) (SP X pins D) X.xe s6) X.xe { z with heap := h1 } := fun tv tu rt => by
      refine PySem.wpAny_run (codeAny_mono (exit tv tu rt) ?_) (by intro m; cases m)
      rintro (er | _ | _ | _ | w) s6 y
      · exact y.elim
      · exact y.elim
      · exact y.elim
      · exact y.elim
      · obtain ⟨rfl, g⟩ := goes w s6 y
        exact ⟨rfl, g⟩
    split
    · refine wpAny_pure (wpAny_bind (wpAny_bind (wpAny_mono (last .non .none rfl) (fun fl s6 y => ?_) fun _ _ m => m)))
      obtain ⟨rfl, g⟩ := y
      exact wpAny_pure (wpAny_bind (wpAny_pure (wpAny_bind (wpAny_pure g))))
    · refine wpAny_pure (wpAny_bind (wpAny_bind (wpAny_mono (last (.ref T) (.ref T) rfl) (fun fl s6 y => ?_) fun _ _ m => m)))
      obtain ⟨rfl, g⟩ := y
      exact wpAny_pure (wpAny_bind (wpAny_pure (wpAny_bind (wpAny_pure g))))
end
/-! ### a method that is handed a lambda: its call by what runs -/
section
open LamX
theorem FnOk.cx0 {P : Program} {w : World} {K : PySem.W.Frag} {mg : Str → Option Value} {base : Heap} {k : Nat} {f : Addr} {fd : FuncData} {ps : List Str} {sp : Sp} (F : FnOk P w K mg base (L2.CX P w) k f fd ps sp) (ind : ∀ vs H Q E E', sp vs H Q E → sp vs H Q E') : FnOk P w K mg base CX0 k f fd ps sp := by
  refine ⟨F.len, fun A outer s H args us vs Q E hr e0 bt r h => codeAny_mono (F.run A outer s H args us vs Q E0 hr e0 bt r (ind _ _ _ _ _ h)) fun r s' q => ?_⟩
  cases r with
  | ok fl => cases fl <;> exact q
  | error e =>
    obtain ⟨_, _, _, _, _, _, _, _, _, _, _, _, z⟩ := q
    exact z.elim
variable {X : Cx}
def tMethR (C : Addr) (m : Str) (RUN : List V → St → Hp → VK → Prop) (ta : TE) (t : TA) : TE := fun σ H Q => ta σ H fun x H1 => ∃ a dx fs, x = .ref a ∧ H1 a = some (.ins C dx fs) ∧ fs.lookup m = none ∧ t σ H1 fun vs H2 => RUN (x :: vs) σ H2 Q
theorem pe_methR {C f : Addr} {m : Str} {o e : Expr} {es : List Expr} {ta : TE} {t : TA} {apos pos : Pos} {pl : Sem Bool} (RUN : List V → St → Hp → VK → Prop) (he : PE X o ta) (c : Cls X.K C) (hm : Meth X.K C m f) (ha : PA X (e :: es) t)
    (run : ∀ (pins : List (Addr × Obj)) (s : Shared) (σ : St) (H : Hp) (us : List Value) (vs : List V) (Q : VK), Inv X pins σ H s → Vals vs us → RUN vs σ H Q → wpAny (model X.prog X.w) X.A (call (.ref f) us) (EP X pins σ Q) X.xe s)
    (hst : starEach (e :: es) X.env = (false, eval e X.env) :: starEach es X.env := by rfl) (hpl : (backTo pos (starEach es X.env)).any (·.1) = false := by rfl)
    (ht : eval (.Call (.Attribute o m apos) (e :: es) [] pos) X.env = (do
      let ov ← eval o X.env
      standAt apos.atName
      let (f, first) ← holding [ov] (getMethod ov m pl)
      callWith pos f first (backTo pos (starEach (e :: es) X.env)) (backToKw pos (keywordEach [] X.env))) := by rfl) :
    PE X (.Call (.Attribute o m apos) (e :: es) [] pos) (tMethR C m RUN ta t) := by
  refine ⟨fun pins s σ H Q I h => ?_⟩
  refine PySem.W.methodCall_KW (pl := pl) (thn (he.run pins s σ H _ I h) fun u s1 ⟨x, H1, I1, rx, a, dx, fs, ex, ea, l, q⟩ => ?_) ht
  subst ex
  obtain rfl : u = Value.ref a := rx
  refine getmeth_ok I1 ea c hm l ?_
  refine PySem.W.callWith_K (first := [.ref a]) (h₀ := X.base) I.ok.mod.kin hm.kp (thn (ha.run pos pins s1 σ H1 _ I1 q) fun us s2 ⟨vs, H2, I2, r, q2⟩ => ⟨I2.kIn, ?_⟩) hst hpl
  exact run pins s2 σ H2 (.ref a :: us) (.ref a :: vs) Q I2 (.cons rfl r) q2
end
/-! ### calls in a try's body: what is raised is wished for at the slots -/
section
variable {X : Cx} {CX : CXT} {k : Nat} {f C : Addr} {fd : FuncData} {ps : List Str} {sp : Sp} {E : St → XK} {x m : Str} {p pos apos : Pos} {e o : Expr} {es : List Expr} {ta : TE} {t : TA} {ds : List Value} {dvs : List V}
theorem run_makeS {pins : List (Addr × Obj)} {σ : St} {H : Hp} {s : Shared} {Q : VK} {us : List Value} {vs : List V} (M : Mk X.K C f) (F : FnOk X.prog X.w X.K X.mg X.base CX k f fd ps sp) (hr : Room (k + 1) X.A) (hb : Binds X.K fd ps ds) (hd : Vals dvs ds)
    (hx : PassesAt CX X σ (E σ)) (I : Inv X pins σ H s) (r : Vals vs us)
    (h : ∀ x dx, H x = none → H dx = none → dx ≠ x → sp (.ref x :: (vs ++ dvs)) (upd (upd H dx (.own x)) x (.ins C dx [])) (fun v H2 => v = .non ∧ Q (.ref x) H2) (E σ)) :
    wpAny (model X.prog X.w) X.A (call (.ref C) us) (EP X pins σ Q) X.xe s := by
  have hq := h (s.heap.objs.size + 1) s.heap.objs.size (I.hok.fresh (Nat.le_succ _)) (I.hok.fresh (Nat.le_refl _)) (Nat.ne_of_lt (Nat.lt_succ_self _))
  have I2 := Inv.made (C := C) I
  have r2 : Vals (V.ref (s.heap.objs.size + 1) :: (vs ++ dvs)) (Value.ref (s.heap.objs.size + 1) :: (us ++ ds)) := .cons rfl (r.append hd)
  have hl : (Value.ref (s.heap.objs.size + 1) :: us ++ ds).length = ps.length := by
    have e := r2.length
    rw [F.len _ _ _ _ hq] at e
    exact e.symm
  refine wpAny_call (make_map (f := f) I.kIn M.makes M.init (beq_iff_eq.mp M.fn) (codeAny_mono (F.run _ X.stack _ _ ⟨Value.ref (s.heap.objs.size + 1) :: us, []⟩ (Value.ref (s.heap.objs.size + 1) :: (us ++ ds)) _ _ (E σ) (hr.make C us [])
    (I2.env0.make C us []) (hb _ (Value.ref (s.heap.objs.size + 1) :: us) I2.kIn hl) r2 hq) fun r s' hq' => ?_))
  cases r with
  | error e => exact hx pins _ _ e s' I2 hq'
  | ok fl =>
    cases fl with
    | ret u =>
      obtain ⟨v, H', I3, rv, ev, q3⟩ := I2.after hq'
      subst ev
      exact ⟨rv, ⟨V.ref (s.heap.objs.size + 1), H', I3, rfl, q3⟩⟩
    | next => exact False.elim hq'
    | brk => exact False.elim hq'
    | cont => exact False.elim hq'
def tMakeS (C : Addr) (sp : Sp) (dvs : List V) (E : St → XK) (t : TA) : TE := fun σ H Q => t σ H fun vs H1 => ∀ x dx, H1 x = none → H1 dx = none → dx ≠ x →
  sp (.ref x :: (vs ++ dvs)) (upd (upd H1 dx (.own x)) x (.ins C dx [])) (fun v H2 => v = .non ∧ Q (.ref x) H2) (E σ)
theorem pe_makeS (M : Mk X.K C f) (F : FnOk X.prog X.w X.K X.mg X.base CX k f fd ps sp) (hr : Room (k + 1) X.A) (hg : Gl X x) (hm : X.mg x = some (.ref C)) (hb : Binds X.K fd ps ds) (hd : Vals dvs ds) (hx : ∀ σ, PassesAt CX X σ (E σ))
    (ha : PA X (e :: es) t) (hdb : (x == ("__debug__" : Str)) = false := by decide) (he : starEach (e :: es) X.env = (false, eval e X.env) :: starEach es X.env := by rfl) (hpl : (backTo pos (starEach es X.env)).any (·.1) = false := by rfl) :
    PE X (.Call (.Name x p) (e :: es) [] pos) (tMakeS C sp dvs E t) := by
  refine ⟨fun pins s σ H Q I h => ?_⟩
  refine wpAny_Call_Name_kw (ld_glob I hg hm ?_ hdb)
  refine PySem.W.callWith_K (h₀ := X.base) I.ok.mod.kin M.kp (thn (ha.run pos pins s σ H _ I h) fun us s1 ⟨vs, H1, I1, r, q⟩ => ⟨I1.kIn, ?_⟩) he hpl
  exact run_makeS M F hr hb hd (hx σ) I1 r q
end
/-! ### own operators with an int on either side (gathered from k12) -/
section
variable {X : Cx} {C : Addr} {k k' : Nat} {ps ps' : List Str} {sp sp' : Sp} {E : XK}
theorem op_ownIO {op : Operator} {fo ro : Option Value} (m : OwnM X.prog X.w X.K X.mg X.base C k (PySem.dunder op.info.2) ps sp) (mr : OwnM X.prog X.w X.K X.mg X.base C k' (dunderR op.info.2) ps' sp') (hr : Room k X.A) (hx : Passes (L2.CX X.prog X.w) X E) (hc : PySem.W.selfFirst X.K C = true)
    (h1 : PySem.W.findIn X.K (.type "int") (PySem.dunder op.info.2) = some fo) (h2 : PySem.W.findIn X.K (.type "int") (dunderR op.info.2) = some ro) (hsub : PySem.W.subIn X.K (.type "int") (.ref C) = some false) : OpR X (binaryOp op) (rOwnI C sp E) := by
  obtain ⟨f, fd, hs, hf, hb, F⟩ := m
  obtain ⟨f', fd', hs', _⟩ := mr
  exact op_ownI F hr hb hx hc hs hf hs' (.inr ⟨_, rfl⟩) h1 h2 hsub
theorem op_ownRO {op : Operator} {B : Builtin} {idl : String} (m : OwnM X.prog X.w X.K X.mg X.base C k' (PySem.dunder op.info.2) ps' sp') (mr : OwnM X.prog X.w X.K X.mg X.base C k (dunderR op.info.2) ps sp) (hr : Room k X.A) (hx : Passes (L2.CX X.prog X.w) X E) (hc : PySem.W.selfFirst X.K C = true)
    (fillsI : fillsNumberSlot (.type "int") op.info.2 = pure true) (slot : Slot "int" (PySem.dunder op.info.2) idl) (entry : entryFor table idl = some B) (args : ∀ a b : Value, argsOk idl ⟨[a, b], []⟩)
    (g : ∀ (i : Int) (t : Tok) (x C dx : Addr), Meets (B ⟨[.int i t, .ref x], []⟩) (fun _ R s => s.heap.get? x = some (PySem.W.instObj C dx) ∧ R (.ok (.ret .notImplemented)) s)) (hsub : PySem.W.subIn X.K (.ref C) (.type "int") = some false) : OpR X (binaryOp op) (rOwnR C sp E) := by
  obtain ⟨f, fd, hs, hf, hb, F⟩ := mr
  obtain ⟨f', fd', hs', _⟩ := m
  exact op_ownR F hr hb hx hc hs' hs hf fillsI slot entry args g hsub
end
section
variable {K : PySem.W.Frag}
theorem fi_floordiv : PySem.W.findIn K (.type "int") (PySem.dunder "floordiv") = some (some (.builtin "int.__floordiv__")) := by kernel_rfl
theorem fr_floordiv : PySem.W.findIn K (.type "int") (dunderR "floordiv") = some (some (.builtin "int.__rfloordiv__")) := by kernel_rfl
theorem fi_mod : PySem.W.findIn K (.type "int") (PySem.dunder "mod") = some (some (.builtin "int.__mod__")) := by kernel_rfl
theorem fr_mod : PySem.W.findIn K (.type "int") (dunderR "mod") = some (some (.builtin "int.__rmod__")) := by kernel_rfl
end
/-! ### within -/
section
open LamX
variable {P : Program} {w : World} {K : PySem.W.Frag} {mg : Str → Option Value} {base : Heap} {aR CB CD CW CZ CR CN : Addr}
def Kp (pp : Addr) (H H' : Hp) : Prop := ∀ b o, H b = some o → b ≠ pp → (∀ ps, o ≠ .tbl ps) → H' b = some o
theorem Kp.refl {pp : Addr} {H : Hp} : Kp pp H H := fun _ _ h _ _ => h
theorem Kp.trans {pp : Addr} {H H1 H2 : Hp} (a : Kp pp H H1) (b : Kp pp H1 H2) : Kp pp H H2 := fun c o h n t => b c o (a c o h n t) n t
theorem Keep.kp {pp : Addr} {H H' : Hp} (e : Keep pp H H') : Kp pp H H' := fun b o h n _ => e b o h n
theorem kp_ext {pp : Addr} {H H' : Hp} (e : ExtN H H') : Kp pp H H' := fun b o h _ t => e b o h t
theorem kp_same {pp : Addr} {H H' : Hp} (e : Same H H') : Kp pp H H' := fun b o h _ _ => e b o h
/-- what the text's top has of blocks -/
structure BlkM (P : Program) (w : World) (K : PySem.W.Frag) (mg : Str → Option Value) (base : Heap) (CB CD : Addr) : Prop where
  en : ∃ fe de, PySem.W.findIn K (.ref CB) "__enter__" = some (some (.ref fe)) ∧ PySem.W.isFn K (.ref fe) = true ∧ FnOk P w K mg base (L2.CX P w) 4 fe de ["self"] (spEnter CB CD) ∧ Binds K de ["self"] []
  ex : ∃ fx dx, PySem.W.findIn K (.ref CB) "__exit__" = some (some (.ref fx)) ∧ PySem.W.isFn K (.ref fx) = true ∧ FnM P w K mg base 1 fx dx ["self", "kind", "value", "trace"] (spExit CB CD) ∧ Binds K dx ["self", "kind", "value", "trace"] []
abbrev s_Desk_within : Stmt := inClass (top 14) 6
abbrev N_within : List Str := ["self", "rule", "call"]
theorem sc_Desk_within : FnScope N_within ["self", "rule", "call"] (defScope s_Desk_within) := ⟨rfl, rfl, rfl, by decide +kernel, rfl, by decide +kernel, by decide +kernel⟩
/-- the method within as the top leaves it -/
structure WithinAt (K : PySem.W.Frag) (CD g : Addr) (cdv : Value) : Prop where
  me : Meth K CD "within" g
  lk : ∃ (oc kV doc pm ct : Value) (od an : Option Addr) (osl : Array (Option Value)), K.lookup g = some ⟨oc, od, .func (PySem.W.fnOf "within" "Desk.within" (defArgs s_Desk_within) (defBody s_Desk_within) (defScope s_Desk_within) .none kV doc pm an cdv ct), osl⟩ ∧
    Binds K (PySem.W.fnOf "within" "Desk.within" (defArgs s_Desk_within) (defBody s_Desk_within) (defScope s_Desk_within) .none kV doc pm an cdv ct) ["self", "rule", "call"] []
  cd : PySem.W.codeIn K cdv "Desk.within" = true
/-- what within comes to, of whatever the lambda does -/
def WT (CB CD CR : Addr) (K : PySem.W.Frag) (tl : XK → Hp → VK → Prop) (dk : Addr) (rv : V) (H : Hp) (Q : VK) (E : XK) : Prop := ∃ r, DeskAt CD H dk r ∧
  ((∃ r', rv = .str r' ∧ r' ∈ five ∧ ∀ b H2, Keep dk H H2 → BlockAt CB H2 b dk r' (.str r) → DeskAt CD H2 dk r' →
    ∀ (E1 : XK) (Q1 : VK), (∀ cls dd H3, (∃ c : Addr, cls = .ref c) → BlockAt CB H3 b dk r' (.str r) → (∃ r1, DeskAt CD H3 dk r1) → (∀ H4, Keep dk H3 H4 → DeskAt CD H4 dk r → E cls dd H4) → E1 cls dd H3) →
      (∀ u H3, BlockAt CB H3 b dk r' (.str r) → (∃ r1, DeskAt CD H3 dk r1) → (∀ H4, Keep dk H3 H4 → DeskAt CD H4 dk r → Q u H4) → Q1 u H3) → tl E1 H2 Q1) ∨
   (RuleV K H rv false ∧ ∀ dd, H dd = none → E (.ref CR) (some dd) (upd H dd (.xd [("value", rv)]))))
theorem run_within {X : Cx} {k : Nat} {pins : List (Addr × Obj)} {s : Shared} {σ : St} {H : Hp} {us : List Value} {vs : List V} {Q : VK} {E : XK} {g : Addr} {cdv : Value} (W : WithinAt X.K CD g cdv) (D : DTx X.K X.mg CB CD CW) (mU : OwnMeth X.prog X.w X.K X.mg X.base CD 3 "using" ["self", "rule"] (spUsing X.K CB CR)) (B : BlkM X.prog X.w X.K X.mg X.base CB CD)
    (hr : Room (k + 6) X.A) (hx : Passes (L2.CX X.prog X.w) X E) (I : Inv X pins σ H s) (r : Vals vs us) (d : LamD X k)
    (z : ∃ (f c' dk : Addr) (rv : V), vs = [.ref dk, rv, .ref f] ∧ d.at f c' H ∧ WT CB CD CR X.K (fun E' G Q' => d.t E' σ G Q') dk rv H Q E) : wpAny (model X.prog X.w) X.A (call (.ref g) us) (EP X pins σ Q) X.xe s := by
  obtain ⟨f, c', dk, rv, rfl, kn, r0, Dk, z⟩ := z
  obtain ⟨oc, kV, doc, pm, ct, od, an, osl, lk, bi⟩ := W.lk
  obtain ⟨u1, u2, u3, rfl⟩ : ∃ u1 u2 u3, us = [u1, u2, u3] := by
    match us, r.length with
    | [a, b, c], _ => exact ⟨a, b, c, rfl⟩
  obtain ⟨fe, de, en, enF, FE, bE⟩ := B.en
  obtain ⟨fx, dx, ex, exF, FX, bX⟩ := B.ex
  have runs : codeAny (model X.prog X.w) X.A (.call (.ref g) ⟨[u1, u2, u3], []⟩) (L2.CR (L2.CX X.prog X.w) X.stack X.prog X.w H s Q E) s := by
    refine run_ofS (k := k + 5) (N := N_within) (ps := ["self", "rule", "call"]) (us := [u1, u2, u3]) lk W.cd sc_Desk_within hr I.env0 (bi s [u1, u2, u3] I.kIn rfl) r rfl fun room => ?_
    refine ⟨_, pss_one (ps_with (C := CB) rfl rfl rfl (takes_of rfl rfl rfl rfl) (room.mono (show 4 ≤ k + 5 by omega)) (Room.m (room.mono (show 1 ≤ k + 5 by omega)) none) en enF (FnOk.cx0 FE fun vs H Q E E' h => h) bE ex exF FX bX (pe_methO (pv 0) D.clD mU (room.mono (show 3 ≤ k + 5 by omega)) (passes_call (takes_of rfl rfl rfl rfl) (fun _ _ _ _ z => z)) (pa_cons (pv 1) pa_nil))
      (fun W pn xe tk _ => pe_act2 (i := 2) (k := k) I d.L d.bare tk (room.mono (show k + 1 ≤ k + 5 by omega)) (fun A outer s H E f c' r => d.bod A outer s H E f c' r) rfl (.inl rfl))), ?_⟩
    obtain ⟨⟨dd, ed⟩, m0⟩ := id Dk
    refine ⟨_, rfl, dk, dd, _, rfl, ed, rfl, _, rfl, dk, rv, rfl, ?_⟩
    rcases z with ⟨r', rfl, m', z⟩ | ⟨rf, z⟩
    · refine .inl ⟨r', rfl, m', fun b H1 nb s1 B1 => ?_⟩
      obtain ⟨dxb, eb⟩ := id B1
      refine ⟨b, dxb, _, rfl, eb, b, dk, r', r0, rfl, B1, m', Dk.same s1, fun H2 k2 B2 D2 => ?_⟩
      have kk : Keep dk H H2 := fun c o h n => k2 c o (s1 _ _ h) (ne_of_none h nb) n
      have nbd := block_ne B1 (Dk.same s1)
      refine ⟨fun cls ddd G => wExit b (spExit CB CD) (fun cls d σ H => E cls d H) cls ddd [] G, f, c', fun cls ddd τ G w => w, rfl, ?_, z b H2 kk B2 D2 _ _ ?_ ?_⟩
      · refine ⟨kk _ _ kn.1 fun e => ?_, kk _ _ kn.2 fun e => ?_⟩
        · have h := kn.1
          rw [e, ed] at h
          have h := Option.some.inj h
          unfold LamO at h
          cases h
        · have h := kn.2
          rw [e, ed] at h
          have h := Option.some.inj h
          unfold CodeO at h
          cases h
      · rintro cls ddd H3 hc B3 ⟨r1, D3⟩ w
        exact ⟨hc, fun k v t => ⟨b, dk, r', r0, r1, k, v, t, rfl, B3, Dk.2, D3, fun H4 k4 D4 => ⟨rfl, w H4 k4 D4⟩⟩⟩
      · rintro u H3 B3 ⟨r1, D3⟩ w
        exact ⟨b, dk, r', r0, r1, _, _, _, rfl, B3, Dk.2, D3, fun H4 k4 D4 => w H4 k4 D4⟩
    · exact .inr ⟨rf, z⟩
  refine wpAny_call (codeAny_mono runs fun rr s' hq => ?_)
  cases rr with
  | error e => exact hx pins σ H s e s' I hq
  | ok fl =>
    cases fl with
    | ret u => exact I.after hq
    | next => exact False.elim hq
    | brk => exact False.elim hq
    | cont => exact False.elim hq
end
/-! ### _law_deep -/
section
open LamX
variable {P : Program} {w : World} {K : PySem.W.Frag} {mg : Str → Option Value} {base : Heap} {aR CB CD CW CZ CR CN : Addr}
abbrev s__law_deep : Stmt := top 24
abbrev N__law_deep : List Str := ["_law_desk", "_law_rules", "_law_x", "_law_base", "_law_bad", "_law_found", "_law_behind"]
abbrev P__law_deep : List Str := ["_law_desk", "_law_rules", "_law_x", "_law_base", "_law_bad"]
theorem sc__law_deep : FnScope N__law_deep P__law_deep (defScope s__law_deep) := ⟨rfl, rfl, rfl, by decide +kernel, rfl, by decide +kernel, by decide +kernel⟩
abbrev qDeep : Str := (PyProof.Rows.envOfC "_law_deep" (defScope s__law_deep) 0 0 .none).qual ++ "<lambda>"
def noStmt : Stmt := .Pass ⟨0, 0, 0, 0⟩
def noExpr : Expr := .Name "" ⟨0, 0, 0, 0⟩
def stExpr : Stmt → Expr
  | .Assign _ e _ => e
  | _ => noExpr
def arg1 : Expr → Expr
  | .Call _ (_ :: a :: _) _ _ => a
  | e => e
def lamArgs : Expr → Arguments
  | .Lambda p _ _ _ => p
  | _ => defArgs noStmt
def lamBody : Expr → Expr
  | .Lambda _ b _ _ => b
  | e => e
def lamScope : Expr → Scope
  | .Lambda _ _ s _ => s
  | _ => defScope noStmt
def lamD : Expr := arg1 (stExpr ((defBody s__law_deep).getD 1 noStmt))
/-- what the law asks besides -/
structure WOpsD (P : Program) (w : World) (K : PySem.W.Frag) (mg : Str → Option Value) (base : Heap) (CB CD CW CZ CN CR g : Addr) (cdw : Value) : Prop where
  W : WOps P w K mg base CB CD CW CZ CN
  B : BlkM P w K mg base CB CD
  mU : OwnMeth P w K mg base CD 3 "using" ["self", "rule"] (spUsing K CB CR)
  wi : WithinAt K CD g cdw
  noI : PySem.W.subIn K (.type "int") (.ref CW) = some false
  noW : PySem.W.subIn K (.ref CW) (.type "int") = some false
def spDeep (CD CZ Pt : Addr) (n : Nat) : Sp := fun vs H Q E => ∃ (dk l : Addr) (r : Str) (rs : List Str) (x b : Int) (bad : Bool), vs = [.ref dk, .ref l, .int x, .int b, .bl bad] ∧ DeskAt CD H dk r ∧ H l = some (.lst (rs.map V.str)) ∧ rs.length = n ∧ n < 100 ∧ (∀ r ∈ rs, r ∈ five) ∧ b ≠ 0 ∧ Md x ∧ Md b ∧ Tabs [(Pt, qDeep)] H ∧
  (bad = false → ∀ p ys H', Kp dk H H' → Tabs [(Pt, qDeep)] H' → DeskAt CD H' dk r → (∀ o, H p = some o → ∃ ps, o = .tbl ps) → H' p = some (.lst ys) → DueIs r rs x b ys → Q (.ref p) H') ∧
  (bad = true → ∀ H', Kp dk H H' → Tabs [(Pt, qDeep)] H' → DeskAt CD H' dk r → E (.ref CZ) none H')
theorem tabs_ins {T : List (Addr × Str)} {H H' : Hp} {dk C dx : Addr} {fs : List (Str × V)} (t : Tabs T H) (h : H dk = some (.ins C dx fs)) (k : Keep dk H H') : Tabs T H' := fun p hp => by
  obtain ⟨ps, a1, a2, a3⟩ := t p hp
  refine ⟨ps, k _ _ a1 (fun m => by rw [m, h] at a1; cases a1), a2, fun pos cv hc => ?_⟩
  obtain ⟨c0, e1, e2⟩ := a3 pos cv hc
  exact ⟨c0, e1, k _ _ e2 (fun m => by rw [m, h] at e2; exact absurd (Option.some.inj e2) (fun z => by unfold CodeO at z; cases z))⟩
theorem strs_dt {Z : Addr → Prop} {H : Hp} : ∀ rs : List Str, DtAll Z H (rs.map V.str) (rs.map PyData.str)
  | [] => .nil
  | r :: rs => .cons (.str r) (strs_dt rs)
theorem five_shp : ∀ r ∈ five, PyData.canLay0 (.str r) = true := by decide +kernel
theorem shp_strs {rs : List Str} (h : ∀ r ∈ rs, r ∈ five) : Shp 1 (.list (rs.map PyData.str)) := shp_list fun d hd => by
  obtain ⟨r, hr, rfl⟩ := List.mem_map.mp hd
  exact ⟨five_shp r (h r hr), by simp [PyData.depth]⟩
theorem DeskAt.ext {H H' : Hp} {d : Addr} {r : Str} (h : DeskAt CD H d r) (e : ExtN H H') : DeskAt CD H' d r := by
  obtain ⟨⟨dx, h1⟩, m⟩ := h
  exact ⟨⟨dx, e _ _ h1 (fun ps z => by cases z)⟩, m⟩
/-- the lambda of _law_deep -/
def lamDeep {f : Addr} {cdv : Value} {n : Nat} {A0 : Around} {outer0 : List Env} {s0 : Shared} {H0 : Hp} {E0' : XK} {Pt : Addr} (O_deep : OkX P w K mg base (9 + 7 * n) "_law_deep" P__law_deep (spDeep CD CZ Pt n)) :
    LamD (cxOf (L2.CX P w) P w K mg base N__law_deep "_law_deep" (defScope s__law_deep) f cdv A0 outer0 s0 H0 E0') (9 + 7 * n) where
  params := lamArgs lamD
  body := lamBody lamD
  scope := lamScope lamD
  t := fun E' σ G Q => tCall (spDeep CD CZ Pt n) [] E' (tCons (tVar 0) (tCons (tSl rSll (tVar 1) (tPart (tC (.int 1))) tNoPart) (tCons (tVar 2) (tCons (tVar 3) (tCons (tVar 4) tNil))))) σ G Q
  L := lamS_by (show lamSB (defScope s__law_deep) (lamScope lamD) = true by decide +kernel)
  bare := fun _ _ _ => rfl
  bod := fun A outer s H E f c' r => pe_cX (E := E) O_deep r (passes_call (takes_of rfl rfl rfl rfl) (fun _ _ _ _ z => z)) rfl (pa_cons (pv 0) (pa_cons (pe_slice sll (pv 1) (po_some pe_int) po_none) (pa_cons (pv 2) (pa_cons (pv 3) (pa_cons (pv 4) pa_nil)))))
theorem fn__law_deep {f c Pt g : Addr} {cdw : Value} {oc kV doc pm ct : Value} {od an : Option Addr} {osl : Array (Option Value)} (O : WOpsD P w K mg base CB CD CW CZ CN CR g cdw) (TB : TabB base mg c Pt)
    (gm : mg "_law_deep" = some (.ref f)) (kp : PySem.W.keepIn K (.ref f) = true) (lk : K.lookup f = some ⟨oc, od, .func (PySem.W.fnOf "_law_deep" "_law_deep" (defArgs s__law_deep) (defBody s__law_deep) (defScope s__law_deep) .none kV doc pm an (.ref c) ct), osl⟩) (cd : PySem.W.codeIn K (.ref c) "_law_deep" = true)
    (bi : Binds K (PySem.W.fnOf "_law_deep" "_law_deep" (defArgs s__law_deep) (defBody s__law_deep) (defScope s__law_deep) .none kV doc pm an (.ref c) ct) P__law_deep []) :
    ∀ n, FnOk P w K mg base (L2.CX P w) (9 + 7 * n) f (PySem.W.fnOf "_law_deep" "_law_deep" (defArgs s__law_deep) (defBody s__law_deep) (defScope s__law_deep) .none kV doc pm an (.ref c) ct) P__law_deep (spDeep CD CZ Pt n) := by
  intro n
  have W := O.W
  have D := W.L.D
  induction n with
  | zero =>
    refine fn_of (k := 8) lk cd sc__law_deep (fun vs H Q E h => ?_) fun A outer s H vs Q E hr h => ?_
    · obtain ⟨dk, l, r, rs, x, b, bad, rfl, _⟩ := h
      rfl
    · obtain ⟨dk, l, r, rs, x, b, bad, rfl, Dk, hl, hn, n100, m5, b0, mx, mb, tb, q1, q2⟩ := h
      have pE : Passes (L2.CX P w) (cxOf (L2.CX P w) P w K mg base N__law_deep "_law_deep" (defScope s__law_deep) f (.ref c) A outer s H E) E := passes_call (takes_of rfl rfl rfl rfl) (fun _ _ _ _ z => z)
      refine ⟨_, (pss_cons (ps_if (pt_cmpR (eqD hr.units) (pv 1) (pe_lst pa_nil) (nomark _))
          (pss_cons (ps_if (pt_val (pv 4))
              (pss_one (ps_ret (pe_lst (pa_cons (pe_propO (pe_op (op_ownIO (op := .FloorDiv) W.div W.rdiv (hr.mono (by decide)) pE W.first fi_floordiv fr_floordiv O.noI) (pe_methO (pv 0) D.clD W.make (hr.mono (by decide)) pE (pa_cons (pv 2) pa_nil)) pe_int) D.clW W.amount (hr.mono (by decide)) passL) pa_nil))))
              pss_nil)
            (pss_one (ps_ret (pe_lst (pa_cons (pe_propO (pe_op (op_ownIO (op := .FloorDiv) W.div W.rdiv (hr.mono (by decide)) pE W.first fi_floordiv fr_floordiv O.noI) (pe_methO (pv 0) D.clD W.make (hr.mono (by decide)) pE (pa_cons (pv 2) pa_nil)) (pv 3)) D.clW W.amount (hr.mono (by decide)) passL)
              (pa_cons (pe_propO (pe_op (op_ownRO (op := .Mod) W.mod W.rmod (hr.mono (by decide)) pE W.first PySem.F.fills_int_mod PySem.F.slot_int_mod PySem.F.entry_int_mod PySem.F.args_int_mod_2 ni_mod O.noW) (pv 2) (pe_methO (pv 0) D.clD W.make (hr.mono (by decide)) pE (pa_cons (pv 3) pa_nil))) D.clW W.amount (hr.mono (by decide)) passL) pa_nil))))))
          pss_nil)
        (pss_cons ps_never (pss_cons ps_never (pss_one ps_never)))), ?_⟩
      have en : rs = [] := List.eq_nil_of_length_eq_zero hn
      subst en
      refine ⟨_, rfl, (by show 0 ≤ sizeLine; decide), fun l0 hl0 => ?_⟩
      obtain ⟨H1, s1, e1, h1⟩ := gen (.lst []) hl0
      rw [h1]
      clear h1
      refine ⟨.list [], .list [], Z0, Z0, .lst (s1 _ _ hl) id .nil, .lst e1 id .nil, by decide +kernel, by decide +kernel, _, rfl, ?_⟩
      rw [eqv_nil]
      refine iteT ?_
      have D1 := Dk.same s1
      have tb1 := Tabs.ext tb s1
      obtain ⟨⟨dd, ed⟩, m0⟩ := id D1
      cases bad with
      | true =>
        refine ⟨_, rfl, _, rfl, iteT ?_⟩
        refine ⟨_, rfl, dk, dd, _, rfl, ed, rfl, _, rfl, dk, _, rfl, .inl ⟨x, rfl, fun w1 H2 nw s2 W2 => ?_⟩⟩
        obtain ⟨dw, ew⟩ := id W2
        have D2 := D1.same s2
        refine ⟨w1, 0, dw, _, rfl, rfl, ew, w1, dk, _, x, 0, r, rfl, W2, .inl rfl, D2, mx, ⟨by decide, by decide⟩, fun h => absurd rfl h, fun _ => ?_⟩
        exact q2 rfl _ (kp_same (s1.trans s2)) (Tabs.ext tb1 s2) D2
      | false =>
        refine ⟨_, rfl, _, rfl, iteF ?_⟩
        refine ⟨_, rfl, dk, dd, _, rfl, ed, rfl, _, rfl, dk, _, rfl, .inl ⟨x, rfl, fun w1 H2 nw s2 W2 => ?_⟩⟩
        obtain ⟨dw, ew⟩ := id W2
        have D2 := D1.same s2
        refine ⟨_, rfl, w1, b, dw, _, rfl, rfl, ew, w1, dk, _, x, b, r, rfl, W2, .inl rfl, D2, mx, mb, fun _ qq ee w2 H3 dv s3 W3 => ?_, fun h => absurd h b0⟩
        obtain ⟨dx3, ew3⟩ := id W3
        have D3 := D2.same s3
        obtain ⟨⟨dd3, ed3⟩, _⟩ := id D3
        refine ⟨w2, dx3, _, rfl, ew3, w2, dk, qq, rfl, W3, ?_⟩
        refine ⟨_, rfl, _, rfl, dk, dd3, _, rfl, ed3, rfl, _, rfl, dk, _, rfl, .inl ⟨b, rfl, fun w4 H4 nw4 s4 W4 => ?_⟩⟩
        obtain ⟨dx4, ew4⟩ := id W4
        have D4 := D3.same s4
        refine ⟨w4, x, dx4, _, rfl, rfl, ew4, w4, dk, b, x, r, rfl, W4, D4, mb, mx, b0, fun q' e' w5 H5 dv' s5 W5 => ?_⟩
        obtain ⟨dx5, ew5⟩ := id W5
        refine ⟨w5, dx5, _, rfl, ew5, w5, dk, e', rfl, W5, (by show 2 ≤ sizeLine; decide), fun p np => ?_⟩
        have s_all : Same H (upd H5 p (.lst [.int qq, .int e'])) := ((((s1.trans s2).trans s3).trans s4).trans s5).trans (Same.new np)
        obtain ⟨e1', e2'⟩ := IsDiv.uniq m0 b0 dv dv'
        refine q1 rfl p _ _ (kp_same s_all) (Tabs.ext tb s_all) (Dk.same s_all) (fun o hp => ?_) upd_same (by rw [← e2']; exact .last dv)
        rw [((((s1.trans s2).trans s3).trans s4).trans s5) _ _ hp] at np
        cases np
  | succ n ih =>
    have O_deep : OkX P w K mg base (9 + 7 * n) "_law_deep" P__law_deep (spDeep CD CZ Pt n) := ⟨f, _, gm, kp, bi, ih⟩
    refine fn_of (k := 9 + 7 * n + 6) lk cd sc__law_deep (fun vs H Q E h => ?_) fun A outer s H vs Q E hr h => ?_
    · obtain ⟨dk, l, r, rs, x, b, bad, rfl, _⟩ := h
      rfl
    · obtain ⟨dk, l, r, rs, x, b, bad, rfl, Dk, hl, hn, n100, m5, b0, mx, mb, tb, q1, q2⟩ := h
      have pE : Passes (L2.CX P w) (cxOf (L2.CX P w) P w K mg base N__law_deep "_law_deep" (defScope s__law_deep) f (.ref c) A outer s H E) E := passes_call (takes_of rfl rfl rfl rfl) (fun _ _ _ _ z => z)
      have one : ∀ p ∈ [(Pt, qDeep)], p.1 = Pt → p.2 = qDeep := fun p hp _ => by
        rw [List.mem_singleton.mp hp]
      refine ⟨_, (pss_cons (ps_if (pt_cmpR (eqD hr.units) (pv 1) (pe_lst pa_nil) (nomark _))
          (pss_cons ps_never (pss_one ps_never))
          pss_nil)
        (pss_cons (ps_set (i := 5) sc__law_deep.nd rfl (.inl rfl) (pe_methR (C := CD) (f := g) (fun vs σ G Q => ∃ (d : LamD (cxOf (L2.CX P w) P w K mg base N__law_deep "_law_deep" (defScope s__law_deep) f (.ref c) A outer s H E) (9 + 7 * n)) (f' c' dk : Addr) (rv : V), vs = [.ref dk, rv, .ref f'] ∧ d.at f' c' G ∧ WT CB CD CR K (fun E' G' Q' => d.t E' σ G' Q') dk rv G Q E) (pv 0) D.clD O.wi.me (pa_cons (pe_ix ixl (pv 1) pe_int (fun _ _ => rfl)) (pa_cons (pe_lamV (T := [(Pt, qDeep)]) TB rfl List.mem_cons_self one (lamS_by (show lamSB (defScope s__law_deep) (lamScope lamD) = true by decide +kernel)) rfl) pa_nil))
            (fun pins s σ G us vs Q I r z => z.elim fun d z => run_within O.wi D O.mU O.B hr pE I r d z)))
        (pss_cons (ps_set (i := 6) sc__law_deep.nd rfl (.inl rfl) (pe_methO (pe_methO (pv 0) D.clD W.make (hr.mono (by omega)) pE (pa_cons (pv 2) pa_nil)) D.clW W.L.parts (hr.mono (by omega)) pE (pa_cons (pv 3) pa_nil)))
        (pss_one (ps_ret (pe_op op_cat (pv 5) (pe_lst (pa_cons (pe_propO (pv 0) D.clD W.rule (hr.mono (by omega)) passL) (pa_cons (pe_ix ixt (pv 6) pe_int (fun _ _ => rfl)) (pa_cons (pe_ix ixt (pv 6) pe_int (fun _ _ => rfl)) pa_nil)))))))))), ?_⟩
      obtain ⟨r1, rs', rfl⟩ : ∃ a l, rs = a :: l := by
        cases rs with
        | nil => simp at hn
        | cons a l => exact ⟨a, l, rfl⟩
      have m1 := m5 r1 List.mem_cons_self
      have m5' : ∀ r ∈ rs', r ∈ five := fun r hr => m5 r (List.mem_cons_of_mem _ hr)
      refine ⟨_, rfl, (by show 0 ≤ sizeLine; decide), fun l0 hl0 => ?_⟩
      obtain ⟨H1, s1, e1, h1⟩ := gen (.lst []) hl0
      rw [h1]
      clear h1
      refine ⟨.list ((r1 :: rs').map PyData.str), .list [], Z0, Z0, .lst (s1 _ _ hl) id (strs_dt _), .lst e1 id .nil, (shp_strs m5).ok, by decide +kernel, _, rfl, ?_⟩
      rw [eqv_nil]
      refine iteF ?_
      have D1 := Dk.same s1
      have tb1 := Tabs.ext tb s1
      obtain ⟨⟨dd, ed⟩, m0⟩ := id D1
      have hl1 := s1 _ _ hl
      refine ⟨_, rfl, dk, dd, _, rfl, ed, rfl, _, rfl, l, _, 0, _, rfl, rfl, hl1, atI0, tb1, fun f' c' G eG tG nf af ac => ?_⟩
      have DG := D1.ext eG
      have hlG := eG _ _ hl1 (fun ps z => by cases z)
      obtain ⟨⟨dg, edg⟩, _⟩ := id DG
      have nlk : l ≠ dk := fun m => by rw [m, edg] at hlG; cases hlG
      refine ⟨lamDeep O_deep, f', c', dk, _, rfl, ⟨af, ac⟩, r, DG, .inl ⟨r1, rfl, m1, fun bk H2 k2 B2 D2 E1 Q1 w1 w2 => ?_⟩⟩
      have hl2 := k2 _ _ hlG nlk
      have tb2 := tabs_ins tG edg k2
      have kp2 : Kp dk H H2 := ((kp_same s1).trans (kp_ext eG)).trans k2.kp
      refine ⟨_, rfl, _, rfl, _, rfl, l, _, rfl, hl2, fun p np => ?_⟩
      rw [cut_one]
      obtain ⟨H3, s3, e3, h3⟩ := gen (.lst (rs'.map V.str)) np
      rw [show ((r1 :: rs').map V.str).drop 1 = rs'.map V.str from rfl, h3]
      clear h3
      have D3 := D2.same s3
      obtain ⟨dxb, eb2⟩ := id B2
      have nbd := block_ne B2 D2
      refine ⟨_, rfl, _, rfl, _, rfl, dk, p, r1, rs', x, b, bad, rfl, D3, e3, by simpa using hn, by omega, m5', b0, mx, mb, Tabs.ext tb2 s3, fun hb p2 ys H4 kp4 tb4 D4 np2 hp2 due => ?_, fun hb H4 kp4 tb4 D4 => ?_⟩
      · refine w2 _ H4 ⟨dxb, kp4 _ _ (s3 _ _ eb2) nbd (fun ps z => by cases z)⟩ ⟨_, D4⟩ fun H5 k5 D5 => ?_
        obtain ⟨⟨d4, ed4⟩, _⟩ := id D4
        obtain ⟨⟨d5, ed5⟩, _⟩ := id D5
        have np2k : p2 ≠ dk := fun m => by rw [m, ed4] at hp2; cases hp2
        have hp5 := k5 _ _ hp2 np2k
        have kp5 : Kp dk H H5 := ((kp2.trans (kp_same s3)).trans kp4).trans k5.kp
        have tb5 := tabs_ins tb4 ed4 k5
        refine ⟨_, rfl, dk, d5, _, rfl, ed5, rfl, _, rfl, dk, _, rfl, .inl ⟨x, rfl, fun wx H6 nw s6 W6 => ?_⟩⟩
        obtain ⟨dw, ew⟩ := id W6
        have D6 := D5.same s6
        refine ⟨wx, dw, _, rfl, ew, rfl, _, rfl, wx, dk, _, x, b, r, rfl, W6, .inl rfl, D6, mx, mb, fun _ qq ee pt dv npt => ?_, fun h => absurd h b0⟩
        obtain ⟨H7, s7, e7, h7⟩ := gen (.tup [.int qq, .int ee]) npt
        rw [h7]
        clear h7
        have D7 := D6.same s7
        obtain ⟨⟨d7, ed7⟩, _⟩ := id D7
        refine ⟨_, rfl, _, rfl, dk, d7, _, rfl, ed7, dk, r, rfl, D7, _, rfl, pt, _, 0, _, rfl, rfl, e7, atI0, _, rfl, pt, _, 1, _, rfl, rfl, e7, atI1, (by show 3 ≤ sizeLine; decide), fun p5 np5 => ?_⟩
        obtain ⟨H8, s8, e8, h8⟩ := gen (.lst [.str r, .int qq, .int ee]) np5
        rw [h8]
        clear h8
        have hp8 := s8 _ _ (s7 _ _ (s6 _ _ hp5))
        refine ⟨p2, p5, _, _, rfl, rfl, hp8, e8, (by rw [due.len]; exact Nat.le_trans (by show 2 + 3 * rs'.length + 3 ≤ 1000; simp at hn; omega) (by decide)), fun p6 np6 => ?_⟩
        have s5_9 : Same H5 (upd H8 p6 (.lst (ys ++ [.str r, .int qq, .int ee]))) := ((s6.trans s7).trans s8).trans (Same.new np6)
        refine q1 hb p6 _ _ (kp5.trans (kp_same s5_9)) (Tabs.ext tb5 s5_9) (D5.same s5_9) (fun o hp => ?_) upd_same (.more due dv)
        have s5_8 : Same H5 H8 := (s6.trans s7).trans s8
        by_cases hdk : p6 = dk
        · rw [hdk, s5_8 _ _ ed5] at np6
          cases np6
        · by_cases ht : ∃ ps, o = .tbl ps
          · exact ht
          · rw [s5_8 _ _ (kp5 _ _ hp hdk (fun ps e => ht ⟨ps, e⟩))] at np6
            cases np6
      · refine w1 _ _ H4 ⟨_, rfl⟩ ⟨dxb, kp4 _ _ (s3 _ _ eb2) nbd (fun ps z => by cases z)⟩ ⟨_, D4⟩ fun H5 k5 D5 => ?_
        obtain ⟨⟨d4, ed4⟩, _⟩ := id D4
        exact q2 hb H5 (((kp2.trans (kp_same s3)).trans kp4).trans k5.kp) (tabs_ins tb4 ed4 k5) D5
end
/-! ### what is refused -/
section
open LamX
variable {P : Program} {w : World} {K : PySem.W.Frag} {mg : Str → Option Value} {base : Heap} {aR CB CD CW CZ CR CN : Addr}
structure VTx (K : PySem.W.Frag) (mg : Str → Option Value) (CR CN CZ : Addr) : Prop where
  mR : mg "InvalidRule" = some (.ref CR)
  mN : mg "InvalidNumber" = some (.ref CN)
  mZ : mg "DivisionByZero" = some (.ref CZ)
  repr : mg "repr" = none
  isinstance : mg "isinstance" = none
  arith : mg "ArithmeticError" = none
  eR : PySem.W.exmOne K (.ref CR) (.ref CR) = some true
  eN : PySem.W.exmOne K (.ref CN) (.ref CN) = some true
  eZ : PySem.W.exmOne K (.ref CZ) (.ref CZ) = some true
  xR : XfC K CR
  xN : XfC K CN
  nR : PySem.W.findIn K (.ref CR) "value" = some none
  nN : PySem.W.findIn K (.ref CN) "value" = some none
  xc : L2.ExcC K CZ
  kA : PySem.W.kitOne K (.ref CZ) (.type "ArithmeticError") = some true
abbrev s__law_is_refused : Stmt := top 26
abbrev N__law_is_refused : List Str := ["_law_desk", "_law_rules", "_law_x", "e"]
theorem sc__law_is_refused : FnScope N__law_is_refused ["_law_desk", "_law_rules", "_law_x"] (defScope s__law_is_refused) := ⟨rfl, rfl, rfl, by decide +kernel, rfl, by decide +kernel, by decide +kernel⟩
def spDeepA (CD CZ Pt : Addr) : Sp := fun vs H Q E => ∃ n, n ≤ 3 ∧ spDeep CD CZ Pt n vs H Q E
def spIsRef (CD Pt : Addr) : Sp := fun vs H Q _ => ∃ (dk l : Addr) (r : Str) (rs : List Str) (x : Int), vs = [.ref dk, .ref l, .int x] ∧ DeskAt CD H dk r ∧ H l = some (.lst (rs.map V.str)) ∧ rs.length ≤ 3 ∧ (∀ r ∈ rs, r ∈ five) ∧ Md x ∧ Tabs [(Pt, qDeep)] H ∧
  ∀ H', Kp dk H H' → Tabs [(Pt, qDeep)] H' → DeskAt CD H' dk r → Q (.bl true) H'
def tsZ (CZ : Addr) : Addr → Value → Option Addr → TS := fun a kd dd D τ G => τ.length = 4 → τ[3]? = some (some (.ref a)) ∧ kd = .ref CZ ∧ dd = none ∧ D.rt (.bl true) G
theorem ok__law_is_refused {Pt : Addr} {k : Nat} (h : Has K mg "_law_is_refused" s__law_is_refused ["_law_desk", "_law_rules", "_law_x"]) (T : VTx K mg CR CN CZ) (O_deep : OkX P w K mg base k "_law_deep" P__law_deep (spDeepA CD CZ Pt)) :
    Ok P w K mg base (k + 1) "_law_is_refused" ["_law_desk", "_law_rules", "_law_x"] (spIsRef CD Pt) := by
  obtain ⟨f, fd, g, b, F⟩ := h
  refine ⟨f, fd, g, F.kp, b, F.ok sc__law_is_refused (fun vs H Q E h => ?_) (fun cdv A outer s H vs Q E hr h => ?_)⟩
  · obtain ⟨dk, l, r, rs, x, rfl, _⟩ := h
    rfl
  · obtain ⟨dk, l, r, rs, x, rfl, Dk, hl, hn, m5, mx, tb, q⟩ := h
    obtain ⟨fD, fdD, gD, kpD, bD, GD⟩ := O_deep
    refine ⟨_, pss_cons (ps_tryN rfl rfl sc__law_is_refused.nd (out := fun _ _ _ _ => False) (l := [⟨.ref CZ, some 3, tsZ CZ⟩]) ?tk (fun W ps xe tk _ => pss_one (ps_expr (pe_callS GD (hr.mono (by omega)) rfl gD kpD bD (fun σ => passAt tk σ) (pa_cons (pv 0) (pa_cons (pv 1) (pa_cons (pv 2) (pa_cons pe_int (pa_cons pe_bl pa_nil))))))))
      (.named (i := 3) ⟨rfl, by decide +kernel, .inl T.mZ⟩ rfl rfl ?su .nil)) (pss_one (ps_ret pe_bl)), ?_⟩
    case tk =>
      exact fun _ _ z => by
        obtain ⟨a, B, sI, pins1, τ1, G1, kd, dd, rfl, J1, nb, up, sky, free, os, ag, wish⟩ := z
        exact wish.elim
    case su =>
      intro a ob kd dd ps zc isF
      by_cases e1 : kd = .ref CZ
      · by_cases e2 : dd = none
        · subst e1
          subst e2
          refine PSs.imp (PSs.len (pss_one (ps_ret (pe_callB (call_isE T.xc zc isF) (by rfl) T.isinstance bb_isinstance (pa_cons (pv 3) (pa_cons (pe_bltn (v := .ty "ArithmeticError") (by rfl) T.arith (by decide +kernel) rfl) pa_nil)))))) ?_
          intro D τ G w1 len
          obtain ⟨e1, _, _, q⟩ := w1 len
          exact ⟨_, e1, _, _, _, rfl, (fun u hu => hu), T.kA, q⟩
        · exact PSs.imp (PSs.len ⟨fun _ _ _ _ _ _ w => w.elim⟩) fun D τ G w1 len => e2 (w1 len).2.2.1
      · exact PSs.imp (PSs.len ⟨fun _ _ _ _ _ _ w => w.elim⟩) fun D τ G w1 len => e1 (w1 len).2.1
    refine ⟨_, rfl, _, rfl, _, rfl, rs.length, hn, dk, l, r, rs, x, 3, true, rfl, Dk, hl, rfl, by omega, m5, by decide, mx, ⟨by decide, by decide⟩, tb, (fun hb => absurd hb (by decide)), fun _ H' kp tb' D' => ?_⟩
    exact ⟨true, T.eZ, fun _ a na len => ⟨rfl, rfl, rfl, q H' kp tb' D'⟩, (fun z => nomatch z)⟩
end
/-! ### values that are no rules, no numbers -/
section
open LamX
variable {P : Program} {w : World} {K : PySem.W.Frag} {mg : Str → Option Value} {base : Heap} {aR CB CD CW CZ CR CN : Addr}
def spWBad (K : PySem.W.Frag) (CD CR : Addr) : Sp := fun vs H _ E => ∃ (dk : Addr) (rv : V) (r : Str), vs = [.ref dk, rv, .non] ∧ DeskAt CD H dk r ∧ RuleV K H rv false ∧ ∀ dd, H dd = none → E (.ref CR) (some dd) (upd H dd (.xd [("value", rv)]))
theorem ok_within_bad {f : Addr} {fd : FuncData} (F : Fun K "within" "Desk.within" s_Desk_within f fd) (D : DTx K mg CB CD CW) (mU : OwnMeth P w K mg base CD 3 "using" ["self", "rule"] (spUsing K CB CR)) (B : BlkM P w K mg base CB CD) :
    FnOk P w K mg base (L2.CX P w) 5 f fd ["self", "rule", "call"] (spWBad K CD CR) := by
  refine F.okX sc_Desk_within (fun vs H Q E h => ?_) (fun cdv A outer s H vs Q E hr h => ?_)
  · obtain ⟨dk, rv, r, rfl, _⟩ := h
    rfl
  · obtain ⟨dk, rv, r, rfl, ⟨⟨dx, ed⟩, m5⟩, rf, z⟩ := h
    obtain ⟨fe, de, en, enF, FE, bE⟩ := B.en
    obtain ⟨fx, dx2, ex, exF, FX, bX⟩ := B.ex
    refine ⟨_, pss_one (ps_with (C := CB) (te := fun _ _ _ _ => False) rfl rfl rfl (takes_of rfl rfl rfl rfl) (hr.mono (by decide)) (Room.m (hr.mono (show 1 ≤ 4 by decide)) none) en enF (FnOk.cx0 FE fun vs H Q E E' h => h) bE ex exF FX bX
      (pe_methO (pv 0) D.clD mU (hr.mono (by decide)) (passes_call (takes_of rfl rfl rfl rfl) (fun _ _ _ _ z => z)) (pa_cons (pv 1) pa_nil)) (fun W pn xe tk _ => ⟨fun _ _ _ _ _ _ w => w.elim⟩)), ?_⟩
    exact ⟨_, rfl, dk, dx, _, rfl, ed, rfl, _, rfl, dk, rv, rfl, .inr ⟨rf, z⟩⟩
def MkD (P : Program) (w : World) (K : PySem.W.Frag) (mg : Str → Option Value) (base : Heap) (CD CR : Addr) : Prop :=
  ∃ (f : Addr) (fd : FuncData) (ds : List Value), Mk K CD f ∧ FnOk P w K mg base (L2.CX P w) 3 f fd ["self", "rule"] (spDInit K CD CR) ∧ Binds K fd ["self", "rule"] [] ∧ Binds K fd ["self", "rule"] ds ∧ Vals [.str "down"] ds ∧ mg "Desk" = some (.ref CD)
/-- what this def asks of the text's top -/
structure VRx (P : Program) (w : World) (K : PySem.W.Frag) (mg : Str → Option Value) (base : Heap) (CD CR CN CW CB : Addr) : Prop where
  D : DTx K mg CB CD CW
  set : OwnMeth P w K mg base CD 3 "set_rule" ["self", "rule"] (spSet K CD CR)
  within : OwnMeth P w K mg base CD 5 "within" ["self", "rule", "call"] (spWBad K CD CR)
  mkD : MkD P w K mg base CD CR
  make : OwnMeth P w K mg base CD 3 "make" ["self", "value"] (spDMake K CW CN)
  rule : OwnP P w K mg base CD 1 "rule" (spRule CD)
abbrev s__law_values_right : Stmt := top 27
abbrev N__law_values_right : List Str := ["_law_desk", "_law_rule", "_law_value", "_law_found", "e"]
theorem sc__law_values_right : FnScope N__law_values_right ["_law_desk", "_law_rule"] (defScope s__law_values_right) := ⟨rfl, rfl, rfl, by decide +kernel, rfl, by decide +kernel, by decide +kernel⟩
def spVals (CD : Addr) : Sp := fun vs H Q _ => ∃ (dk : Addr) (r : Str), vs = [.ref dk, .str r] ∧ DeskAt CD H dk r ∧ ∀ H', Same H H' → Q (.bl true) H'
/-- a value that can be shown -/
def Shw (K : PySem.W.Frag) (H : Hp) (v : V) (pd : PyData) : Prop := Dp K H v pd ∧ pd.hasDict = false ∧ pd.showable = true ∧ pd.depth + 1 ≤ 64 ∧ pd.shown.length ≤ sizeLine
def tsF (K : PySem.W.Frag) (CR : Addr) : Addr → Value → Option Addr → TS := fun a kd dd D τ G => τ.length = 5 → τ[4]? = some (some (.ref a)) ∧ kd = .ref CR ∧ ∃ (d fl : Addr) (v : V) (pd : PyData) (ys : List V), dd = some d ∧ G d = some (.xd [("value", v)]) ∧ τ[2]? = some (some v) ∧ Shw K G v pd ∧
  τ[3]? = some (some (.ref fl)) ∧ G fl = some (.lst ys) ∧ ys.length < sizeLine ∧ D.nx τ (upd G fl (.lst (ys ++ [.bl true])))

theorem pe_methS {X : Cx} {W : WX} {k : Nat} {C : Addr} {m : Str} {ps : List Str} {sp : Sp} {o e : Expr} {es : List Expr} {ta : TE} {t : TA} {apos pos : Pos} {pl : Sem Bool} (he : PE X o ta) (c : Cls X.K C) (M : OwnMeth X.prog X.w X.K X.mg X.base C k m ps sp) (hr : Room k X.A) (tk : Takes X W) (ha : PA X (e :: es) t)
    (hst : starEach (e :: es) X.env = (false, eval e X.env) :: starEach es X.env := by rfl) (hpl : (backTo pos (starEach es X.env)).any (·.1) = false := by rfl)
    (ht : eval (.Call (.Attribute o m apos) (e :: es) [] pos) X.env = (do
      let ov ← eval o X.env
      standAt apos.atName
      let (f, first) ← holding [ov] (getMethod ov m pl)
      callWith pos f first (backTo pos (starEach (e :: es) X.env)) (backToKw pos (keywordEach [] X.env))) := by rfl) :
    PE X (.Call (.Attribute o m apos) (e :: es) [] pos) (tMethR C m (fun vs σ H Q => sp vs H Q (WE W σ)) ta t) := by
  obtain ⟨f, fd, hm, b, F⟩ := M
  exact pe_methR _ he c hm ha (fun pins s σ H us vs Q I r q => run_fnS F hr b (passAt tk σ) I r q) hst hpl ht
def tsN (K : PySem.W.Frag) (CN : Addr) : Addr → Value → Option Addr → TS := fun a kd dd D τ G => τ.length = 5 → τ[4]? = some (some (.ref a)) ∧ kd = .ref CN ∧ ∃ (d : Addr) (v : V) (pd : PyData), dd = some d ∧ G d = some (.xd [("value", v)]) ∧ τ[2]? = some (some v) ∧ Shw K G v pd ∧ D.nx τ G
theorem takes_none {X : Cx} : Takes X (fun _ _ _ _ => False) := fun _ _ z => by
  obtain ⟨a, B, sI, pins1, τ1, G1, kd, dd, rfl, J1, nb, up, sky, free, os, ag, wish⟩ := z
  exact wish.elim
theorem Same.on {H H' : Hp} {p : Addr} {o : HO} (s : Same H H') (n : H p = none) : Same H (upd H' p o) := (Fm.on (Fm.of s) n).same
theorem badR_of {G : Hp} {v : V} {pd : PyData} (d : Dt Z0 G v pd) (h : tyD pd ≠ "str" ∨ v = .str "Down") : RuleV K G v false := by
  rcases h with h | rfl
  · refine .inr (.inr ⟨_, d.ty, ?_, rfl⟩)
    rw [d.kStr, show (tyD pd == "str") = false by simpa using h]
  · exact .inr (.inl ⟨_, rfl, by decide +kernel, rfl⟩)
theorem badI_of {G : Hp} {v : V} {pd : PyData} (d : Dt Z0 G v pd) (h : isInt pd = false) : IntV K G v false := by
  by_cases b : tyD pd = "bool"
  · cases d <;> first | exact .inr (.inl ⟨_, rfl, rfl⟩) | (simp [tyD] at b)
  · refine .inr (.inr ⟨_, d.ty, ?_, rfl⟩)
    rw [d.kInt, h, show (tyD pd == "bool") = false by simpa using b]
    rfl
def tTry2 (K : PySem.W.Frag) (CD CW CN : Addr) : TS := fun D τ G => tSeq (tDrop (tMethR CD "make" (fun vs σ H Q => spDMake K CW CN vs H Q (WE (wishes K (fun _ _ _ _ => False) D [⟨.ref CN, some 4, tsN K CN⟩]) σ)) (tVar 0) (tCons (tVar 2) tNil))) (tRet (tC (.bl false))) D τ G
theorem okG__law_values_right {f : Addr} {fd : FuncData} (F : Fun K "_law_values_right" "_law_values_right" s__law_values_right f fd) (T : VTx K mg CR CN CZ) (VR : VRx P w K mg base CD CR CN CW CB) :
    FnG P w K mg base CX0 6 f fd ["_law_desk", "_law_rule"] (spVals CD) := by
  refine Fun.okG F sc__law_values_right (fun vs H Q E h => ?_) (fun cdv A outer s H vs Q E hG hr h => ?_)
  · obtain ⟨dk, r, rfl, _⟩ := h
    rfl
  · obtain ⟨dk, r, rfl, Dk, q⟩ := h
    have un := hr.un
    rw [Nat.add_assoc] at un
    obtain ⟨fD, fdD, ds, MD, FD, bD, bD2, hds, gD⟩ := VR.mkD
    refine ⟨_, pss_cons (ps_for PassesOwn.never rfl (pi_list (pe_lst (pa_cons pe_non (pa_cons pe_str (pa_cons pe_int (pa_cons (pe_lst (pa_cons pe_str pa_nil)) (pa_cons pe_bl pa_nil))))))) (pg_name (i := 2) sc__law_values_right.nd rfl (.inl rfl))
        (pss_cons (ps_set (i := 3) sc__law_values_right.nd rfl (.inl rfl) (pe_lst pa_nil))
        (pss_cons (ps_tryN rfl rfl sc__law_values_right.nd (out := fun _ _ _ _ => False) (l := [⟨.ref CR, some 4, tsF K CR⟩]) ?tk (fun W ps xe tk _ => pss_one (ps_expr (pe_methS (pv 0) VR.D.clD VR.set (hr.mono (by decide)) tk (pa_cons (pv 2) pa_nil))))
           (.named (i := 4) ⟨rfl, by decide +kernel, .inl T.mR⟩ rfl rfl ?su1 .nil))
        (pss_cons (ps_tryN rfl rfl sc__law_values_right.nd (out := fun _ _ _ _ => False) (l := [⟨.ref CR, some 4, tsF K CR⟩]) ?tk2 (fun W ps xe tk _ => pss_one (ps_expr (pe_methS (pv 0) VR.D.clD VR.within (hr.mono (by decide)) tk (pa_cons (pv 2) (pa_cons pe_non pa_nil)))))
           (.named (i := 4) ⟨rfl, by decide +kernel, .inl T.mR⟩ rfl rfl ?su2 .nil))
        (pss_cons (ps_tryN rfl rfl sc__law_values_right.nd (out := fun _ _ _ _ => False) (l := [⟨.ref CR, some 4, tsF K CR⟩]) ?tk3 (fun W ps xe tk _ => pss_one (ps_expr (pe_makeS MD FD (hr.mono (by decide)) rfl gD bD .nil (fun σ => passAt tk σ) (pa_cons (pv 2) pa_nil))))
           (.named (i := 4) ⟨rfl, by decide +kernel, .inl T.mR⟩ rfl rfl ?su3 .nil))
        (pss_one (ps_if (PW.pt (pw_or (pt_cmpR (op_neD hr.units) (pv 3) (pe_op op_rep (pe_lst (pa_cons pe_bl pa_nil)) pe_int) (nomark _)) (pw_or1 (pt_cmpR op_ne (pe_propO (pv 0) VR.D.clD VR.rule (hr.mono (by decide)) passL) (pv 1) (nomark _)))))
          (pss_one (ps_ret pe_bl))
          pss_nil)))))))
      (pss_cons (ps_for PassesOwn.never rfl (pi_list (pe_lst (pa_cons pe_non (pa_cons pe_bl (pa_cons pe_str (pa_cons (pe_lst (pa_cons pe_int pa_nil)) pa_nil)))))) (pg_name (i := 2) sc__law_values_right.nd rfl (.inl rfl))
        (show PSs _ _ (tTry2 K CD CW CN) from pss_one (ps_tryN rfl rfl sc__law_values_right.nd (out := fun _ _ _ _ => False) (l := [⟨.ref CN, some 4, tsN K CN⟩]) ?tk4 (fun W ps xe tk _ => pss_cons (ps_expr (pe_methS (pv 0) VR.D.clD VR.make (hr.mono (by decide)) tk (pa_cons (pv 2) pa_nil))) (pss_one (ps_ret pe_bl)))
           (.named (i := 4) ⟨rfl, by decide +kernel, .inl T.mN⟩ rfl rfl ?su4 .nil))))
      (pss_one (ps_ret pe_bl))), ?_⟩
    case su1 =>
      intro a ob kd dd ps zc isF
      refine PSs.imp (PSs.len (pss_one (ps_expr (pe_bm PySem.F.plainAttrs_list PySem.F.slot_list_append PySem.F.type_list_append mt_append (pv 3) (pa_cons (pe_cmpR op_eq (pe_callB (call_repr hG (Nat.lt_of_le_of_lt (Nat.add_le_add_left (by omega) _) un)) (by rfl) T.repr bb_repr (pa_cons (pe_xf T.xR T.nR zc isF (pv 4)) pa_nil)) (pe_callB (call_repr hG (Nat.lt_of_le_of_lt (Nat.add_le_add_left (by omega) _) un)) (by rfl) T.repr bb_repr (pa_cons (pv 2) pa_nil)) (nomark _)) pa_nil))))) ?_
      intro D τ G w1 len
      obtain ⟨e1, rfl, d, fl, v, pd, ys, rfl, ed, e2, ⟨dp, h1, h2, h3, h4⟩, e3, efl, siz, q⟩ := w1 len
      refine ⟨_, e3, .inl ⟨rfl, _, SqL.of efl⟩, _, e1, rfl, rfl, d, _, v, rfl, ed, rfl, v, pd, rfl, Rds.of dp h1, h2, h3, h4, _, e2, v, pd, rfl, Rds.of dp h1, h2, h3, h4, rfl, fl, ys, _, rfl, rfl, efl, siz, ?_⟩
      rw [decide_eq_true rfl]
      exact q
    case su2 =>
      intro a ob kd dd ps zc isF
      refine PSs.imp (PSs.len (pss_one (ps_expr (pe_bm PySem.F.plainAttrs_list PySem.F.slot_list_append PySem.F.type_list_append mt_append (pv 3) (pa_cons (pe_cmpR op_eq (pe_callB (call_repr hG (Nat.lt_of_le_of_lt (Nat.add_le_add_left (by omega) _) un)) (by rfl) T.repr bb_repr (pa_cons (pe_xf T.xR T.nR zc isF (pv 4)) pa_nil)) (pe_callB (call_repr hG (Nat.lt_of_le_of_lt (Nat.add_le_add_left (by omega) _) un)) (by rfl) T.repr bb_repr (pa_cons (pv 2) pa_nil)) (nomark _)) pa_nil))))) ?_
      intro D τ G w1 len
      obtain ⟨e1, rfl, d, fl, v, pd, ys, rfl, ed, e2, ⟨dp, h1, h2, h3, h4⟩, e3, efl, siz, q⟩ := w1 len
      refine ⟨_, e3, .inl ⟨rfl, _, SqL.of efl⟩, _, e1, rfl, rfl, d, _, v, rfl, ed, rfl, v, pd, rfl, Rds.of dp h1, h2, h3, h4, _, e2, v, pd, rfl, Rds.of dp h1, h2, h3, h4, rfl, fl, ys, _, rfl, rfl, efl, siz, ?_⟩
      rw [decide_eq_true rfl]
      exact q
    case su3 =>
      intro a ob kd dd ps zc isF
      refine PSs.imp (PSs.len (pss_one (ps_expr (pe_bm PySem.F.plainAttrs_list PySem.F.slot_list_append PySem.F.type_list_append mt_append (pv 3) (pa_cons (pe_cmpR op_eq (pe_callB (call_repr hG (Nat.lt_of_le_of_lt (Nat.add_le_add_left (by omega) _) un)) (by rfl) T.repr bb_repr (pa_cons (pe_xf T.xR T.nR zc isF (pv 4)) pa_nil)) (pe_callB (call_repr hG (Nat.lt_of_le_of_lt (Nat.add_le_add_left (by omega) _) un)) (by rfl) T.repr bb_repr (pa_cons (pv 2) pa_nil)) (nomark _)) pa_nil))))) ?_
      intro D τ G w1 len
      obtain ⟨e1, rfl, d, fl, v, pd, ys, rfl, ed, e2, ⟨dp, h1, h2, h3, h4⟩, e3, efl, siz, q⟩ := w1 len
      refine ⟨_, e3, .inl ⟨rfl, _, SqL.of efl⟩, _, e1, rfl, rfl, d, _, v, rfl, ed, rfl, v, pd, rfl, Rds.of dp h1, h2, h3, h4, _, e2, v, pd, rfl, Rds.of dp h1, h2, h3, h4, rfl, fl, ys, _, rfl, rfl, efl, siz, ?_⟩
      rw [decide_eq_true rfl]
      exact q
    case su4 =>
      intro a ob kd dd ps zc isF
      refine PSs.imp (PSs.len (pss_one (ps_if (pt_cmpR op_ne (pe_callB (call_repr hG (Nat.lt_of_le_of_lt (Nat.add_le_add_left (by omega) _) un)) (by rfl) T.repr bb_repr (pa_cons (pe_xf T.xN T.nN zc isF (pv 4)) pa_nil)) (pe_callB (call_repr hG (Nat.lt_of_le_of_lt (Nat.add_le_add_left (by omega) _) un)) (by rfl) T.repr bb_repr (pa_cons (pv 2) pa_nil)) (nomark _)) (pss_one (ps_ret pe_bl)) pss_nil))) ?_
      intro D τ G w1 len
      obtain ⟨e1, rfl, d, v, pd, rfl, ed, e2, ⟨dp, h1, h2, h3, h4⟩, q⟩ := w1 len
      refine ⟨_, e1, rfl, rfl, d, _, v, rfl, ed, rfl, v, pd, rfl, Rds.of dp h1, h2, h3, h4, _, e2, v, pd, rfl, Rds.of dp h1, h2, h3, h4, rfl, _, rfl, iteN (by simp) ?_⟩
      exact q
    case tk => exact takes_none
    case tk2 => exact takes_none
    case tk3 => exact takes_none
    case tk4 => exact takes_none
    refine ⟨by show 1 ≤ sizeLine; decide, fun l1 hl1 => ?_⟩
    have s1 : Same H (upd H l1 (.lst [.str "down"])) := Same.new hl1
    have e1 : (upd H l1 (.lst [.str "down"])) l1 = some (.lst [.str "down"]) := upd_same
    generalize upd H l1 (.lst [.str "down"]) = H1 at s1 e1 ⊢
    refine ⟨by show 5 ≤ sizeLine; decide, fun l hl => ?_⟩
    have s2 : Same H1 (upd H1 l (.lst [.non, .str "Down", .int 5, .ref l1, .bl true])) := Same.new hl
    have e2 : (upd H1 l (.lst [.non, .str "Down", .int 5, .ref l1, .bl true])) l = some (.lst [.non, .str "Down", .int 5, .ref l1, .bl true]) := upd_same
    generalize upd H1 l (.lst [.non, .str "Down", .int 5, .ref l1, .bl true]) = H2 at s2 e2 ⊢
    have oks : ∀ v ∈ [V.non, .str "Down", .int 5, .ref l1, .bl true], ∃ pd, Dt Z0 H2 v pd ∧ (tyD pd ≠ "str" ∨ v = .str "Down") ∧ pd.hasDict = false ∧ pd.showable = true ∧ pd.depth + 1 ≤ 64 ∧ pd.shown.length ≤ sizeLine := fun v hv => by
      simp only [List.mem_cons, List.not_mem_nil, or_false] at hv
      rcases hv with rfl | rfl | rfl | rfl | rfl
      · exact ⟨_, .non, .inl (by decide), by decide +kernel⟩
      · exact ⟨_, .str _, .inr rfl, by decide +kernel⟩
      · exact ⟨_, .int _, .inl (by decide), by decide +kernel⟩
      · exact ⟨.list [.str "down"], .lst (s2 _ _ e1) id (.cons (.str _) .nil), .inl (by decide), by decide +kernel⟩
      · exact ⟨_, .bl _, .inl (by decide), by decide +kernel⟩
    have D2 := Dk.same (s1.trans s2)
    refine ⟨l, rfl, ⟨_, SqL.of e2⟩, for_list (K := K) (xs := [.non, .str "Down", .int 5, .ref l1, .bl true])
      (fun _ σ G => Same H2 G ∧ ∃ v2 v3 : Option V, σ = [some (.ref dk), some (.str r), v2, v3, none]) ⟨Same.refl _, none, none, rfl⟩ (fun i σ G _ p => SqL.of (p.1 _ _ e2)) ?_ ?_⟩
    · rintro i v σ G hv ⟨x1, v2, v3, rfl⟩
      obtain ⟨pd, dt, nr, h1, h2, h3, h4⟩ := oks v (List.mem_of_getElem? hv)
      refine ⟨by show 0 ≤ sizeLine; decide, fun fl nf => ?_⟩
      have s3 : Same G (upd G fl (.lst [])) := Same.new nf
      have e3 : (upd G fl (.lst [])) fl = some (.lst []) := upd_same
      generalize upd G fl (.lst []) = G1 at s3 e3 ⊢
      have x2 := x1.trans s3
      have D3 := D2.same x2
      obtain ⟨⟨dx, ed⟩, m5⟩ := id D3
      have dt1 := dt.fr (Fm.of x2)
      refine ⟨_, rfl, dk, dx, _, rfl, ed, rfl, _, rfl, dk, v, r, rfl, D3, .inr ⟨badR_of dt1 nr, fun dd nd => ?_⟩⟩
      have S2 : Same G1 (upd G1 dd (.xd [("value", v)])) := Same.new nd
      refine ⟨true, T.eR, fun _ a na len => ⟨rfl, rfl, dd, fl, v, pd, [], rfl, upd_same, rfl, ⟨(dt1.fr (Fm.of S2)).dp', h1, h2, h3, h4⟩, rfl, S2 _ _ e3, by decide, ?_⟩, (fun z => nomatch z)⟩
      have s4 : Same G (upd (upd G1 dd (.xd [("value", v)])) fl (.lst ([] ++ [.bl true]))) := Same.on (s3.trans S2) nf
      have e4 : (upd (upd G1 dd (.xd [("value", v)])) fl (.lst ([] ++ [.bl true]))) fl = some (.lst [.bl true]) := upd_same
      generalize upd (upd G1 dd (.xd [("value", v)])) fl (.lst ([] ++ [.bl true])) = G2 at s4 e4 ⊢
      clear S2
      have x3 := x1.trans s4
      have D4 := D2.same x3
      obtain ⟨⟨dx2, ed2⟩, _⟩ := id D4
      have dt2 := dt.fr (Fm.of x3)
      refine ⟨_, rfl, dk, dx2, _, rfl, ed2, rfl, _, rfl, dk, v, r, rfl, D4, badR_of dt2 nr, fun dd nd => ?_⟩
      have S2 : Same G2 (upd G2 dd (.xd [("value", v)])) := Same.new nd
      refine ⟨true, T.eR, fun _ a na len => ⟨rfl, rfl, dd, fl, v, pd, _, rfl, upd_same, rfl, ⟨(dt2.fr (Fm.of S2)).dp', h1, h2, h3, h4⟩, rfl, S2 _ _ e4, by decide, ?_⟩, (fun z => nomatch z)⟩
      have s5 : Same G (upd (upd G2 dd (.xd [("value", v)])) fl (.lst ([.bl true] ++ [.bl true]))) := Same.on (s4.trans S2) nf
      have e5 : (upd (upd G2 dd (.xd [("value", v)])) fl (.lst ([.bl true] ++ [.bl true]))) fl = some (.lst [.bl true, .bl true]) := upd_same
      generalize upd (upd G2 dd (.xd [("value", v)])) fl (.lst ([.bl true] ++ [.bl true])) = G3 at s5 e5 ⊢
      clear S2
      have x4 := x1.trans s5
      have dt3 := dt.fr (Fm.of x4)
      refine ⟨_, rfl, fun x dx3 nx ndx ne => ?_⟩
      have S3 := new_same (o := .ins CD dx3 []) nx ndx
      refine ⟨x, dx3, v, rfl, upd_same, .inr ⟨badR_of (dt3.fr (Fm.of S3)) nr, fun dd nd => ?_⟩⟩
      generalize upd (upd G3 dx3 (.own x)) x (.ins CD dx3 []) = G4 at S3 nd ⊢
      have S4 : Same G4 (upd G4 dd (.xd [("value", v)])) := Same.new nd
      refine ⟨true, T.eR, fun _ a na len => ⟨rfl, rfl, dd, fl, v, pd, _, rfl, upd_same, rfl, ⟨(dt3.fr (Fm.of (S3.trans S4))).dp', h1, h2, h3, h4⟩, rfl, S4 _ _ (S3 _ _ e5), by decide, ?_⟩, (fun z => nomatch z)⟩
      have s6 : Same G (upd (upd G4 dd (.xd [("value", v)])) fl (.lst ([.bl true, .bl true] ++ [.bl true]))) := Same.on ((s5.trans S3).trans S4) nf
      have e6 : (upd (upd G4 dd (.xd [("value", v)])) fl (.lst ([.bl true, .bl true] ++ [.bl true]))) fl = some (.lst [.bl true, .bl true, .bl true]) := upd_same
      generalize upd (upd G4 dd (.xd [("value", v)])) fl (.lst ([.bl true, .bl true] ++ [.bl true])) = G5 at s6 e6 ⊢
      clear S4 S3
      refine ⟨_, rfl, by show 1 ≤ sizeLine; decide, fun l3 n3 => ?_⟩
      have s7 : Same G5 (upd G5 l3 (.lst [.bl true])) := Same.new n3
      have e7 : (upd G5 l3 (.lst [.bl true])) l3 = some (.lst [.bl true]) := upd_same
      generalize upd G5 l3 (.lst [.bl true]) = G6 at s7 e7 ⊢
      refine ⟨l3, 3, [V.bl true], rfl, rfl, e7, by decide, by decide, by show 3 ≤ sizeLine; decide, fun l4 n4 => ?_⟩
      have s8 : Same G6 (upd G6 l4 (.lst (List.replicate (3 : Int).toNat [V.bl true]).flatten)) := Same.new n4
      have e8 : (upd G6 l4 (.lst (List.replicate (3 : Int).toNat [V.bl true]).flatten)) l4 = some (.lst [.bl true, .bl true, .bl true]) := upd_same
      generalize upd G6 l4 (.lst (List.replicate (3 : Int).toNat [V.bl true]).flatten) = G7 at s8 e8 ⊢
      have three : ∀ {H' : Hp} {p : Addr}, H' p = some (.lst [.bl true, .bl true, .bl true]) → Dp K H' (.ref p) (.list [.bool true, .bool true, .bool true]) := fun e => .lst (SqL.of e) (.cons (.bl _) (.cons (.bl _) (.cons (.bl _) .nil)))
      have x8 := x1.trans ((s6.trans s7).trans s8)
      have D8 := D2.same x8
      obtain ⟨⟨dx8, ed8⟩, _⟩ := id D8
      refine ⟨_, _, three (s8 _ _ (s7 _ _ e6)), three e8, rfl, rfl, ?_⟩
      refine ⟨_, rfl, iteN (by decide +kernel) ?_⟩
      refine ⟨_, rfl, dk, dx8, _, rfl, ed8, dk, r, rfl, D8, _, rfl, rfl, _, rfl, iteN (by simp) ?_⟩
      exact ⟨x8, some v, some (.ref fl), rfl⟩
    · rintro σ G ⟨x1, v2, v3, rfl⟩
      refine ⟨by show 1 ≤ sizeLine; decide, fun l3 hl3 => ?_⟩
      have s3 : Same G (upd G l3 (.lst [.int 7])) := Same.new hl3
      have e3 : (upd G l3 (.lst [.int 7])) l3 = some (.lst [.int 7]) := upd_same
      generalize upd G l3 (.lst [.int 7]) = G1 at s3 e3 ⊢
      refine ⟨by show 4 ≤ sizeLine; decide, fun l4 hl4 => ?_⟩
      have s4 : Same G1 (upd G1 l4 (.lst [.non, .bl true, .str "7", .ref l3])) := Same.new hl4
      have e4 : (upd G1 l4 (.lst [.non, .bl true, .str "7", .ref l3])) l4 = some (.lst [.non, .bl true, .str "7", .ref l3]) := upd_same
      generalize upd G1 l4 (.lst [.non, .bl true, .str "7", .ref l3]) = G2 at s4 e4 ⊢
      have oks2 : ∀ v ∈ [V.non, .bl true, .str "7", .ref l3], ∃ pd, Dt Z0 G2 v pd ∧ isInt pd = false ∧ pd.hasDict = false ∧ pd.showable = true ∧ pd.depth + 1 ≤ 64 ∧ pd.shown.length ≤ sizeLine := fun v hv => by
        simp only [List.mem_cons, List.not_mem_nil, or_false] at hv
        rcases hv with rfl | rfl | rfl | rfl
        · exact ⟨_, .non, by decide +kernel⟩
        · exact ⟨_, .bl _, by decide +kernel⟩
        · exact ⟨_, .str _, by decide +kernel⟩
        · exact ⟨.list [.int 7], .lst (s4 _ _ e3) id (.cons (.int _) .nil), by decide +kernel⟩
      have D4 := D2.same ((x1.trans s3).trans s4)
      refine ⟨l4, rfl, ⟨_, SqL.of e4⟩, for_list (K := K) (xs := [.non, .bl true, .str "7", .ref l3])
        (fun _ σ G => Same G2 G ∧ ∃ v2 : Option V, σ = [some (.ref dk), some (.str r), v2, v3, none]) ⟨Same.refl _, v2, rfl⟩ (fun i σ G _ p => SqL.of (p.1 _ _ e4)) ?_ ?_⟩
      · rintro i v σ G3 hv ⟨x3, v4, rfl⟩
        obtain ⟨pd, dt, ni, h1, h2, h3, h4⟩ := oks2 v (List.mem_of_getElem? hv)
        have D5 := D4.same x3
        obtain ⟨⟨dx, ed⟩, m5⟩ := id D5
        have dt1 := dt.fr (Fm.of x3)
        refine ⟨_, rfl, dk, dx, _, rfl, ed, rfl, _, rfl, dk, v, rfl, .inr ⟨badI_of dt1 ni, fun dd nd => ?_⟩⟩
        have S2 : Same G3 (upd G3 dd (.xd [("value", v)])) := Same.new nd
        refine ⟨true, T.eN, fun _ a na len => ⟨rfl, rfl, dd, v, pd, rfl, upd_same, rfl, ⟨(dt1.fr (Fm.of S2)).dp', h1, h2, h3, h4⟩, ?_⟩, (fun z => nomatch z)⟩
        exact ⟨x3.trans S2, some v, rfl⟩
      · rintro σ G3 ⟨x3, v4, rfl⟩
        exact q _ (((s1.trans s2).trans x1).trans ((s3.trans s4).trans x3))
end
/-! ### the law -/
section
open LamX
variable {P : Program} {w : World} {K : PySem.W.Frag} {mg : Str → Option Value} {base : Heap} {aR CB CD CW CZ CR CN : Addr}
def Fr2 (dk pp : Addr) (H H' : Hp) : Prop := ∀ b o, H b = some o → b ≠ dk → b ≠ pp → (∀ ps, o ≠ .tbl ps) → H' b = some o
theorem Fr2.refl {dk pp : Addr} {H : Hp} : Fr2 dk pp H H := fun _ _ h _ _ _ => h
theorem Fr2.trans {dk pp : Addr} {H H1 H2 : Hp} (a : Fr2 dk pp H H1) (b : Fr2 dk pp H1 H2) : Fr2 dk pp H H2 := fun c o h n m t => b c o (a c o h n m t) n m t
theorem Fr2.same {dk pp : Addr} {H H' : Hp} (s : Same H H') : Fr2 dk pp H H' := fun b o h _ _ _ => s b o h
theorem Fr2.pool {dk pp : Addr} {H H' : Hp} (s : Keep pp H H') : Fr2 dk pp H H' := fun b o h _ n _ => s b o h n
theorem Fr2.desk {dk pp : Addr} {H H' : Hp} (s : Kp dk H H') : Fr2 dk pp H H' := fun b o h n _ t => s b o h n t
theorem Tabs.but {T : List (Addr × Str)} {H H' : Hp} {pp : Addr} {xs : List V} (t : Tabs T H) (h : H pp = some (.lst xs)) (k : ∀ b o, H b = some o → b ≠ pp → H' b = some o) : Tabs T H' := fun p hp => by
  obtain ⟨ps, a1, a2, a3⟩ := t p hp
  refine ⟨ps, k _ _ a1 (fun m => by rw [m, h] at a1; cases a1), a2, fun pos cv hc => ?_⟩
  obtain ⟨c0, e1, e2⟩ := a3 pos cv hc
  exact ⟨c0, e1, k _ _ e2 (fun m => by rw [m, h] at e2; exact absurd (Option.some.inj e2) (fun z => by unfold CodeO at z; cases z))⟩
theorem sq_extN {K : PySem.W.Frag} {H H' : Hp} {a : Addr} {xs : List V} (e : ExtN H H') (h : SqL K H a xs) : SqL K H' a xs := by
  rcases h with (h | ⟨o, h⟩) | h
  · exact .inl (.inl (e _ _ h (fun ps z => by cases z)))
  · exact .inl (.inr ⟨o, e _ _ h (fun ps z => by cases z)⟩)
  · exact .inr h
/-- what stands of the desk, of the other, of the pool, of the tables -/
structure At2 (CD Pt dk bs pp : Addr) (r : Str) (H : Hp) : Prop where
  desk : DeskAt CD H dk r
  side : DeskAt CD H bs "up"
  ne : bs ≠ dk
  pool : PoolAt H pp
  tabs : Tabs [(Pt, qDeep)] H
theorem desk_pool {H : Hp} {dk pp : Addr} {r : Str} (d : DeskAt CD H dk r) (p : PoolAt H pp) : dk ≠ pp := fun m => by
  obtain ⟨⟨dx, e⟩, _⟩ := d
  obtain ⟨c, s, _, _, e2⟩ := p
  rw [m, e2] at e
  cases e
theorem At2.same {Pt dk bs pp : Addr} {r : Str} {H H' : Hp} (a : At2 CD Pt dk bs pp r H) (s : Same H H') : At2 CD Pt dk bs pp r H' := ⟨a.desk.same s, a.side.same s, a.ne, a.pool.same s, Tabs.ext a.tabs s⟩
theorem At2.draw {Pt dk bs pp : Addr} {r : Str} {H H' : Hp} (a : At2 CD Pt dk bs pp r H) (p : PoolAt H' pp) (k : Keep pp H H') : At2 CD Pt dk bs pp r H' := by
  have n1 := desk_pool a.desk a.pool
  have n2 := desk_pool a.side a.pool
  obtain ⟨⟨dx, e⟩, m⟩ := a.desk
  obtain ⟨⟨dy, e2⟩, m2⟩ := a.side
  obtain ⟨c, s, _, _, e3⟩ := a.pool
  exact ⟨⟨⟨dx, k _ _ e n1⟩, m⟩, ⟨⟨dy, k _ _ e2 n2⟩, m2⟩, a.ne, p, Tabs.but a.tabs e3 k⟩
theorem At2.kp {Pt dk bs pp : Addr} {r r' : Str} {H H' : Hp} (a : At2 CD Pt dk bs pp r H) (k : Kp dk H H') (t : Tabs [(Pt, qDeep)] H') (d : DeskAt CD H' dk r') : At2 CD Pt dk bs pp r' H' := by
  have n1 := desk_pool a.desk a.pool
  obtain ⟨⟨dy, e2⟩, m2⟩ := a.side
  obtain ⟨c, s, h0, h1, e3⟩ := a.pool
  exact ⟨d, ⟨⟨dy, k _ _ e2 a.ne (fun ps z => by cases z)⟩, m2⟩, a.ne, ⟨c, s, h0, h1, k _ _ e3 (Ne.symm n1) (fun ps z => by cases z)⟩, t⟩
theorem At2.set {Pt dk bs pp : Addr} {r r' : Str} {H H' : Hp} (a : At2 CD Pt dk bs pp r H) (k : Keep dk H H') (d : DeskAt CD H' dk r') : At2 CD Pt dk bs pp r' H' := by
  obtain ⟨⟨dx, e⟩, m⟩ := id a.desk
  exact a.kp k.kp (tabs_ins a.tabs e k) d
/-- an object of this turn's own -/
def Own (dk pp : Addr) (H : Hp) (b : Addr) (o : HO) : Prop := H b = some o ∧ b ≠ dk ∧ b ≠ pp ∧ ∀ ps, o ≠ .tbl ps
theorem Own.fr {dk pp b : Addr} {o : HO} {H H' : Hp} (h : Own dk pp H b o) (f : Fr2 dk pp H H') : Own dk pp H' b o := ⟨f _ _ h.1 h.2.1 h.2.2.1 h.2.2.2, h.2⟩
theorem Own.new {Pt dk bs pp b : Addr} {r : Str} {o : HO} {H H' : Hp} (a : At2 CD Pt dk bs pp r H) (n : H b = none) (h : H' b = some o) (t : ∀ ps, o ≠ .tbl ps) : Own dk pp H' b o := by
  obtain ⟨⟨dx, e⟩, m⟩ := a.desk
  obtain ⟨c, s, _, _, e3⟩ := a.pool
  exact ⟨h, (ne_of_none e n).symm, (ne_of_none e3 n).symm, t⟩
theorem dinit {H : Hp} {Qp : Hp → Prop} {r : Str} {x dx : Addr} (m : r ∈ five) (hx : H x = none) (hd : H dx = none) (z : ∀ H', Same H H' → DeskAt CD H' x r → H x = none → Qp H') : Qp (upd (upd (upd H dx (.own x)) x (.ins CD dx [])) x (.ins CD dx (DeskF r))) :=
  z _ (by rw [upd_upd]; exact new_same hx hd) ⟨⟨dx, upd_same⟩, m⟩ hx
def toD : V → PyData
  | .int i => .int i
  | .str s => .str s
  | _ => .none
def IS (v : V) : Prop := (∃ i, v = .int i) ∨ ∃ s ∈ five, v = .str s
theorem is_dp {H : Hp} : ∀ {vs : List V}, (∀ v ∈ vs, IS v) → DpAll K H vs (vs.map toD)
  | [], _ => .nil
  | v :: vs, h => by
    refine .cons ?_ (is_dp fun v hv => h v (List.mem_cons_of_mem _ hv))
    rcases h v List.mem_cons_self with ⟨i, rfl⟩ | ⟨s, _, rfl⟩
    · exact .int i
    · exact .str s
theorem is_shp {vs : List V} (h : ∀ v ∈ vs, IS v) : Shp 1 (.list (vs.map toD)) := shp_list fun d hd => by
  obtain ⟨v, hv, rfl⟩ := List.mem_map.mp hd
  rcases h v hv with ⟨i, rfl⟩ | ⟨s, hs, rfl⟩
  · exact shp_int
  · exact ⟨five_shp s hs, by simp [toD, PyData.depth]⟩
theorem DueIs.is {o : Str} {rs : List Str} {x b : Int} {vs : List V} (ho : o ∈ five) (hrs : ∀ r ∈ rs, r ∈ five) (h : DueIs o rs x b vs) : ∀ v ∈ vs, IS v := by
  induction h with
  | last h =>
    intro v hv
    simp only [List.mem_cons, List.not_mem_nil, or_false] at hv
    rcases hv with rfl | rfl
    · exact .inl ⟨_, rfl⟩
    · exact .inl ⟨_, rfl⟩
  | more u h ih =>
    intro v hv
    rcases List.mem_append.mp hv with hv | hv
    · exact ih (hrs _ List.mem_cons_self) (fun r hr => hrs r (List.mem_cons_of_mem _ hr)) v hv
    · simp only [List.mem_cons, List.not_mem_nil, or_false] at hv
      rcases hv with rfl | rfl | rfl
      · exact .inr ⟨_, ho, rfl⟩
      · exact .inl ⟨_, rfl⟩
      · exact .inl ⟨_, rfl⟩
theorem strs_of : ∀ {xs : List V}, (∀ v ∈ xs, ∃ r ∈ five, v = .str r) → ∃ rs : List Str, xs = rs.map V.str ∧ ∀ r ∈ rs, r ∈ five
  | [], _ => ⟨[], rfl, fun _ h => by cases h⟩
  | v :: xs, h => by
    obtain ⟨rs, e, hr⟩ := strs_of fun v hv => h v (List.mem_cons_of_mem _ hv)
    obtain ⟨r, h5, rfl⟩ := h v List.mem_cons_self
    refine ⟨r :: rs, by rw [e]; rfl, fun r' hr' => ?_⟩
    rcases List.mem_cons.mp hr' with rfl | hr'
    · exact h5
    · exact hr _ hr'
abbrev s_law : Stmt := top 29
abbrev N_law : List Str := ["_law_script", "_law_rules", "_law_k", "_law_pool_here", "_law_desk", "_law_beside", "_law_rule", "_law_turn", "_law_x", "_law_base", "_law_later", "_law_part", "_law_one", "_law_other", "_law_deep_here", "_law_level"]
theorem sc_law : FnScope N_law ["_law_script"] (defScope s_law) := ⟨rfl, rfl, rfl, by decide +kernel, rfl, by decide +kernel, by decide +kernel⟩
def spLaw (K : PySem.W.Frag) (Pt : Addr) : Sp := fun vs H Q _ => ∃ (a : Addr) (ns : List Int), vs = [.ref a] ∧ SqL K H a (ns.map V.int) ∧ ns.length ≤ 63 ∧ Tabs [(Pt, qDeep)] H ∧ ∀ H', Q (.bl true) H'
theorem okG_law {f Pt g : Addr} {cdw : Value} {fd : FuncData} (F : Fun K "law" "law" s_law f fd) (T : Txt K mg aR) (O : WOpsD P w K mg base CB CD CW CZ CN CR g cdw) (VR : VRx P w K mg base CD CR CN CW CB)
    (O__law_pool : Ok P w K mg base 1 "_law_pool" ["_law_script", "_law_k"] (spPool K)) (O__law_draw : Ok P w K mg base 1 "_law_draw" ["_law_pool_here", "_law_many"] spDraw) (O__law_choose : Ok P w K mg base 2 "_law_choose" ["_law_pool_here", "_law_items"] (spChoose K))
    (O__law_divide : Ok P w K mg base 1 "_law_divide" ["_law_rule", "_law_x", "_law_base"] spDivide) (O__law_number : Ok P w K mg base 3 "_law_number" ["_law_pool_here"] spNumber)
    (O_deep : OkX P w K mg base 30 "_law_deep" P__law_deep (spDeepA CD CZ Pt)) (O__law_due : Ok P w K mg base 5 "_law_due" ["_law_outer", "_law_rules", "_law_x", "_law_base"] (spDueA K))
    (O__law_is_refused : Ok P w K mg base 31 "_law_is_refused" ["_law_desk", "_law_rules", "_law_x"] (spIsRef CD Pt)) (O__law_places_right : Ok P w K mg base 8 "_law_places_right" ["_law_desk", "_law_x", "_law_base", "_law_rule"] (spPlaces CD))
    {fV : Addr} {fdV : FuncData} (gVr : mg "_law_values_right" = some (.ref fV)) (kVr : PySem.W.keepIn K (.ref fV) = true) (bVr : Binds K fdV ["_law_desk", "_law_rule"] []) (FVr : FnG P w K mg base CX0 6 fV fdV ["_law_desk", "_law_rule"] (spVals CD)) :
    FnG P w K mg base CX0 33 f fd ["_law_script"] (spLaw K Pt) := by
  have W := O.W
  have D := W.L.D
  obtain ⟨fI, fdD, ds, MD, FD, bD, bD2, hds, gD⟩ := VR.mkD
  refine Fun.okG F sc_law (fun vs H Q E h => ?_) (fun cdv A outer s H vs Q E hG hr h => ?_)
  · obtain ⟨a, ns, rfl, _⟩ := h
    rfl
  · obtain ⟨a, ns, rfl, hS, hlen, tb, q⟩ := h
    refine ⟨_, (pss_cons (ps_set (i := 1) sc_law.nd rfl (.inr rfl) (pe_lst (pa_cons pe_str (pa_cons pe_str (pa_cons pe_str (pa_cons pe_str (pa_cons pe_str pa_nil)))))))
      (pss_cons (ps_for PassesOwn.never rfl (pi_range1 (by rfl) T.range (pa_cons (pe_callB (call_max2 rfl) (by rfl) T.max bb_max (pa_cons pe_int (pa_cons (pe_callB (call_min2 rfl) (by rfl) T.min bb_min (pa_cons (pe_callB call_len_seq (by rfl) T.len bb_len (pa_cons (pv 0) pa_nil)) (pa_cons pe_int pa_nil))) pa_nil))) pa_nil)) (pg_name (i := 2) sc_law.nd rfl (.inl rfl))
        (pss_cons (ps_set (i := 3) sc_law.nd rfl (.inr rfl) (pe_cO O__law_pool (hr.mono (by decide)) pass0 rfl (pa_cons (pv 0) (pa_cons (pv 2) pa_nil))))
        (pss_cons (ps_par (by rfl) sc_law.nd (i := 4) (j := 5) rfl rfl (by decide) rfl rfl (pa_cons (pe_make0 MD FD (hr.mono (by decide)) rfl gD bD2 hds passL) (pa_cons (pe_make MD FD (hr.mono (by decide)) rfl gD bD .nil passL (pa_cons pe_str pa_nil)) pa_nil)) (by rfl))
        (pss_cons (ps_set (i := 6) sc_law.nd rfl (.inl rfl) pe_str)
        (pss_cons (ps_for PassesOwn.never rfl (pi_range1 (by rfl) T.range (pa_cons pe_int pa_nil)) (pg_name (i := 7) sc_law.nd rfl (.inl rfl))
          (pss_cons (ps_par (by rfl) sc_law.nd (i := 8) (j := 9) rfl rfl (by decide) rfl rfl (pa_cons (pe_cO O__law_number (hr.mono (by decide)) pass0 rfl (pa_cons (pv 3) pa_nil)) (pa_cons (pe_op op_mulS (pe_cO O__law_choose (hr.mono (by decide)) pass0 rfl (pa_cons (pv 3) (pa_cons (pe_lst (pa_cons pe_int (pa_cons (pe_un un_neg pe_int) pa_nil))) pa_nil))) (pe_op op_add pe_int (pe_cO O__law_draw (hr.mono (by decide)) pass0 rfl (pa_cons (pv 3) (pa_cons pe_int pa_nil))))) pa_nil)) (by rfl))
          (C8.pss_cut (ps_if (pt_cmpR op_eq (pe_cO O__law_draw (hr.mono (by decide)) pass0 rfl (pa_cons (pv 3) (pa_cons pe_int pa_nil))) pe_int (nomark _))
            (pss_cons (ps_set (i := 6) sc_law.nd rfl (.inl rfl) (pe_cO O__law_choose (hr.mono (by decide)) pass0 rfl (pa_cons (pv 3) (pa_cons (pv 1) pa_nil))))
            (pss_one (ps_expr (pe_methO (pv 4) D.clD VR.set (hr.mono (by decide)) passL (pa_cons (pv 6) pa_nil)))))
            pss_nil)
          (pss_cons (ps_asg (pe_cO O__law_divide (hr.mono (by decide)) pass0 rfl (pa_cons (pv 6) (pa_cons (pv 8) (pa_cons (pv 9) pa_nil)))) (pg_tup (by rfl) (pgs_cons (pg_name (i := 10) sc_law.nd rfl (.inl rfl)) (pgs_cons (pg_name (i := 11) sc_law.nd rfl (.inl rfl)) pgs_nil))))
          (pss_cons (ps_par (by rfl) sc_law.nd (i := 12) (j := 13) rfl rfl (by decide) rfl rfl (pa_cons (pe_methO (pv 4) D.clD W.make (hr.mono (by decide)) passL (pa_cons (pv 8) pa_nil)) (pa_cons (pe_methO (pv 5) D.clD W.make (hr.mono (by decide)) passL (pa_cons (pv 9) pa_nil)) pa_nil)) (by rfl))
          (pss_cons (ps_if (pt_cmpR (op_neD hr.units) (pe_lst (pa_cons (pe_propO (pe_op (op_own2O (op := .FloorDiv) W.div (hr.mono (by decide)) passL W.first) (pv 12) (pv 13)) D.clW W.amount (hr.mono (by decide)) passL) (pa_cons (pe_propO (pe_op (op_ownIO (op := .Mod) W.mod W.rmod (hr.mono (by decide)) passL W.first fi_mod fr_mod O.noI) (pv 12) (pv 9)) D.clW W.amount (hr.mono (by decide)) passL) (pa_cons (pe_propO (pv 12) D.clW W.amount (hr.mono (by decide)) passL) (pa_cons (pe_propO (pv 13) D.clW W.amount (hr.mono (by decide)) passL) pa_nil))))) (pe_lst (pa_cons (pv 10) (pa_cons (pv 11) (pa_cons (pv 8) (pa_cons (pv 9) pa_nil))))) (nomark _))
            (pss_one (ps_ret pe_bl))
            pss_nil)
          (pss_cons (ps_if (PW.pt (pw_or (pt_cmpR op_ne (pe_propO (pe_op (op_ownRO (op := .FloorDiv) W.div W.rdiv (hr.mono (by decide)) passL W.first PySem.F.fills_int_floordiv PySem.F.slot_int_floordiv PySem.F.entry_int_floordiv PySem.F.args_int_floordiv_2 ni_floordiv O.noW) (pv 8) (pv 13)) D.clW W.amount (hr.mono (by decide)) passL) (pe_ix ix_tup (pe_cO O__law_divide (hr.mono (by decide)) pass0 rfl (pa_cons pe_str (pa_cons (pv 8) (pa_cons (pv 9) pa_nil)))) pe_int (fun _ _ => rfl)) (nomark _)) (pw_or1 (pt_cmpR (op_neD hr.units) (pe_methO (pv 12) D.clW W.L.parts (hr.mono (by decide)) passL (pa_cons (pv 13) pa_nil)) (pe_tup (pa_cons (pv 10) (pa_cons (pv 11) pa_nil))) (nomark _)))))
            (pss_one (ps_ret pe_bl))
            pss_nil)
          (pss_cons (ps_setLc (i := 14) (own := [("_law_level", 15)]) (g := (gName 15)) (tt := tYes) rfl sc_law.nd rfl rfl (sw_true rfl rfl rfl (by decide +kernel)) (pi_range1 (by rfl) T.range (pa_cons (pe_cO O__law_draw (hr.mono (by decide)) pass0 rfl (pa_cons (pv 3) (pa_cons pe_int pa_nil))) pa_nil)) (blkOk_by (N := N_law) (sc := defScope s_law) (by decide +kernel)) (fun _ _ _ _ _ => (pg_name (i := 15) sc_law.nd rfl (by first | exact Or.inl rfl | exact Or.inr rfl))) (fun _ _ _ _ _ => pts_nil) (fun _ _ _ _ _ => (pe_cO O__law_choose (hr.mono (by decide)) pass0 rfl (pa_cons (pv 3) (pa_cons (pv 1) pa_nil)))))
          (pss_cons (ps_if (pt_cmpR (op_neD hr.units) (pe_cX O_deep (hr.mono (by decide)) passL rfl (pa_cons (pv 4) (pa_cons (pv 14) (pa_cons (pv 8) (pa_cons (pv 9) (pa_cons pe_bl pa_nil)))))) (pe_cO O__law_due (hr.mono (by decide)) pass0 rfl (pa_cons (pv 6) (pa_cons (pv 14) (pa_cons (pv 8) (pa_cons (pv 9) pa_nil))))) (nomark _))
            (pss_one (ps_ret pe_bl))
            pss_nil)
          (pss_cons (ps_if (PW.pt (pw_or (pt_not (pt_val (pe_cO O__law_is_refused (hr.mono (by decide)) pass0 rfl (pa_cons (pv 4) (pa_cons (pv 14) (pa_cons (pv 8) pa_nil)))))) (pw_or (pt_cmpR op_ne (pe_propO (pv 4) D.clD W.rule (hr.mono (by decide)) passL) (pv 6) (nomark _)) (pw_or1 (pt_cmpR op_ne (pe_propO (pv 5) D.clD W.rule (hr.mono (by decide)) passL) pe_str (nomark _))))))
            (pss_one (ps_ret pe_bl))
            pss_nil)
          (pss_one (ps_if (pt_not (pt_val (pe_cO O__law_places_right (hr.mono (by decide)) pass0 rfl (pa_cons (pv 4) (pa_cons (pv 8) (pa_cons (pv 9) (pa_cons (pv 6) pa_nil)))))))
            (pss_one (ps_ret pe_bl))
            pss_nil))))))))))))
        (pss_one (ps_if (pt_not (pt_val (pe_callG FVr hG (hr.mono (by decide)) rfl gVr kVr bVr .nil pass0 (pa_cons (pv 4) (pa_cons (pv 6) pa_nil)))))
          (pss_one (ps_ret pe_bl))
          pss_nil)))))))
      (pss_one (ps_ret pe_bl)))), ?_⟩
    refine ⟨by show 5 ≤ sizeLine; decide, fun la hla => ?_⟩
    have s1 : Same H (upd H la (.lst (five.map V.str))) := Same.new hla
    have e1 : (upd H la (.lst (five.map V.str))) la = some (.lst (five.map V.str)) := upd_same
    show tSeq _ _ _ _ (upd H la (.lst (five.map V.str)))
    generalize upd H la (.lst (five.map V.str)) = H1 at s1 e1 ⊢
    have t1 : Tabs [(Pt, qDeep)] H1 := Tabs.ext tb s1
    have hS1 : SqL K H1 a (ns.map V.int) := s1.seq hS
    refine ⟨_, rfl, a, _, rfl, .inl hS1, _, _, rfl, _, _, rfl, ?_⟩
    rw [List.length_map]
    have hn : ∃ n : Int, n = (if (if (8 : Int) < (ns.length : Int) then (8 : Int) else (ns.length : Int)) > 1 then (if (8 : Int) < (ns.length : Int) then (8 : Int) else (ns.length : Int)) else 1) ∧ 0 ≤ n ∧ n ≤ 8 := by
      refine ⟨_, rfl, ?_, ?_⟩ <;> split <;> split <;> omega
    obtain ⟨n, en, n0, n8⟩ := hn
    rw [← en]
    refine ⟨n, rfl, by omega, by omega, for_range (n := n.toNat) (fun i σ G => ExtN H1 G ∧ Tabs [(Pt, qDeep)] G ∧ ∃ v2 v3 v4 v5 v6 v7 v8 v9 v10 v11 v12 v13 v14 v15 : Option V, σ = [some (.ref a), some (.ref la), v2, v3, v4, v5, v6, v7, v8, v9, v10, v11, v12, v13, v14, v15])
      ⟨ExtN.refl _, t1, none, none, none, none, none, none, none, none, none, none, none, none, none, none, rfl⟩ ?_ ?_⟩
    · rintro i σ G hi ⟨x1, t2, v2, v3, v4, v5, v6, v7, v8, v9, v10, v11, v12, v13, v14, v15, rfl⟩
      refine ⟨_, rfl, _, rfl, a, ns, i, by rw [Int.zero_add]; rfl, sq_extN x1 hS1, by omega, fun pp G1 s2 hpp P1 => ?_⟩
      refine fun dk dd nd ndd nn => ⟨dk, dd, _, rfl, upd_same, .inl ⟨_, rfl, by decide +kernel, rfl, ?_⟩⟩
      refine dinit (by decide +kernel) nd ndd fun G2 s3 D2 nd1 => ?_
      refine fun bs bb nb nbb nn => ⟨bs, bb, _, rfl, upd_same, .inl ⟨_, rfl, by decide +kernel, rfl, ?_⟩⟩
      refine dinit (by decide +kernel) nb nbb fun G3 s4 D3 nb1 => ?_
      refine ⟨_, _, rfl, ?_⟩
      have nbd : bs ≠ dk := fun m => by
        obtain ⟨⟨dx, e⟩, _⟩ := D2
        rw [m] at nb1
        rw [nb1] at e
        cases e
      have A3 : At2 CD Pt dk bs pp "down" G3 := ⟨D2.same s4, D3, nbd, (P1.same s3).same s4, Tabs.ext (Tabs.ext (Tabs.ext t2 s2) s3) s4⟩
      have npp : G pp = none := hpp
      have ndk : G dk = none := by
        cases e : G dk with
        | none => rfl
        | some o => rw [s2 _ _ e] at nd1; cases nd1
      have base0 : ∀ {G'}, Fr2 dk pp G3 G' → ExtN H1 G' := fun {G'} f b o e t => f b o (s4 _ _ (s3 _ _ (s2 _ _ (x1 _ _ e t)))) (ne_of_none (x1 _ _ e t) ndk) (ne_of_none (x1 _ _ e t) npp) t
      have laG : G la = some (.lst (five.map V.str)) := x1 _ _ e1 (fun ps z => by cases z)
      have la3 : Own dk pp G3 la (.lst (five.map V.str)) := ⟨s4 _ _ (s3 _ _ (s2 _ _ laG)), ne_of_none laG ndk, ne_of_none laG npp, fun ps z => by cases z⟩
      clear nb1 nd1 nbb ndd nn nb nd
      refine ⟨_, rfl, by decide, by decide, for_range (n := 8) (fun j σ G' => ∃ r, Fr2 dk pp G3 G' ∧ At2 CD Pt dk bs pp r G' ∧ ∃ v7 v8 v9 v10 v11 v12 v13 v14 v15 : Option V, σ = [some (.ref a), some (.ref la), some (.int (0 + i)), some (.ref pp), some (.ref dk), some (.ref bs), some (.str r), v7, v8, v9, v10, v11, v12, v13, v14, v15])
        ⟨_, Fr2.refl, A3, v7, v8, v9, v10, v11, v12, v13, v14, v15, rfl⟩ ?_ ?_⟩
      · rintro j σ G4 hj ⟨r, f4, A4, v7, v8, v9, v10, v11, v12, v13, v14, v15, rfl⟩
        refine ⟨_, rfl, pp, rfl, A4.pool, fun x G5 xl xh P5 k5 => ?_⟩
        have A5 := A4.draw P5 k5
        refine ⟨_, rfl, _, rfl, by show 2 ≤ sizeLine; decide, fun l2 nl2 => ?_⟩
        have s6 : Same G5 (upd G5 l2 (.lst [.int 1, .int (-1)])) := Same.new nl2
        have e6 : (upd G5 l2 (.lst [.int 1, .int (-1)])) l2 = some (.lst [.int 1, .int (-1)]) := upd_same
        have n6 : l2 ≠ pp := by
          obtain ⟨c, s, _, _, e3⟩ := P5
          exact (ne_of_none e3 nl2).symm
        generalize upd G5 l2 (.lst [.int 1, .int (-1)]) = G6 at s6 e6 ⊢
        have A6 := A5.same s6
        refine ⟨pp, l2, _, rfl, SqL.of e6, n6, by decide, by decide, A6.pool, fun v G7 hv P7 k7 => ?_⟩
        have A7 := A6.draw P7 k7
        obtain ⟨sg, rfl, hsg⟩ : ∃ sg : Int, v = .int sg ∧ (sg = 1 ∨ sg = -1) := by
          simp only [List.mem_cons, List.not_mem_nil, or_false] at hv
          rcases hv with rfl | rfl
          · exact ⟨1, rfl, .inl rfl⟩
          · exact ⟨-1, rfl, .inr rfl⟩
        refine ⟨_, rfl, pp, 12, rfl, by decide, ⟨by decide, by decide⟩, A7.pool, fun d G8 d0 d1 P8 k8 => ?_⟩
        have A8 := A7.draw P8 k8
        have f8 : Fr2 dk pp G3 G8 := (((f4.trans (Fr2.pool k5)).trans (Fr2.same s6)).trans (Fr2.pool k7)).trans (Fr2.pool k8)
        refine ⟨_, _, rfl, rfl, ?_⟩
        refine ⟨_, _, rfl, rfl, ⟨?s1, ?s2⟩, ?_⟩
        case s1 => rcases hsg with rfl | rfl <;> exact ⟨by decide, by decide⟩
        case s2 => exact ⟨by omega, by omega⟩
        refine ⟨_, _, rfl, ?_⟩
        obtain ⟨b, eb, hb0, hb⟩ : ∃ b, b = sg * (1 + d) ∧ b ≠ 0 ∧ -12 ≤ b ∧ b ≤ 12 := by
          refine ⟨_, rfl, ?_, ?_⟩ <;> rcases hsg with rfl | rfl <;> omega
        have mb : Md b := ⟨by omega, by omega⟩
        have mx : Md x := ⟨by omega, by omega⟩
        refine ⟨fun σ' G' => ∃ r', Fr2 dk pp G3 G' ∧ At2 CD Pt dk bs pp r' G' ∧ σ' = [some (.ref a), some (.ref la), some (.int (0 + i)), some (.ref pp), some (.ref dk), some (.ref bs), some (.str r'), some (.int (0 + j)), some (.int x), some (.int b), v10, v11, v12, v13, v14, v15], ?_, ?_⟩
        · refine ⟨_, rfl, pp, 2, rfl, by decide, ⟨by decide, by decide⟩, A8.pool, fun d2 G9 _ _ P9 k9 => ?_⟩
          have A9 := A8.draw P9 k9
          have f9 := f8.trans (Fr2.pool k9)
          refine ⟨rfl, _, rfl, ite2 (fun _ => ?_) (fun _ => ?_)⟩
          · have la9 := la3.fr f9
            refine ⟨_, rfl, _, rfl, pp, la, _, rfl, SqL.of la9.1, la9.2.2.1, by decide, by decide, P9, fun v G10 hv P10 k10 => ?_⟩
            have A10 := A9.draw P10 k10
            obtain ⟨r', hr', rfl⟩ := List.mem_map.mp hv
            obtain ⟨⟨dx, ed⟩, _⟩ := id A10.desk
            refine ⟨_, rfl, dk, dx, _, rfl, ed, rfl, _, rfl, dk, _, r, rfl, A10.desk, .inl ⟨r', rfl, hr', fun G11 k11 D11 => ?_⟩⟩
            refine ⟨r', (f9.trans (Fr2.pool k10)).trans (Fr2.desk k11.kp), A10.set k11 D11, ?_⟩
            rw [eb]
            rfl
          · refine ⟨r, f9, A9, ?_⟩
            rw [eb]
            rfl
        clear eb hsg d0 d1 hv e6 n6 v7 v8 v9 A8 f8 k8 P8 A7 A6 A5 A4 k7 P7 k5 P5 s6 f4 xl xh
        rintro σ G9 ⟨r, f9, A9, rfl⟩
        have m5 := A9.desk.2
        refine ⟨_, rfl, _, rfl, _, rfl, r, x, b, rfl, m5, hb0, mx, mb, fun qq ee p1 di np1 => ?_⟩
        have s10 : Same G9 (upd G9 p1 (.tup [.int qq, .int ee])) := Same.new np1
        refine ⟨p1, _, rfl, SqT.of upd_same, rfl, _, _, rfl, _, _, rfl, rfl, ?_⟩
        generalize upd G9 p1 (.tup [.int qq, .int ee]) = G10 at s10 ⊢
        have A10 := A9.same s10
        obtain ⟨⟨dx, ed⟩, _⟩ := id A10.desk
        refine ⟨_, rfl, dk, dx, _, rfl, ed, rfl, _, rfl, dk, _, rfl, .inl ⟨x, rfl, fun o1 G11 n1 s11 W1 => ?_⟩⟩
        have A11 := A10.same s11
        obtain ⟨⟨dy, ed2⟩, _⟩ := id A11.side
        refine ⟨_, rfl, bs, dy, _, rfl, ed2, rfl, _, rfl, bs, _, rfl, .inl ⟨b, rfl, fun o2 G12 n2 s12 W2 => ?_⟩⟩
        have A12 := A11.same s12
        refine ⟨_, _, rfl, ?_⟩
        have f12 := f9.trans (Fr2.same ((s10.trans s11).trans s12))
        obtain ⟨y1, w1⟩ := W1.same s12
        obtain ⟨y2, w2⟩ := id W2
        have ow1 : Own dk pp G12 o1 (.ins CW y1 (WholeF dk x)) := by
          obtain ⟨_, h2, h3, h4⟩ := Own.new (b := o1) (o := .ins CW y1 (WholeF dk x)) (H' := upd G10 o1 (.ins CW y1 (WholeF dk x))) A10 n1 upd_same (fun ps z => by cases z)
          exact ⟨w1, h2, h3, h4⟩
        have ow2 : Own dk pp G12 o2 (.ins CW y2 (WholeF bs b)) := Own.new A11 n2 w2 (fun ps z => by cases z)
        have one : ∀ {G'}, Own dk pp G' o1 (.ins CW y1 (WholeF dk x)) → WholeAt CW G' o1 dk x := fun h => ⟨_, h.1⟩
        have two : ∀ {G'}, Own dk pp G' o2 (.ins CW y2 (WholeF bs b)) → WholeAt CW G' o2 bs b := fun h => ⟨_, h.1⟩
        clear w1 w2 W1 W2 n1 n2 s11 s12 np1 s10
        -- the first comparison
        refine ⟨_, rfl, _, rfl, o1, o2, y1, y2, _, _, rfl, rfl, ow1.1, ow2.1, o1, dk, .ref o2, x, b, r, rfl, one ow1, .inr ⟨o2, bs, rfl, two ow2⟩, A12.desk, mx, mb, fun _ q1 e1 c1 G13 di1 s13 Wc1 => ?_, fun h => absurd h hb0⟩
        obtain ⟨i1, _⟩ := IsDiv.uniq m5 hb0 di1 di
        have ow13 := ow1.fr (Fr2.same s13)
        obtain ⟨yc, wc⟩ := id Wc1
        refine ⟨c1, yc, _, rfl, wc, c1, dk, q1, rfl, Wc1, ?_⟩
        refine ⟨_, rfl, _, rfl, o1, b, y1, _, rfl, rfl, ow13.1, o1, dk, .int b, x, b, r, rfl, one ow13, .inl rfl, A12.desk.same s13, mx, mb, fun _ q2 e2 c2 G14 di2 s14 Wc2 => ?_, fun h => absurd h hb0⟩
        obtain ⟨_, i2⟩ := IsDiv.uniq m5 hb0 di2 di
        obtain ⟨yd, wd⟩ := id Wc2
        have s24 := s13.trans s14
        have ow14 := ow1.fr (Fr2.same s24)
        have ox14 := ow2.fr (Fr2.same s24)
        refine ⟨c2, yd, _, rfl, wd, c2, dk, e2, rfl, Wc2, ?_⟩
        refine ⟨_, rfl, o1, y1, _, rfl, ow14.1, o1, dk, x, rfl, one ow14, _, rfl, o2, y2, _, rfl, ox14.1, o2, bs, b, rfl, two ox14, by show 4 ≤ sizeLine; decide, fun l1 nl1 => ?_⟩
        have s15 : Same G14 (upd G14 l1 (.lst [.int q1, .int e2, .int x, .int b])) := Same.new nl1
        have e15 : (upd G14 l1 (.lst [.int q1, .int e2, .int x, .int b])) l1 = some (.lst ([q1, e2, x, b].map V.int)) := upd_same
        generalize upd G14 l1 (.lst [.int q1, .int e2, .int x, .int b]) = G15 at s15 e15 ⊢
        refine ⟨_, rfl, _, rfl, _, rfl, _, rfl, by show 4 ≤ sizeLine; decide, fun l2 nl2 => ?_⟩
        have s16 : Same G15 (upd G15 l2 (.lst [.int qq, .int ee, .int x, .int b])) := Same.new nl2
        have e16 : (upd G15 l2 (.lst [.int qq, .int ee, .int x, .int b])) l2 = some (.lst ([qq, ee, x, b].map V.int)) := upd_same
        generalize upd G15 l2 (.lst [.int qq, .int ee, .int x, .int b]) = G16 at s16 e16 ⊢
        refine ⟨_, _, .lst (SqL.of (s16 _ _ e15)) (dpInts _), .lst (SqL.of e16) (dpInts _), rfl, rfl, _, rfl, iteN ?ne1 ?_⟩
        case ne1 =>
          rw [i1, i2, PySem.SeqAt.eqv_refl _ rfl]
          decide
        have f16 := (((Fr2.same s24 : Fr2 dk pp G12 G14).trans (Fr2.same s15)).trans (Fr2.same s16))
        have s26 : Same G12 G16 := (s24.trans s15).trans s16
        have ow16 := ow1.fr (Fr2.same s26)
        have ox16 := ow2.fr (Fr2.same s26)
        have A16 := A12.same s26
        clear s13 s14 s15 s16 Wc1 Wc2 wc wd e15 e16 nl1 nl2 ow13 ow14 ox14 s24 A9 A10 A11 di1 di2 i1 i2
        -- the second
        refine ⟨_, rfl, _, rfl, o2, x, y2, _, rfl, rfl, ox16.1, o2, bs, b, x, "up", rfl, two ox16, A16.side, mb, mx, hb0, fun q1 e1 c1 G17 di1 s17 Wc1 => ?_⟩
        obtain ⟨yc, wc⟩ := id Wc1
        refine ⟨c1, yc, _, rfl, wc, c1, bs, q1, rfl, Wc1, ?_⟩
        refine ⟨_, rfl, _, rfl, "up", x, b, rfl, by decide +kernel, hb0, mx, mb, fun q2 e2 p2 di2 np2 => ?_⟩
        obtain ⟨i1, _⟩ := IsDiv.uniq (by decide +kernel) hb0 di1 di2
        have s18 : Same G17 (upd G17 p2 (.tup [.int q2, .int e2])) := Same.new np2
        refine ⟨p2, _, 0, _, rfl, rfl, SqT.of upd_same, atI0, ?_⟩
        generalize upd G17 p2 (.tup [.int q2, .int e2]) = G18 at s18 ⊢
        refine ⟨rfl, _, rfl, iteN (by simp [i1]) ?_⟩
        have s38 := s17.trans s18
        have ow18 := ow16.fr (Fr2.same s38)
        have ox18 := ox16.fr (Fr2.same s38)
        have A18 := A16.same s38
        refine ⟨_, rfl, o1, y1, _, rfl, ow18.1, rfl, _, rfl, o1, dk, .ref o2, x, b, r, rfl, one ow18, .inr ⟨o2, bs, rfl, two ox18⟩, A18.desk, mx, mb, fun _ q3 e3 p3 di3 np3 => ?_, fun h => absurd h hb0⟩
        obtain ⟨i3, i4⟩ := IsDiv.uniq m5 hb0 di3 di
        have s19 : Same G18 (upd G18 p3 (.tup [.int q3, .int e3])) := Same.new np3
        have e19 : (upd G18 p3 (.tup [.int q3, .int e3])) p3 = some (.tup ([q3, e3].map V.int)) := upd_same
        generalize upd G18 p3 (.tup [.int q3, .int e3]) = G19 at s19 e19 ⊢
        refine ⟨_, rfl, _, rfl, by show 2 ≤ sizeLine; decide, fun p4 np4 => ?_⟩
        have s20 : Same G19 (upd G19 p4 (.tup [.int qq, .int ee])) := Same.new np4
        have e20 : (upd G19 p4 (.tup [.int qq, .int ee])) p4 = some (.tup ([qq, ee].map V.int)) := upd_same
        generalize upd G19 p4 (.tup [.int qq, .int ee]) = G20 at s20 e20 ⊢
        refine ⟨_, _, .tup (SqT.of (s20 _ _ e19)) (dpInts _), .tup (SqT.of e20) (dpInts _), rfl, rfl, _, rfl, iteN ?ne2 ?_⟩
        case ne2 =>
          rw [i3, i4, PySem.SeqAt.eqv_refl _ rfl]
          decide
        have s40 : Same G16 G20 := (s38.trans s19).trans s20
        have A20 := A16.same s40
        have f20 : Fr2 dk pp G3 G20 := (f12.trans (Fr2.same s26)).trans (Fr2.same s40)
        have la20 := la3.fr f20
        clear s17 s18 s19 s20 s38 Wc1 wc e19 e20 np2 np3 np4 ow18 ox18 ow16 ox16 ow1 ow2 A18 A16 A12 i1 i3 i4 di1 di2 di3 f12 f9 f16 s26 s40 one two
        -- the rules within
        refine ⟨_, rfl, pp, 4, rfl, by decide, ⟨by decide, by decide⟩, A20.pool, fun d G21 d0 d1 P21 k21 => ?_⟩
        have A21 := A20.draw P21 k21
        have la21 := la20.fr (Fr2.pool k21)
        have f21 : Fr2 dk pp G3 G21 := f20.trans (Fr2.pool k21)
        refine ⟨_, rfl, by omega, by omega, fun L hL => ?_⟩
        have zL : L ≠ pp := by
          obtain ⟨c, s, _, _, e3⟩ := P21
          exact (ne_of_none e3 hL).symm
        refine lc_acc walk_range (Zp pp) (fun H => PoolAt H pp) (fun _ y _ => ∃ r ∈ five, y = .str r) hL zL P21 (fun H l z n => z.upd' n) (fun _ _ _ _ _ h _ => h) (Nat.lt_of_le_of_lt (by omega : d.toNat ≤ 4) (by decide)) (fun _ _ => True.intro) ?_ ?_
        · rintro i2 v2 G22 G23 Qk hi2 f22 P22 ne ⟨rfl, rfl⟩ q2
          show gName 15 (V.int (0 + ((i2 : Nat) : Int))) _ _ _
          refine ⟨rfl, ?_⟩
          have la22 := la21.fr (Fr2.pool f22.keep)
          exact ⟨_, rfl, _, rfl, pp, la, _, rfl, SqL.of la22.1, la22.2.2.1, by decide, by decide, P22, fun v G24 hv P24 k24 => q2 _ _ k24.fr P24 (by
            obtain ⟨r', hr', rfl⟩ := List.mem_map.mp hv
            exact ⟨r', hr', rfl⟩)⟩
        · intro G22 xs f22 P22 eL lenL hR
          obtain ⟨rs, rfl, h5⟩ := strs_of (xs := xs) fun v hv => by
            obtain ⟨j, hj⟩ := List.mem_iff_getElem?.mp hv
            exact hR j v hj
          have l3 : rs.length ≤ 3 := by
            rw [List.length_map] at lenL
            omega
          have A22 := A21.draw P22 f22.keep
          have f3 : Fr2 dk pp G3 G22 := f21.trans (Fr2.pool f22.keep)
          have L22 : Own dk pp G22 L (.lst (rs.map V.str)) := by
            obtain ⟨⟨dx, e⟩, _⟩ := A21.desk
            exact ⟨eL, (ne_of_none e hL).symm, zL, fun ps z => by cases z⟩
          clear hR lenL hL f22 eL la20 la21 f21 f20 A21 A20 P21 k21 d0 d1 ed ed2
          refine ⟨_, rfl, _, rfl, _, rfl, _, rfl, rs.length, l3, dk, L, r, rs, x, b, false, rfl, A22.desk, L22.1, rfl, by omega, h5, hb0, mx, mb, A22.tabs, fun _ p1 ys G23 kp1 t23 D23 np1 hp1 due1 => ?_, fun h => nomatch h⟩
          have A23 := A22.kp kp1 t23 D23
          have L23 := L22.fr (Fr2.desk kp1)
          refine ⟨_, rfl, _, rfl, _, rfl, _, rfl, rs.length, l3, r, L, rs, x, b, rfl, m5, SqL.of L23.1, rfl, by omega, h5, hb0, mx, mb, fun zs p2 G24 due2 s24 hp2 => ?_⟩
          obtain rfl := DueIs.uniq m5 h5 hb0 due1 due2
          have isv := due1.is m5 h5
          refine ⟨_, _, .lst (SqL.of (s24 _ _ hp1)) (is_dp isv), .lst (SqL.of hp2) (is_dp isv), (is_shp isv).ok, (is_shp isv).ok, _, rfl, iteN ?ne3 ?_⟩
          case ne3 =>
            rw [PySem.SeqAt.eqv_refl _ (is_shp isv).1]
            decide
          have A24 := A23.same s24
          have L24 := L23.fr (Fr2.same s24)
          have f24 : Fr2 dk pp G3 G24 := (f3.trans (Fr2.desk kp1)).trans (Fr2.same s24)
          clear kp1 A23 L23 A22 L22 f3 s24 hp2 hp1 np1
          refine ⟨_, rfl, _, rfl, _, rfl, dk, L, r, rs, x, rfl, A24.desk, L24.1, l3, h5, mx, A24.tabs, fun G25 kp2 t25 D25 => ⟨_, rfl, iteN (by decide) ?_⟩⟩
          have A25 := A24.kp kp2 t25 D25
          have f25 := f24.trans (Fr2.desk kp2)
          obtain ⟨⟨dx2, ed⟩, _⟩ := id A25.desk
          obtain ⟨⟨dy2, ed2⟩, _⟩ := id A25.side
          refine ⟨_, rfl, dk, dx2, _, rfl, ed, dk, r, rfl, A25.desk, _, rfl, rfl, _, rfl, iteN (by simp) ?_⟩
          refine ⟨_, rfl, bs, dy2, _, rfl, ed2, bs, "up", rfl, A25.side, rfl, _, rfl, iteN (by simp) ?_⟩
          refine ⟨_, rfl, _, rfl, _, rfl, _, rfl, dk, x, b, r, rfl, A25.desk, mx, mb, hb0, fun G26 s26 => ⟨_, rfl, iteN (by decide) ?_⟩⟩
          exact ⟨r, f25.trans (Fr2.same s26), A25.same s26, _, _, _, _, _, _, _, _, _, rfl⟩
      · rintro σ G4 ⟨r, f4, A4, v7, v8, v9, v10, v11, v12, v13, v14, v15, rfl⟩
        refine ⟨_, rfl, _, rfl, dk, r, rfl, A4.desk, fun G5 s5 => ⟨_, rfl, iteN (by decide) ?_⟩⟩
        exact ⟨base0 (f4.trans (Fr2.same s5)), Tabs.ext A4.tabs s5, _, _, _, _, _, _, _, _, _, _, _, _, _, _, rfl⟩
    · rintro σ G ⟨x1, t2, v2, v3, v4, v5, v6, v7, v8, v9, v10, v11, v12, v13, v14, v15, rfl⟩
      exact q G
end
/-! ### the law's own call, with a table of code objects that its lambdas fill -/
section
open LamX
/-- the abstract heap H tells of the script at a, of the empty table at Pt, and of nothing else -/
structure SoleT (P : Program) (w : World) (K : PySem.W.Frag) (H : Hp) (h : Heap) (a Pt : Addr) (ns : List Int) : Prop where
  only : ∀ b, H b = none ∨ b = Pt ∨ ∃ o xs, H b = some (.frz o (.lst xs))
  seq : SqL K H a (ns.map V.int)
  ok : HOk P w H h
  known : ∀ b, H b ≠ none → b = a ∨ b = Pt
  notK : H a ≠ none → K.lookup a = none
  tab : H Pt = some (.tbl #[])
/-- the empty table of a code object -/
abbrev noTab : Obj := { cls := .none, data := .fields #[] }
theorem sole_runT {P : Program} {w : World} {K : PySem.W.Frag} {mg mb : Str → Option Value} {CX : CXT} {k : Nat} {fa a c Pt : Addr} {fd : FuncData} {x : Str} {sp : Sp} {s₁ : Shared} {vs : List Value} {ns : List Int} {H : Hp}
    (Z : SoleT P w K H s₁.heap a Pt ns) (KX : K.In s₁.heap) (gN : s₁.heap.Ns mainGlobals mg) (bN : s₁.heap.Ns builtinsNs mb) (bB : ∀ y : Str, y ≠ "__name__" → mb y = bootBuiltins y) (lim : s₁.heap.NoLimit) (gens0 : s₁.gens = #[])
    (obj : s₁.heap.get? a = some { cls := .type "list", data := .seq vs.toArray }) (tabO : s₁.heap.get? Pt = some noTab) (tabK : K.lookup Pt = none) (hd : PySem.W.CodeHd s₁.heap c Pt)
    (main : ∃ (bm : Addr) (ob : Obj), mg "__builtins__" = some (.ref bm) ∧ bm ≠ builtinsNs ∧ s₁.heap.get? bm = some ob ∧ ob.cls = .type "module" ∧ ob.dict = some builtinsNs ∧ ob.data = .plain)
    (room : Room k callerA) (F : ∀ base : Heap, K.In base → base.Ns mainGlobals mg → TabB base mg c Pt → FnG P w K mg base CX k fa fd [x] sp)
    (bind : ∀ (s : Shared) (u : Value), BindsTo s fd ⟨[u], []⟩ [(x, u)]) (want : ∀ H : Hp, H Pt = some (.tbl #[]) → SqL K H a (ns.map V.int) → sp [.ref a] H (fun v _ => v = .bl true) fun _ _ _ => False)
    (noX : ∀ H e s', CX [] H s₁ (fun _ _ _ => False) e s' → False) : codeAny (model P w) callerA (.call (.ref fa) ⟨[.ref a], []⟩) (Wanted s₁) s₁ := by
  -- what H tells of an address is the script's list or the table
  have told : ∀ {b : Addr} {o : Obj}, s₁.heap.get? b = some o → H b ≠ none → o.data = .seq vs.toArray ∨ o.data = .fields #[] := fun {b o} g n => by
    rcases Z.known b n with e | e
    · rw [e, obj] at g
      rw [← Option.some.inj g]
      exact .inl rfl
    · rw [e, tabO] at g
      rw [← Option.some.inj g]
      exact .inr rfl
  have hid : ∀ {b : Addr} {o : Obj}, s₁.heap.get? b = some o → ¬ H b ≠ none → (hidT s₁.heap H).get? b = some o := fun g n => hidT_get g (Classical.byContradiction n)
  have names : ∀ {b : Addr} {m : Str → Option Value}, s₁.heap.Ns b m → (hidT s₁.heap H).Ns b m := by
    rintro b m ⟨o, es, ep, g, d, r⟩
    refine ⟨o, es, ep, hid g fun n => ?_, d, r⟩
    rcases told g n with e | e
    · rw [e] at d
      exact Data.noConfusion d
    · rw [e] at d
      exact Data.noConfusion d
  have part : K.In (hidT s₁.heap H) := fun b o g => hid (KX b o g) fun n => by
    rcases Z.known b n with e | e
    · subst e
      rw [Z.notK n] at g
      cases g
    · subst e
      rw [tabK] at g
      cases g
  obtain ⟨mc, c1, c2⟩ := lim
  have md : Mod K mg (hidT s₁.heap H) := ⟨part, names gN, ⟨mb, names bN, bB⟩, ⟨mc, names c1, c2⟩⟩
  have apart : ∀ {bm : Addr} {o : Obj}, s₁.heap.get? bm = some o → o.data = .plain → bm ≠ Pt ∧ ¬ H bm ≠ none := fun {bm o} g d => by
    refine ⟨fun m => ?_, fun n => ?_⟩
    · rw [m, tabO] at g
      rw [← Option.some.inj g] at d
      exact Data.noConfusion d
    · rcases told g n with e | e
      · rw [d] at e
        exact Data.noConfusion e
      · rw [d] at e
        exact Data.noConfusion e
  have TB : TabB (hidT s₁.heap H) mg c Pt := by
    refine ⟨?_, ?_, fun m => ?_⟩
    · obtain ⟨o, us, file, tf, flags, tg, inF, text, tt, q1, q2, q3, q⟩ := id hd
      refine ⟨o, us, file, tf, flags, tg, inF, text, tt, hid q1 fun n => ?_, q2, q3, q⟩
      rcases told q1 n with e | e
      · rw [q3] at e
        exact Data.noConfusion e
      · rw [q3] at e
        obtain ⟨q4, _⟩ := q
        injection e with e
        rw [e] at q4
        simp at q4
    · obtain ⟨bm, ob, b1, b2, b3, b4, b5, b6⟩ := main
      obtain ⟨n1, n2⟩ := apart b3 b6
      refine ⟨bm, ob, b1, b2, fun m => ?_, n1, hid b3 n2, b4, b5, b6⟩
      obtain ⟨o, es, ep, g, d, _⟩ := gN
      rw [m, g] at b3
      rw [← Option.some.inj b3, d] at b6
      exact Data.noConfusion b6
    · obtain ⟨o, es, ep, g, d, _⟩ := gN
      rw [m, tabO] at g
      rw [← Option.some.inj g] at d
      exact Data.noConfusion d
  have e0 : Env0 P w K mg (hidT s₁.heap H) callerA [] s₁ H := ⟨rfl, md, fun _ _ g => of_hidT g, Nat.le_of_eq (hidT_size _ _), trivial, fun b m => absurd m (List.not_mem_nil (a := b)), Z.ok, PyProof.Rows.AllBare.of_eq gens0⟩
  refine codeAny_mono ((F _ part (names gN) TB).goes callerA [] s₁ H ⟨[.ref a], []⟩ [.ref a] [.ref a] _ _ rfl room e0 (bind s₁ (.ref a)) (.cons rfl .nil) (want H Z.tab Z.seq)) ?_
  rintro (er | _ | _ | _ | u) s' q
  · exact (noX H er s' q).elim
  · exact q.elim
  · exact q.elim
  · exact q.elim
  · obtain ⟨v, H', os, bare, un, ok', rv, rfl⟩ := q
    obtain rfl : u = Value.bool true := rv
    have stay : ∀ b o, b ≠ Pt → s₁.heap.get? b = some o → s'.heap.get? b = some o := fun b o nb g => by
      rcases Z.only b with n | n | ⟨ob, xs, n⟩
      · exact un.keep b o g n (fun m => by cases m) (fun m => by cases m)
      · exact absurd n nb
      · have g1 := (Z.ok b _ n).1
        have g2 := (ok' b _ (un.frzs b ob _ n)).1
        rw [g] at g1
        rw [g2, Option.some.inj g1]
    obtain ⟨more, gm⟩ := un.tbls Pt #[] Z.tab
    have grown : s'.heap.get? Pt = some { cls := .none, data := .fields more } := by
      have z : s'.heap.get? Pt = some { cls := .none, data := .fields (#[] ++ more) } := ok' Pt _ gm
      rw [Array.empty_append] at z
      exact z
    refine ⟨rfl, ⟨fun b o g => ?_, fun b o g => ?_⟩, os, bare⟩
    · by_cases m : b = Pt
      · subst m
        rw [tabO] at g
        cases g
        exact .inr (.inl ⟨(hd.tab tabO).isCodeTable, rfl, #[], more, rfl, by first | exact grown | (rw [Array.empty_append]; exact grown)⟩)
      · exact .inl (stay b o m g)
    · by_cases m : b = Pt
      · subst m
        exact ⟨_, grown⟩
      · exact ⟨o, stay b o m g⟩
theorem law_callGT {P : Program} {w : World} {K : PySem.W.Frag} {mg mb : Str → Option Value} {CX : CXT} {k : Nat} {fa a c Pt : Addr} {fd : FuncData} {x : Str} {sp : Sp} {s₁ : Shared} {vs : List Value} {ns : List Int} (KX : K.In s₁.heap) (gN : s₁.heap.Ns mainGlobals mg)
    (bN : s₁.heap.Ns builtinsNs mb) (bB : ∀ y : Str, y ≠ "__name__" → mb y = bootBuiltins y) (lim : s₁.heap.NoLimit) (gens0 : s₁.gens = #[]) (obj : s₁.heap.get? a = some { cls := .type "list", data := .seq vs.toArray }) (hints : PyProof.Rows.IntsAre vs ns) (few : ns.length ≤ sizeLine)
    (tabO : s₁.heap.get? Pt = some noTab) (tabK : K.lookup Pt = none) (hd : PySem.W.CodeHd s₁.heap c Pt)
    (main : ∃ (bm : Addr) (ob : Obj), mg "__builtins__" = some (.ref bm) ∧ bm ≠ builtinsNs ∧ s₁.heap.get? bm = some ob ∧ ob.cls = .type "module" ∧ ob.dict = some builtinsNs ∧ ob.data = .plain)
    (room : Room k callerA) (F : ∀ base : Heap, K.In base → base.Ns mainGlobals mg → TabB base mg c Pt → FnG P w K mg base CX k fa fd [x] sp) (bind : ∀ (s : Shared) (u : Value), BindsTo s fd ⟨[u], []⟩ [(x, u)])
    (want : ∀ H : Hp, H Pt = some (.tbl #[]) → SqL K H a (ns.map V.int) → sp [.ref a] H (fun v _ => v = .bl true) fun _ _ _ => False) (noX : ∀ H e s', CX [] H s₁ (fun _ _ _ => False) e s' → False) :
    codeAny (model P w) callerA (.call (.ref fa) ⟨[.ref a], []⟩) (Wanted s₁) s₁ := by
  have rv := vals_ints hints
  have many := hints.length
  have ne : a ≠ Pt := fun m => by
    rw [m, tabO] at obj
    cases obj
  by_cases hk : K.lookup a = none
  · -- the script is the caller's own: told as a locked list
    generalize eH : (fun b : Addr => if b = a then some (HO.frz { cls := .type "list", data := .seq vs.toArray } (.lst (ns.map V.int))) else if b = Pt then some (.tbl #[]) else none) = H
    have at_a : H a = some (HO.frz { cls := .type "list", data := .seq vs.toArray } (.lst (ns.map V.int))) := by
      rw [← eH]
      exact if_pos rfl
    have at_t : H Pt = some (.tbl #[]) := by
      rw [← eH]
      exact (if_neg (Ne.symm ne)).trans (if_pos rfl)
    have else_ : ∀ b, b ≠ a → b ≠ Pt → H b = none := fun b n1 n2 => by
      rw [← eH]
      exact (if_neg n1).trans (if_neg n2)
    refine sole_runT (H := H) ⟨fun b => ?_, .inl (.inr ⟨_, at_a⟩), fun b u z => ?_, fun b n => ?_, fun _ => hk, at_t⟩ KX gN bN bB lim gens0 obj tabO tabK hd main room F bind want noX
    · by_cases e1 : b = a
      · exact .inr (.inr ⟨_, _, by rw [e1]; exact at_a⟩)
      · by_cases e2 : b = Pt
        · exact .inr (.inl e2)
        · exact .inl (else_ b e1 e2)
    · by_cases e1 : b = a
      · subst e1
        obtain rfl := Option.some.inj (at_a.symm.trans z)
        exact ⟨obj, by rw [List.length_map]; exact few, vs, _, rv, obj⟩
      · by_cases e2 : b = Pt
        · subst e2
          obtain rfl := Option.some.inj (at_t.symm.trans z)
          exact tabO
        · rw [else_ b e1 e2] at z
          cases z
    · by_cases e1 : b = a
      · exact .inl e1
      · by_cases e2 : b = Pt
        · exact .inr e2
        · exact absurd (else_ b e1 e2) n
  · -- the script is one of the module's objects
    obtain ⟨o, ho⟩ := Option.ne_none_iff_exists'.mp hk
    have eo := Option.some.inj (obj.symm.trans (KX a o ho))
    generalize eH : (fun b : Addr => if b = Pt then some (HO.tbl #[]) else none) = H
    have at_t : H Pt = some (.tbl #[]) := by
      rw [← eH]
      exact if_pos rfl
    have else_ : ∀ b, b ≠ Pt → H b = none := fun b n => by
      rw [← eH]
      exact if_neg n
    refine sole_runT (H := H) ⟨fun b => ?_, .inr ⟨o, vs.toArray, 0, ho, by rw [← eo], by rw [← eo], by rw [← eo], by rw [List.size_toArray, many]; exact few, by simpa using rv⟩, fun b u z => ?_, fun b n => ?_, fun n => absurd (else_ a ne) n, at_t⟩ KX gN bN bB lim gens0 obj tabO tabK hd main room F bind want noX
    · by_cases e2 : b = Pt
      · exact .inr (.inl e2)
      · exact .inl (else_ b e2)
    · by_cases e2 : b = Pt
      · subst e2
        obtain rfl := Option.some.inj (at_t.symm.trans z)
        exact tabO
      · rw [else_ b e2] at z
        cases z
    · by_cases e2 : b = Pt
      · exact .inr e2
      · exact absurd (else_ b e2) n
/-- the goal behind the head, by such a promise -/
theorem walk_ofGT {l : PySem.W.OpenLaw} {n k : Nat} {q : Program} {loose : List Str} {XP : (Str → Option Value) → Heap → Prop} {YP : World → Heap → Prop} {d : DefRec} {K : Params → PySem.W.Frag} {CX : World → CXT} {sp : World → Addr → Sp} {x : Str}
    (hn : l.most = some n) (few : n ≤ sizeLine) (hdf : d.params.defaults = []) (room : Room k callerA) (hY : ∀ (w : World) (h : Heap), YP w h → (K w.params).In h)
    (F : ∀ (w : World) (mg : Str → Option Value) (fa : Addr) (h : Heap), YP w h → (K w.params).In h → h.Ns mainGlobals mg → mg d.name = some (.ref fa) → ∃ (fd : FuncData) (c Pt : Addr), (∀ (s : Shared) (u : Value), BindsTo s fd ⟨[u], []⟩ [(x, u)]) ∧
      h.get? Pt = some noTab ∧ (K w.params).lookup Pt = none ∧ PySem.W.CodeHd h c Pt ∧
      (∀ base : Heap, (K w.params).In base → base.Ns mainGlobals mg → TabB base mg c Pt → FnG l.prog w (K w.params) mg base (CX w) k fa fd [x] (sp w Pt)))
    (want : ∀ (w : World) (Pt : Addr) (H : Hp) (a : Addr) (ns : List Int), ns.length ≤ n → H Pt = some (.tbl #[]) → SqL (K w.params) H a (ns.map V.int) → sp w Pt [.ref a] H (fun v _ => v = .bl true) fun _ _ _ => False)
    (noX : ∀ (w : World) (H : Hp) (s : Shared) (e : Value) (s' : Shared), CX w [] H s (fun _ _ _ => False) e s' → False) : PySem.W.WalkO q loose XP YP l.row.toRowW d [] (fun f vs => PySem.call f vs) :=
  Att.attach_call hn hdf fun w s₀ s₁ mg mb fa o pm cd doc a vs ns G Y ho hd hcd hmg hobj hints hlen hg => by
    have KX := hY w _ Y
    obtain ⟨fd, c, Pt, hb, t1, t2, t3, hF⟩ := F w mg fa _ Y KX G.T.g hmg
    exact law_callGT KX G.T.g G.T.b G.T.builtins G.T.nolimit hg hobj hints (Nat.le_trans hlen few) t1 t2 t3 G.T.bmain room hF hb (fun H z1 z2 => want w Pt H a ns hlen z1 z2) fun H e s' => noX w H s₁ e s'
end
theorem mfun_mk {K : PySem.W.Frag} {C f : Addr} {nm q : Str} {st : Stmt} {ps : List Str} {oc : Value} {od an : Option Addr} {osl : Array (Option Value)} {kV doc pm cdv ct : Value}
    (b : ∀ (kV doc pm : Value) (an : Option Addr) (cdv ct : Value) (us : List Value), us.length = ps.length → bindArgs (PySem.W.fnOf nm q (defArgs st) (defBody st) (defScope st) .none kV doc pm an cdv ct) ⟨us, []⟩ = pure (ps.zip us))
    (a : PySem.W.findIn K (.ref C) nm = some (some (.ref f))) (l : K.lookup f = some ⟨oc, od, .func (PySem.W.fnOf nm q (defArgs st) (defBody st) (defScope st) .none kV doc pm an cdv ct), osl⟩) (c : PySem.W.codeIn K cdv q = true) (k : PySem.W.keepIn K (.ref f) = true) (i : PySem.W.isFn K (.ref f) = true) : MFun K C nm q st ps :=
  ⟨f, _, a, i, fun_mk (st := st) l c k, (fun_mk (st := st) l c k).binds (ps := ps) b⟩
theorem pfun_mk {K : PySem.W.Frag} {C p g : Addr} {nm q : Str} {st : Stmt} {rest : List Value} {oc : Value} {od an : Option Addr} {osl : Array (Option Value)} {kV doc pm cdv ct : Value}
    (b : ∀ (kV doc pm : Value) (an : Option Addr) (cdv ct : Value) (us : List Value), us.length = 1 → bindArgs (PySem.W.fnOf nm q (defArgs st) (defBody st) (defScope st) .none kV doc pm an cdv ct) ⟨us, []⟩ = pure ((["self"] : List Str).zip us))
    (a : PySem.W.findIn K (.ref C) nm = some (some (.ref p))) (s : PySem.W.specialIn K (.ref p) "__get__" = some (some (.builtin "property.__get__"))) (t : PySem.W.takesIn K (.ref p) = some true) (r : PySem.W.recIn K p "property" = some (.ref g :: rest))
    (l : K.lookup g = some ⟨oc, od, .func (PySem.W.fnOf nm q (defArgs st) (defBody st) (defScope st) .none kV doc pm an cdv ct), osl⟩) (c : PySem.W.codeIn K cdv q = true) (k : PySem.W.keepIn K (.ref g) = true) : PFun K C nm q st :=
  ⟨p, g, _, ⟨a, s, t, rest, r⟩, fun_mk (st := st) l c k, (fun_mk (st := st) l c k).binds (ps := ["self"]) b⟩
/-! ### the errors; what the top has written -/
section
variable {P : Program} {w : World} {K : PySem.W.Frag} {mg : Str → Option Value} {base : Heap}
abbrev si_InvalidRule : Stmt := inClass (top 1) 0
theorem sci_InvalidRule : FnScope ["self", "value"] ["self", "value"] (defScope si_InvalidRule) := ⟨rfl, rfl, rfl, by decide +kernel, rfl, by decide +kernel, by decide +kernel⟩
theorem in_InvalidRule {C fI : Addr} {fd : FuncData} (F : Fun K "__init__" "InvalidRule.__init__" si_InvalidRule fI fd) (L : Cl K C fI [.type "ValueError", .type "Exception", .type "BaseException", .type "object"] "ValueError.__new__" ["value"]) (m : mg "InvalidRule" = some (.ref C)) : XRz P w K mg base "InvalidRule" C 1 (sp1n "value" C) := by
  obtain ⟨oc, od, kV, doc, pm, an, cdv, ct, osl, rfl, lk, hcd⟩ := F.ex
  refine ⟨fI, _, ["self", "value"], "ValueError", "ValueError.__new__", "ValueError.__init__", [.type "ValueError", .type "Exception", .type "BaseException", .type "object"], PySem.F.excBase_ValueError, L.T, m, F.ok sci_InvalidRule (fun vs H Q E h => ?_) (fun cdv A outer s H vs Q E hr h => ?_),
    ⟨fun s us ws _ l1 l2 => match us, ws, l1, l2 with | [_, _], [], _, _ => .of_eq rfl, fun r _ => r⟩, L.look.xf.exC, L.ty⟩
  · obtain ⟨a, v, rfl, _⟩ := h
    rfl
  · obtain ⟨a, v, rfl, ea, q⟩ := h
    refine ⟨_, pss_one (ps_xst PySem.F.store_ValueError (newId := "ValueError.__new__") (pv 0) (pv 1)), ?_⟩
    exact ⟨_, rfl, _, rfl, a, C, fI, rfl, L.T, L.no _ (by simp), .inl ⟨ea, q⟩⟩
abbrev si_InvalidNumber : Stmt := inClass (top 2) 0
theorem sci_InvalidNumber : FnScope ["self", "value"] ["self", "value"] (defScope si_InvalidNumber) := ⟨rfl, rfl, rfl, by decide +kernel, rfl, by decide +kernel, by decide +kernel⟩
theorem in_InvalidNumber {C fI : Addr} {fd : FuncData} (F : Fun K "__init__" "InvalidNumber.__init__" si_InvalidNumber fI fd) (L : Cl K C fI [.type "ValueError", .type "Exception", .type "BaseException", .type "object"] "ValueError.__new__" ["value"]) (m : mg "InvalidNumber" = some (.ref C)) : XRz P w K mg base "InvalidNumber" C 1 (sp1n "value" C) := by
  obtain ⟨oc, od, kV, doc, pm, an, cdv, ct, osl, rfl, lk, hcd⟩ := F.ex
  refine ⟨fI, _, ["self", "value"], "ValueError", "ValueError.__new__", "ValueError.__init__", [.type "ValueError", .type "Exception", .type "BaseException", .type "object"], PySem.F.excBase_ValueError, L.T, m, F.ok sci_InvalidNumber (fun vs H Q E h => ?_) (fun cdv A outer s H vs Q E hr h => ?_),
    ⟨fun s us ws _ l1 l2 => match us, ws, l1, l2 with | [_, _], [], _, _ => .of_eq rfl, fun r _ => r⟩, L.look.xf.exC, L.ty⟩
  · obtain ⟨a, v, rfl, _⟩ := h
    rfl
  · obtain ⟨a, v, rfl, ea, q⟩ := h
    refine ⟨_, pss_one (ps_xst PySem.F.store_ValueError (newId := "ValueError.__new__") (pv 0) (pv 1)), ?_⟩
    exact ⟨_, rfl, _, rfl, a, C, fI, rfl, L.T, L.no _ (by simp), .inl ⟨ea, q⟩⟩
abbrev si_DivisionByZero : Stmt := inClass (top 4) 0
theorem sci_DivisionByZero : FnScope ["self"] ["self"] (defScope si_DivisionByZero) := ⟨rfl, rfl, rfl, by decide +kernel, rfl, by decide +kernel, by decide +kernel⟩
theorem in_DivisionByZero {C fI : Addr} {fd : FuncData} (F : Fun K "__init__" "DivisionByZero.__init__" si_DivisionByZero fI fd) (L : Cl K C fI [.type "ArithmeticError", .type "Exception", .type "BaseException", .type "object"] "ArithmeticError.__new__" []) (m : mg "DivisionByZero" = some (.ref C)) : XRz P w K mg base "DivisionByZero" C 0 (sp0 C) := by
  obtain ⟨oc, od, kV, doc, pm, an, cdv, ct, osl, rfl, lk, hcd⟩ := F.ex
  refine ⟨fI, _, ["self"], "ArithmeticError", "ArithmeticError.__new__", "ArithmeticError.__init__", [.type "ArithmeticError", .type "Exception", .type "BaseException", .type "object"], PySem.F.excBase_ArithmeticError, L.T, m, F.ok sci_DivisionByZero (fun vs H Q E h => ?_) (fun cdv A outer s H vs Q E hr h => ?_),
    ⟨fun s us ws _ l1 l2 => match us, ws, l1, l2 with | [_], [], _, _ => .of_eq rfl, fun r _ => r⟩, L.look.xf.exC, L.ty⟩
  · obtain ⟨a, rfl, _⟩ := h
    rfl
  · obtain ⟨a, rfl, ea, q⟩ := h
    exact ⟨_, pss_one ps_pass, q⟩
end
section
variable {K : PySem.W.Frag}
/-- an __init__ without defaults -/
def IFun (K : PySem.W.Frag) (C : Addr) (q : Str) (st : Stmt) (ps : List Str) : Prop := ∃ f fd, Mk K C f ∧ Fun K "__init__" q st f fd ∧ Binds K fd ps []
theorem ifun_mk {C f : Addr} {q : Str} {st : Stmt} {ps : List Str} {oc : Value} {od an : Option Addr} {osl : Array (Option Value)} {kV doc pm cdv ct : Value}
    (b : ∀ (kV doc pm : Value) (an : Option Addr) (cdv ct : Value) (us : List Value), us.length = ps.length → bindArgs (PySem.W.fnOf "__init__" q (defArgs st) (defBody st) (defScope st) .none kV doc pm an cdv ct) ⟨us, []⟩ = pure (ps.zip us))
    (a : PySem.W.findIn K (.ref C) "__init__" = some (some (.ref f))) (l : K.lookup f = some ⟨oc, od, .func (PySem.W.fnOf "__init__" q (defArgs st) (defBody st) (defScope st) .none kV doc pm an cdv ct), osl⟩) (c : PySem.W.codeIn K cdv q = true) (k : PySem.W.keepIn K (.ref f) = true)
    (m : PySem.W.makesIn K C = true) (i : PySem.W.isFn K (.ref f) = true) (kc : PySem.W.keepIn K (.ref C) = true) : IFun K C q st ps :=
  ⟨f, _, ⟨m, a, i, kc⟩, fun_mk (st := st) l c k, (fun_mk (st := st) l c k).binds (ps := ps) b⟩
/-- a method -/
def MeFun (K : PySem.W.Frag) (C : Addr) (nm q : Str) (st : Stmt) (ps : List Str) : Prop := ∃ f fd, Meth K C nm f ∧ Fun K nm q st f fd ∧ Binds K fd ps []
/-- Desk's __init__, its default "down" -/
def DInit (K : PySem.W.Frag) (C : Addr) : Prop := ∃ (fI : Addr) (fd : FuncData) (ds : List Value), Mk K C fI ∧ FunD K "__init__" "Desk.__init__" (defArgs s_Desk___init__) (defBody s_Desk___init__) (defScope s_Desk___init__) [.str "down"] [] fI fd ∧ Binds K fd ["self", "rule"] [] ∧ Vals [.str "down"] ds ∧ Binds K fd ["self", "rule"] ds
theorem dinit_mk {C fI Td : Addr} {oc dc : Value} {od an dd : Option Addr} {osl dsl : Array (Option Value)} {kV doc pm cdv ct : Value} {n : Nat} {tk : Tok}
    (a : PySem.W.findIn K (.ref C) "__init__" = some (some (.ref fI))) (l : K.lookup fI = some ⟨oc, od, .func (PySem.W.fnOf "__init__" "Desk.__init__" (defArgs s_Desk___init__) (defBody s_Desk___init__) (defScope s_Desk___init__) (.ref Td) kV doc pm an cdv ct), osl⟩)
    (d : K.lookup Td = some ⟨dc, dd, .seq #[.str "down" tk] n, dsl⟩) (c : PySem.W.codeIn K cdv "Desk.__init__" = true) (k : PySem.W.keepIn K (.ref fI) = true) (m : PySem.W.makesIn K C = true) (i : PySem.W.isFn K (.ref fI) = true) (kc : PySem.W.keepIn K (.ref C) = true) : DInit K C := by
  have F : FunD K "__init__" "Desk.__init__" (defArgs s_Desk___init__) (defBody s_Desk___init__) (defScope s_Desk___init__) [.str "down"] [] fI (PySem.W.fnOf "__init__" "Desk.__init__" (defArgs s_Desk___init__) (defBody s_Desk___init__) (defScope s_Desk___init__) (.ref Td) kV doc pm an cdv ct) :=
    ⟨⟨oc, od, _, kV, doc, pm, an, cdv, ct, osl, rfl, l, c, .inr ⟨by simp, Td, _, [.str "down" tk], n, rfl, d, rfl, .cons ⟨tk, rfl⟩ .nil⟩, .inl rfl⟩, k⟩
  obtain ⟨d0, v0, b0⟩ := F.binds1 (ps := ["self", "rule"]) 2 1 (by simp) rfl (fun T kV doc pm an cdv ct us its h1 h2 => match us, its, h1, h2 with | [_, _], [_], _, _ => ⟨_, rfl, rfl⟩)
  obtain ⟨d1, v1, b1⟩ := F.binds1 (ps := ["self", "rule"]) 1 0 (by simp) rfl (fun T kV doc pm an cdv ct us its h1 h2 => match us, its, h1, h2 with | [_], [_], _, _ => ⟨_, rfl, rfl⟩)
  cases v0
  exact ⟨fI, _, d1, ⟨m, a, i, kc⟩, F, b0, v1, b1⟩
theorem cls_mk {C : Addr} (t : (PySem.W.plainGet K C Str.empty, PySem.W.hasDictIn K C, PySem.W.plainOver K C) = (true, true, true)) (u : PySem.W.findIn K (.ref C) "__setattr__" = some (some (.builtin "object.__setattr__"))) : Cls K C := by
  simp only [Prod.mk.injEq] at t
  obtain ⟨t1, t2, t3⟩ := t
  exact ⟨t1, t2, t3, u⟩
/-- what is asked of Whole besides -/
structure WIn (K : PySem.W.Frag) (CW : Addr) : Prop where
  c1 : PySem.W.findIn K (.ref CW) "__class__" = some (some (.builtin "object.__class__"))
  c2 : PySem.W.specialIn K (.builtin "object.__class__") "__get__" = some (some (.builtin "getset_descriptor.__get__"))
  c3 : PySem.W.takesIn K (.builtin "object.__class__") = some true
  c4 : PySem.W.mroIn K CW (.type "object") = some true
  kWI : PySem.W.kitOne K (.ref CW) (.type "int") = some false
  kWW : PySem.W.kitOne K (.ref CW) (.ref CW) = some true
  kIW : PySem.W.kitOne K (.type "int") (.ref CW) = some false
  ne : NeO K CW
  first : PySem.W.selfFirst K CW = true
  nI : PySem.W.notFirst K CW (.type "int") = true
  noI : PySem.W.subIn K (.type "int") (.ref CW) = some false
  noW : PySem.W.subIn K (.ref CW) (.type "int") = some false
theorem win_mk {CW : Addr} (g1 : PySem.W.specialIn K (.builtin "object.__class__") "__get__" = some (some (.builtin "getset_descriptor.__get__"))) (g2 : PySem.W.takesIn K (.builtin "object.__class__") = some true) (t : PySem.W.selfFirst K CW = true) (n1 : PySem.W.notFirst K CW (.type "int") = true)
    (u : (PySem.W.findIn K (.ref CW) "__class__", PySem.W.findIn K (.ref CW) "__ne__") = (some (some (.builtin "object.__class__")), some (some (.builtin "object.__ne__"))))
    (v : (PySem.W.mroIn K CW (.type "object"), PySem.W.subIn K (.ref CW) (.type "object"), PySem.W.subIn K (.ref CW) (.type "int")) = (some true, some true, some false)) (v2 : PySem.W.subIn K (.type "int") (.ref CW) = some false)
    (k1 : PySem.W.kitOne K (.ref CW) (.type "int") = some false) (k2 : PySem.W.kitOne K (.ref CW) (.ref CW) = some true) (k3 : PySem.W.kitOne K (.type "int") (.ref CW) = some false) : WIn K CW := by
  simp only [Prod.mk.injEq] at u v
  obtain ⟨u1, u2⟩ := u
  obtain ⟨v1, v3, v4⟩ := v
  exact ⟨u1, g1, g2, v1, k1, k2, k3, ⟨u2, v3⟩, t, n1, v2, v4⟩
/-- the attributes that are no class's -/
structure NAs (K : PySem.W.Frag) (CB CD CW : Addr) : Prop where
  bD : NoAttr K CB "_desk"
  bR : NoAttr K CB "_rule"
  bE : NoAttr K CB "_elder"
  dR : NoAttr K CD "_rule"
  wD : NoAttr K CW "_desk"
  wA : NoAttr K CW "_amount"
theorem nas_mk {CB CD CW : Addr} (u : (PySem.W.findIn K (.ref CB) "_desk", PySem.W.findIn K (.ref CB) "_rule", PySem.W.findIn K (.ref CB) "_elder") = (some none, some none, some none)) (v : PySem.W.findIn K (.ref CD) "_rule" = some none)
    (t : (PySem.W.findIn K (.ref CW) "_desk", PySem.W.findIn K (.ref CW) "_amount") = (some none, some none)) : NAs K CB CD CW := by
  simp only [Prod.mk.injEq] at u t
  obtain ⟨u1, u2, u3⟩ := u
  obtain ⟨t1, t2⟩ := t
  exact ⟨u1, u2, u3, v, t1, t2⟩
end
theorem all_mk {l : PySem.W.OpenLaw} {w : World} {K : PySem.W.Frag} {h : Heap} {mg : Str → Option Value} {fa fL fP fW c Pt aR CB CD CW CR CN CZ : Addr} {otR : Obj} {itR : Array Value} {nR : Nat} {cdW cdL kVW docW pmW ctW ocW kVP docP pmP ctP ocP kVL docL pmL ctL ocL : Value} {odW anW odP anP odL anL : Option Addr} {oslW oslP oslL : Array (Option Value)} (X : K.In h) (G : h.Ns mainGlobals mg) (hfa : mg "law" = some (.ref fa)) (tb : h.get? Pt = some noTab)
    (D_is_integer : Has K mg "is_integer" s_is_integer ["value"])
    (D_is_rule : Has K mg "is_rule" s_is_rule ["value"])
    (D_goes_up : Has K mg "goes_up" s_goes_up ["rule", "rest", "base"])
    (D_divide : Has K mg "divide" s_divide ["rule", "x", "base"])
    (D_is_amount : Has K mg "is_amount" s_is_amount ["value"])
    (D_amount_of : Has K mg "amount_of" s_amount_of ["value"])
    (D__law_pool : Has K mg "_law_pool" s__law_pool ["_law_script", "_law_k"])
    (D__law_draw : Has K mg "_law_draw" s__law_draw ["_law_pool_here", "_law_many"])
    (D__law_choose : Has K mg "_law_choose" s__law_choose ["_law_pool_here", "_law_items"])
    (D__law_divide : Has K mg "_law_divide" s__law_divide ["_law_rule", "_law_x", "_law_base"])
    (D__law_number : Has K mg "_law_number" s__law_number ["_law_pool_here"])
    (D__law_due : Has K mg "_law_due" s__law_due ["_law_outer", "_law_rules", "_law_x", "_law_base"])
    (D__law_is_refused : Has K mg "_law_is_refused" s__law_is_refused ["_law_desk", "_law_rules", "_law_x"])
    (D__law_values_right : Has K mg "_law_values_right" s__law_values_right ["_law_desk", "_law_rule"])
    (D__law_places_right : Has K mg "_law_places_right" s__law_places_right ["_law_desk", "_law_x", "_law_base", "_law_rule"])
    (N_InvalidRule : CIn K "InvalidRule" "InvalidRule.__init__" si_InvalidRule CR [.type "ValueError", .type "Exception", .type "BaseException", .type "object"] "ValueError.__new__" ["value"])
    (N_InvalidNumber : CIn K "InvalidNumber" "InvalidNumber.__init__" si_InvalidNumber CN [.type "ValueError", .type "Exception", .type "BaseException", .type "object"] "ValueError.__new__" ["value"])
    (N_DivisionByZero : CIn K "DivisionByZero" "DivisionByZero.__init__" si_DivisionByZero CZ [.type "ArithmeticError", .type "Exception", .type "BaseException", .type "object"] "ArithmeticError.__new__" [])
    (aCB : PySem.W.nsIn K mainGlobals "RuleBlock" = some (some (.ref CB)))
    (aCD : PySem.W.nsIn K mainGlobals "Desk" = some (some (.ref CD)))
    (aCW : PySem.W.nsIn K mainGlobals "Whole" = some (some (.ref CW)))
    (clCB : Cls K CB)
    (clCD : Cls K CD)
    (clCW : Cls K CW)
    (na : NAs K CB CD CW)
    (wi : WIn K CW)
    (iB : IFun K CB "RuleBlock.__init__" s_RuleBlock___init__ ["self", "desk", "rule"])
    (iW : IFun K CW "Whole.__init__" s_Whole___init__ ["self", "desk", "amount"])
    (iD : DInit K CD)
    (mEn : MFun K CB "__enter__" "RuleBlock.__enter__" s_RuleBlock___enter__ ["self"])
    (mEx : MFun K CB "__exit__" "RuleBlock.__exit__" s_RuleBlock___exit__ ["self", "kind", "value", "trace"])
    (pRule : PFun K CD "rule" "Desk.rule" s_Desk_rule)
    (mSet : MeFun K CD "set_rule" "Desk.set_rule" s_Desk_set_rule ["self", "rule"])
    (mMake : MeFun K CD "make" "Desk.make" s_Desk_make ["self", "value"])
    (mUsing : MeFun K CD "using" "Desk.using" s_Desk_using ["self", "rule"])
    (pAmount : PFun K CW "amount" "Whole.amount" s_Whole_amount)
    (mDivided : MeFun K CW "_divided" "Whole._divided" s_Whole__divided ["self", "x", "base"])
    (mParts : MeFun K CW "parts" "Whole.parts" s_Whole_parts ["self", "other"])
    (m_floordiv : MFun K CW "__floordiv__" "Whole.__floordiv__" s_Whole___floordiv__ ["self", "other"])
    (m_mod : MFun K CW "__mod__" "Whole.__mod__" s_Whole___mod__ ["self", "other"])
    (m_rfloordiv : MFun K CW "__rfloordiv__" "Whole.__rfloordiv__" s_Whole___rfloordiv__ ["self", "other"])
    (m_rmod : MFun K CW "__rmod__" "Whole.__rmod__" s_Whole___rmod__ ["self", "other"])
    (m_ifloordiv : MFun K CW "__ifloordiv__" "Whole.__ifloordiv__" s_Whole___ifloordiv__ ["self", "other"])
    (m_imod : MFun K CW "__imod__" "Whole.__imod__" s_Whole___imod__ ["self", "other"])
    (m_eq : MFun K CW "__eq__" "Whole.__eq__" s_Whole___eq__ ["self", "other"])
    (aW : PySem.W.findIn K (.ref CD) "within" = some (some (.ref fW)))
    (lW : K.lookup fW = some ⟨ocW, odW, .func (PySem.W.fnOf "within" "Desk.within" (defArgs s_Desk_within) (defBody s_Desk_within) (defScope s_Desk_within) .none kVW docW pmW anW cdW ctW), oslW⟩)
    (cW : PySem.W.codeIn K cdW "Desk.within" = true)
    (kW : PySem.W.keepIn K (.ref fW) = true)
    (iW_ : PySem.W.isFn K (.ref fW) = true)
    (aP : PySem.W.nsIn K mainGlobals "_law_deep" = some (some (.ref fP)))
    (lP : K.lookup fP = some ⟨ocP, odP, .func (PySem.W.fnOf "_law_deep" "_law_deep" (defArgs s__law_deep) (defBody s__law_deep) (defScope s__law_deep) .none kVP docP pmP anP (.ref c) ctP), oslP⟩)
    (cP : PySem.W.codeIn K (.ref c) "_law_deep" = true)
    (kP : PySem.W.keepIn K (.ref fP) = true)
    (aL : PySem.W.nsIn K mainGlobals "law" = some (some (.ref fL)))
    (lL : K.lookup fL = some ⟨ocL, odL, .func (PySem.W.fnOf "law" "law" (defArgs s_law) (defBody s_law) (defScope s_law) .none kVL docL pmL anL cdL ctL), oslL⟩)
    (cL : PySem.W.codeIn K cdL "law" = true)
    (kL : PySem.W.keepIn K (.ref fL) = true)
    (ch : PySem.W.codeHdIn K c Pt = true)
    (tk : K.lookup Pt = none)
    (aT : PySem.W.nsIn K mainGlobals "RULES" = some (some (.ref aR)))
    (lT : K.lookup aR = some otR)
    (cT : otR.cls = .type "tuple")
    (dT : otR.data = .seq itR nR)
    (sT : itR.size ≤ sizeLine)
    (vT : Vals (five.map V.str) itR.toList)
    (eR : PySem.W.exmOne K (.ref CR) (.ref CR) = some true)
    (eN : PySem.W.exmOne K (.ref CN) (.ref CN) = some true)
    (eZ : PySem.W.exmOne K (.ref CZ) (.ref CZ) = some true)
    (kA : PySem.W.kitOne K (.ref CZ) (.type "ArithmeticError") = some true)
    (z0 : PySem.W.nsIn K mainGlobals "isinstance" = some none)
    (z1 : PySem.W.nsIn K mainGlobals "int" = some none)
    (z2 : PySem.W.nsIn K mainGlobals "bool" = some none)
    (z3 : PySem.W.nsIn K mainGlobals "str" = some none)
    (z4 : PySem.W.nsIn K mainGlobals "abs" = some none)
    (z5 : PySem.W.nsIn K mainGlobals "len" = some none)
    (z6 : PySem.W.nsIn K mainGlobals "list" = some none)
    (z7 : PySem.W.nsIn K mainGlobals "range" = some none)
    (z8 : PySem.W.nsIn K mainGlobals "max" = some none)
    (z9 : PySem.W.nsIn K mainGlobals "min" = some none)
    (z10 : PySem.W.nsIn K mainGlobals "repr" = some none)
    (z11 : PySem.W.nsIn K mainGlobals "ArithmeticError" = some none) :
    ∃ (fd : FuncData) (c Pt : Addr), (∀ (s : Shared) (v : Value), BindsTo s fd ⟨[v], []⟩ [("_law_script", v)]) ∧ h.get? Pt = some noTab ∧ K.lookup Pt = none ∧ PySem.W.CodeHd h c Pt ∧
      (∀ base : Heap, K.In base → base.Ns mainGlobals mg → LamX.TabB base mg c Pt → FnG l.prog w K mg base CX0 33 fa fd ["_law_script"] (spLaw K Pt)) := by
  have e := hfa.symm.trans (PySem.W.mg_of X G aL)
  cases e
  have fr : ∀ {y : Str}, PySem.W.nsIn K mainGlobals y = some none → mg y = none := fun z => PySem.W.mg_none_of X G z
  refine ⟨PySem.W.fnOf "law" "law" (defArgs s_law) (defBody s_law) (defScope s_law) .none kVL docL pmL anL cdL ctL, c, Pt, fun s v => .of_eq rfl, tb, tk, PySem.W.codeHd_of_K X ch, fun base _ _ TB => ?_⟩
  have T : Txt K mg aR := ⟨fr z0, fr z1, fr z2, fr z3, fr z4, fr z5, fr z6, fr z7, fr z8, fr z9, PySem.W.mg_of X G aT, fun H => .inr ⟨otR, itR, nR, lT, cT, dT, sT, vT⟩⟩
  have D : DTx K mg CB CD CW := ⟨PySem.W.mg_of X G aCB, PySem.W.mg_of X G aCD, PySem.W.mg_of X G aCW, clCB, clCD, clCW, na.bD, na.bR, na.bE, na.dR, na.wD, na.wA, wi.c1, wi.c2, wi.c3, wi.c4, wi.kWI, wi.kWW, wi.kIW⟩
  obtain ⟨fI_R, dI_R, aI_R, FI_R, LI_R⟩ := N_InvalidRule
  obtain ⟨fI_N, dI_N, aI_N, FI_N, LI_N⟩ := N_InvalidNumber
  obtain ⟨fI_Z, dI_Z, aI_Z, FI_Z, LI_Z⟩ := N_DivisionByZero
  have m_R := PySem.W.mg_of X G aI_R
  have m_N := PySem.W.mg_of X G aI_N
  have m_Z := PySem.W.mg_of X G aI_Z
  have X_R := in_InvalidRule (P := l.prog) (w := w) (base := base) FI_R LI_R m_R
  have X_N := in_InvalidNumber (P := l.prog) (w := w) (base := base) FI_N LI_N m_N
  have X_Z := in_DivisionByZero (P := l.prog) (w := w) (base := base) FI_Z LI_Z m_Z
  have VT : VTx K mg CR CN CZ := ⟨m_R, m_N, m_Z, fr z10, fr z0, fr z11, eR, eN, eZ, LI_R.look.xf, LI_N.look.xf, LI_R.no _ (by simp), LI_N.no _ (by simp), LI_Z.look.ex, kA⟩
  have O_ruleA := ok_is_ruleA (P := l.prog) (w := w) (base := base) D_is_rule T
  have O_intA := ok_is_integerA (P := l.prog) (w := w) (base := base) D_is_integer T
  have O_rule := ok_is_rule (P := l.prog) (w := w) (base := base) D_is_rule T
  have O_int := ok_is_integer (P := l.prog) (w := w) (base := base) D_is_integer T
  have O_goes := ok_goes_up (P := l.prog) (w := w) (base := base) D_goes_up T
  have O_div := ok_divide D_divide O_rule O_int O_goes
  have O_isA := ok_is_amount D_is_amount T D O_intA
  have pAm := ok_Whole_amount (P := l.prog) (w := w) (base := base) pAmount D
  have O_am := ok_amount_of D_amount_of T D pAm
  have pR := ok_Desk_rule (P := l.prog) (w := w) (base := base) pRule D
  have mkW : MkW l.prog w K mg base CW := by
    obtain ⟨f, fd, m, F, b⟩ := iW
    exact ⟨f, fd, m, ok_Whole_init F D, b, D.mW⟩
  have mDivd : OwnMeth l.prog w K mg base CW 4 "_divided" ["self", "x", "base"] (spDivd CD CW CZ) := by
    obtain ⟨f, fd, m, F, b⟩ := mDivided
    exact ⟨f, fd, m, b, ok_Whole__divided F D X_Z pR O_div⟩
  have mPa : OwnMeth l.prog w K mg base CW 5 "parts" ["self", "other"] (spParts CD CW CZ) := by
    obtain ⟨f, fd, m, F, b⟩ := mParts
    exact ⟨f, fd, m, b, ok_Whole_parts F D mDivd O_am⟩
  have L : WCls l.prog w K mg base CB CD CW CZ := ⟨D, O_isA, mkW, mDivd, mPa⟩
  have mMk : OwnMeth l.prog w K mg base CD 3 "make" ["self", "value"] (spDMake K CW CN) := by
    obtain ⟨f, fd, m, F, b⟩ := mMake
    exact ⟨f, fd, m, b, ok_Desk_make F O_intA mkW X_N⟩
  have mSt : OwnMeth l.prog w K mg base CD 3 "set_rule" ["self", "rule"] (spSet K CD CR) := by
    obtain ⟨f, fd, m, F, b⟩ := mSet
    exact ⟨f, fd, m, b, ok_Desk_set_rule F D O_ruleA X_R⟩
  have mkB : MkB l.prog w K mg base CB := by
    obtain ⟨f, fd, m, F, b⟩ := iB
    exact ⟨f, fd, m, ok_Block_init F D, b, D.mB⟩
  have mkD : MkD l.prog w K mg base CD CR := by
    obtain ⟨f, fd, ds, m, F, b, v, b2⟩ := iD
    exact ⟨f, fd, ds, m, ok_Desk_init F D O_ruleA X_R, b, b2, v, D.mD⟩
  have mU : OwnMeth l.prog w K mg base CD 3 "using" ["self", "rule"] (spUsing K CB CR) := by
    obtain ⟨f, fd, m, F, b⟩ := mUsing
    exact ⟨f, fd, m, b, ok_Desk_using F O_ruleA mkB X_R⟩
  have B : BlkM l.prog w K mg base CB CD := by
    obtain ⟨f1, d1, a1, i1, F1, b1⟩ := mEn
    obtain ⟨f2, d2, a2, i2, F2, b2⟩ := mEx
    exact ⟨⟨f1, d1, a1, i1, ok_Block_enter F1 D pR mSt, b1⟩, ⟨f2, d2, a2, i2, ok_Block_exitM F2 D, b2⟩⟩
  have o_floordiv : OwnM l.prog w K mg base CW 6 "__floordiv__" ["self", "other"] (spWOp CD CW CZ (fun q _ => q)) := by
    obtain ⟨f, fd, a1, i1, F, b⟩ := m_floordiv
    exact ⟨f, fd, a1, i1, b, ok_Whole___floordiv__ F L⟩
  have o_mod : OwnM l.prog w K mg base CW 6 "__mod__" ["self", "other"] (spWOp CD CW CZ (fun _ e => e)) := by
    obtain ⟨f, fd, a1, i1, F, b⟩ := m_mod
    exact ⟨f, fd, a1, i1, b, ok_Whole___mod__ F L⟩
  have o_rfloordiv : OwnM l.prog w K mg base CW 6 "__rfloordiv__" ["self", "other"] (spWRop CD CW (fun q _ => q)) := by
    obtain ⟨f, fd, a1, i1, F, b⟩ := m_rfloordiv
    exact ⟨f, fd, a1, i1, b, ok_Whole___rfloordiv__ F L⟩
  have o_rmod : OwnM l.prog w K mg base CW 6 "__rmod__" ["self", "other"] (spWRop CD CW (fun _ e => e)) := by
    obtain ⟨f, fd, a1, i1, F, b⟩ := m_rmod
    exact ⟨f, fd, a1, i1, b, ok_Whole___rmod__ F L⟩
  have o_ifloordiv : OwnM l.prog w K mg base CW 6 "__ifloordiv__" ["self", "other"] (spWIop CD CW (fun q _ => q)) := by
    obtain ⟨f, fd, a1, i1, F, b⟩ := m_ifloordiv
    exact ⟨f, fd, a1, i1, b, ok_Whole___ifloordiv__ F L⟩
  have o_imod : OwnM l.prog w K mg base CW 6 "__imod__" ["self", "other"] (spWIop CD CW (fun _ e => e)) := by
    obtain ⟨f, fd, a1, i1, F, b⟩ := m_imod
    exact ⟨f, fd, a1, i1, b, ok_Whole___imod__ F L⟩
  have o_eq : OwnM l.prog w K mg base CW 1 "__eq__" ["self", "other"] (spWEq K CW) := by
    obtain ⟨f, fd, a1, i1, F, b⟩ := m_eq
    exact ⟨f, fd, a1, i1, b, ok_Whole___eq__ F T D⟩
  have W : WOps l.prog w K mg base CB CD CW CZ CN := ⟨L, mMk, pR, pAm, o_floordiv, o_mod, o_rfloordiv, o_rmod, o_ifloordiv, o_imod, o_eq, wi.ne, wi.first, wi.nI⟩
  have FW := fun_mk (st := s_Desk_within) lW cW kW
  have bW : Binds K _ ["self", "rule", "call"] [] := FW.binds (ps := ["self", "rule", "call"]) (fun _ _ _ _ _ _ us hl => match us, hl with | [_, _, _], _ => rfl)
  have O : WOpsD l.prog w K mg base CB CD CW CZ CN CR fW cdW := ⟨W, B, mU, ⟨⟨aW, iW_, kW⟩, ⟨_, _, _, _, _, _, _, _, lW, bW⟩, cW⟩, wi.noI, wi.noW⟩
  have VR : VRx l.prog w K mg base CD CR CN CW CB := ⟨D, mSt, ⟨fW, _, ⟨aW, iW_, kW⟩, bW, ok_within_bad FW D mU B⟩, mkD, mMk, pR⟩
  have FP := fun_mk (st := s__law_deep) lP cP kP
  have bP : Binds K _ P__law_deep [] := FP.binds (ps := P__law_deep) (fun _ _ _ _ _ _ us hl => match us, hl with | [_, _, _, _, _], _ => rfl)
  have O_deep : OkX l.prog w K mg base 30 "_law_deep" P__law_deep (spDeepA CD CZ Pt) := by
    have fn := fn__law_deep O TB (PySem.W.mg_of X G aP) kP lP cP bP
    refine ⟨fP, _, PySem.W.mg_of X G aP, kP, bP, ⟨fun vs H Q E h => ?_, fun A outer s H args us vs Q E hr e0 bt r h => ?_⟩⟩
    · obtain ⟨n, _, h⟩ := h
      exact (fn n).len _ _ _ _ h
    · obtain ⟨n, le, h⟩ := h
      exact (fn n).run A outer s H args us vs Q E (hr.mono (by omega)) e0 bt r h
  have O_pool := ok__law_pool (P := l.prog) (w := w) (base := base) D__law_pool T
  have O_draw := ok__law_draw (P := l.prog) (w := w) (base := base) D__law_draw T
  have O_choose := ok__law_choose D__law_choose T O_draw
  have O_ldiv := ok__law_divide (P := l.prog) (w := w) (base := base) D__law_divide T
  have O_num := ok__law_number D__law_number O_draw O_choose
  have O_due := okA__law_due D__law_due O_ldiv
  have O_ref := ok__law_is_refused D__law_is_refused VT O_deep
  have O_places := ok__law_places_right D__law_places_right W O_ldiv
  obtain ⟨fV, dV, gV, bV, FV⟩ := D__law_values_right
  exact okG_law (fun_mk (st := s_law) lL cL kL) T O VR O_pool O_draw O_choose O_ldiv O_num O_deep O_due O_ref O_places gV FV.kp bV (okG__law_values_right FV VT VR)
theorem tabs_new {H : Hp} {Pt : Addr} {q : Str} (t : H Pt = some (.tbl #[])) : LamX.Tabs [(Pt, q)] H := fun p hp => by
  rw [List.mem_singleton.mp hp]
  exact LamX.TabS.nil t
theorem walk {l : PySem.W.OpenLaw} {q : Program} {loose : List Str} {XP : (Str → Option Value) → Heap → Prop} {YP : World → Heap → Prop} {d : DefRec} {K : Params → PySem.W.Frag} (hn : l.most = some 63) (hdf : d.params.defaults = [])
    (hY : ∀ (w : World) (h : Heap), YP w h → (K w.params).In h)
    (F : ∀ (w : World) (mg : Str → Option Value) (fa : Addr) (h : Heap), YP w h → (K w.params).In h → h.Ns mainGlobals mg → mg d.name = some (.ref fa) → ∃ (fd : FuncData) (c Pt : Addr), (∀ (s : Shared) (u : Value), BindsTo s fd ⟨[u], []⟩ [("_law_script", u)]) ∧
      h.get? Pt = some noTab ∧ (K w.params).lookup Pt = none ∧ PySem.W.CodeHd h c Pt ∧
      (∀ base : Heap, (K w.params).In base → base.Ns mainGlobals mg → LamX.TabB base mg c Pt → FnG l.prog w (K w.params) mg base CX0 33 fa fd ["_law_script"] (spLaw (K w.params) Pt))) :
    PySem.W.WalkO q loose XP YP l.row.toRowW d [] (fun f vs => PySem.call f vs) :=
  walk_ofGT (n := 63) (k := 33) (x := "_law_script") (CX := fun _ => CX0) (sp := fun w Pt => spLaw (K w.params) Pt) hn (by decide) hdf ⟨rfl, by decide, by decide⟩ hY F (fun _ _ H a ns hl t hS => ⟨a, ns, rfl, hS, hl, tabs_new t, fun _ => rfl⟩) fun _ _ _ _ _ z => z
end W1
open PySem PySem.W PyProof.Rows
set_option maxRecDepth 100000 in
set_option maxHeartbeats 0 in
theorem PySem.Challenge.cw_twodivisions_k02_wholes_at_desks_holds : PySem.Challenge.rw_twodivisions_k02_wholes_at_desks.Holds := by
  w_on; o_law; k_head; (case hw => w_witness2)
  k_fill
  refine W1.walk (l := PySem.Challenge.rw_twodivisions_k02_wholes_at_desks) rfl rfl (fun w h Y => PySem.W.km_in_of Y) ?F
  case F =>
    intro w mg fa h Y KX G hmg
    refine' W1.all_mk KX G hmg (PySem.W.km_tabs_of Y _ List.mem_cons_self) ?XD_is_integer ?XD_is_rule ?XD_goes_up ?XD_divide ?XD_is_amount ?XD_amount_of ?XD__law_pool ?XD__law_draw ?XD__law_choose ?XD__law_divide ?XD__law_number ?XD__law_due ?XD__law_is_refused ?XD__law_values_right ?XD__law_places_right ?XN_InvalidRule ?XN_InvalidNumber ?XN_DivisionByZero ?XaCB ?XaCD ?XaCW ?XclCB ?XclCD ?XclCW ?Xna ?Xwi ?XiB ?XiW ?XiD ?XmEn ?XmEx ?XpRule ?XmSet ?XmMake ?XmUsing ?XpAmount ?XmDivided ?XmParts ?Xm_floordiv ?Xm_mod ?Xm_rfloordiv ?Xm_rmod ?Xm_ifloordiv ?Xm_imod ?Xm_eq ?XaW ?XlW ?XcW ?XkW ?XiW_ ?XaP ?XlP ?XcP ?XkP ?XaL ?XlL ?XcL ?XkL ?Xch ?Xtk ?XaT ?XlT ?XcT ?XdT ?XsT ?XvT ?XeR ?XeN ?XeZ ?XkA ?Xz0 ?Xz1 ?Xz2 ?Xz3 ?Xz4 ?Xz5 ?Xz6 ?Xz7 ?Xz8 ?Xz9 ?Xz10 ?Xz11
    (case XD_is_integer => (refine' W1.has_mk KX G (fun _ _ _ _ _ _ us hl => match us, hl with | [_], _ => rfl) ?a ?l ?c ?k; (case a => k_is); (case l => k_is); (case c => k_is); (case k => k_is)))
    (case XD_is_rule => (refine' W1.has_mk KX G (fun _ _ _ _ _ _ us hl => match us, hl with | [_], _ => rfl) ?a ?l ?c ?k; (case a => k_is); (case l => k_is); (case c => k_is); (case k => k_is)))
    (case XD_goes_up => (refine' W1.has_mk KX G (fun _ _ _ _ _ _ us hl => match us, hl with | [_, _, _], _ => rfl) ?a ?l ?c ?k; (case a => k_is); (case l => k_is); (case c => k_is); (case k => k_is)))
    (case XD_divide => (refine' W1.has_mk KX G (fun _ _ _ _ _ _ us hl => match us, hl with | [_, _, _], _ => rfl) ?a ?l ?c ?k; (case a => k_is); (case l => k_is); (case c => k_is); (case k => k_is)))
    (case XD_is_amount => (refine' W1.has_mk KX G (fun _ _ _ _ _ _ us hl => match us, hl with | [_], _ => rfl) ?a ?l ?c ?k; (case a => k_is); (case l => k_is); (case c => k_is); (case k => k_is)))
    (case XD_amount_of => (refine' W1.has_mk KX G (fun _ _ _ _ _ _ us hl => match us, hl with | [_], _ => rfl) ?a ?l ?c ?k; (case a => k_is); (case l => k_is); (case c => k_is); (case k => k_is)))
    (case XD__law_pool => (refine' W1.has_mk KX G (fun _ _ _ _ _ _ us hl => match us, hl with | [_, _], _ => rfl) ?a ?l ?c ?k; (case a => k_is); (case l => k_is); (case c => k_is); (case k => k_is)))
    (case XD__law_draw => (refine' W1.has_mk KX G (fun _ _ _ _ _ _ us hl => match us, hl with | [_, _], _ => rfl) ?a ?l ?c ?k; (case a => k_is); (case l => k_is); (case c => k_is); (case k => k_is)))
    (case XD__law_choose => (refine' W1.has_mk KX G (fun _ _ _ _ _ _ us hl => match us, hl with | [_, _], _ => rfl) ?a ?l ?c ?k; (case a => k_is); (case l => k_is); (case c => k_is); (case k => k_is)))
    (case XD__law_divide => (refine' W1.has_mk KX G (fun _ _ _ _ _ _ us hl => match us, hl with | [_, _, _], _ => rfl) ?a ?l ?c ?k; (case a => k_is); (case l => k_is); (case c => k_is); (case k => k_is)))
    (case XD__law_number => (refine' W1.has_mk KX G (fun _ _ _ _ _ _ us hl => match us, hl with | [_], _ => rfl) ?a ?l ?c ?k; (case a => k_is); (case l => k_is); (case c => k_is); (case k => k_is)))
    (case XD__law_due => (refine' W1.has_mk KX G (fun _ _ _ _ _ _ us hl => match us, hl with | [_, _, _, _], _ => rfl) ?a ?l ?c ?k; (case a => k_is); (case l => k_is); (case c => k_is); (case k => k_is)))
    (case XD__law_is_refused => (refine' W1.has_mk KX G (fun _ _ _ _ _ _ us hl => match us, hl with | [_, _, _], _ => rfl) ?a ?l ?c ?k; (case a => k_is); (case l => k_is); (case c => k_is); (case k => k_is)))
    (case XD__law_values_right => (refine' W1.has_mk KX G (fun _ _ _ _ _ _ us hl => match us, hl with | [_, _], _ => rfl) ?a ?l ?c ?k; (case a => k_is); (case l => k_is); (case c => k_is); (case k => k_is)))
    (case XD__law_places_right => (refine' W1.has_mk KX G (fun _ _ _ _ _ _ us hl => match us, hl with | [_, _, _, _], _ => rfl) ?a ?l ?c ?k; (case a => k_is); (case l => k_is); (case c => k_is); (case k => k_is)))
    (case XN_InvalidRule => (refine' W1.cin_mk ?YInvalidRulea ?YInvalidRuleb ?YInvalidRulel ?YInvalidRulec ?YInvalidRulek ?YInvalidRuleg1 ?YInvalidRuleg2 ?YInvalidRulet ?YInvalidRuleu ?YInvalidRulev ?YInvalidRulew; (case YInvalidRulea => k_is); (case YInvalidRuleb => k_is); (case YInvalidRulel => k_is); (case YInvalidRulec => k_is); (case YInvalidRulek => k_is); (case YInvalidRuleg1 => k_is); (case YInvalidRuleg2 => k_is); (case YInvalidRulet => kernel_rfl); (case YInvalidRuleu => kernel_rfl); (case YInvalidRulev => kernel_rfl); (case YInvalidRulew => kernel_rfl)))
    (case XN_InvalidNumber => (refine' W1.cin_mk ?YInvalidNumbera ?YInvalidNumberb ?YInvalidNumberl ?YInvalidNumberc ?YInvalidNumberk ?YInvalidNumberg1 ?YInvalidNumberg2 ?YInvalidNumbert ?YInvalidNumberu ?YInvalidNumberv ?YInvalidNumberw; (case YInvalidNumbera => k_is); (case YInvalidNumberb => k_is); (case YInvalidNumberl => k_is); (case YInvalidNumberc => k_is); (case YInvalidNumberk => k_is); (case YInvalidNumberg1 => k_is); (case YInvalidNumberg2 => k_is); (case YInvalidNumbert => kernel_rfl); (case YInvalidNumberu => kernel_rfl); (case YInvalidNumberv => kernel_rfl); (case YInvalidNumberw => kernel_rfl)))
    (case XN_DivisionByZero => (refine' W1.cin_mk ?YDivisionByZeroa ?YDivisionByZerob ?YDivisionByZerol ?YDivisionByZeroc ?YDivisionByZerok ?YDivisionByZerog1 ?YDivisionByZerog2 ?YDivisionByZerot ?YDivisionByZerou ?YDivisionByZerov ?YDivisionByZerow; (case YDivisionByZeroa => k_is); (case YDivisionByZerob => k_is); (case YDivisionByZerol => k_is); (case YDivisionByZeroc => k_is); (case YDivisionByZerok => k_is); (case YDivisionByZerog1 => k_is); (case YDivisionByZerog2 => k_is); (case YDivisionByZerot => kernel_rfl); (case YDivisionByZerou => kernel_rfl); (case YDivisionByZerov => kernel_rfl); (case YDivisionByZerow => kernel_rfl)))
    (case XaCB => k_is)
    (case XaCD => k_is)
    (case XaCW => k_is)
    (case XclCB => (refine' W1.cls_mk ?ZCBt ?ZCBu; (case ZCBt => kernel_rfl); (case ZCBu => kernel_rfl)))
    (case XclCD => (refine' W1.cls_mk ?ZCDt ?ZCDu; (case ZCDt => kernel_rfl); (case ZCDu => kernel_rfl)))
    (case XclCW => (refine' W1.cls_mk ?ZCWt ?ZCWu; (case ZCWt => kernel_rfl); (case ZCWu => kernel_rfl)))
    (case Xna => (refine' W1.nas_mk ?ZNu ?ZNv ?ZNt; (case ZNu => kernel_rfl); (case ZNv => kernel_rfl); (case ZNt => kernel_rfl)))
    (case Xwi => (refine' W1.win_mk ?Zg1 ?Zg2 ?Zt ?Zn1 ?Zu ?Zv ?Zv2 ?Zk1 ?Zk2 ?Zk3; (case Zg1 => k_is); (case Zg2 => k_is); (case Zt => kernel_rfl); (case Zn1 => kernel_rfl); (case Zu => kernel_rfl); (case Zv => kernel_rfl); (case Zv2 => kernel_rfl); (case Zk1 => kernel_rfl); (case Zk2 => kernel_rfl); (case Zk3 => kernel_rfl)))
    (case XiB => (refine' W1.ifun_mk (fun _ _ _ _ _ _ us hl => match us, hl with | [_, _, _], _ => rfl) ?Y_iB_a ?Y_iB_l ?Y_iB_c ?Y_iB_k ?Y_iB_m ?Y_iB_i ?Y_iB_kc; (case Y_iB_a => k_is); (case Y_iB_l => k_is); (case Y_iB_c => k_is); (case Y_iB_k => k_is); (case Y_iB_m => k_is); (case Y_iB_i => k_is); (case Y_iB_kc => k_is)))
    (case XiW => (refine' W1.ifun_mk (fun _ _ _ _ _ _ us hl => match us, hl with | [_, _, _], _ => rfl) ?Y_iW_a ?Y_iW_l ?Y_iW_c ?Y_iW_k ?Y_iW_m ?Y_iW_i ?Y_iW_kc; (case Y_iW_a => k_is); (case Y_iW_l => k_is); (case Y_iW_c => k_is); (case Y_iW_k => k_is); (case Y_iW_m => k_is); (case Y_iW_i => k_is); (case Y_iW_kc => k_is)))
    (case XiD => (refine' W1.dinit_mk ?Y_Da ?Y_Dl ?Y_Dd ?Y_Dc ?Y_Dk ?Y_Dm ?Y_Di ?Y_Dkc; (case Y_Da => k_is); (case Y_Dl => k_is); (case Y_Dd => k_is); (case Y_Dc => k_is); (case Y_Dk => k_is); (case Y_Dm => k_is); (case Y_Di => k_is); (case Y_Dkc => k_is)))
    (case XmEn => (refine' W1.mfun_mk (fun _ _ _ _ _ _ us hl => match us, hl with | [_], _ => rfl) ?Y_mEn_a ?Y_mEn_l ?Y_mEn_c ?Y_mEn_k ?Y_mEn_i; (case Y_mEn_a => k_is); (case Y_mEn_l => k_is); (case Y_mEn_c => k_is); (case Y_mEn_k => k_is); (case Y_mEn_i => k_is)))
    (case XmEx => (refine' W1.mfun_mk (fun _ _ _ _ _ _ us hl => match us, hl with | [_, _, _, _], _ => rfl) ?Y_mEx_a ?Y_mEx_l ?Y_mEx_c ?Y_mEx_k ?Y_mEx_i; (case Y_mEx_a => k_is); (case Y_mEx_l => k_is); (case Y_mEx_c => k_is); (case Y_mEx_k => k_is); (case Y_mEx_i => k_is)))
    (case XpRule => (refine' W1.pfun_mk (fun _ _ _ _ _ _ us hl => match us, hl with | [_], _ => rfl) ?Y_pRule_a ?Y_pRule_s ?Y_pRule_t ?Y_pRule_r ?Y_pRule_l ?Y_pRule_c ?Y_pRule_k; (case Y_pRule_a => k_is); (case Y_pRule_s => k_is); (case Y_pRule_t => k_is); (case Y_pRule_r => k_is); (case Y_pRule_l => k_is); (case Y_pRule_c => k_is); (case Y_pRule_k => k_is)))
    (case XmSet => (refine' W1.over_mk (fun _ _ _ _ _ _ us hl => match us, hl with | [_, _], _ => rfl) ?Y_mSet_a ?Y_mSet_l ?Y_mSet_c ?Y_mSet_k ?Y_mSet_i; (case Y_mSet_a => k_is); (case Y_mSet_l => k_is); (case Y_mSet_c => k_is); (case Y_mSet_k => k_is); (case Y_mSet_i => k_is)))
    (case XmMake => (refine' W1.over_mk (fun _ _ _ _ _ _ us hl => match us, hl with | [_, _], _ => rfl) ?Y_mMake_a ?Y_mMake_l ?Y_mMake_c ?Y_mMake_k ?Y_mMake_i; (case Y_mMake_a => k_is); (case Y_mMake_l => k_is); (case Y_mMake_c => k_is); (case Y_mMake_k => k_is); (case Y_mMake_i => k_is)))
    (case XmUsing => (refine' W1.over_mk (fun _ _ _ _ _ _ us hl => match us, hl with | [_, _], _ => rfl) ?Y_mUsing_a ?Y_mUsing_l ?Y_mUsing_c ?Y_mUsing_k ?Y_mUsing_i; (case Y_mUsing_a => k_is); (case Y_mUsing_l => k_is); (case Y_mUsing_c => k_is); (case Y_mUsing_k => k_is); (case Y_mUsing_i => k_is)))
    (case XpAmount => (refine' W1.pfun_mk (fun _ _ _ _ _ _ us hl => match us, hl with | [_], _ => rfl) ?Y_pAmount_a ?Y_pAmount_s ?Y_pAmount_t ?Y_pAmount_r ?Y_pAmount_l ?Y_pAmount_c ?Y_pAmount_k; (case Y_pAmount_a => k_is); (case Y_pAmount_s => k_is); (case Y_pAmount_t => k_is); (case Y_pAmount_r => k_is); (case Y_pAmount_l => k_is); (case Y_pAmount_c => k_is); (case Y_pAmount_k => k_is)))
    (case XmDivided => (refine' W1.over_mk (fun _ _ _ _ _ _ us hl => match us, hl with | [_, _, _], _ => rfl) ?Y_mDivided_a ?Y_mDivided_l ?Y_mDivided_c ?Y_mDivided_k ?Y_mDivided_i; (case Y_mDivided_a => k_is); (case Y_mDivided_l => k_is); (case Y_mDivided_c => k_is); (case Y_mDivided_k => k_is); (case Y_mDivided_i => k_is)))
    (case XmParts => (refine' W1.over_mk (fun _ _ _ _ _ _ us hl => match us, hl with | [_, _], _ => rfl) ?Y_mParts_a ?Y_mParts_l ?Y_mParts_c ?Y_mParts_k ?Y_mParts_i; (case Y_mParts_a => k_is); (case Y_mParts_l => k_is); (case Y_mParts_c => k_is); (case Y_mParts_k => k_is); (case Y_mParts_i => k_is)))
    (case Xm_floordiv => (refine' W1.mfun_mk (fun _ _ _ _ _ _ us hl => match us, hl with | [_, _], _ => rfl) ?Y_m_floordiv_a ?Y_m_floordiv_l ?Y_m_floordiv_c ?Y_m_floordiv_k ?Y_m_floordiv_i; (case Y_m_floordiv_a => k_is); (case Y_m_floordiv_l => k_is); (case Y_m_floordiv_c => k_is); (case Y_m_floordiv_k => k_is); (case Y_m_floordiv_i => k_is)))
    (case Xm_mod => (refine' W1.mfun_mk (fun _ _ _ _ _ _ us hl => match us, hl with | [_, _], _ => rfl) ?Y_m_mod_a ?Y_m_mod_l ?Y_m_mod_c ?Y_m_mod_k ?Y_m_mod_i; (case Y_m_mod_a => k_is); (case Y_m_mod_l => k_is); (case Y_m_mod_c => k_is); (case Y_m_mod_k => k_is); (case Y_m_mod_i => k_is)))
    (case Xm_rfloordiv => (refine' W1.mfun_mk (fun _ _ _ _ _ _ us hl => match us, hl with | [_, _], _ => rfl) ?Y_m_rfloordiv_a ?Y_m_rfloordiv_l ?Y_m_rfloordiv_c ?Y_m_rfloordiv_k ?Y_m_rfloordiv_i; (case Y_m_rfloordiv_a => k_is); (case Y_m_rfloordiv_l => k_is); (case Y_m_rfloordiv_c => k_is); (case Y_m_rfloordiv_k => k_is); (case Y_m_rfloordiv_i => k_is)))
    (case Xm_rmod => (refine' W1.mfun_mk (fun _ _ _ _ _ _ us hl => match us, hl with | [_, _], _ => rfl) ?Y_m_rmod_a ?Y_m_rmod_l ?Y_m_rmod_c ?Y_m_rmod_k ?Y_m_rmod_i; (case Y_m_rmod_a => k_is); (case Y_m_rmod_l => k_is); (case Y_m_rmod_c => k_is); (case Y_m_rmod_k => k_is); (case Y_m_rmod_i => k_is)))
    (case Xm_ifloordiv => (refine' W1.mfun_mk (fun _ _ _ _ _ _ us hl => match us, hl with | [_, _], _ => rfl) ?Y_m_ifloordiv_a ?Y_m_ifloordiv_l ?Y_m_ifloordiv_c ?Y_m_ifloordiv_k ?Y_m_ifloordiv_i; (case Y_m_ifloordiv_a => k_is); (case Y_m_ifloordiv_l => k_is); (case Y_m_ifloordiv_c => k_is); (case Y_m_ifloordiv_k => k_is); (case Y_m_ifloordiv_i => k_is)))
    (case Xm_imod => (refine' W1.mfun_mk (fun _ _ _ _ _ _ us hl => match us, hl with | [_, _], _ => rfl) ?Y_m_imod_a ?Y_m_imod_l ?Y_m_imod_c ?Y_m_imod_k ?Y_m_imod_i; (case Y_m_imod_a => k_is); (case Y_m_imod_l => k_is); (case Y_m_imod_c => k_is); (case Y_m_imod_k => k_is); (case Y_m_imod_i => k_is)))
    (case Xm_eq => (refine' W1.mfun_mk (fun _ _ _ _ _ _ us hl => match us, hl with | [_, _], _ => rfl) ?Y_m_eq_a ?Y_m_eq_l ?Y_m_eq_c ?Y_m_eq_k ?Y_m_eq_i; (case Y_m_eq_a => k_is); (case Y_m_eq_l => k_is); (case Y_m_eq_c => k_is); (case Y_m_eq_k => k_is); (case Y_m_eq_i => k_is)))
    (case XaW => k_is)
    (case XlW => k_is)
    (case XcW => k_is)
    (case XkW => k_is)
    (case XiW_ => k_is)
    (case XaP => k_is)
    (case XlP => k_is)
    (case XcP => k_is)
    (case XkP => k_is)
    (case XaL => k_is)
    (case XlL => k_is)
    (case XcL => k_is)
    (case XkL => k_is)
    (case Xch => kernel_rfl)
    (case Xtk => kernel_rfl)
    (case XaT => k_is)
    (case XlT => k_is)
    (case XcT => rfl)
    (case XdT => rfl)
    (case XsT => (show 5 ≤ sizeLine; decide))
    (case XvT => exact .cons ⟨_, rfl⟩ (.cons ⟨_, rfl⟩ (.cons ⟨_, rfl⟩ (.cons ⟨_, rfl⟩ (.cons ⟨_, rfl⟩ .nil)))))
    (case XeR => kernel_rfl)
    (case XeN => kernel_rfl)
    (case XeZ => kernel_rfl)
    (case XkA => kernel_rfl)
    (case Xz0 => k_is)
    (case Xz1 => k_is)
    (case Xz2 => k_is)
    (case Xz3 => k_is)
    (case Xz4 => k_is)
    (case Xz5 => k_is)
    (case Xz6 => k_is)
    (case Xz7 => k_is)
    (case Xz8 => k_is)
    (case Xz9 => k_is)
    (case Xz10 => k_is)
    (case Xz11 => k_is)
