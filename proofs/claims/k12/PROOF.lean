import PyProof.Rows.All
import Wide.All
import OpenK.AllK
import Wide.FinOn
import HandS.Comp
import HandS.Defaults
import HandS.ExcField
import HandS.ExcInit
import HandS.ExcIs
import HandS.ForExc
import HandS.ForMost
import HandS.Gcd
import HandS.IsInst
import HandS.Lambda
import HandS.MakeKw
import HandS.OwnEq
import HandS.Property
import HandS.TryMany
import HandS.TryOnly
import HandS.Walk
import HandS.Wide
import HandS.WordsExc
import KE.KExcInit
import KE.KExcIs
import KE.KExcPX
import KE.KLam
import KE.KNest
import KE.KNestM
import KE.KOpsOwn
import PyProof.CallFns
import PyProof.InstNe
import PyProof.ReprLen
import PyProof.ReprRoads
import PySem.Challenge.RW_twodivisions_k12_ratios
set_option Elab.async false
set_option maxRecDepth 100000
set_option maxHeartbeats 4000000
set_option linter.all false
namespace W1
open PySem L2
/-! ### own layer: promises that are kept where no repr is under way (A.guards = some []) -/
structure FnG (P : Program) (w : World) (K : PySem.W.Frag) (mg : Str → Option Value) (base : Heap) (CX : CXT) (k : Nat) (f : Addr) (fd : FuncData) (ps : List Str) (sp : Sp) : Prop where
  lens : ∀ vs H Q E, sp vs H Q E → vs.length = ps.length
  goes : ∀ (A : Around) (outer : List Env) (s : Shared) (H : Hp) (args : Args) (us : List Value) (vs : List V) (Q : VK) (E : XK), A.guards = some [] → Room k A → Env0 P w K mg base A outer s H →
    BindsTo s fd args (ps.zip us) → Vals vs us → sp vs H Q E → codeAny (model P w) A (.call (.ref f) args) (CR CX outer P w H s Q E) s
theorem FnG.of {P : Program} {w : World} {K : PySem.W.Frag} {mg : Str → Option Value} {base : Heap} {CX : CXT} {k : Nat} {f : Addr} {fd : FuncData} {ps : List Str} {sp : Sp} (F : FnOk P w K mg base CX k f fd ps sp) : FnG P w K mg base CX k f fd ps sp :=
  ⟨F.len, fun A outer s H args us vs Q E _ => F.run A outer s H args us vs Q E⟩
section
variable {X : Cx} {CX : CXT} {k : Nat} {f C : Addr} {fd : FuncData} {ps : List Str} {sp : Sp} {dvs : List V} {ds : List Value} {E : XK} {x m : Str} {p pos apos : Pos} {e o : Expr} {es : List Expr} {ta : TE} {t : TA}
theorem goG {pins : List (Addr × Obj)} {σ : St} {H : Hp} {s : Shared} {Q : VK} {us : List Value} {vs : List V} (F : FnG X.prog X.w X.K X.mg X.base CX k f fd ps sp) (hG : X.A.guards = some []) (hr : Room k X.A) (hb : Binds X.K fd ps ds) (hd : Vals dvs ds)
    (hx : Passes CX X E) (I : Inv X pins σ H s) (r : Vals vs us) (h : sp (vs ++ dvs) H Q E) : wpAny (model X.prog X.w) X.A (call (.ref f) us) (EP X pins σ Q) X.xe s := by
  have both := r.append hd
  have many : (us ++ ds).length = ps.length := both.length.symm.trans (F.lens _ _ _ _ h)
  refine wpAny_call (codeAny_mono (F.goes X.A X.stack s H ⟨us, []⟩ (us ++ ds) (vs ++ dvs) Q E hG hr I.env0 (hb s us I.kIn many) both h) ?_)
  rintro (er | fl) s' z
  · exact hx pins σ H s er s' I z
  · cases fl with
    | ret u => exact I.after z
    | _ => exact z.elim
theorem pe_callG (F : FnG X.prog X.w X.K X.mg X.base CX k f fd ps sp) (hG : X.A.guards = some []) (hr : Room k X.A) (hg : Gl X x) (hm : X.mg x = some (.ref f)) (hk : PySem.W.keepIn X.K (.ref f) = true) (hb : Binds X.K fd ps ds) (hd : Vals dvs ds) (hx : Passes CX X E)
    (ha : PA X (e :: es) t) (hdb : (x == ("__debug__" : Str)) = false := by decide) (he : starEach (e :: es) X.env = (false, eval e X.env) :: starEach es X.env := by rfl) (hpl : (backTo pos (starEach es X.env)).any (·.1) = false := by rfl) :
    PE X (.Call (.Name x p) (e :: es) [] pos) (tCall sp dvs E t) :=
  ⟨fun pins s σ H Q I h => wpAny_Call_Name_kw (ld_glob I hg hm (PySem.W.callWith_K (h₀ := X.base) I.ok.mod.kin hk (thn (ha.run pos pins s σ H _ I h) fun us s1 ⟨vs, H1, I1, r, q⟩ => ⟨I1.kIn, goG F hG hr hb hd hx I1 r q⟩) he hpl) hdb)⟩
theorem pe_callG0 (F : FnG X.prog X.w X.K X.mg X.base CX k f fd ps sp) (hG : X.A.guards = some []) (hr : Room k X.A) (hg : Gl X x) (hm : X.mg x = some (.ref f)) (hk : PySem.W.keepIn X.K (.ref f) = true) (hb : Binds X.K fd ps ds) (hd : Vals dvs ds) (hx : Passes CX X E)
    (hdb : (x == ("__debug__" : Str)) = false := by decide) : PE X (.Call (.Name x p) [] [] pos) (tCall sp dvs E tNil) :=
  ⟨fun pins s σ H Q I h => wpAny_Call_Name_kw (ld_glob I hg hm (PySem.W.callWith_K0 I.kIn hk (goG (us := []) F hG hr hb hd hx I .nil h)) hdb)⟩
end
/-- a def keeps its promise by its body, in such surroundings -/
theorem fnG_of {CX : CXT} {P : Program} {w : World} {K : PySem.W.Frag} {mg : Str → Option Value} {base : Heap} {k : Nat} {f : Addr} {name qual : Str} {params : Arguments} {body : List Stmt} {scope : Scope} {dV kV doc pm cdv ct oc : Value} {an od : Option Addr}
    {osl : Array (Option Value)} {N ps : List Str} {sp : Sp} (lk : K.lookup f = some ⟨oc, od, .func (PySem.W.fnOf name qual params body scope dV kV doc pm an cdv ct), osl⟩) (hcd : PySem.W.codeIn K cdv qual = true) (S : FnScope N ps scope)
    (len : ∀ vs H Q E, sp vs H Q E → vs.length = ps.length)
    (hbody : ∀ (A : Around) (outer : List Env) (s : Shared) (H : Hp) (vs : List V) (Q : VK) (E : XK), A.guards = some [] → Room k (A.deeper (PyProof.Rows.envOfC qual scope s.heap.objs.size f cdv)) → sp vs H Q E →
      ∃ t, PSs (cxOf CX P w K mg base N qual scope f cdv A outer s H E) body t ∧ t { nx := fun _ H' => Q .non H', rt := Q } (start N vs) H) :
    FnG P w K mg base CX (k + 1) f (PySem.W.fnOf name qual params body scope dV kV doc pm an cdv ct) ps sp := by
  refine ⟨len, fun A outer s H args us vs Q E hG hr e0 hb r hsp => ?_⟩
  have many := len _ _ _ _ hsp
  have part : K.In s.heap := e0.mod.kin.keeps fun b o z => (e0.bs b o z).1
  have below : s.heap.NoLimit := e0.mod.nolimit.keeps fun b o z => (e0.bs b o z).1
  have kinds : ∀ y ∈ ps.zip us, scope.names.lookup y.1 = some .local ∨ (scope.names.lookup y.1 = some .cell ∧ ((PySem.cellsFrom (s.heap.objs.size + 1) scope.names []).lookup y.1).isSome = true) := by
    rintro ⟨n, v⟩ hy
    exact (S.par n (List.of_mem_zip hy).1).imp id fun q => ⟨q, PySem.W.cellsFrom_some _ _ _ (.inl q)⟩
  refine PySem.codeAny_call_function hr.depth (part _ _ lk) rfl S.co S.gen rfl (PySem.W.codeRec_of part hcd) (hb _ _ _ _ (PySem.wpAny_newFunctionEnv_cells S.kind kinds ?_))
  intro env he s1 x
  subst he
  obtain ⟨t, ht, hq⟩ := hbody A outer s H vs Q E hG (hr.deeper _) hsp
  have I := inv_start (CX := CX) (N := N) (qual := qual) (f := f) (cd := cdv) (E := E) S hr.hd e0 many r x
  refine ⟨below.keeps x.toInCall.keep, PySem.codeAny_func (wpAny_mono (ht.run [] s1 (start N vs) H _ I hq) ?_ fun _ _ z => z)⟩
  rintro (_ | _ | _ | u) s' hs
  · obtain ⟨σ', H', J, q⟩ := hs
    exact ⟨V.non, H', J.os, J.bare, J.base, J.hok, rfl, q⟩
  · exact hs.elim fun _ z => z.elim fun _ z => z.2.elim
  · exact hs.elim fun _ z => z.elim fun _ z => z.2.elim
  · obtain ⟨v, σ', H', J, rv, q⟩ := hs
    exact ⟨v, H', J.os, J.bare, J.base, J.hok, rv, q⟩
theorem Fun.okG {P : Program} {w : World} {K : PySem.W.Frag} {mg : Str → Option Value} {base : Heap} {x qual : Str} {st : Stmt} {f : Addr} {fd : FuncData} {N ps : List Str} {k : Nat} {sp : Sp} (F : Fun K x qual st f fd) (S : FnScope N ps (defScope st)) (len : ∀ vs H Q E, sp vs H Q E → vs.length = ps.length)
    (hbody : ∀ (cdv : Value) (A : Around) (outer : List Env) (s : Shared) (H : Hp) (vs : List V) (Q : VK) (E : XK), A.guards = some [] → Room k (A.deeper (PyProof.Rows.envOfC qual (defScope st) s.heap.objs.size f cdv)) → sp vs H Q E →
      ∃ t, PSs (cxOf CX0 P w K mg base N qual (defScope st) f cdv A outer s H E).nox (defBody st) t ∧ t { nx := fun _ H' => Q .non H', rt := Q } (start N vs) H) : FnG P w K mg base CX0 (k + 1) f fd ps sp := by
  obtain ⟨oc, od, kV, doc, pm, an, cdv, ct, osl, rfl, lk, hcd⟩ := F.ex
  refine fnG_of lk hcd S len fun A outer s H vs Q E hG hr hsp => ?_
  obtain ⟨t, h, q⟩ := hbody cdv A outer s H vs Q E hG hr hsp
  exact ⟨t, h.nox, q⟩
/-! ### the law's own call, by such a promise -/
/-- what the caller wants of the law's call -/
abbrev Wanted (s₁ : Shared) (r : Result) (s' : Shared) : Prop := r = .ok (.ret (.bool true)) ∧ PySem.OldK s₁.heap s'.heap ∧ s'.os = s₁.os ∧ PyProof.Rows.AllBare s'.gens
/-- the abstract heap H tells of the script at a, and of nothing else -/
structure Sole (P : Program) (w : World) (K : PySem.W.Frag) (H : Hp) (h : Heap) (a : Addr) (ns : List Int) : Prop where
  only : Only H
  seq : SqL K H a (ns.map V.int)
  ok : HOk P w H h
  at_a : ∀ b, H b ≠ none → b = a
  notK : H a ≠ none → K.lookup a = none
theorem sole_run {P : Program} {w : World} {K : PySem.W.Frag} {mg mb : Str → Option Value} {CX : CXT} {k : Nat} {fa a : Addr} {fd : FuncData} {x : Str} {sp : Sp} {s₁ : Shared} {vs : List Value} {ns : List Int} {H : Hp}
    (Z : Sole P w K H s₁.heap a ns) (KX : K.In s₁.heap) (gN : s₁.heap.Ns mainGlobals mg) (bN : s₁.heap.Ns builtinsNs mb) (bB : ∀ y : Str, y ≠ "__name__" → mb y = bootBuiltins y) (lim : s₁.heap.NoLimit) (gens0 : s₁.gens = #[])
    (obj : s₁.heap.get? a = some { cls := .type "list", data := .seq vs.toArray }) (room : Room k callerA) (F : ∀ base : Heap, K.In base → base.Ns mainGlobals mg → FnG P w K mg base CX k fa fd [x] sp)
    (bind : ∀ (s : Shared) (u : Value), BindsTo s fd ⟨[u], []⟩ [(x, u)]) (want : ∀ H : Hp, Only H → SqL K H a (ns.map V.int) → sp [.ref a] H (fun v _ => v = .bl true) fun _ _ _ => False)
    (noX : ∀ H e s', CX [] H s₁ (fun _ _ _ => False) e s' → False) : codeAny (model P w) callerA (.call (.ref fa) ⟨[.ref a], []⟩) (Wanted s₁) s₁ := by
  -- what H tells of an address is the script's list
  have told : ∀ {b : Addr} {o : Obj}, s₁.heap.get? b = some o → H b ≠ none → b = a ∧ o = { cls := .type "list", data := .seq vs.toArray } := fun {b o} g n => by
    have e := Z.at_a b n
    rw [e, obj] at g
    exact ⟨e, (Option.some.inj g).symm⟩
  have hid : ∀ {b : Addr} {o : Obj}, s₁.heap.get? b = some o → ¬ H b ≠ none → (hidT s₁.heap H).get? b = some o := fun g n => hidT_get g (Classical.byContradiction n)
  have names : ∀ {b : Addr} {m : Str → Option Value}, s₁.heap.Ns b m → (hidT s₁.heap H).Ns b m := by
    rintro b m ⟨o, es, ep, g, d, r⟩
    refine ⟨o, es, ep, hid g fun n => ?_, d, r⟩
    rw [(told g n).2] at d
    exact Data.noConfusion d
  have part : K.In (hidT s₁.heap H) := fun b o g => hid (KX b o g) fun n => by
    have e := (told (KX b o g) n).1
    subst e
    rw [Z.notK n] at g
    cases g
  obtain ⟨mc, c1, c2⟩ := lim
  have md : Mod K mg (hidT s₁.heap H) := ⟨part, names gN, ⟨mb, names bN, bB⟩, ⟨mc, names c1, c2⟩⟩
  have e0 : Env0 P w K mg (hidT s₁.heap H) callerA [] s₁ H := ⟨rfl, md, fun _ _ g => of_hidT g, Nat.le_of_eq (hidT_size _ _), trivial, fun b m => absurd m (List.not_mem_nil (a := b)), Z.ok, PyProof.Rows.AllBare.of_eq gens0⟩
  refine codeAny_mono ((F _ part (names gN)).goes callerA [] s₁ H ⟨[.ref a], []⟩ [.ref a] [.ref a] _ _ rfl room e0 (bind s₁ (.ref a)) (.cons rfl .nil) (want H Z.only Z.seq)) ?_
  rintro (er | _ | _ | _ | u) s' q
  · exact (noX H er s' q).elim
  · exact q.elim
  · exact q.elim
  · exact q.elim
  · obtain ⟨v, H', os, bare, un, ok', rv, rfl⟩ := q
    obtain rfl : u = Value.bool true := rv
    refine ⟨rfl, PySem.OldK.of_keep fun b o g => ?_, os, bare⟩
    rcases Z.only b with n | ⟨ob, xs, n⟩
    · exact un.keep b o g n (fun m => by cases m) (fun m => by cases m)
    · have g1 := (Z.ok b _ n).1
      have g2 := (ok' b _ (un.frzs b ob _ n)).1
      rw [g] at g1
      rw [g2, Option.some.inj g1]
theorem law_callG {P : Program} {w : World} {K : PySem.W.Frag} {mg mb : Str → Option Value} {CX : CXT} {k : Nat} {fa a : Addr} {fd : FuncData} {x : Str} {sp : Sp} {s₁ : Shared} {vs : List Value} {ns : List Int} (KX : K.In s₁.heap) (gN : s₁.heap.Ns mainGlobals mg)
    (bN : s₁.heap.Ns builtinsNs mb) (bB : ∀ y : Str, y ≠ "__name__" → mb y = bootBuiltins y) (lim : s₁.heap.NoLimit) (gens0 : s₁.gens = #[]) (obj : s₁.heap.get? a = some { cls := .type "list", data := .seq vs.toArray }) (hints : PyProof.Rows.IntsAre vs ns) (few : ns.length ≤ sizeLine)
    (room : Room k callerA) (F : ∀ base : Heap, K.In base → base.Ns mainGlobals mg → FnG P w K mg base CX k fa fd [x] sp) (bind : ∀ (s : Shared) (u : Value), BindsTo s fd ⟨[u], []⟩ [(x, u)])
    (want : ∀ H : Hp, Only H → SqL K H a (ns.map V.int) → sp [.ref a] H (fun v _ => v = .bl true) fun _ _ _ => False) (noX : ∀ H e s', CX [] H s₁ (fun _ _ _ => False) e s' → False) :
    codeAny (model P w) callerA (.call (.ref fa) ⟨[.ref a], []⟩) (Wanted s₁) s₁ := by
  have rv := vals_ints hints
  have many := hints.length
  by_cases hk : K.lookup a = none
  · -- the script is the caller's own: told as a locked list
    have at_a : ∀ b : Addr, (if b = a then some (HO.frz { cls := .type "list", data := .seq vs.toArray } (.lst (ns.map V.int))) else none) ≠ none → b = a := fun b n => Classical.byContradiction fun z => n (if_neg z)
    refine sole_run (H := fun b => if b = a then some (.frz { cls := .type "list", data := .seq vs.toArray } (.lst (ns.map V.int))) else none) ⟨fun b => ?_, .inl (.inr ⟨_, if_pos rfl⟩), fun b u z => ?_, at_a, fun _ => hk⟩ KX gN bN bB lim gens0 obj room F bind want noX
    · by_cases e : b = a
      · exact .inr ⟨_, _, if_pos e⟩
      · exact .inl (if_neg e)
    · have e := at_a b (by rw [z]; exact Option.some_ne_none u)
      subst e
      obtain rfl := Option.some.inj ((if_pos rfl).symm.trans z)
      exact ⟨obj, by rw [List.length_map]; exact few, vs, _, rv, obj⟩
  · -- the script is one of the module's objects
    obtain ⟨o, ho⟩ := Option.ne_none_iff_exists'.mp hk
    have eo := Option.some.inj (obj.symm.trans (KX a o ho))
    refine sole_run (H := fun _ => none) ⟨fun _ => .inl rfl, .inr ⟨o, vs.toArray, 0, ho, by rw [← eo], by rw [← eo], by rw [← eo], by rw [List.size_toArray, many]; exact few, by simpa using rv⟩, fun b u z => (by cases z), fun b n => absurd rfl n, fun n => absurd rfl n⟩ KX gN bN bB lim gens0 obj room F bind want noX
/-- the goal behind the head, by such a promise -/
theorem walk_ofG {l : PySem.W.OpenLaw} {n k : Nat} {q : Program} {loose : List Str} {XP : (Str → Option Value) → Heap → Prop} {YP : World → Heap → Prop} {d : DefRec} {K : Params → PySem.W.Frag} {CX : World → CXT} {sp : World → Sp} {x : Str}
    (hn : l.most = some n) (few : n ≤ sizeLine) (hdf : d.params.defaults = []) (room : Room k callerA) (hY : ∀ (w : World) (h : Heap), YP w h → (K w.params).In h)
    (F : ∀ (w : World) (mg : Str → Option Value) (fa : Addr) (h : Heap), (K w.params).In h → h.Ns mainGlobals mg → mg d.name = some (.ref fa) → ∃ fd : FuncData, (∀ (s : Shared) (u : Value), BindsTo s fd ⟨[u], []⟩ [(x, u)]) ∧
      ∀ base : Heap, (K w.params).In base → base.Ns mainGlobals mg → FnG l.prog w (K w.params) mg base (CX w) k fa fd [x] (sp w))
    (want : ∀ (w : World) (H : Hp) (a : Addr) (ns : List Int), ns.length ≤ n → Only H → SqL (K w.params) H a (ns.map V.int) → sp w [.ref a] H (fun v _ => v = .bl true) fun _ _ _ => False)
    (noX : ∀ (w : World) (H : Hp) (s : Shared) (e : Value) (s' : Shared), CX w [] H s (fun _ _ _ => False) e s' → False) : PySem.W.WalkO q loose XP YP l.row.toRowW d [] (fun f vs => PySem.call f vs) :=
  Att.attach_call hn hdf fun w s₀ s₁ mg mb fa o pm cd doc a vs ns G Y ho hd hcd hmg hobj hints hlen hg => by
    have KX := hY w _ Y
    obtain ⟨fd, hb, hF⟩ := F w mg fa _ KX G.T.g hmg
    exact law_callG KX G.T.g G.T.b G.T.builtins G.T.nolimit hg hobj hints (Nat.le_trans hlen few) room hF hb (fun H z1 z2 => want w H a ns hlen z1 z2) fun H e s' => noX w H s₁ e s'
/-! ### own exception classes, called with keywords (rest: by place; kw: by name) -/
section
open PySem.PX
variable {prog : Program} {w : World} {M : Model} {A : Around} {E : Value → Shared → Prop} {R : Result → Shared → Prop} {h : Heap} {g : Array GenState} {d : Drawn} {t : Nat} {os : OsState}
variable {nm q : Str} {C N : Addr} {bs bm tl : List Value} {hdct : Bool} {sn : List Str} {sub : List Value} {ab : Bool} {col : Option Bool} {dd : Option Addr} {k0 k1 k2 k3 k5 : Option Value} {B newId initId : String}
abbrev exLaid (h : Heap) (C : Addr) (rest : List Value) : Heap := (h.push { cls := .type "tuple", data := .seq rest.toArray }).push { cls := .ref C, data := .fields #[.ref h.objs.size, .none, .none, .none, .bool false, .none] }
theorem kw_check_new (F : ExcBaseFacts B newId initId tl) (same : ∀ Y : String, bm.contains (.type Y) = tl.contains (.type Y)) {rest : List Value} {kw : List (Str × Value)} {Q : Unit → Shared → Prop}
    (hC : h.get? C = some (excClassObj nm q C N bs bm hdct sn sub ab col dd k0 k1 k2 k3 k5 newId)) (z : Q () ⟨h, g, d, t, os⟩) : wpAny M A (checkBuiltinCall newId ⟨.ref C :: rest, kw⟩) Q E ⟨h, g, d, t, os⟩ := by
  have inB : (Value.ref C :: bm).contains (.type B) = true := by
    rw [List.contains_cons, same, F.hasB, Bool.or_true]
  have star := F.noStar
  simp only [checkBuiltinCall, F.newKind, F.newSplit, F.newRow]
  repeat (first
    | refine wpAny_loadPart_at hC ?_
    | (refine wpAny_isSubtype_exc hC ?_; rw [inB])
    | refine wpAny_staticBase_exc hC ?_
    | refine wpAny_madeBy_exc hC ?_
    | simp only [bne_self_eq_false, Bool.false_eq_true, if_false]
    | wp_step)
  exact z
theorem kw_new (F : ExcBaseFacts B newId initId tl) (same : ∀ Y : String, bm.contains (.type Y) = tl.contains (.type Y)) {rest : List Value} {kw : List (Str × Value)}
    (hC : h.get? C = some (excClassObj nm q C N bs bm hdct sn sub ab col dd k0 k1 k2 k3 k5 newId)) (z : R (.ok (.ret (.ref (h.objs.size + 1)))) ⟨exLaid h C rest, g, d, t, os⟩) (few : rest.length ≤ sizeLine) :
    codeAny (model prog w) A (.builtin newId ⟨.ref C :: rest, kw⟩) R ⟨h, g, d, t, os⟩ := by
  have stops := F.ends
  have inB : (Value.ref C :: bm).contains (.type B) = true := by
    rw [List.contains_cons, same, F.hasB, Bool.or_true]
  have noA : (Value.ref C :: bm).contains (.type "AttributeError") = false := by
    rw [List.contains_cons, same, F.noAttr]
    rfl
  have noN : (Value.ref C :: bm).contains (.type "NameError") = false := by
    rw [List.contains_cons, same, F.noName]
    rfl
  refine codeAny_builtinAt F.entry ?_
  unfold Builtin.«BaseException.__new__»
  refine wpAt_bind ?_
  show wpAt _ _ _ (stack >>= _) _ _ _
  refine wpAt_bind (wpAt_stack fun p below => wpAt_of_wpAny ?_)
  wp_walk
  refine wpAt_of_wpAny ?_
  rw [F.owner]
  repeat (first
    | with_reducible refine wpAny_madeHere_exc F.canon hC ?_
    | with_reducible refine wpAny_loadPart_at hC ?_
    | (with_reducible refine wpAny_isSubtype_exc hC ?_; first | rw [inB] | rw [noA] | rw [noN])
    | wp_step)
  show R _ _
  rw [Heap.size_push]
  exact z
theorem kw_type_call (F : ExcBaseFacts B newId initId tl) (same : ∀ Y : String, bm.contains (.type Y) = tl.contains (.type Y)) {rest : List Value} {kw : List (Str × Value)} {fI : Addr} {Q : Fin → Shared → Prop}
    (hC : h.get? C = some (excClassObj nm q C N bs bm hdct sn sub ab col dd k0 k1 k2 k3 k5 newId)) (li : PySem.W.Looks (model prog w) h (typeLookup (.ref C) "__init__") (some (.ref fI)))
    (lb : ∀ self, PySem.W.Looks (model prog w) h (bindSpecial (.ref fI) self) (.ref fI, [self])) (few : rest.length ≤ sizeLine)
    (z : codeAny (model prog w) A (.call (.ref fI) ⟨.ref (h.objs.size + 1) :: rest, kw⟩) (fun r s' => match r with | .ok (.ret v) => v = .none ∧ Q (.done (.ret (.ref (h.objs.size + 1)))) s' | .ok _ => False | .error e => E e s') ⟨exLaid h C rest, g, d, t, os⟩) :
    wpAny (model prog w) A (Builtin.«type.__call__» ⟨.ref C :: rest, kw⟩) Q E ⟨h, g, d, t, os⟩ := by
  repeat (first
    | with_reducible refine wpAny_loadPart_at hC ?_
    | with_reducible refine wpAny_madeBy_exc hC ?_
    | wp_step)
  refine codeAny_call_builtin_code (Code.quiet_builtin _ F.quiet) (kw_check_new F same hC (kw_new F same hC ?_ few))
  show wpAny _ _ _ _ _ _
  have stay : ∀ b o, h.get? b = some o → (exLaid h C rest).get? b = some o := fun b o e => Heap.get?_push_of_some _ (Heap.get?_push_of_some _ e)
  have hC2 := stay _ _ hC
  have made : (exLaid h C rest).get? (h.objs.size + 1) = some { cls := .ref C, data := .fields #[.ref h.objs.size, .none, .none, .none, .bool false, .none] } := by
    unfold exLaid
    heap_get
  have inC : (Value.ref C :: bm).contains (.ref C) = true := by simp
  have li2 := li.keeps stay
  have lb2 := (lb (.ref (h.objs.size + 1))).keeps stay
  unfold isInstance
  repeat (first
    | with_reducible refine wpAny_loadPart_at made ?_
    | (with_reducible refine wpAny_isSubtype_exc hC2 ?_; rw [inC])
    | wp_step)
  show wpAny _ _ (typeLookup (.ref C) _) _ _ _
  refine li2.at (wpAny_holding (wpAny_bind (lb2.at (wpAny_bind (wpAny_call (codeAny_mono z ?_))))))
  rintro (e | _ | _ | _ | v) s' y <;> first | exact y | exact y.elim | skip
  obtain ⟨rfl, y⟩ := y
  first
    | exact wpAny_pure (wpAny_pure y)
    | (wp_walk; exact y)
theorem kw_call (F : ExcBaseFacts B newId initId tl) (same : ∀ Y : String, bm.contains (.type Y) = tl.contains (.type Y)) {rest : List Value} {kw : List (Str × Value)} {fI : Addr}
    (hC : h.get? C = some (excClassObj nm q C N bs bm hdct sn sub ab col dd k0 k1 k2 k3 k5 newId)) (li : PySem.W.Looks (model prog w) h (typeLookup (.ref C) "__init__") (some (.ref fI)))
    (lb : ∀ self, PySem.W.Looks (model prog w) h (bindSpecial (.ref fI) self) (.ref fI, [self])) (few : rest.length ≤ sizeLine)
    (z : codeAny (model prog w) (A.under (.builtin "type.__call__" ⟨.ref C :: rest, kw⟩)) (.call (.ref fI) ⟨.ref (h.objs.size + 1) :: rest, kw⟩) (PySem.W.InitBack (h.objs.size + 1) R) ⟨exLaid h C rest, g, d, t, os⟩) :
    codeAny (model prog w) A (.call (.ref C) ⟨rest, kw⟩) R ⟨h, g, d, t, os⟩ := by
  have f1 := tc_lookup
  have f2 := tc_bind (.ref C)
  have isT : (⟨h, g, d, t, os⟩ : Shared).TypeIs (.ref C) "type" := ⟨_, hC, rfl⟩
  refine codeAny_of_tree ?_
  show wpAny _ _ (callAny (.ref C) _) _ _ _
  repeat (any_goals (first
    | assumption
    | with_reducible refine wpAny_loadPart_at hC ?_
    | wp_step))
  refine ⟨rfl, codeAny_call_builtin_at (Code.quiet_builtin _ (by decide +kernel)) entry_typeCall (wpAny_check_type_call_sub hC (kw_type_call F same hC li lb few (codeAny_mono z ?_)))⟩
  rintro (e | _ | _ | _ | v) s' y <;> exact y
end
/-! ### a store into an own exception, whatever built-in class is its base -/
section
open PySem.PX Builtin Builtin.ObjectAttr
variable {prog : Program} {w : World} {A : Around} {E : Value → Shared → Prop} {R : Result → Shared → Prop} {hp : Heap} {g : Array GenState} {d : Drawn} {t : Nat} {os : OsState} {B : String} {tl : List Value} {K : PySem.W.Frag}
theorem taker_none {C : Addr} {name : Str} (no : PySem.W.findIn K (.ref C) name = some none) : PySem.W.takerIn K C name = some none := by
  unfold PySem.W.takerIn
  rw [no]
  rfl
theorem xs_first {name : Str} {tk : Tok} {v : Value} {x C : Addr} {fv : Array Value} (SF : StoreFacts B tl "object.__setattr__" "object") (X : K.In hp) (at_x : hp.get? x = some { cls := .ref C, data := .fields fv }) (ov : PySem.W.excOver K C tl = true)
    (hasD : PySem.W.hasDictIn K C = true) (no : PySem.W.findIn K (.ref C) name = some none)
    (z : ∀ h' tk' dx, (∀ b o, b ≠ x → hp.get? b = some o → h'.get? b = some o) → hp.objs.size ≤ dx → dx ≠ x → h'.get? x = some { cls := .ref C, dict := some dx, data := .fields fv } →
      h'.Ns1 dx (fun y => if y = name then some v else none) → R (.ok (.ret .none)) ⟨h', g, d, tk', os⟩) :
    codeAny (model prog w) A (.call (.builtin "object.__setattr__") ⟨[.ref x, .str name tk, v], []⟩) R ⟨hp, g, d, t, os⟩ := by
  refine PySem.W.osa_openX (od := none) SF X ⟨at_x, rfl, rfl, trivial⟩ ov (taker_none no) fun b => ?_
  obtain ⟨cd, hc, hd⟩ := PySem.W.any_some hasD
  have lk : PySem.W.Looks (model prog w) hp (classData C) cd := PySem.W.looks_clsIn X hc
  have apart : x ≠ hp.objs.size := Nat.ne_of_lt (Heap.lt_size at_x)
  show wpAny _ _ (storeInOwnDict (.ref x) (.ref C) (.str name tk) name v b) _ _ _
  obtain ⟨nm, bs, mro, ns, qn, hd1, sn, sb, ab, col, del⟩ := cd
  obtain rfl : hd1 = true := hd
  unfold storeInOwnDict ownDictForStores
  repeat (first
    | with_reducible refine store_in_new ?_ ?_
    | with_reducible refine wpAny_loadPart_at at_x ?_
    | with_reducible refine lk.at ?_
    | wp_step)
  · exact ⟨_, #[], _, (Heap.get?_update_ne _ _ _ _ apart.symm).trans (Heap.get?_push_at rfl rfl), rfl, fun e he => absurd he (by simp), fun _ => rfl⟩
  · intro h' tk' hn hs
    have x2 : (hp.push { cls := .type "dict", data := .dict #[] }).get? x = some { cls := .ref C, data := .fields fv } := Heap.get?_push_of_some _ at_x
    refine z h' tk' hp.objs.size (fun b o nb ho => ?_) (Nat.le_refl _) apart.symm ((hs.2 x apart).trans (Heap.get?_update_self _ x2 rfl)) hn
    exact (hs.2 b (Nat.ne_of_lt (Heap.lt_size ho))).trans ((Heap.get?_update_ne _ _ _ _ nb).trans (Heap.get?_push_of_some _ ho))
theorem xs_later {name : Str} {tk : Tok} {v : Value} {x C dx : Addr} {fv : Array Value} {m0 : Str → Option Value} {nl : List Str} (SF : StoreFacts B tl "object.__setattr__" "object") (X : K.In hp)
    (at_x : hp.get? x = some { cls := .ref C, dict := some dx, data := .fields fv }) (nd : hp.Ns1 dx m0) (wi : Within m0 nl) (few : nl.length ≤ 1000) (ov : PySem.W.excOver K C tl = true) (hasD : PySem.W.hasDictIn K C = true) (no : PySem.W.findIn K (.ref C) name = some none)
    (z : ∀ h' tk', (∀ b o, b ≠ dx → hp.get? b = some o → h'.get? b = some o) → h'.Ns1 dx (fun y => if y = name then some v else m0 y) → R (.ok (.ret .none)) ⟨h', g, d, tk', os⟩) :
    codeAny (model prog w) A (.call (.builtin "object.__setattr__") ⟨[.ref x, .str name tk, v], []⟩) R ⟨hp, g, d, t, os⟩ := by
  obtain ⟨oD, esD, epD, at_d, dD, _⟩ := nd.count wi
  refine PySem.W.osa_openX (od := some oD) SF X ⟨at_x, rfl, rfl, at_d⟩ ov (taker_none no) fun b => ?_
  obtain ⟨cd, hc, hd⟩ := PySem.W.any_some hasD
  have lk : PySem.W.Looks (model prog w) hp (classData C) cd := PySem.W.looks_clsIn X hc
  show wpAny _ _ (storeInOwnDict (.ref x) (.ref C) (.str name tk) name v b) _ _ _
  obtain ⟨nm, bs, mro, ns, qn, hd1, sn, sb, ab, col, del⟩ := cd
  obtain rfl : hd1 = true := hd
  unfold storeInOwnDict ownDictForStores
  repeat (first
    | with_reducible refine store_in_old nd wi few ?_
    | with_reducible refine wpAny_loadPart_at at_x ?_
    | with_reducible refine lk.at ?_
    | wp_step)
  intro h' tk' hn hs
  exact z h' tk' (fun b o nb ho => (hs.2 b nb).trans ho) hn
end
/-! ### the same over the layer: self.f = y in an own exception's __init__ -/
/-- what the written part says of an own exception class C, its __init__ at fI -/
structure XCls (K : PySem.W.Frag) (C fI : Addr) (tl : List Value) (newId : String) : Prop where
  ini : PySem.W.excInitIn K C tl newId = true
  over : PySem.W.excOver K C tl = true
  hasD : PySem.W.hasDictIn K C = true
  sa : PySem.W.findIn K (.ref C) "__setattr__" = some (some (.builtin "object.__setattr__"))
  init : PySem.W.findIn K (.ref C) "__init__" = some (some (.ref fI))
  isF : PySem.W.isFn K (.ref fI) = true
  kp : PySem.W.keepIn K (.ref C) = true
section
variable {X : Cx} {pins : List (Addr × Obj)} {σ : St} {H : Hp} {s : Shared} {a C fI dx : Addr} {f : Str} {y : V} {u : Value} {fs : List (Str × V)} {Q : Unit → Shared → Prop} {E : Value → Shared → Prop} {A : Around} {B newId : String} {tl : List Value}
theorem xset_first (SF : StoreFacts B tl "object.__setattr__" "object") (T : XCls X.K C fI tl newId) (I : Inv X pins σ H s) (ex : H a = some (exo a C none)) (no : PySem.W.findIn X.K (.ref C) f = some none) (ry : RelV y u)
    (z : ∀ dx s', H dx = none → dx ≠ a → Inv X pins σ (upd (upd H dx (exd dx [(f, y)])) a (exo a C (some dx))) s' → Q () s') : wpAny (model X.prog X.w) A (setAttr (.ref a) f u) Q E s := by
  obtain ⟨t1, ho⟩ := exo_at I.hok ex
  obtain ⟨hp, g, d, t, os⟩ := s
  refine PySem.W.set_plain I.kIn (ox := { cls := .ref C, dict := none, data := .fields #[.ref t1, .none, .none, .none, .bool false, .none] }) (od := none) ⟨ho, rfl, rfl, trivial⟩ T.sa (xs_first SF I.kIn ho T.over T.hasD no fun h' tk' dx k dn dne hx hn => ?_)
  have free : H dx = none := I.hok.fresh dn
  have old : ∀ {b : Addr} {o : Obj}, hp.get? b = some o → b ≠ dx := fun {b o} q => Nat.ne_of_lt (Nat.lt_of_lt_of_le (Heap.lt_size q) dn)
  have off : ∀ {b : Addr}, H b = none → b ≠ a := fun {b} n e => by
    subst e
    rw [n] at ex
    cases ex
  -- what is told elsewhere is told as before
  have same : ∀ {b : Addr} {o : HO}, H b = some o → o ≠ exo a C none → (upd (upd H dx (exd dx [(f, y)])) a (exo a C (some dx))) b = some o := fun {b o} q ne => by
    rw [upd_ne (at_ne ex q (Ne.symm ne)), upd_ne (ne_of_none q free)]
    exact q
  have U : Un X.fs [] H (upd (upd H dx (exd dx [(f, y)])) a (exo a C (some dx))) hp h' :=
    { keep := fun b o q n _ _ => k b o (off n) q
      slot := fun b o q n _ _ => ⟨o.slots, k b o (off n) q⟩
      free := fun b o q n _ => by
        rw [upd_ne (off n), upd_ne (old q)]
        exact n
      there := fun b o q _ => (Classical.em (b = a)).elim (fun e => ⟨_, e ▸ hx⟩) fun e => ⟨o, k b o e q⟩
      tups := fun b xs q => same q (Ne.symm exo_tup)
      frzs := fun b o v q => same q (Ne.symm exo_frz)
      tbls := fun b ps q => ⟨#[], by rw [same q (Ne.symm exo_tbl)]; simp⟩ }
  refine z dx _ free dne (I.un (t' := tk') U fun b o q => ?_)
  by_cases e1 : b = a
  · subst e1
    obtain rfl := Option.some.inj (upd_same.symm.trans q)
    exact exo_ok hx
  · rw [upd_ne e1] at q
    by_cases e2 : b = dx
    · subst e2
      obtain rfl := Option.some.inj (upd_same.symm.trans q)
      exact exd_ok hn (relO_put (fs := []) ry fun _ => True.intro)
    · rw [upd_ne e2] at q
      refine (I.hok b o q).stay (fun c v hc r => k c v ?_ r) (fun c hc => same hc (Ne.symm exo_own)) fun c xs hc => same hc (Ne.symm exo_tup)
      rcases hc with rfl | hc
      · exact e1
      · exact at_ne ex hc exo_own
theorem xset_later (SF : StoreFacts B tl "object.__setattr__" "object") (T : XCls X.K C fI tl newId) (I : Inv X pins σ H s) (ex : H a = some (exo a C (some dx))) (ed : H dx = some (exd dx fs)) (few : fs.length ≤ 900) (no : PySem.W.findIn X.K (.ref C) f = some none) (ry : RelV y u)
    (z : ∀ s', Inv X pins σ (upd H dx (exd dx ((f, y) :: fs))) s' → Q () s') : wpAny (model X.prog X.w) A (setAttr (.ref a) f u) Q E s := by
  obtain ⟨t1, ho⟩ := exo_at I.hok ex
  obtain ⟨mA, nd, rel⟩ := exd_at I.hok ed
  obtain ⟨hp, g, d, t, os⟩ := s
  obtain ⟨oD, _, _, at_d, _, _⟩ := nd.count (within_of rel)
  refine PySem.W.set_plain I.kIn (ox := { cls := .ref C, dict := some dx, data := .fields #[.ref t1, .none, .none, .none, .bool false, .none] }) (od := some oD) ⟨ho, rfl, rfl, at_d⟩ T.sa
    (xs_later SF I.kIn ho nd (within_of rel) (by rw [List.length_map]; omega) T.over T.hasD no fun h' tk' k hn => z _ (I.write (t' := tk') (x := dx) (e := dx) (o := exd dx ((f, y) :: fs)) (by rw [ed]; exact True.intro) (.inl rfl) k ?_ (exd_ok hn (relO_put ry rel))))
  obtain ⟨o, _, _, e, _⟩ := hn
  exact ⟨o, e⟩
end
/-- self.f = e, in an __init__ of an own exception class -/
def tXst (K : PySem.W.Frag) (tl : List Value) (newId : String) (f : Str) (to te : TE) : TS := fun D σ H => te σ H fun y H1 => to σ H1 fun x H2 => ∃ a C fI : Addr, x = .ref a ∧ XCls K C fI tl newId ∧ PySem.W.findIn K (.ref C) f = some none ∧
  ((H2 a = some (exo a C none) ∧ ∀ dx, H2 dx = none → dx ≠ a → D.nx σ (upd (upd H2 dx (exd dx [(f, y)])) a (exo a C (some dx)))) ∨
    ∃ (dx : Addr) (fs : List (Str × V)), H2 a = some (exo a C (some dx)) ∧ H2 dx = some (exd dx fs) ∧ fs.length ≤ 900 ∧ D.nx σ (upd H2 dx (exd dx ((f, y) :: fs))))
theorem ps_xst {X : Cx} {o e : Expr} {to te : TE} {f : Str} {p' pos : Pos} {B newId : String} {tl : List Value} (SF : StoreFacts B tl "object.__setattr__" "object") (ho : PE X o to) (he : PE X e te) (hs : swapsWith e (some (.Attribute o f p')) pos.line X.env = pure false := by rfl) :
    PS X (.Assign [.Attribute o f p'] e pos) (tXst X.K tl newId f to te) := by
  refine ⟨fun pins s σ H D I h => PySem.plainObj_wpAny_Assign_Attribute (thn (he.run pins s σ H _ I h) fun v s1 ⟨y, H1, I1, r1, q1⟩ => thn (ho.run pins s1 σ H1 _ I1 q1) fun u s2 ⟨x, H2, I2, r2, a, C, fI, ex, T, no, q⟩ => ?_) hs⟩
  subst ex
  obtain rfl : u = Value.ref a := r2
  rcases q with ⟨ea, q⟩ | ⟨dx, fs, ea, ed, few, q⟩
  · exact xset_first SF T I2 ea no r1 fun dx s' n ne J => ⟨σ, _, J, q dx n ne⟩
  · exact xset_later SF T I2 ea ed few no r1 fun s' J => ⟨σ, _, J, q⟩
/-! ### an own exception made as a value, its fields read, isinstance of it, repr -/
/-- C(.. by place .., .. by name ..) of an own exception class: a new exception, then its __init__ -/
def tXmk (C : Addr) (n m : Nat) (sp : Sp) (gV : List V → List V → List V) (t tk : TA) : TE := fun σ H Q => t σ H fun vs H1 => tk σ H1 fun zs H2 => vs.length = n ∧ zs.length = m ∧ vs.length ≤ 1000 ∧
  ∀ a, H2 a = none → sp (gV (.ref a :: vs) zs) (upd H2 a (exo a C none)) (fun v H3 => v = .non ∧ Q (.ref a) H3) E0
section
variable {X : Cx} {k n : Nat} {fI C : Addr} {fd : FuncData} {ps ks : List Str} {sp : Sp} {x : Str} {p pos : Pos} {e : Expr} {es : List Expr} {kws : List Keyword} {t tk : TA} {g : List Value → List Value → List Value} {gV : List V → List V → List V} {B newId initId : String} {tl : List Value}
theorem run_xmk {pins : List (Addr × Obj)} {σ : St} {H : Hp} {s : Shared} {Q : VK} {us ws : List Value} {vs zs : List V} (FB : ExcBaseFacts B newId initId tl) (T : XCls X.K C fI tl newId) (F : FnOk X.prog X.w X.K X.mg X.base CX0 k fI fd ps sp) (hr : Room (k + 1) X.A)
    (hb : KBn X.K fd ps (n + 1) ks g gV) (I : Inv X pins σ H s) (r : Vals vs us) (rz : Vals zs ws) (l1 : vs.length = n) (l2 : zs.length = ks.length) (few : vs.length ≤ 1000)
    (z : ∀ a, H a = none → sp (gV (.ref a :: vs) zs) (upd H a (exo a C none)) (fun v H3 => v = .non ∧ Q (.ref a) H3) E0) : wpAny (model X.prog X.w) X.A (call (.ref C) us (ks.zip ws)) (EP X pins σ Q) X.xe s := by
  obtain ⟨hp, gs, dr, tk, os⟩ := s
  obtain ⟨nm, N, qn, bs, bm, hdct, sn, sub, ab, col, dd, k0, k1, k2, k3, k5, hC, same⟩ := PySem.W.excInit_of I.kIn T.ini
  have up : hp.objs.size ≤ hp.objs.size + 1 := Nat.le_succ _
  have hq := z (hp.objs.size + 1) (I.hok.fresh up)
  have stay : ∀ b o, hp.get? b = some o → (exLaid hp C us).get? b = some o := fun b o q => Heap.get?_push_of_some _ (Heap.get?_push_of_some _ q)
  have made : (exLaid hp C us).get? (hp.objs.size + 1) = some { cls := .ref C, data := .fields #[.ref hp.objs.size, .none, .none, .none, .bool false, .none] } := by
    unfold exLaid
    heap_get
  have I2 : Inv X pins σ (upd H (hp.objs.size + 1) (exo (hp.objs.size + 1) C none)) ⟨exLaid hp C us, gs, dr, tk, os⟩ := I.laid (t' := tk) stay up (exo_ok made)
  have r1 : Vals (V.ref (hp.objs.size + 1) :: vs) (Value.ref (hp.objs.size + 1) :: us) := .cons rfl r
  have n1 : (Value.ref (hp.objs.size + 1) :: us).length = n + 1 := by
    rw [List.length_cons, ← r.length, l1]
  have fewU : us.length ≤ sizeLine := by
    rw [← r.length]
    exact Nat.le_trans few (by decide)
  obtain ⟨oI, at_I, isI⟩ : ∃ oI, hp.get? fI = some oI ∧ oI.cls = .type "function" := by
    obtain ⟨o, q, c⟩ := Option.map_eq_some_iff.mp (show (X.K.lookup fI).map (·.cls) = some (.type "function") from beq_iff_eq.mp T.isF)
    exact ⟨o, I.kIn _ _ q, c⟩
  refine wpAny_call (kw_call FB same hC (PySem.W.looks_findIn I.kIn T.init) (fun self => PySem.W.exc_bind at_I isI self) fewU (codeAny_mono (F.run _ X.stack _ _ ⟨Value.ref (hp.objs.size + 1) :: us, ks.zip ws⟩ (g (Value.ref (hp.objs.size + 1) :: us) ws) _ _ E0
    (hr.make C us (ks.zip ws)) (I2.env0.make C us (ks.zip ws)) (hb.to _ (Value.ref (hp.objs.size + 1) :: us) ws I2.kIn n1 (rz.length.symm.trans l2)) (hb.rel r1 rz) hq) ?_))
  rintro (er | _ | _ | _ | u) s' q
  · exact q.elim
  · exact q.elim
  · exact q.elim
  · exact q.elim
  · obtain ⟨v, H3, I3, rv, ev, q3⟩ := I2.after q
    subst ev
    exact ⟨rv, ⟨V.ref (hp.objs.size + 1), H3, I3, rfl, q3⟩⟩
/-- C(e, ..) -/
theorem pe_xmk (FB : ExcBaseFacts B newId initId tl) (T : XCls X.K C fI tl newId) (F : FnOk X.prog X.w X.K X.mg X.base CX0 k fI fd ps sp) (hr : Room (k + 1) X.A) (hg : Gl X x) (hm : X.mg x = some (.ref C)) (hb : KBn X.K fd ps (n + 1) [] g gV) (ha : PA X (e :: es) t)
    (hdb : (x == ("__debug__" : Str)) = false := by decide) (he : starEach (e :: es) X.env = (false, eval e X.env) :: starEach es X.env := by rfl) (hpl : (backTo pos (starEach es X.env)).any (·.1) = false := by rfl) :
    PE X (.Call (.Name x p) (e :: es) [] pos) (tXmk C n 0 sp gV t tNil) :=
  ⟨fun pins s σ H Q I h => wpAny_Call_Name_kw (ld_glob I hg hm (PySem.W.callWith_K (h₀ := X.base) I.ok.mod.kin T.kp (thn (ha.run pos pins s σ H _ I h) fun us s1 ⟨vs, H1, I1, r, l1, l2, l3, q⟩ => ⟨I1.kIn, run_xmk (ws := []) FB T F hr hb I1 r .nil l1 rfl l3 q⟩) he hpl) hdb)⟩
/-- C() -/
theorem pe_xmk0 (FB : ExcBaseFacts B newId initId tl) (T : XCls X.K C fI tl newId) (F : FnOk X.prog X.w X.K X.mg X.base CX0 k fI fd ps sp) (hr : Room (k + 1) X.A) (hg : Gl X x) (hm : X.mg x = some (.ref C)) (hb : KBn X.K fd ps 1 [] g gV)
    (hdb : (x == ("__debug__" : Str)) = false := by decide) : PE X (.Call (.Name x p) [] [] pos) (tXmk C 0 0 sp gV tNil tNil) :=
  ⟨fun pins s σ H Q I h => wpAny_Call_Name_kw (ld_glob I hg hm (PySem.W.callWith_K0 I.kIn T.kp (run_xmk (us := []) (vs := []) (ws := []) (zs := []) FB T F hr hb I .nil .nil rfl rfl (Nat.zero_le _) h.2.2.2)) hdb)⟩
/-- C(k = e, ..) -/
theorem pe_xmkK (FB : ExcBaseFacts B newId initId tl) (T : XCls X.K C fI tl newId) (F : FnOk X.prog X.w X.K X.mg X.base CX0 k fI fd ps sp) (hr : Room (k + 1) X.A) (hg : Gl X x) (hm : X.mg x = some (.ref C)) (hb : KBn X.K fd ps 1 ks g gV) (hkw : PK X kws tk)
    (hall : (backToKw pos (keywordEach kws X.env)).all (·.1.isSome) = true := by rfl) (hks : (backToKw pos (keywordEach kws X.env)).filterMap (·.1) = ks := by rfl) (hdb : (x == ("__debug__" : Str)) = false := by decide)
    (hpl : ((backTo pos (starEach [] X.env)).any (·.1) || (backToKw pos (keywordEach kws X.env)).any (·.1.isNone)) = false := by rfl) : PE X (.Call (.Name x p) [] kws pos) (tXmk C 0 ks.length sp gV tNil tk) := by
  refine ⟨fun pins s σ H Q I h => wpAny_Call_Name_kw (ld_glob I hg hm (PySem.W.callWith_KW0 (h₀ := X.base) I.ok.mod.kin T.kp hall (thn (hkw.run pos pins s σ H _ I h) fun ws s2 ⟨zs, H2, I2, rz, l1, l2, l3, q2⟩ => ⟨I2.kIn, ?_⟩) hpl) hdb)⟩
  rw [hks]
  exact run_xmk (us := []) (vs := []) FB T F hr hb I2 .nil rz rfl l2 l3 q2
end
/-- what is asked of an own exception class so that its fields are read and isinstance answers -/
structure XLook (K : PySem.W.Frag) (C : Addr) : Prop where
  xf : XfC K C
  ex : ExcC K C
/-- e.f of an own exception -/
def tXfd (K : PySem.W.Frag) (f : Str) (te : TE) : TE := fun σ H Q => te σ H fun x H1 => ∃ (a C d : Addr) (fs : List (Str × V)) (v : V), x = .ref a ∧ XLook K C ∧ PySem.W.findIn K (.ref C) f = some none ∧ H1 a = some (exo a C (some d)) ∧ H1 d = some (exd d fs) ∧ fs.lookup f = some v ∧ Q v H1
theorem pe_xfd {X : Cx} {e : Expr} {te : TE} {pos : Pos} {f : Str} (he : PE X e te) (hb : attributeBase e f X.env (eval e X.env) = eval e X.env := by rfl) : PE X (.Attribute e f pos) (tXfd X.K f te) := by
  refine ⟨fun pins s σ H Q I h => attr_of hb (thn (he.run pins s σ H _ I h) fun u s1 ⟨x, H1, I1, rx, a, C, d, fs, v, ex, T, no, ea, ed, l, q⟩ => ?_)⟩
  subst ex
  obtain rfl : u = Value.ref a := rx
  obtain ⟨t1, ha⟩ := exo_at I1.hok ea
  obtain ⟨mA, hns, hr⟩ := exd_at I1.hok ed
  obtain ⟨od, ho, hl⟩ := lookIn_ns hns
  obtain ⟨u, hu, ru⟩ := RelO.some_of (v := v) (o := mA f) (by rw [← l]; exact hr f)
  exact HandSPX.exc_get I1.kIn ⟨ha, rfl, rfl, ho⟩ T.xf.ga T.xf.gg T.xf.exC (PySem.W.findObj_own T.xf.hdC no rfl (by rw [hl, hu])) (handed_of ru) ⟨v, H1, I1.tok _, ru, q⟩
/-- isinstance(e, c) of an own exception -/
def rIsX (K : PySem.W.Frag) : List V → Hp → VK → Prop := fun xs H Q => ∃ (a D : Addr) (d : Option Addr) (c : V) (cv : Value) (b : Bool), xs = [.ref a, c] ∧ ExcC K D ∧ (H a = some (exo a D d) ∧ ∀ dd, d = some dd → ∃ fs, H dd = some (exd dd fs)) ∧ ClsV c cv ∧
  PySem.W.kitOne K (.ref D) cv = some b ∧ Q (.bl b) H
theorem call_isX {X : Cx} : CallR X (.builtin "isinstance") (rIsX X.K) := by
  intro pins s σ H xs us Q I r h
  obtain ⟨a, D, d, c, cv, b, rfl, T, ⟨ea, ed⟩, hc, hk, q⟩ := h
  obtain ⟨u1, u2, rfl, r1, r2⟩ := vals2 r
  obtain rfl : u1 = Value.ref a := r1
  obtain rfl := hc.eq r2
  obtain ⟨t1, ha⟩ := exo_at I.hok ea
  have cl : (PySem.W.clsIn X.K D).isSome = true := by
    obtain ⟨cd, hc, _⟩ := PySem.W.any_some T.hd
    rw [hc]
    rfl
  have J : ∃ od, PySem.W.InstAt s.heap a { cls := .ref D, dict := d, data := .fields #[.ref t1, .none, .none, .none, .bool false, .none] } D od := by
    cases d with
    | none => exact ⟨none, ha, rfl, rfl, trivial⟩
    | some dd =>
      obtain ⟨fs, e⟩ := ed dd rfl
      obtain ⟨mA, hns, _⟩ := exd_at I.hok e
      obtain ⟨od, ho, _⟩ := lookIn_ns hns
      exact ⟨some od, ha, rfl, rfl, ho⟩
  obtain ⟨od, J⟩ := J
  exact PySem.W.kia_one (PySem.W.kitx_exc (od := od) cl T.hg T.hk T.hs T.ha T.hn T.ht T.hm) I.kIn J hk (fun z => nomatch z) fun tk => ⟨.bl b, H, I.tok tk, rfl, q⟩
/-- v is read as the data d -/
def Rds (X : Cx) (H : Hp) (v : V) (d : PyData) : Prop := ∀ (pins : List (Addr × Obj)) (σ : St) (s : Shared) (u : Value), Inv X pins σ H s → RelV v u → ∃ as, Reads s.heap u d as ∧ (d.hasDict = true → sysModules ∉ as)
theorem Rds.of {X : Cx} {H : Hp} {v : V} {d : PyData} (h : Dp X.K H v d) (n : d.hasDict = false) : Rds X H v d := fun pins σ s u I r => by
  obtain ⟨as, q⟩ := Dp.reads I d v u h r
  exact ⟨as, q, fun z => by rw [n] at z; cases z⟩
theorem call_repr {X : Cx} (hG : X.A.guards = some []) (hu : X.A.units + 64 < cLine) : CallR X (.builtin "repr") (fun xs H Q => ∃ v d, xs = [v] ∧ Rds X H v d ∧ d.showable = true ∧ d.depth + 1 ≤ 64 ∧ d.shown.length ≤ sizeLine ∧ Q (.str d.shown) H) := by
  intro pins s σ H xs us Q I r h
  obtain ⟨v, d, rfl, hv, sh, dp, sz, q⟩ := h
  obtain ⟨u, rfl, ru⟩ := vals1 r
  obtain ⟨as, rd, nos⟩ := hv pins σ s u I ru
  cases rd with
  | none => exact PySem.P.repr_of_none ⟨.str _, H, I.tok _, ⟨_, rfl⟩, q⟩
  | bool b => exact PySem.P.repr_of_bool ⟨.str _, H, I.tok _, ⟨_, rfl⟩, by cases b <;> exact q⟩
  | int i t => exact PySem.P.repr_of_int (of_decide_eq_true sh) ⟨.str _, H, I.tok _, ⟨_, rfl⟩, q⟩
  | str y t => exact PySem.P.repr_of_str ⟨.str _, H, I.tok _, ⟨_, rfl⟩, q⟩ sz
  | list h1 h2 h3 h4 => exact PySem.repr_of_reads' (.list h1 h2 h3 h4) sh nos hG (by omega) (fun _ _ z => z) (fun h' u tk kk => ⟨.str _, H, I.kept kk, ⟨_, rfl⟩, q⟩) sz
  | tuple h1 h2 h3 h4 => exact PySem.repr_of_reads' (.tuple h1 h2 h3 h4) sh nos hG (by omega) (fun _ _ z => z) (fun h' u tk kk => ⟨.str _, H, I.kept kk, ⟨_, rfl⟩, q⟩) sz
  | dict h1 h2 h3 h4 h5 => exact PySem.repr_of_reads' (.dict h1 h2 h3 h4 h5) sh nos hG (by omega) (fun _ _ z => z) (fun h' u tk kk => ⟨.str _, H, I.kept kk, ⟨_, rfl⟩, q⟩) sz
/-! ### lists that are made anew do not lie where sys.modules lies -/
section
variable {X : Cx}
theorem above {pins : List (Addr × Obj)} {σ : St} {H : Hp} {s : Shared} (I : Inv X pins σ H s) : s.heap.objs.size ≠ sysModules := by
  have h1 : (3 : Nat) < X.base.objs.size := I.ok.mod.glob.lt
  have h2 : X.base.objs.size ≤ X.s_0.heap.objs.size := I.ok.bsz
  have h3 : X.s_0.heap.objs.size ≤ s.heap.objs.size := I.sz
  show s.heap.objs.size ≠ 1
  omega
def rCatS : R2 := fun x y H Q => ∃ l b xs zs, x = .ref l ∧ y = .ref b ∧ H l = some (.lst xs) ∧ H b = some (.lst zs) ∧ xs.length + zs.length ≤ sizeLine ∧ ∀ p, H p = none → p ≠ sysModules → Q (.ref p) (upd H p (.lst (xs ++ zs)))
theorem op_catS : OpR X (binaryOp .Add) rCatS := by
  rintro pins s σ H x y v u Q I rx ry ⟨l, b, xs, zs, rfl, rfl, hl, hb, few, q⟩
  cases rx
  cases ry
  obtain ⟨_, its, n, r, n1, at_l⟩ := I.lstM hl
  obtain ⟨_, jts, m, t, n2, at_b⟩ := I.lstM hb
  refine PySem.P.add_list at_l at_b ?_ (by simp only [List.size_toArray]; omega)
  rw [show its.toArray ++ jts.toArray = (its ++ jts).toArray by simp]
  exact ⟨.ref _, _, I.lnew (t' := s.toks) (r.append t) (by rw [List.length_append]; exact few), rfl, q _ I.fresh (above I)⟩
def rRepS : R2 := fun x y H Q => ∃ l k xs, x = .ref l ∧ y = .int k ∧ H l = some (.lst xs) ∧ -(2 ^ 63) ≤ k ∧ k < 2 ^ 63 ∧ xs.length * k.toNat ≤ sizeLine ∧
  ∀ p, H p = none → p ≠ sysModules → Q (.ref p) (upd H p (.lst (List.replicate k.toNat xs).flatten))
theorem op_repS : OpR X (binaryOp .Mult) rRepS := by
  rintro pins s σ H x y v u Q I rx ry ⟨l, k, xs, rfl, rfl, hl, lo, hi, few, q⟩
  cases rx
  obtain ⟨t, rfl⟩ := ry
  obtain ⟨_, its, n, r, n1, at_l⟩ := I.lstM hl
  have fewI : its.toArray.size * k.toNat ≤ sizeLine := by
    rw [List.size_toArray, ← n1]
    exact few
  have cap : ¬ its.toArray.size * k.toNat > (2 ^ 63 - 1) / 8 := Nat.not_lt.mpr (Nat.le_trans fewI (by decide))
  have fit : ¬ (!Builtin.List.listFitsIndex k) = true := by simp [fitsIndex_both lo hi]
  have long : ¬ Builtin.List.listTooLong (its.toArray.size * k.toNat) = true := by
    rw [notLongL fewI]
    exact Bool.false_ne_true
  have made : List.foldl (fun a b => a ++ b) #[] (List.replicate (if its.toArray.isEmpty = true then 0 else k.toNat) its.toArray) = (List.replicate k.toNat its).flatten.toArray := by
    have all := fun j : Nat => foldl_rep its j []
    simp only [List.nil_append] at all
    cases its with
    | nil => simpa using all 0
    | cons a r2 => exact (by simpa using all k.toNat)
  refine PySem.wpAny_binaryOp_repeat_ref (T := "list") (U := "int") (by decide) ⟨_, at_l, rfl⟩ (fun s' => typeIs_int s' k t) PySem.noFill_list_mul F.fills_int_mul F.slot_int_rmul PySem.repeat_list F.slot_int_index.lookup ?_
  refine PySem.call_meets F.slot_int_rmul (typeIs_int s k t) F.entry_int_rmul (F.args_int_rmul_2 _ _) (PySem.int___rmul___int_list k t l its.toArray n) ⟨at_l, rfl, ⟨_, at_l, rfl⟩, ?_⟩
  refine PySem.call_meets F.slot_list_mul ⟨_, at_l, rfl⟩ F.entry_list_mul (F.args_list_mul_2 _ _) (AutoListH.list___mul___list_int_3 l its.toArray n k t fit cap long) ⟨at_l, ?_⟩
  rw [made]
  exact ⟨.ref _, _, I.lnew (t' := s.toks) (r.rep k.toNat) (by rw [PyProof.Rows.lm_len_rep_flat, Nat.mul_comm]; exact few), rfl, q _ I.fresh (above I)⟩
end
/-! ### data that are read, a dict without pairs among them -/
/-- v is the data d: none, bools, ints, texts, lists, tuples of these, or a dict without pairs -/
inductive De (K : PySem.W.Frag) (H : Hp) : V → PyData → Prop
  | dp {v : V} {d : PyData} (h : Dp K H v d) (n : d.hasDict = false) : De K H v d
  | dic {a : Addr} (h : H a = some (.dK [])) : De K H (.ref a) (.dict [])
theorem De.rds {X : Cx} {H : Hp} {v : V} {d : PyData} (h : De X.K H v d) : Rds X H v d := by
  cases h with
  | dp h n => exact Rds.of h n
  | @dic a h =>
    intro pins σ s u I r
    obtain rfl : u = Value.ref a := r
    obtain ⟨_, low, vs, kv, o, es, ep, at_a, ex, dd, _, pr, _⟩ := (show ObjOk X.prog X.w H s.heap a (.dK []) from I.hok a _ h)
    cases kv
    have e0 : es.toList = [] := by cases e : es.toList with
      | nil => rfl
      | cons z r =>
        rw [e] at pr
        cases pr
    refine ⟨_, .dict (kvs := []) at_a ex.1 dd (by rw [e0]; exact .nil) (by rw [e0]; exact .nil), fun _ m => ?_⟩
    have m2 : sysModules = a := by simpa using m
    rw [← m2] at low
    exact absurd low (by decide)
/-! ### own exception classes whose __init__ stores its parameters -/
/-- an exception of the class C stands at a; its dict holds fs -/
def Ex (H : Hp) (a C : Addr) (fs : List (Str × V)) : Prop := ∃ d, H a = some (exo a C (some d)) ∧ H d = some (exd d fs)
/-- all but a stays -/
abbrev Near (a : Addr) (H H' : Hp) : Prop := ∀ b o, H b = some o → b ≠ a → H' b = some o
def sp1 (f : Str) (C : Addr) : Sp := fun vs H Q _ => ∃ (a : Addr) (v : V), vs = [.ref a, v] ∧ H a = some (exo a C none) ∧ ∀ H', Near a H H' → Ex H' a C [(f, v)] → Q .non H'
def sp2 (f g : Str) (C : Addr) : Sp := fun vs H Q _ => ∃ (a : Addr) (v u : V), vs = [.ref a, v, u] ∧ H a = some (exo a C none) ∧ ∀ H', Near a H H' → Ex H' a C [(g, u), (f, v)] → Q .non H'
def sp0 (C : Addr) : Sp := fun vs H Q _ => ∃ a : Addr, vs = [.ref a] ∧ H a = some (exo a C none) ∧ Q .non H
/-- the class x of the module, at C, is made with n values by place or by the names ks, the last one first -/
def XOk (P : Program) (w : World) (K : PySem.W.Frag) (mg : Str → Option Value) (base : Heap) (x : Str) (C : Addr) (n : Nat) (ps ks : List Str) (sp : Sp) : Prop :=
  ∃ (fI : Addr) (fd : FuncData) (B newId initId : String) (tl : List Value), ExcBaseFacts B newId initId tl ∧ XCls K C fI tl newId ∧ mg x = some (.ref C) ∧ FnOk P w K mg base CX0 1 fI fd ps sp ∧
    KBn K fd ps (n + 1) [] (fun us _ => us) (fun vs _ => vs) ∧ KBn K fd ps 1 ks (fun us ws => us ++ ws.reverse) (fun vs zs => vs ++ zs.reverse)
section
variable {X : Cx} {n : Nat} {C : Addr} {ps ks : List Str} {sp : Sp} {x : Str} {p pos : Pos} {e : Expr} {es : List Expr} {kws : List Keyword} {t tk : TA}
theorem pe_xV (o : XOk X.prog X.w X.K X.mg X.base x C n ps ks sp) (hr : Room 2 X.A) (hg : Gl X x) (ha : PA X (e :: es) t) (hdb : (x == ("__debug__" : Str)) = false := by decide) (he : starEach (e :: es) X.env = (false, eval e X.env) :: starEach es X.env := by rfl)
    (hpl : (backTo pos (starEach es X.env)).any (·.1) = false := by rfl) : PE X (.Call (.Name x p) (e :: es) [] pos) (tXmk C n 0 sp (fun vs _ => vs) t tNil) := by
  obtain ⟨fI, fd, B, newId, initId, tl, FB, T, m, F, b, _⟩ := o
  exact pe_xmk FB T F hr hg m b ha hdb he hpl
theorem pe_xV0 (o : XOk X.prog X.w X.K X.mg X.base x C 0 ps ks sp) (hr : Room 2 X.A) (hg : Gl X x) (hdb : (x == ("__debug__" : Str)) = false := by decide) : PE X (.Call (.Name x p) [] [] pos) (tXmk C 0 0 sp (fun vs _ => vs) tNil tNil) := by
  obtain ⟨fI, fd, B, newId, initId, tl, FB, T, m, F, b, _⟩ := o
  exact pe_xmk0 FB T F hr hg m b hdb
theorem pe_xVK (o : XOk X.prog X.w X.K X.mg X.base x C n ps ks sp) (hr : Room 2 X.A) (hg : Gl X x) (hkw : PK X kws tk) (hall : (backToKw pos (keywordEach kws X.env)).all (·.1.isSome) = true := by rfl) (hks : (backToKw pos (keywordEach kws X.env)).filterMap (·.1) = ks := by rfl)
    (hdb : (x == ("__debug__" : Str)) = false := by decide) (hpl : ((backTo pos (starEach [] X.env)).any (·.1) || (backToKw pos (keywordEach kws X.env)).any (·.1.isNone)) = false := by rfl) :
    PE X (.Call (.Name x p) [] kws pos) (tXmk C 0 ks.length sp (fun vs zs => vs ++ zs.reverse) tNil tk) := by
  obtain ⟨fI, fd, B, newId, initId, tl, FB, T, m, F, _, b⟩ := o
  exact pe_xmkK FB T F hr hg m b hkw hall hks hdb hpl
end
theorem Near.up {a : Addr} {o : HO} {H H' : Hp} (n : H a = none) (h : Near a (upd H a o) H') : Same H H' := fun b u e => h b u (by rw [upd_ne (ne_of_none e n)]; exact e) (ne_of_none e n)
section
variable {H : Hp} {Q : VK} {C : Addr} {f g : Str} {v u : V}
theorem mk1 (z : ∀ a H', H a = none → Same H H' → Ex H' a C [(f, v)] → Q (.ref a) H') : ([v] : List V).length = 1 ∧ ([] : List V).length = 0 ∧ ([v] : List V).length ≤ 1000 ∧ ∀ a, H a = none → sp1 f C ((fun vs _ => vs) (.ref a :: [v]) ([] : List V)) (upd H a (exo a C none)) (fun v H3 => v = .non ∧ Q (.ref a) H3) E0 :=
  ⟨rfl, rfl, by show 1 ≤ 1000; decide, fun a n => ⟨a, v, rfl, upd_same, fun H' k x => ⟨rfl, z a H' n (Near.up n k) x⟩⟩⟩
theorem mk1K (z : ∀ a H', H a = none → Same H H' → Ex H' a C [(f, v)] → Q (.ref a) H') : ([] : List V).length = 0 ∧ ([v] : List V).length = 1 ∧ ([] : List V).length ≤ 1000 ∧ ∀ a, H a = none → sp1 f C ((fun vs zs => vs ++ zs.reverse) (.ref a :: []) ([v] : List V)) (upd H a (exo a C none)) (fun v H3 => v = .non ∧ Q (.ref a) H3) E0 :=
  ⟨rfl, rfl, by decide, fun a n => ⟨a, v, rfl, upd_same, fun H' k x => ⟨rfl, z a H' n (Near.up n k) x⟩⟩⟩
theorem mk2 (z : ∀ a H', H a = none → Same H H' → Ex H' a C [(g, u), (f, v)] → Q (.ref a) H') : ([v, u] : List V).length = 2 ∧ ([] : List V).length = 0 ∧ ([v, u] : List V).length ≤ 1000 ∧ ∀ a, H a = none → sp2 f g C ((fun vs _ => vs) (.ref a :: [v, u]) ([] : List V)) (upd H a (exo a C none)) (fun v H3 => v = .non ∧ Q (.ref a) H3) E0 :=
  ⟨rfl, rfl, by show 2 ≤ 1000; decide, fun a n => ⟨a, v, u, rfl, upd_same, fun H' k x => ⟨rfl, z a H' n (Near.up n k) x⟩⟩⟩
theorem mk2K (z : ∀ a H', H a = none → Same H H' → Ex H' a C [(g, u), (f, v)] → Q (.ref a) H') : ([] : List V).length = 0 ∧ ([u, v] : List V).length = 2 ∧ ([] : List V).length ≤ 1000 ∧ ∀ a, H a = none → sp2 f g C ((fun vs zs => vs ++ zs.reverse) (.ref a :: []) ([u, v] : List V)) (upd H a (exo a C none)) (fun v H3 => v = .non ∧ Q (.ref a) H3) E0 :=
  ⟨rfl, rfl, by decide, fun a n => ⟨a, v, u, rfl, upd_same, fun H' k x => ⟨rfl, z a H' n (Near.up n k) x⟩⟩⟩
theorem mk0 (z : ∀ a H', H a = none → Same H H' → H' a = some (exo a C none) → Q (.ref a) H') : ([] : List V).length = 0 ∧ ([] : List V).length = 0 ∧ ([] : List V).length ≤ 1000 ∧ ∀ a, H a = none → sp0 C ((fun vs _ => vs) (.ref a :: []) ([] : List V)) (upd H a (exo a C none)) (fun v H3 => v = .non ∧ Q (.ref a) H3) E0 :=
  ⟨rfl, rfl, by decide, fun a n => ⟨a, rfl, upd_same, rfl, z a _ n (fun b o e => by rw [upd_ne (ne_of_none e n)]; exact e) upd_same⟩⟩
end
/-- the bodies self.f = f and self.f = f; self.g = g -/
theorem ex_first {H : Hp} {Q : VK} {a C : Addr} {f : Str} {v : V} (ha : H a = some (exo a C none)) (q : ∀ H', Near a H H' → Ex H' a C [(f, v)] → Q .non H') : ∀ dx, H dx = none → dx ≠ a → Q .non (upd (upd H dx (exd dx [(f, v)])) a (exo a C (some dx))) := fun dx n ne =>
  q _ (fun b o e nb => by rw [upd_ne nb, upd_ne (ne_of_none e n)]; exact e) ⟨dx, upd_same, by rw [upd_ne ne, upd_same]⟩
theorem ex_next {H : Hp} {Q : VK} {a C dx : Addr} {f g : Str} {v u : V} (ha : H a = some (exo a C none)) (n : H dx = none) (ne : dx ≠ a) (q : ∀ H', Near a H H' → Ex H' a C [(g, u), (f, v)] → Q .non H') :
    Q .non (upd (upd (upd H dx (exd dx [(f, v)])) a (exo a C (some dx))) dx (exd dx ((g, u) :: [(f, v)]))) :=
  q _ (fun b o e nb => by rw [upd_ne (ne_of_none e n), upd_ne nb, upd_ne (ne_of_none e n)]; exact e) ⟨dx, by rw [upd_ne ne.symm, upd_same], upd_same⟩
/-! ### a list of one value so many times, shown -/
theorem Rds.rep {X : Cx} {H : Hp} {v : V} {d : PyData} {p : Addr} {n : Nat} (h : H p = some (.lst (List.replicate n v))) (np : p ≠ sysModules) (hv : De X.K H v d) : Rds X H (.ref p) (.list (List.replicate n d)) := by
  intro pins σ s u I r
  obtain rfl : u = Value.ref p := r
  obtain ⟨_, its, m, rv, at_p⟩ := (show ObjOk X.prog X.w H s.heap p (.lst (List.replicate n v)) from I.hok p _ h)
  have all : ∀ (n : Nat) (its : List Value), Vals (List.replicate n v) its → ∃ as, ReadsAll s.heap its (List.replicate n d) as ∧ (d.hasDict = true → sysModules ∉ as) := by
    intro n
    induction n with
    | zero =>
      intro its z
      cases z
      exact ⟨[], .nil, fun _ m => nomatch m⟩
    | succ n ih =>
      intro its z
      cases z with
      | cons r1 r2 =>
        obtain ⟨as, q1, n1⟩ := hv.rds pins σ s _ I r1
        obtain ⟨bs, q2, n2⟩ := ih _ r2
        exact ⟨as ++ bs, .cons q1 q2, fun e m => (List.mem_append.mp m).elim (n1 e) (n2 e)⟩
  obtain ⟨as, q, no⟩ := all n its rv
  refine ⟨_, .list at_p rfl rfl (by simpa using q), fun e m => ?_⟩
  rcases List.mem_cons.mp m with z | z
  · exact np z.symm
  · have hd : d.hasDict = true := by
      have key : ∀ k : Nat, PyData.hasDictAll (List.replicate k d) = true → d.hasDict = true := fun k => by
        induction k with
        | zero => intro z; cases z
        | succ k ih =>
          intro z
          rw [List.replicate_succ] at z
          have z2 : (d.hasDict || PyData.hasDictAll (List.replicate k d)) = true := by simpa [PyData.hasDictAll] using z
          rcases Bool.or_eq_true_iff.mp z2 with z2 | z2
          · exact z2
          · exact ih z2
      exact key n (by simpa [PyData.hasDict] using e)
    exact no hd z
theorem rep_show {d : PyData} {n : Nat} (sh : d.showable = true) : (PyData.list (List.replicate n d)).showable = true := by
  have key : ∀ k : Nat, PyData.showableAll (List.replicate k d) = true := fun k => by
    induction k with
    | zero => rfl
    | succ k ih => rw [List.replicate_succ, PyData.showableAll, sh, ih]; rfl
  rw [PyData.showable]
  exact key n
theorem rep_depth {d : PyData} {n k : Nat} (h : d.depth ≤ k) : (PyData.list (List.replicate n d)).depth ≤ k + 1 := by
  have key : ∀ m : Nat, PyData.depthAll (List.replicate m d) ≤ k := fun m => by
    induction m with
    | zero => exact Nat.zero_le _
    | succ m ih =>
      rw [List.replicate_succ, PyData.depthAll]
      exact Nat.max_le.mpr ⟨h, ih⟩
  rw [PyData.depth]
  have := key n
  omega
theorem rep_size {d : PyData} {n k : Nat} (h : d.shown.length ≤ k) : (PyData.list (List.replicate n d)).shown.length ≤ n * (k + 2) + 3 := by
  have all : ∀ m : Nat, PyData.shownAll (List.replicate m d) = List.replicate m d.shown := fun m => by
    induction m with
    | zero => rfl
    | succ m ih => rw [List.replicate_succ, PyData.shownAll, ih, List.replicate_succ]
  have e := listText_len_le (List.replicate n d.shown)
  rw [PyData.shown, all]
  simp only [List.map_replicate, List.sum_replicate_nat, List.length_replicate] at e
  have : n * d.shown.length ≤ n * k := Nat.mul_le_mul_left n h
  rw [Nat.mul_add]
  omega
/-! ### raise of own exceptions, whatever built-in class is their base -/
def sp1n (f : Str) (C : Addr) : Sp := fun vs H Q _ => ∃ (a : Addr) (v : V), vs = [.ref a, v] ∧ H a = some (exo a C none) ∧ ∀ d, H d = none → d ≠ a → Q .non (upd (upd H d (exd d [(f, v)])) a (exo a C (some d)))
def sp2n (f g : Str) (C : Addr) : Sp := fun vs H Q _ => ∃ (a : Addr) (v u : V), vs = [.ref a, v, u] ∧ H a = some (exo a C none) ∧ ∀ d, H d = none → d ≠ a → Q .non (upd (upd (upd H d (exd d [(f, v)])) a (exo a C (some d))) d (exd d ((g, u) :: [(f, v)])))
/-- the class x of the module, at C, is made with n values by place, and may be raised -/
def XRz (P : Program) (w : World) (K : PySem.W.Frag) (mg : Str → Option Value) (base : Heap) (x : Str) (C : Addr) (n : Nat) (sp : Sp) : Prop :=
  ∃ (fI : Addr) (fd : FuncData) (ps : List Str) (B newId initId : String) (tl : List Value), ExcBaseFacts B newId initId tl ∧ XCls K C fI tl newId ∧ mg x = some (.ref C) ∧ FnOk P w K mg base CX0 1 fI fd ps sp ∧
    KBn K fd ps (n + 1) [] (fun us _ => us) (fun vs _ => vs) ∧ PySem.W.subIn K (.ref C) (.type "BaseException") = some true ∧ PySem.W.typeIn K (.ref C) = some (.type "type")
section
variable {X : Cx} {pins : List (Addr × Obj)} {σ : St} {s : Shared}
/-- the exception without a dict is let go -/
theorem mk_bare {H : Hp} {Q : XK} {h0 h1 h2 : Heap} {g1 g2 : Array GenState} {d1 d2 : Drawn} {t1 t2 : Nat} {o1 o2 : OsState} {a C : Addr} (R : Raises X (.ref C)) (I : Inv X pins σ H ⟨h0, g1, d1, t1, o1⟩) (new : h0.objs.size ≤ a) (on : ∀ b o, h0.get? b = some o → h1.get? b = some o)
    (un : Un (frs X.stack) [] (upd H a (exo a C none)) (upd H a (exo a C none)) h1 h2) (ok : HOk X.prog X.w (upd H a (exo a C none)) h2) (os : o2 = o1) (gens : PyProof.Rows.AllBare g2) (q : Q (.ref C) none H) : MkP X pins σ Q (.ref a) ⟨h2, g2, d2, t2, o2⟩ := by
  obtain ⟨t0, at_a⟩ := exo_at ok upd_same
  have free : H a = none := I.hok.fresh new
  obtain ⟨G, g_in, g_out⟩ := restrict h2 fun b => decide (b ≠ a)
  have same : ∀ b, b ≠ a → G.get? b = h2.get? b := fun b n => g_in b (decide_eq_true n)
  have gone : G.get? a = none := g_out a (by simp)
  have old : ∀ {b : Addr} {o : Obj}, h0.get? b = some o → b ≠ a := fun e => Nat.ne_of_lt (Nat.lt_of_lt_of_le (Heap.lt_size e) new)
  have off : ∀ {b : Addr} {o : HO}, H b = some o → b ≠ a := fun e => ne_of_none e free
  have still : ∀ {b : Addr}, b ≠ a → H b = none → upd H a (exo a C none) b = none := fun n e => by rw [upd_ne n]; exact e
  have U : Un (frs X.stack) [] H H h0 G :=
    { keep := fun b o e n m x => (same b (old e)).trans (un.keep b o (on b o e) (still (old e) n) m x)
      slot := fun b o e n m x => by
        obtain ⟨sl, y⟩ := un.slot b o (on b o e) (still (old e) n) m x
        exact ⟨sl, (same b (old e)).trans y⟩
      free := fun _ _ _ n _ => n
      there := fun b o e x => by
        obtain ⟨o', y⟩ := un.there b o (on b o e) x
        exact ⟨o', (same b (old e)).trans y⟩
      tups := fun _ _ e => e
      frzs := fun _ _ _ e => e
      tbls := fun b ps e => ⟨#[], by rw [e]; simp⟩ }
  have okG : HOk X.prog X.w H G := fun b o e => by
    have y := ok b o (by rw [upd_ne (off e)]; exact e)
    have noOwn : ∀ {c : Addr}, upd H a (exo a C none) c = some (.own b) → c ≠ a := fun {c} z m => by
      rw [m, upd_same] at z
      exact exo_own (Option.some.inj z)
    refine y.stay (fun c v hc z => ?_) (fun c z => ?_) fun c xs z => ?_
    · have hca : c ≠ a := by
        rcases hc with m | m
        · rw [m]
          exact off e
        · exact noOwn m
      exact (same c hca).trans z
    · rw [upd_ne (noOwn z)] at z
      exact z
    · by_cases m : c = a
      · rw [m, upd_same] at z
        exact (exo_tup (Option.some.inj z)).elim
      · rw [upd_ne m] at z
        exact z
  have J : Inv X pins σ H ⟨G, g2, d2, t2, o2⟩ := I.call' (ch := []) os U okG gens fun b m => absurd m (by simp)
  refine ⟨a, _, _, ⟨G, g2, d2, t2, o2⟩, H, .ref C, none, rfl, J, fun b o e => ?_, gone, at_a, ⟨rfl, rfl⟩, rfl, rfl, free, rfl, gens, R, q⟩
  by_cases m : b = a
  · rw [m, gone] at e
    cases e
  · exact (same b m).symm.trans e
/-- what is asked so that C(vs ..) is raised: its dict, where it has one, is new -/
def Flies (C : Addr) (sp : Sp) (vs : List V) (H1 : Hp) (Q : XK) : Prop := ∀ a, H1 a = none → sp (.ref a :: vs) (upd H1 a (exo a C none)) (fun v H2 => v = .non ∧
  ((∃ (d : Addr) (fs : List (Str × V)), H2 a = some (exo a C (some d)) ∧ H2 d = some (exd d fs) ∧ H1 d = none ∧ Q (.ref C) (some d) (upd (del H2 a) d (.xd fs))) ∨ (H2 = upd H1 a (exo a C none) ∧ Q (.ref C) none H1))) E0
theorem run_flies {x : Str} {C : Addr} {n : Nat} {sp : Sp} {H : Hp} {Q : XK} {us : List Value} {vs : List V} (o : XRz X.prog X.w X.K X.mg X.base x C n sp) (hr : Room 2 X.A) (I : Inv X pins σ H s) (r : Vals vs us) (l1 : vs.length = n) (few : vs.length ≤ 1000) (z : Flies C sp vs H Q) :
    wpAny (model X.prog X.w) X.A (call (.ref C) us) (MkP X pins σ Q) X.xe s := by
  obtain ⟨fI, fd, ps, B, newId, initId, tl, FB, T, m, F, hb, sub, ty⟩ := o
  have R : Raises X (.ref C) := raises_own sub ty
  obtain ⟨hp, gs, dr, tk, os⟩ := s
  obtain ⟨nm, N, qn, bs, bm, hdct, sn, sub', ab, col, dd, k0, k1, k2, k3, k5, hC, same⟩ := PySem.W.excInit_of I.kIn T.ini
  have up : hp.objs.size ≤ hp.objs.size + 1 := Nat.le_succ _
  have hq := z (hp.objs.size + 1) (I.hok.fresh up)
  have stay : ∀ b o, hp.get? b = some o → (exLaid hp C us).get? b = some o := fun b o q => Heap.get?_push_of_some _ (Heap.get?_push_of_some _ q)
  have made : (exLaid hp C us).get? (hp.objs.size + 1) = some { cls := .ref C, data := .fields #[.ref hp.objs.size, .none, .none, .none, .bool false, .none] } := by
    unfold exLaid
    heap_get
  have I2 : Inv X pins σ (upd H (hp.objs.size + 1) (exo (hp.objs.size + 1) C none)) ⟨exLaid hp C us, gs, dr, tk, os⟩ := I.laid (t' := tk) stay up (exo_ok made)
  have r1 : Vals (V.ref (hp.objs.size + 1) :: vs) (Value.ref (hp.objs.size + 1) :: us) := .cons rfl r
  have n1 : (Value.ref (hp.objs.size + 1) :: us).length = n + 1 := by
    rw [List.length_cons, ← r.length, l1]
  have fewU : us.length ≤ sizeLine := by
    rw [← r.length]
    exact Nat.le_trans few (by decide)
  obtain ⟨oI, at_I, isI⟩ : ∃ oI, hp.get? fI = some oI ∧ oI.cls = .type "function" := by
    obtain ⟨o, q, c⟩ := Option.map_eq_some_iff.mp (show (X.K.lookup fI).map (·.cls) = some (.type "function") from beq_iff_eq.mp T.isF)
    exact ⟨o, I.kIn _ _ q, c⟩
  refine wpAny_call (kw_call FB same hC (PySem.W.looks_findIn I.kIn T.init) (fun self => PySem.W.exc_bind at_I isI self) fewU (codeAny_mono (F.run _ X.stack _ _ ⟨Value.ref (hp.objs.size + 1) :: us, []⟩ (Value.ref (hp.objs.size + 1) :: us) _ _ E0
    (hr.make C us []) (I2.env0.make C us []) (hb.to _ (Value.ref (hp.objs.size + 1) :: us) [] I2.kIn n1 rfl) r1 hq) ?_))
  rintro (er | _ | _ | _ | u) s' y
  · exact y.elim
  · exact y.elim
  · exact y.elim
  · exact y.elim
  · obtain ⟨v, H2, os2, bare2, un2, ok2, rv, ev, y⟩ := y
    subst ev
    refine ⟨rv, ?_⟩
    obtain ⟨h2, g2, d2, t2, os'⟩ := s'
    rcases y with ⟨d, fs, ea, ed, nd, q⟩ | ⟨e, q⟩
    · exact mk_end R I up stay un2 ok2 os2 bare2 ea ed nd q
    · subst e
      exact mk_bare R I up stay un2 ok2 os2 bare2 q
/-- x(e, ..) in a raise -/
theorem pmk_flies {x : Str} {C : Addr} {n : Nat} {sp : Sp} {e : Expr} {es : List Expr} {t : TA} {p pos : Pos} (o : XRz X.prog X.w X.K X.mg X.base x C n sp) (hr : Room 2 X.A) (hg : Gl X x) (ha : PA X (e :: es) t) (hdb : (x == ("__debug__" : Str)) = false := by decide)
    (he : starEach (e :: es) X.env = (false, eval e X.env) :: starEach es X.env := by rfl) (hpl : (backTo pos (starEach es X.env)).any (·.1) = false := by rfl) :
    PMk X (.Call (.Name x p) (e :: es) [] pos) (fun σ H Q => t σ H fun vs H1 => vs.length = n ∧ vs.length ≤ 1000 ∧ Flies C sp vs H1 Q) := by
  intro pins s σ H Q I h
  obtain ⟨fI, fd, ps, B, newId, initId, tl, FB, T, m, F, hb, sub, ty⟩ := id o
  exact wpAny_Call_Name_kw (ld_glob I hg m (PySem.W.callWith_K (h₀ := X.base) I.ok.mod.kin T.kp (thn (ha.run pos pins s σ H _ I h) fun us s1 ⟨vs, H1, I1, r, l1, l2, q⟩ => ⟨I1.kIn, run_flies o hr I1 r l1 l2 q⟩) he hpl) hdb)
theorem pmk_flies0 {x : Str} {C : Addr} {sp : Sp} {p pos : Pos} (o : XRz X.prog X.w X.K X.mg X.base x C 0 sp) (hr : Room 2 X.A) (hg : Gl X x) (hdb : (x == ("__debug__" : Str)) = false := by decide) : PMk X (.Call (.Name x p) [] [] pos) (fun _ H Q => Flies C sp [] H Q) := by
  intro pins s σ H Q I h
  obtain ⟨fI, fd, ps, B, newId, initId, tl, FB, T, m, F, hb, sub, ty⟩ := id o
  exact wpAny_Call_Name_kw (ld_glob I hg m (PySem.W.callWith_K0 I.kIn T.kp (run_flies (us := []) (vs := []) o hr I .nil rfl (Nat.zero_le _) h)) hdb)
theorem xd_eq {H : Hp} {a C d : Addr} {o o' : HO} {fs : List (Str × V)} (n : H a = none) (ne : d ≠ a) : upd (del (upd (upd (upd H a o) d o') a (exo a C (some d))) a) d (.xd fs) = upd H d (.xd fs) := by
  funext b
  by_cases hb : b = d
  · rw [hb, upd_same, upd_same]
  · rw [upd_ne hb, upd_ne hb]
    by_cases ha : b = a
    · rw [ha, del_same, n]
    · rw [del_ne ha, upd_ne ha, upd_ne hb, upd_ne ha]
theorem xd_eq2 {H : Hp} {a C d : Addr} {o o' o2 : HO} {fs : List (Str × V)} (n : H a = none) (ne : d ≠ a) : upd (del (upd (upd (upd (upd H a o) d o') a (exo a C (some d))) d o2) a) d (.xd fs) = upd H d (.xd fs) := by
  funext b
  by_cases hb : b = d
  · rw [hb, upd_same, upd_same]
  · rw [upd_ne hb, upd_ne hb]
    by_cases ha : b = a
    · rw [ha, del_same, n]
    · rw [del_ne ha, upd_ne hb, upd_ne ha, upd_ne hb, upd_ne ha]
theorem flies1 {H : Hp} {f : Str} {C : Addr} {v : V} {Q : XK} (q : ∀ d, H d = none → Q (.ref C) (some d) (upd H d (.xd [(f, v)]))) : Flies C (sp1n f C) [v] H Q := fun a na => ⟨a, v, rfl, upd_same, fun d nd ne => ⟨rfl, .inl ⟨d, [(f, v)], upd_same, by rw [upd_ne ne, upd_same], by rw [upd_ne ne] at nd; exact nd, by
  rw [xd_eq na ne]
  rw [upd_ne ne] at nd
  exact q d nd⟩⟩⟩
theorem flies2 {H : Hp} {f g : Str} {C : Addr} {v u : V} {Q : XK} (q : ∀ d, H d = none → Q (.ref C) (some d) (upd H d (.xd [(g, u), (f, v)]))) : Flies C (sp2n f g C) [v, u] H Q := fun a na => ⟨a, v, u, rfl, upd_same, fun d nd ne => ⟨rfl, .inl ⟨d, [(g, u), (f, v)], by rw [upd_ne (Ne.symm ne), upd_same], upd_same, by rw [upd_ne ne] at nd; exact nd, by
  rw [xd_eq2 na ne]
  rw [upd_ne ne] at nd
  exact q d nd⟩⟩⟩
theorem flies0 {H : Hp} {C : Addr} {Q : XK} (q : Q (.ref C) none H) : Flies C (sp0 C) [] H Q := fun a na => ⟨a, rfl, upd_same, rfl, .inr ⟨rfl, q⟩⟩
variable {x : Str} {C : Addr} {n : Nat} {sp : Sp} {W : WX} {e : Expr} {es : List Expr} {t : TA} {p pos pos2 : Pos}
/-- raise x(e, ..) -/
theorem ps_raiseN (o : XRz X.prog X.w X.K X.mg X.base x C n sp) (hr : Room 2 X.A) (hc : X.calm = true) (tk : Takes X W) (hg : Gl X x) (ha : PA X (e :: es) t) (hdb : (x == ("__debug__" : Str)) = false := by decide)
    (he : starEach (e :: es) X.env = (false, eval e X.env) :: starEach es X.env := by rfl) (hpl : (backTo pos (starEach es X.env)).any (·.1) = false := by rfl) :
    PS X (.Raise (some (.Call (.Name x p) (e :: es) [] pos)) none pos2) (fun _ σ H => t σ H fun vs H1 => vs.length = n ∧ vs.length ≤ 1000 ∧ Flies C sp vs H1 fun cls d H' => W cls d σ H') :=
  ps_raise hc tk (pmk_flies o hr hg ha hdb he hpl)
/-- raise x() -/
theorem ps_raiseE (o : XRz X.prog X.w X.K X.mg X.base x C 0 sp) (hr : Room 2 X.A) (hc : X.calm = true) (tk : Takes X W) (hg : Gl X x) (hdb : (x == ("__debug__" : Str)) = false := by decide) :
    PS X (.Raise (some (.Call (.Name x p) [] [] pos)) none pos2) (fun _ σ H => Flies C sp [] H fun cls d H' => W cls d σ H') := ps_raise hc tk (pmk_flies0 o hr hg hdb)
end
/-! ### try with several except clauses, each with a name of its own or with none -/
/-- what is wanted behind a suite whose name stands in slot i: there the name is gone -/
def behindName (i : Nat) (D : Ends) : Ends :=
  { nx := fun τ G => D.nx (τ.set i none) G, rt := D.rt, bk := fun τ G => D.bk (τ.set i none) G, ct := fun τ G => D.ct (τ.set i none) G }
/-- a clause: its class, its name's slot, its suite's reading -/
structure Clause where
  cls : Value
  slot : Option Nat
  ts : Addr → Value → Option Addr → TS
/-- the suite is entered with the exception at a -/
def Clause.enters (c : Clause) (a : Addr) (kd : Value) (dd : Option Addr) (D : Ends) (τ : St) (G : Hp) : Prop :=
  match c.slot with
  | none => c.ts a kd dd D τ G
  | some i => c.ts a kd dd (behindName i D) (τ.set i (some (.ref a))) G
/-- what the clauses, one after the other, wish of an exception -/
def wishes (K : PySem.W.Frag) (out : WX) (D : Ends) : List Clause → WX
  | [] => out
  | c :: r => fun kd dd τ G => ∃ hit, PySem.W.exmOne K kd c.cls = some hit ∧ (hit = true → ∀ a, G a = none → c.enters a kd dd D τ G) ∧ (hit = false → wishes K out D r kd dd τ G)
abbrev SuiteOk (X : Cx) (sts : List Stmt) (ts : Addr → Value → Option Addr → TS) : Prop :=
  ∀ (a : Addr) (ob : Obj) (kd : Value) (dd : Option Addr) (ps : List (Addr × Obj)), Zc kd dd ob → (∃ fv, ob.data = .fields fv) → PSs (X.suite a ((a, ob) :: ps)) sts (ts a kd dd)
inductive Clauses (X : Cx) : List ExceptHandler → List Clause → Prop
  | nil : Clauses X [] []
  | bare {x : Str} {c : Value} {ts : Addr → Value → Option Addr → TS} {st : Stmt} {sts : List Stmt} {p1 p2 : Pos} {hs : List ExceptHandler} {l : List Clause} (nm : Names X x c) (su : SuiteOk X (st :: sts) ts) (r : Clauses X hs l) :
      Clauses X (.ExceptHandler (some (.Name x p1)) none (st :: sts) p2 :: hs) (⟨c, none, ts⟩ :: l)
  | named {x y : Str} {i : Nat} {c : Value} {ts : Addr → Value → Option Addr → TS} {st : Stmt} {sts : List Stmt} {p1 p2 : Pos} {hs : List ExceptHandler} {l : List Clause} (nm : Names X x c) (at_i : X.N[i]? = some y) (lo : X.env.kindOf y = some .local) (su : SuiteOk X (st :: sts) ts)
      (r : Clauses X hs l) : Clauses X (.ExceptHandler (some (.Name x p1)) (some y) (st :: sts) p2 :: hs) (⟨c, some i, ts⟩ :: l)
section
variable {X : Cx} {body : List Stmt} {hd : ExceptHandler} {hs : List ExceptHandler} {l : List Clause} {pos : Pos} {tb : WX → TS} {out : WX}
theorem ps_tryN (top : X.stack = X.env :: X.outer) (own : X.env.frame = some X.env.locals) (nd : X.N.Nodup) (tk : Takes X out)
    (bd : ∀ (W : WX) (ps : List (Addr × Obj)) (xe : Value → Shared → Prop), Takes (X.tr ps xe) W → PassesOwn (model X.prog X.w) X.A X.env xe → PSs (X.tr ps xe) body (tb W))
    (cl : Clauses X (hd :: hs) l) : PS X (.Try body (hd :: hs) [] [] pos) (fun D τ G => tb (wishes X.K out D l) D τ G) := by
  refine ⟨fun pins s τ G D I q => wpAny_Try_except (wpAny_mono ((bd (wishes X.K out D l) (X.pn ++ pins) (fun e z1 => wpAny (model X.prog X.w) X.A (noteFrame e X.env) (fun _ z2 => wpAny (model X.prog X.w) X.A (setFlight e none)
    (fun _ z3 => wpAny (model X.prog X.w) X.A (handleBy e X.env (hd :: hs)) (SP X pins D) X.xe z3) X.xe z2) X.xe z1) (fun u z caught => ?_) PassesOwn.looking).run [] s τ G D (I.toTry _) q) ?_ fun _ _ w => w)⟩
  · -- an exception of the body
    have fit := I.ok
    have frs_ : X.A.frames = some (X.env :: X.outer) := fit.frames.trans (by rw [top])
    obtain ⟨a, B, sI, pins1, τ1, G1, kd, dd, rfl, J1, nb, up, sky, free, os, ag, wish⟩ := caught
    have J : Inv X pins τ1 G1 sI := J1.ofTry fit
    show wpAny (model X.prog X.w) X.A (noteFrame (.ref a) X.env) _ _ _
    refine Sky.land Zc.steady frs_ own (by rw [← top]; exact sky) fun h1 fly1 up1 => ?_
    have J2 : Inv X pins τ1 G1 { z with heap := h1 } := J.landed nb fly1.1 (up.trans up1) os ag
    obtain ⟨ob, fv, at_a, zc, isF⟩ := fly1.there
    -- the exception is no frame
    have noFrame : a ∉ frs (X.env :: X.outer) := fun m => by
      obtain ⟨_, o2, e2, no⟩ := fly1.2.2.1.mem m
      rw [at_a] at e2
      cases e2
      exact no _ isF
    have neL : a ≠ X.env.locals := fun e => noFrame (List.mem_filterMap.mpr ⟨X.env, List.mem_cons_self, by rw [own, e]⟩)
    have notF : a ∉ X.fs := fun m => by
      obtain ⟨en, hen, e⟩ := List.mem_filterMap.mp m
      exact noFrame (List.mem_filterMap.mpr ⟨en, List.mem_cons_of_mem _ hen, e⟩)
    have U := J2.suite at_a isF free neL notF
    have tyA : PySem.W.Looks (model X.prog X.w) h1 (typeOf (.ref a)) kd := fun _ _ _ _ kp w => wpAny_typeOf_ref (kp _ _ at_a) (by rw [zc.1]; exact w)
    -- a clause's class is looked up
    have class_ : ∀ {x : Str} {c : Value} {p1 : Pos} {Q : Value → Shared → Prop} {E : Value → Shared → Prop}, Names X x c → Q c { z with heap := h1 } →
        wpAny (model X.prog X.w) (X.A.mark (some (.ref a))) (eval (.Name x p1) X.env) Q E { z with heap := h1 } := fun {x c p1 Q E} nm w => by
      rcases nm with ⟨g, nodbg, m | ⟨m, v, noname⟩⟩
      · exact ld_glob (X := X.suite a ((a, ob) :: (X.pn ++ pins))) U g m w nodbg
      · exact ld_blt (X := X.suite a ((a, ob) :: (X.pn ++ pins))) U g m v w noname nodbg
    have walk : ∀ {hs' : List ExceptHandler} {l' : List Clause}, Clauses X hs' l' → wishes X.K out D l' kd dd τ1 G1 → wpAny (model X.prog X.w) X.A (handleBy (.ref a) X.env hs') (SP X pins D) X.xe { z with heap := h1 } := by
      intro hs' l' c
      induction c with
      | nil =>
        intro w
        obtain ⟨_, _, _, oe, vs, T, oT, _, e1, _, e2, e3, _⟩ := id fly1
        have on : wpAny (model X.prog X.w) X.A (setFlight (.ref a) X.env.frame) (fun _ z4 => wpAny (model X.prog X.w) X.A (throw (.ref a) : Sem Flow) (SP X pins D) X.xe z4) X.xe { z with heap := h1 } := by
          rw [own]
          exact HandSPX.setFlight_upZ fly1 fun h2 sky2 up2 => wpAny_throw (tk _ _ ⟨a, B, sI, pins, τ1, G1, kd, dd, rfl, J, nb, (up.trans up1).trans up2, .inr (.inr (by rw [top]; exact sky2)), free, os, ag, w⟩)
        refine wpAny_handleBy_nil ?_
        unfold PySem.passOn
        refine wpAny_bind (wpAny_field e1 e2 e3 ?_)
        rw [if_neg (by simp)]
        first
          | exact wpAny_bind on
          | exact wpAny_bind (wpAny_pure (wpAny_bind on))
      | @bare x c ts st sts p1 p2 hs2 l2 nm su r ih =>
        intro w
        obtain ⟨hit, ex, yes, no⟩ := w
        refine wpAny_handleBy_cons (codeAny_handlers_test (class_ nm ((PySem.W.exm_one (M := model X.prog X.w) J2.kIn tyA ex).here ?_))) (fun e => by cases e)
        cases hit with
        | false => exact ih (no rfl)
        | true =>
          refine codeAny_handlers_suite (HandSPX.lands_againZ fly1 fun h2 fly2 up2 => ?_)
          obtain ⟨ob2, fv2, at2, zc2, isF2⟩ := fly2.there
          have V := (J.landed (s' := { z with heap := h2 }) nb fly2.1 ((up.trans up1).trans up2) os ag).suite at2 isF2 free neL notF
          refine wpAny_mono ((su a ob2 kd dd (X.pn ++ pins) zc2 ⟨_, isF2⟩).run [] _ _ G1 _ V (yes rfl a free)) ?_ fun _ _ w => w.elim
          rintro (_ | _ | _ | u) z6 y
          · obtain ⟨τ6, G6, S6, q6⟩ := y
            exact ⟨_, _, S6.unsuite fit, q6⟩
          · obtain ⟨τ6, G6, S6, q6⟩ := y
            exact ⟨_, _, S6.unsuite fit, q6⟩
          · obtain ⟨τ6, G6, S6, q6⟩ := y
            exact ⟨_, _, S6.unsuite fit, q6⟩
          · obtain ⟨v6, τ6, G6, S6, r6, q6⟩ := y
            exact ⟨_, _, _, S6.unsuite fit, r6, q6⟩
      | @named x y i c ts st sts p1 p2 hs2 l2 nm at_i lo su r ih =>
        intro w
        obtain ⟨hit, ex, yes, no⟩ := w
        refine wpAny_handleBy_cons (codeAny_handlers_test (class_ nm ((PySem.W.exm_one (M := model X.prog X.w) J2.kIn tyA ex).here ?_))) (fun e => by cases e)
        cases hit with
        | false => exact ih (no rfl)
        | true =>
          refine codeAny_handlers_suite_as (HandSPX.lands_againZ fly1 fun h2 fly2 up2 => ?_)
          obtain ⟨ob2, fv2, at2, zc2, isF2⟩ := fly2.there
          have V := (J.landed (s' := { z with heap := h2 }) nb fly2.1 ((up.trans up1).trans up2) os ag).suite at2 isF2 free neL notF
          refine store_ok (X := X.suite a ((a, ob2) :: (X.pn ++ pins))) (v := .ref a) V nd at_i (.inl lo) rfl (fun z5 V5 => ?_) (.inr lo)
          have gone : ∀ {τ6 : St} {G6 : Hp} {R : Shared → Prop} {z6 : Shared}, Inv (X.suite a ((a, ob2) :: (X.pn ++ pins))) [] τ6 G6 z6 → (∀ z7, Inv X pins (τ6.set i none) G6 z7 → R z7) →
              wpAny (model X.prog X.w) X.A (do bindName X.env y .none; unbindBehindTheSuite X.env y p2) (fun _ z7 => R z7) X.xe z6 := fun {τ6 G6 R z6} S6 w => gone_ok (S6.unsuite fit) nd at_i lo w
          refine wpAny_mono ((su a ob2 kd dd (X.pn ++ pins) zc2 ⟨_, isF2⟩).run [] z5 _ G1 _ V5 (yes rfl a free)) ?_ fun _ _ w => w.elim
          rintro (_ | _ | _ | u) z6 k6
          · obtain ⟨τ6, G6, S6, q6⟩ := k6
            exact gone S6 fun z7 J7 => ⟨_, _, J7, q6⟩
          · obtain ⟨τ6, G6, S6, q6⟩ := k6
            exact gone S6 fun z7 J7 => ⟨_, _, J7, q6⟩
          · obtain ⟨τ6, G6, S6, q6⟩ := k6
            exact gone S6 fun z7 J7 => ⟨_, _, J7, q6⟩
          · obtain ⟨v6, τ6, G6, S6, r6, q6⟩ := k6
            exact gone S6 fun z7 J7 => ⟨_, _, _, J7, r6, q6⟩
    exact walk cl wish
  · rintro (_ | _ | _ | u) z1 y
    · obtain ⟨τ1, G1, J1, w⟩ := y
      exact wpAny_execs_nil ⟨τ1, G1, J1.ofTry I.ok, w⟩
    · obtain ⟨τ1, G1, J1, w⟩ := y
      exact ⟨τ1, G1, J1.ofTry I.ok, w⟩
    · obtain ⟨τ1, G1, J1, w⟩ := y
      exact ⟨τ1, G1, J1.ofTry I.ok, w⟩
    · obtain ⟨v, τ1, G1, J1, r, w⟩ := y
      exact ⟨v, τ1, G1, J1.ofTry I.ok, r, w⟩
end
def top (i : Nat) : Stmt := PySem.Challenge.pw_twodivisions_k12_ratios.main.body.getD i (.Pass ⟨0, 0, 0, 0⟩)
/-! ### own words: a def by its name, its promise by its name -/
/-- the def x of the text stands in the module -/
def Has (K : PySem.W.Frag) (mg : Str → Option Value) (x : Str) (st : Stmt) (ps : List Str) : Prop :=
  ∃ f fd, mg x = some (.ref f) ∧ Binds K fd ps [] ∧ Fun K x x st f fd
/-- the def x keeps the promise sp -/
def Ok (P : Program) (w : World) (K : PySem.W.Frag) (mg : Str → Option Value) (base : Heap) (k : Nat) (x : Str) (ps : List Str) (sp : Sp) : Prop :=
  ∃ f fd, mg x = some (.ref f) ∧ PySem.W.keepIn K (.ref f) = true ∧ Binds K fd ps [] ∧ FnOk P w K mg base CX0 k f fd ps sp
theorem pe_cO {X : Cx} {k : Nat} {x : Str} {ps : List Str} {sp : Sp} {p pos : Pos} {e : Expr} {es : List Expr} {t : TA} {E : XK} (o : Ok X.prog X.w X.K X.mg X.base k x ps sp) (hr : Room k X.A) (hx : Passes CX0 X E) (hg : Gl X x)
    (ha : PA X (e :: es) t) (hdb : (x == ("__debug__" : Str)) = false := by decide) (he : starEach (e :: es) X.env = (false, eval e X.env) :: starEach es X.env := by rfl) (hpl : (backTo pos (starEach es X.env)).any (·.1) = false := by rfl) :
    PE X (.Call (.Name x p) (e :: es) [] pos) (tCall sp [] E t) := by
  obtain ⟨f, fd, g, kp, b, G⟩ := o
  exact pe_call G hr hg g kp b .nil hx ha hdb he hpl
theorem pe_cO0 {X : Cx} {k : Nat} {x : Str} {ps : List Str} {sp : Sp} {p pos : Pos} {E : XK} (o : Ok X.prog X.w X.K X.mg X.base k x ps sp) (hr : Room k X.A) (hx : Passes CX0 X E) (hg : Gl X x) (hdb : (x == ("__debug__" : Str)) = false := by decide) :
    PE X (.Call (.Name x p) [] [] pos) (tCall sp [] E tNil) := by
  obtain ⟨f, fd, g, kp, b, G⟩ := o
  exact pe_call0 G hr hg g kp b .nil hx hdb
/-! ### numbers of a fair size -/
def Sm (i : Int) : Prop := -(2 ^ 250) < i ∧ i < 2 ^ 250
theorem Sm.nat {i : Int} (h : Sm i) : i.natAbs < 2 ^ 250 := by
  obtain ⟨h1, h2⟩ := h
  omega
section
variable {X : Cx}
theorem op_mulS : OpR X (binaryOp .Mult) (rI (fun i j => Sm i ∧ Sm j) fun i j => .int (i * j)) := by
  intro pins s σ H x y v u Q I rx ry h
  obtain ⟨i, j, rfl, rfl, ⟨h1, h2⟩, q⟩ := h
  exact op_mulW pins s σ H _ _ v u Q I rx ry ⟨i, j, rfl, rfl, wide_mul h1.nat h2.nat (by decide) (by decide) (by decide), q⟩
theorem op_divS : OpR X (binaryOp .FloorDiv) (rI (fun _ j => j ≠ 0 ∧ Sm j) fun i j => .int (i.fdiv j)) := opI fun i j _ _ _ _ _ hc q =>
  PyProof.Rows.floordiv_int hc.1 q (.inl (PyProof.noPylong_of_log2 (Nat.lt_of_lt_of_le (PySem.Flt.log2_lt_of (by decide : 0 < 250) hc.2.nat) (by decide))))
end
/-! ### heaps: all but the pool stays -/
def Keep (pp : Addr) (H H' : Hp) : Prop := ∀ b o, H b = some o → b ≠ pp → H' b = some o
theorem Keep.refl {pp : Addr} {H : Hp} : Keep pp H H := fun _ _ h _ => h
theorem Keep.trans {pp : Addr} {H H1 H2 : Hp} (a : Keep pp H H1) (b : Keep pp H1 H2) : Keep pp H H2 := fun c o h n => b c o (a c o h n) n
theorem Same.keep {pp : Addr} {H H' : Hp} (a : Same H H') : Keep pp H H' := fun b o h _ => a b o h
theorem Keep.seq {pp a : Addr} {K : PySem.W.Frag} {H H' : Hp} {xs : List V} (e : Keep pp H H') (n : a ≠ pp) (h : SqL K H a xs) : SqL K H' a xs := by
  rcases h with (h | ⟨o, h⟩) | h
  · exact .inl (.inl (e _ _ h n))
  · exact .inl (.inr ⟨o, e _ _ h n⟩)
  · exact .inr h
theorem Same.new {H : Hp} {p : Addr} {o : HO} (n : H p = none) : Same H (upd H p o) := fun b u h => by
  rw [upd_ne (ne_of_none h n)]
  exact h
/-- a pool of draws stands at pp -/
def PoolAt (H : Hp) (pp : Addr) : Prop := ∃ c s : Int, 0 ≤ s ∧ s < 2147483647 ∧ H pp = some (.lst [.int c, .int s])
theorem PoolAt.keep {H H' : Hp} {pp p : Addr} (h : PoolAt H p) (e : Keep pp H H') (n : p ≠ pp) : PoolAt H' p := by
  obtain ⟨c, s, h0, h1, h2⟩ := h
  exact ⟨c, s, h0, h1, e _ _ h2 n⟩
theorem PoolAt.same {H H' : Hp} {p : Addr} (h : PoolAt H p) (e : Same H H') : PoolAt H' p := by
  obtain ⟨c, s, h0, h1, h2⟩ := h
  exact ⟨c, s, h0, h1, e _ _ h2⟩
theorem PoolAt.ne {H : Hp} {p q : Addr} (h : PoolAt H p) (n : H q = none) : q ≠ p := by
  obtain ⟨c, s, h0, h1, h2⟩ := h
  exact (ne_of_none h2 n).symm
theorem Keep.free {pp l : Addr} {H H' : Hp} (e : Keep pp H H') (h : PoolAt H' pp) (n : H' l = none) : H l = none := by
  cases q : H l with
  | none => rfl
  | some o =>
    rw [e l o q (h.ne n)] at n
    cases n
theorem atI0 {α : Type} {x : α} {xs : List α} : atI (x :: xs) 0 = some x := atI_nat (j := 0) rfl
theorem atI1 {α : Type} {x y : α} {xs : List α} : atI (x :: y :: xs) 1 = some y := atI_nat (j := 1) rfl
theorem kIntInt {K : PySem.W.Frag} : PySem.W.kitOne K (.type "int") (.type "int") = some true := kit_ty (show kitB "int" "int" = some true by decide +kernel)
theorem kIntBool {K : PySem.W.Frag} : PySem.W.kitOne K (.type "int") (.type "bool") = some false := kit_ty (show kitB "int" "bool" = some false by decide +kernel)
theorem kStrStr {K : PySem.W.Frag} : PySem.W.kitOne K (.type "str") (.type "str") = some true := kit_ty (show kitB "str" "str" = some true by decide +kernel)
theorem n29 : (2147483629 : Int) ≠ 0 := by decide
theorem n47 : (2147483647 : Int) ≠ 0 := by decide
structure Txt12 (mg : Str → Option Value) : Prop where
  isinstance : mg "isinstance" = none
  int : mg "int" = none
  len : mg "len" = none
  range : mg "range" = none
  max : mg "max" = none
  min : mg "min" = none
  abs : mg "abs" = none
  repr : mg "repr" = none
  ArithmeticError : mg "ArithmeticError" = none
abbrev Txt (K : PySem.W.Frag) (mg : Str → Option Value) (aR : Addr) : Prop := Txt12 mg
theorem vne {i j : Int} (h : i ≠ j) : ¬ decide (V.int i = V.int j) = true := fun z => h (by injection of_decide_eq_true z)
theorem veq {i j : Int} (h : i = j) : decide (V.int i = V.int j) = true := decide_eq_true (by rw [h])
theorem sne {i j : Str} (h : i ≠ j) : ¬ decide (V.str i = V.str j) = true := fun z => h (by injection of_decide_eq_true z)
theorem of_veq {i j : Int} (h : decide (V.int i = V.int j) = true) : i = j := by injection of_decide_eq_true h
theorem of_seq {i j : Str} (h : decide (V.str i = V.str j) = true) : i = j := by injection of_decide_eq_true h
theorem of_vne {i j : Int} (h : ¬ decide (V.int i = V.int j) = true) : i ≠ j := fun z => h (by rw [z]; exact decide_eq_true rfl)
theorem of_sne {i j : Str} (h : ¬ decide (V.str i = V.str j) = true) : i ≠ j := fun z => h (by rw [z]; exact decide_eq_true rfl)
theorem iteN {c A B : Prop} [Decidable c] (h : ¬ c) (q : B) : if c then A else B := by
  rw [if_neg h]
  exact q
theorem iteP {c A B : Prop} [Decidable c] (h : c) (q : A) : if c then A else B := by
  rw [if_pos h]
  exact q
theorem bnot_dec {c : Prop} [Decidable c] (h : (!decide c) = true) : ¬ c := fun z => by
  rw [decide_eq_true z] at h
  cases h
theorem bnot_dec' {c : Prop} [Decidable c] (h : ¬ (!decide c) = true) : c := by
  by_cases z : c
  · exact z
  · exact absurd (by rw [decide_eq_false z]; rfl) h
section
variable {P : Program} {w : World} {K : PySem.W.Frag} {mg : Str → Option Value} {base : Heap} {aR : Addr}
abbrev s__law_pool : Stmt := top 11
theorem sc__law_pool : FnScope ["_law_script", "_law_k", "_law_cell", "_law_seed"] ["_law_script", "_law_k"] (defScope s__law_pool) := ⟨rfl, rfl, rfl, by decide +kernel, rfl, by decide +kernel, by decide +kernel⟩
def spPool (K : PySem.W.Frag) : Sp := fun vs H Q _ => ∃ (a : Addr) (ns : List Int) (k : Nat), vs = [.ref a, .int k] ∧ SqL K H a (ns.map V.int) ∧ k < 64 ∧ ∀ pp H', Same H H' → H pp = none → PoolAt H' pp → Q (.ref pp) H'
theorem seed_ok (c : Int) (k : Nat) (hk : k < 64) : Sm (7919 * (k : Int)) ∧ (c.fmod 2147483629 + 7919 * (k : Int) * (k : Int) + 31).natAbs < 2 ^ 64 := by
  have h1 := Int.fmod_nonneg_of_pos c (show (0 : Int) < 2147483629 by decide)
  have h2 := Int.fmod_lt_of_pos c (show (0 : Int) < 2147483629 by decide)
  have h3 : 0 ≤ 7919 * (k : Int) * (k : Int) := Int.mul_nonneg (by omega) (by omega)
  have h4 : 7919 * (k : Int) * (k : Int) ≤ 7919 * (k : Int) * 64 := Int.mul_le_mul_of_nonneg_left (by omega) (by omega)
  exact ⟨⟨by omega, by omega⟩, by omega⟩
theorem ok__law_pool (h : Has K mg "_law_pool" s__law_pool ["_law_script", "_law_k"]) (T : Txt K mg aR) : Ok P w K mg base 1 "_law_pool" ["_law_script", "_law_k"] (spPool K) := by
  obtain ⟨f, fd, g, b, F⟩ := h
  refine ⟨f, fd, g, F.kp, b, F.ok sc__law_pool (fun vs H Q E h => ?_) (fun cdv A outer s H vs Q E hr h => ?_)⟩
  · obtain ⟨a, ns, k, rfl, _⟩ := h
    rfl
  · obtain ⟨a, ns, k, rfl, hS, hk, q⟩ := h
    refine ⟨_, (pss_cons (ps_set (i := 2) sc__law_pool.nd rfl (Or.inl rfl) pe_int)
    (pss_cons (ps_if (pt_cmpR op_lt (pv 1) (pe_callB call_len_seq (by rfl) T.len (by decide +kernel) (pa_cons (pv 0) pa_nil)) (nomark _))
      (pss_one (ps_set (i := 2) sc__law_pool.nd rfl (Or.inl rfl) (pe_ix ix_list (pv 0) (pv 1) (fun _ _ => rfl))))
      pss_nil)
    (pss_cons (ps_set (i := 3) sc__law_pool.nd rfl (Or.inl rfl) (pe_op op_modN (pe_op op_pow (pe_op op_add (pe_op op_add (pe_op op_modN (pe_callTy call_int1 (by rfl) T.int (by decide +kernel) (pa_cons (pv 2) pa_nil)) pe_int) (pe_op op_mulS (pe_op op_mulS pe_int (pv 1)) (pv 1))) pe_int) pe_int) pe_int))
    (pss_cons (ps_if (pt_cmpR op_lt (pv 2) (pe_op op_pow pe_int pe_int) (nomark _))
      (pss_one (ps_set (i := 2) sc__law_pool.nd rfl (Or.inl rfl) pe_int))
      pss_nil)
    (pss_one (ps_ret (pe_lst (pa_cons (pv 2) (pa_cons (pv 3) pa_nil))))))))), ?_⟩
    have z0 : ∀ c : Int, 0 ≤ ((c.fmod 2147483629 + 7919 * (k : Int) * (k : Int) + 31) ^ (3 : Int).toNat).fmod 2147483647 := fun c => Int.fmod_nonneg_of_pos _ (by decide)
    have z1 : ∀ c : Int, ((c.fmod 2147483629 + 7919 * (k : Int) * (k : Int) + 31) ^ (3 : Int).toNat).fmod 2147483647 < 2147483647 := fun c => Int.fmod_lt_of_pos _ (by decide)
    refine ⟨_, rfl, _, rfl, _, _, rfl, .inl hS, _, _, rfl, rfl, _, rfl, ?_⟩
    refine ite2 (fun c1 => ?_) (fun c1 => ?_)
    · have hlt : k < ns.length := by
        have := of_decide_eq_true c1
        rw [List.length_map] at this
        omega
      refine ⟨_, rfl, _, rfl, a, _, _, .int ns[k], rfl, rfl, hS, atI_nat (by rw [List.getElem?_map, List.getElem?_eq_getElem hlt]; rfl), ?_⟩
      obtain ⟨k1, k2⟩ := seed_ok ns[k] k hk
      refine ⟨_, rfl, .inl ⟨_, rfl, _, _, rfl, rfl, n29, _, rfl, _, _, rfl, rfl, ⟨⟨by decide, by decide⟩, ⟨by omega, by omega⟩⟩, _, rfl, _, _, rfl, rfl, ⟨k1, ⟨by omega, by omega⟩⟩, _, _, rfl, rfl, _, _, rfl, rfl, _, _, rfl, rfl, ⟨by decide, by decide, k2⟩, _, _, rfl, rfl, n47, ?_⟩⟩
      refine ⟨_, rfl, _, _, rfl, rfl, ⟨by decide, by decide, by decide⟩, _, _, rfl, rfl, _, rfl, ?_⟩
      refine ite2 (fun c2 => ?_) (fun c2 => ?_)
      · refine ⟨_, rfl, _, rfl, (by show 2 ≤ sizeLine; decide), fun p hp => ?_⟩
        exact q p _ (Same.new hp) hp ⟨_, _, z0 ns[k], z1 ns[k], upd_same⟩
      · refine ⟨_, rfl, _, rfl, (by show 2 ≤ sizeLine; decide), fun p hp => ?_⟩
        exact q p _ (Same.new hp) hp ⟨_, _, z0 ns[k], z1 ns[k], upd_same⟩
    · obtain ⟨k1, k2⟩ := seed_ok 0 k hk
      refine ⟨_, rfl, .inl ⟨_, rfl, _, _, rfl, rfl, n29, _, rfl, _, _, rfl, rfl, ⟨⟨by decide, by decide⟩, ⟨by omega, by omega⟩⟩, _, rfl, _, _, rfl, rfl, ⟨k1, ⟨by omega, by omega⟩⟩, _, _, rfl, rfl, _, _, rfl, rfl, _, _, rfl, rfl, ⟨by decide, by decide, k2⟩, _, _, rfl, rfl, n47, ?_⟩⟩
      refine ⟨_, rfl, _, _, rfl, rfl, ⟨by decide, by decide, by decide⟩, _, _, rfl, rfl, _, rfl, ?_⟩
      refine ite2 (fun c2 => ?_) (fun c2 => ?_)
      · refine ⟨_, rfl, _, rfl, (by show 2 ≤ sizeLine; decide), fun p hp => ?_⟩
        exact q p _ (Same.new hp) hp ⟨_, _, z0 0, z1 0, upd_same⟩
      · refine ⟨_, rfl, _, rfl, (by show 2 ≤ sizeLine; decide), fun p hp => ?_⟩
        exact q p _ (Same.new hp) hp ⟨_, _, z0 0, z1 0, upd_same⟩
abbrev s__law_draw : Stmt := top 12
theorem sc__law_draw : FnScope ["_law_pool_here", "_law_many", "_law_digit"] ["_law_pool_here", "_law_many"] (defScope s__law_draw) := ⟨rfl, rfl, rfl, by decide +kernel, rfl, by decide +kernel, by decide +kernel⟩
def spDraw : Sp := fun vs H Q _ => ∃ (pp : Addr) (n : Int), vs = [.ref pp, .int n] ∧ 0 < n ∧ Sm n ∧ PoolAt H pp ∧ ∀ d H', 0 ≤ d → d < n → PoolAt H' pp → Keep pp H H' → Q (.int d) H'
theorem ok__law_draw (h : Has K mg "_law_draw" s__law_draw ["_law_pool_here", "_law_many"]) (T : Txt K mg aR) : Ok P w K mg base 1 "_law_draw" ["_law_pool_here", "_law_many"] spDraw := by
  obtain ⟨f, fd, g, b, F⟩ := h
  refine ⟨f, fd, g, F.kp, b, F.ok sc__law_draw (fun vs H Q E h => ?_) (fun cdv A outer s H vs Q E hr h => ?_)⟩
  · obtain ⟨pp, n, rfl, _⟩ := h
    rfl
  · obtain ⟨pp, n, rfl, hn, sn, ⟨c, z, z0, z1, hp⟩, q⟩ := h
    have hn0 : n ≠ 0 := by omega
    refine ⟨_, (pss_cons (ps_if (pt_cmpR op_gt (pe_ix ix_list (pv 0) pe_int (fun _ _ => rfl)) pe_int (nomark _))
      (pss_cons (ps_set (i := 2) sc__law_draw.nd rfl (Or.inl rfl) (pe_op op_modN (pe_callTy call_int1 (by rfl) T.int (by decide +kernel) (pa_cons (pe_ix ix_list (pv 0) pe_int (fun _ _ => rfl)) pa_nil)) (pv 1)))
      (pss_cons (ps_asg (pe_op op_divS (pe_ix ix_list (pv 0) pe_int (fun _ _ => rfl)) (pv 1)) (pg_sub (pv 0) pe_int set_list))
      (pss_one (ps_ret (pv 2)))))
      pss_nil)
    (pss_cons (ps_asg (pe_op op_modN (pe_callTy call_int1 (by rfl) T.int (by decide +kernel) (pa_cons (pe_op op_add (pe_op op_mulS (pe_ix ix_list (pv 0) pe_int (fun _ _ => rfl)) pe_int) pe_int) pa_nil)) pe_int) (pg_sub (pv 0) pe_int set_list))
    (pss_one (ps_ret (pe_op op_modN (pe_op op_divS (pe_op op_modN (pe_callTy call_int1 (by rfl) T.int (by decide +kernel) (pa_cons (pe_op op_mulS (pe_ix ix_list (pv 0) pe_int (fun _ _ => rfl)) (pe_ix ix_list (pv 0) pe_int (fun _ _ => rfl))) pa_nil)) pe_int) pe_int) (pv 1)))))), ?_⟩
    refine ⟨_, rfl, pp, _, _, _, rfl, rfl, SqL.of hp, atI0, _, _, rfl, rfl, _, rfl, ?_⟩
    refine ite2 (fun c1 => ?_) (fun c1 => ?_)
    · refine ⟨_, rfl, pp, _, _, _, rfl, rfl, SqL.of hp, atI0, .inl ⟨_, rfl, _, rfl, _, _, rfl, rfl, hn0, ?_⟩⟩
      refine ⟨_, rfl, pp, _, _, _, rfl, rfl, SqL.of hp, atI0, _, rfl, _, _, rfl, rfl, ⟨hn0, sn⟩, _, rfl, pp, _, _, 0, rfl, rfl, hp, rfl, ?_⟩
      refine ⟨_, rfl, ?_⟩
      exact q _ _ (Int.fmod_nonneg_of_pos _ hn) (Int.fmod_lt_of_pos _ hn) ⟨_, z, z0, z1, upd_same⟩ fun b o e nb => by
        rw [upd_ne nb]
        exact e
    · have s0 : 0 ≤ (z * 48271 + 11).fmod 2147483647 := Int.fmod_nonneg_of_pos _ (by decide)
      have s1 : (z * 48271 + 11).fmod 2147483647 < 2147483647 := Int.fmod_lt_of_pos _ (by decide)
      refine ⟨_, rfl, pp, _, _, _, rfl, rfl, SqL.of hp, atI1, _, _, rfl, rfl, ⟨⟨by omega, by omega⟩, ⟨by decide, by decide⟩⟩, _, _, rfl, rfl, .inl ⟨_, rfl, _, _, rfl, rfl, n47, _, rfl, pp, _, _, 1, rfl, rfl, hp, rfl, ?_⟩⟩
      have e2 : (upd H pp (.lst ([V.int c, V.int z].set 1 (.int ((z * 48271 + 11).fmod 2147483647))))) pp = some (.lst [V.int c, V.int ((z * 48271 + 11).fmod 2147483647)]) := upd_same
      refine ⟨_, rfl, pp, _, _, _, rfl, rfl, SqL.of e2, atI1, _, rfl, pp, _, _, _, rfl, rfl, SqL.of e2, atI1, _, _, rfl, rfl, ⟨⟨by omega, by omega⟩, ⟨by omega, by omega⟩⟩, .inl ⟨_, rfl, _, _, rfl, rfl, n29, _, _, rfl, rfl, ⟨by decide, ⟨by decide, by decide⟩⟩, _, rfl, _, _, rfl, rfl, hn0, ?_⟩⟩
      exact q _ _ (Int.fmod_nonneg_of_pos _ hn) (Int.fmod_lt_of_pos _ hn) ⟨_, _, s0, s1, e2⟩ fun b o e nb => by
        rw [upd_ne nb]
        exact e
abbrev s__law_choose : Stmt := top 13
theorem sc__law_choose : FnScope ["_law_pool_here", "_law_items"] ["_law_pool_here", "_law_items"] (defScope s__law_choose) := ⟨rfl, rfl, rfl, by decide +kernel, rfl, by decide +kernel, by decide +kernel⟩
def spChoose (K : PySem.W.Frag) : Sp := fun vs H Q _ => ∃ (pp l : Addr) (xs : List V), vs = [.ref pp, .ref l] ∧ SqL K H l xs ∧ l ≠ pp ∧ 0 < xs.length ∧ xs.length < 1000000 ∧ PoolAt H pp ∧ ∀ v H', v ∈ xs → PoolAt H' pp → Keep pp H H' → Q v H'
theorem ok__law_choose (h : Has K mg "_law_choose" s__law_choose ["_law_pool_here", "_law_items"]) (T : Txt K mg aR) (O__law_draw : Ok P w K mg base 1 "_law_draw" ["_law_pool_here", "_law_many"] spDraw) : Ok P w K mg base 2 "_law_choose" ["_law_pool_here", "_law_items"] (spChoose K) := by
  obtain ⟨f, fd, g, b, F⟩ := h
  refine ⟨f, fd, g, F.kp, b, F.ok sc__law_choose (fun vs H Q E h => ?_) (fun cdv A outer s H vs Q E hr h => ?_)⟩
  · obtain ⟨pp, l, xs, rfl, _⟩ := h
    rfl
  · obtain ⟨pp, l, xs, rfl, hS, hne, hl0, hl1, hP, q⟩ := h
    refine ⟨_, (pss_one (ps_ret (pe_ix ix_list (pv 1) (pe_cO O__law_draw (hr.mono (by decide)) pass0 rfl (pa_cons (pv 0) (pa_cons (pe_callB call_len_seq (by rfl) T.len (by decide +kernel) (pa_cons (pv 1) pa_nil)) pa_nil))) (fun _ _ => rfl)))), ?_⟩
    refine ⟨_, rfl, _, rfl, _, rfl, l, xs, rfl, .inl hS, pp, _, rfl, by omega, ⟨by omega, by omega⟩, hP, fun d H' d0 d1 P' k' => ?_⟩
    have hj : d.toNat < xs.length := by omega
    refine ⟨l, xs, d, xs[d.toNat], rfl, rfl, k'.seq hne hS, ?_, q _ H' (List.getElem_mem hj) P' k'⟩
    exact at_of (j := d.toNat) (by omega) (List.getElem?_eq_getElem hj)
end
/-! ### own operators: x op y by a method of the class of x (or of y) -/
section
variable {X : Cx} {CX : CXT} {k : Nat} {f C : Addr} {fd : FuncData} {ps : List Str} {sp : Sp} {E : XK}
/-- what comes back of a kept promise is no NotImplemented -/
theorem back_of {pins : List (Addr × Obj)} {σ : St} {Q : VK} {v : Value} {s' : Shared} (h : EP X pins σ Q v s') : PySem.W.CmpBack (EP X pins σ Q) v s' := by
  have h' := h
  obtain ⟨x, H', I, r, q⟩ := h'
  cases v <;> first | exact h | (exfalso; cases x <;> first | (obtain ⟨t, r⟩ := r; cases r; done) | (cases r; done))
/-- the two are instances of the class at C -/
def rOwn2 (C : Addr) (sp : Sp) (E : XK) : R2 := fun x y H Q => ∃ a b dx dy fs gs, x = .ref a ∧ y = .ref b ∧ H a = some (.ins C dx fs) ∧ H b = some (.ins C dy gs) ∧ sp [.ref a, .ref b] H Q E
theorem op_own2 {op : Operator} (F : FnOk X.prog X.w X.K X.mg X.base CX k f fd ps sp) (hr : Room k X.A) (hb : Binds X.K fd ps []) (hx : Passes CX X E) (hc : PySem.W.selfFirst X.K C = true)
    (hs : PySem.W.findIn X.K (.ref C) (PySem.dunder op.info.2) = some (some (.ref f))) (hf : PySem.W.isFn X.K (.ref f) = true) : OpR X (binaryOp op) (rOwn2 C sp E) := by
  intro pins s σ H x y v u Q I rx ry h
  obtain ⟨a, b, dx, dy, fs, gs, rfl, rfl, ha, hb', hq⟩ := h
  cases rx
  cases ry
  obtain ⟨mA, J, _⟩ := ins_get I.hok ha
  obtain ⟨mB, J', _⟩ := ins_get I.hok hb'
  obtain ⟨od, J, _⟩ := J.look
  obtain ⟨od', J', _⟩ := J'.look
  obtain ⟨m, hF⟩ := I.fr
  exact PySem.W.binop_K hF I.ok.mod.kin J J'.type hc hs hf (wpAny_mono (run_fn (vs := [.ref a, .ref b]) F hr hb .nil hx I (.cons rfl (.cons rfl .nil)) hq) (fun _ _ z => back_of z) fun _ _ z => z)
/-- the right one is an int -/
def rOwnI (C : Addr) (sp : Sp) (E : XK) : R2 := fun x y H Q => ∃ a i dx fs, x = .ref a ∧ y = .int i ∧ H a = some (.ins C dx fs) ∧ sp [.ref a, .int i] H Q E
theorem op_ownI {op : Operator} {fo ro rc : Option Value} (F : FnOk X.prog X.w X.K X.mg X.base CX k f fd ps sp) (hr : Room k X.A) (hb : Binds X.K fd ps []) (hx : Passes CX X E) (hc : PySem.W.selfFirst X.K C = true)
    (hs : PySem.W.findIn X.K (.ref C) (PySem.dunder op.info.2) = some (some (.ref f))) (hf : PySem.W.isFn X.K (.ref f) = true) (hR : PySem.W.findIn X.K (.ref C) (dunderR op.info.2) = some rc) (hp : rc = none ∨ ∃ g : Addr, rc = some (.ref g))
    (h1 : PySem.W.findIn X.K (.type "int") (PySem.dunder op.info.2) = some fo) (h2 : PySem.W.findIn X.K (.type "int") (dunderR op.info.2) = some ro) (hsub : PySem.W.subIn X.K (.type "int") (.ref C) = some false) : OpR X (binaryOp op) (rOwnI C sp E) := by
  intro pins s σ H x y v u Q I rx ry h
  obtain ⟨a, i, dx, fs, rfl, rfl, ha, hq⟩ := h
  cases rx
  obtain ⟨t, rfl⟩ := ry
  obtain ⟨mA, J, _⟩ := ins_get I.hok ha
  obtain ⟨od, J, _⟩ := J.look
  obtain ⟨m, hF⟩ := I.fr
  exact PySem.W.ksp_binT hF I.ok.mod.kin J rfl hc hs hf hR hp h1 h2 hsub (wpAny_mono (run_fn (vs := [.ref a, .int i]) F hr hb .nil hx I (.cons rfl (.cons ⟨t, rfl⟩ .nil)) hq) (fun _ _ z => back_of z) fun _ _ z => z)
/-- -x -/
theorem un_own (F : FnOk X.prog X.w X.K X.mg X.base CX k f fd ps sp) (hr : Room k X.A) (hb : Binds X.K fd ps []) (hx : Passes CX X E)
    (hs : PySem.W.findIn X.K (.ref C) "__neg__" = some (some (.ref f))) (hf : PySem.W.isFn X.K (.ref f) = true) : UnR X (unaryOp .USub) (fun x H Q => ∃ a dx fs, x = .ref a ∧ H a = some (.ins C dx fs) ∧ sp [.ref a] H Q E) := by
  intro pins s σ H x v Q I rx h
  obtain ⟨a, dx, fs, rfl, ha, hq⟩ := h
  cases rx
  obtain ⟨mA, J, _⟩ := ins_get I.hok ha
  obtain ⟨od, J, _⟩ := J.look
  obtain ⟨m, hF⟩ := I.fr
  exact PySem.W.ksp_neg hF I.ok.mod.kin J hs hf (run_fn (vs := [.ref a]) F hr hb .nil hx I (.cons rfl .nil) hq)
/-- x op= y of an own class -/
def rOwnIn (C : Addr) (sp : Sp) (E : XK) : R2 := fun x y H Q => ∃ a dx fs, x = .ref a ∧ H a = some (.ins C dx fs) ∧ sp [.ref a, y] H Q E
theorem op_ownIn {op : Operator} (F : FnOk X.prog X.w X.K X.mg X.base CX k f fd ps sp) (hr : Room k X.A) (hb : Binds X.K fd ps []) (hx : Passes CX X E) (hc : PySem.W.selfFirst X.K C = true)
    (hs : PySem.W.findIn X.K (.ref C) (dunderI op.info.2) = some (some (.ref f))) (hf : PySem.W.isFn X.K (.ref f) = true) : OpR X (inplaceOp op) (rOwnIn C sp E) := by
  intro pins s σ H x y v u Q I rx ry h
  obtain ⟨a, dx, fs, rfl, ha, hq⟩ := h
  cases rx
  obtain ⟨mA, J, _⟩ := ins_get I.hok ha
  obtain ⟨od, J, _⟩ := J.look
  obtain ⟨m, hF⟩ := I.fr
  exact PySem.W.ksp_inplace hF I.ok.mod.kin J hc hs hf (wpAny_mono (run_fn (vs := [.ref a, y]) F hr hb .nil hx I (.cons rfl (.cons ry .nil)) hq) (fun _ _ z => back_of z) fun _ _ z => z)
/-- == < <= > >= by a method of the class of the left one; the right one is an instance of the same class -/
theorem op_cmp2 {op : CmpOp} (F : FnOk X.prog X.w X.K X.mg X.base CX k f fd ps sp) (hr : Room k X.A) (hb : Binds X.K fd ps []) (hx : Passes CX X E)
    (hs : PySem.W.findIn X.K (.ref C) (cmpInfo op).2.1 = some (some (.ref f))) (hf : PySem.W.isFn X.K (.ref f) = true) (ho : compareOp op = richCompare op) : OpR X (compareOp op) (rOwn2 C sp E) := by
  intro pins s σ H x y v u Q I rx ry h
  obtain ⟨a, b, dx, dy, fs, gs, rfl, rfl, ha, hb', hq⟩ := h
  cases rx
  cases ry
  obtain ⟨mA, J, _⟩ := ins_get I.hok ha
  obtain ⟨mB, J', _⟩ := ins_get I.hok hb'
  obtain ⟨od, J, _⟩ := J.look
  obtain ⟨od', J', _⟩ := J'.look
  obtain ⟨m, hF⟩ := I.fr
  rw [ho]
  exact PySem.W.cmp_K hr.units0 hF I.ok.mod.kin J J'.type (by simp [PySem.W.notFirst]) hs hf (wpAny_mono (run_fn (vs := [.ref a, .ref b]) F hr hb .nil hx I (.cons rfl (.cons rfl .nil)) hq) (fun _ _ z => back_of z) fun _ _ z => z)
/-- the right one is a value of the built-in type T -/
def rOwnT (C : Addr) (T : String) (sp : Sp) (E : XK) : R2 := fun x y H Q => ∃ a dx fs, x = .ref a ∧ H a = some (.ins C dx fs) ∧ (∀ u : Value, RelV y u → typeOf u = pure (.type T)) ∧ sp [.ref a, y] H Q E
theorem op_cmpT {op : CmpOp} {T : String} (F : FnOk X.prog X.w X.K X.mg X.base CX k f fd ps sp) (hr : Room k X.A) (hb : Binds X.K fd ps []) (hx : Passes CX X E)
    (hs : PySem.W.findIn X.K (.ref C) (cmpInfo op).2.1 = some (some (.ref f))) (hf : PySem.W.isFn X.K (.ref f) = true) (hn : PySem.W.notFirst X.K C (.type T) = true) (ho : compareOp op = richCompare op) : OpR X (compareOp op) (rOwnT C T sp E) := by
  intro pins s σ H x y v u Q I rx ry h
  obtain ⟨a, dx, fs, rfl, ha, ht, hq⟩ := h
  cases rx
  obtain ⟨mA, J, _⟩ := ins_get I.hok ha
  obtain ⟨od, J, _⟩ := J.look
  obtain ⟨m, hF⟩ := I.fr
  rw [ho]
  exact PySem.W.cmp_K hr.units0 hF I.ok.mod.kin J (PySem.W.Looks.of_pure (ht u ry)) hn hs hf (wpAny_mono (run_fn (vs := [.ref a, y]) F hr hb .nil hx I (.cons rfl (.cons ry .nil)) hq) (fun _ _ z => back_of z) fun _ _ z => z)
end
/-! ### an int to the left, an own instance to the right -/
section
open PySem.W PySem.Calls PyProof.Rows
variable {prog : Program} {w : World} {A : Around} {E : Value → Shared → Prop} {s : Shared} {K : Frag} {x C L f f0 : Addr} {h₀ : Heap} {m : Str → Option Value} {ox : Obj} {od : Option Obj}
theorem binR {op : Operator} {i : Int} {t : Tok} {B : Builtin} {idl : String} {Q : Value → Shared → Prop} (F : Fr h₀ L s.heap m) (X₀ : K.In h₀) (I : InstAt s.heap x ox C od) (hc : selfFirst K C = true)
    (hs : findIn K (.ref C) (PySem.dunder op.info.2) = some (some (.ref f0))) (hr : findIn K (.ref C) (dunderR op.info.2) = some (some (.ref f))) (hf : isFn K (.ref f) = true)
    (fillsI : fillsNumberSlot (.type "int") op.info.2 = pure true) (slot : Slot "int" (PySem.dunder op.info.2) idl) (entry : entryFor table idl = some B) (args : argsOk idl ⟨[.int i t, .ref x], []⟩)
    (g : Meets (B ⟨[.int i t, .ref x], []⟩) (fun _ R s => s.heap.get? x = some ox ∧ R (.ok (.ret .notImplemented)) s)) (hsub : subIn K (.ref C) (.type "int") = some false)
    (h : wpAny (model prog w) A (call (.ref f) [.ref x, .int i t]) (PySem.W.CmpBack Q) E s) : wpAny (model prog w) A (binaryOp op (.int i t) (.ref x)) Q E s := by
  have X := X₀.keeps F.keep
  obtain ⟨cd, rest, hcd, hm⟩ := ksp_first hc
  rcases hi : op.info with ⟨sym, nm'⟩
  rw [hi] at hs hr fillsI slot
  dsimp only at hs hr fillsI slot
  have one := ksp_try X I hr hf h
  have L1 : Looks (model prog w) s.heap (typeOf (.int i t)) (.type "int") := Looks.of_pure rfl
  have L2 : Looks (model prog w) s.heap (typeOf (.ref x)) (.ref C) := I.type
  have L3 : Looks (model prog w) s.heap (fillsNumberSlot (.type "int") nm') true := Looks.of_pure fillsI
  have L4 : Looks (model prog w) s.heap (fillsNumberSlot (.ref C) nm') true := fills_K X hcd hm hs
  have L5 : Looks (model prog w) s.heap (isSubtype (.ref C) (.type "int")) false := looks_subIn X hsub
  have L6 : Looks (model prog w) s.heap (numberSlotInPython (.type "int") nm') false := Looks.of_pure rfl
  have hne : (Value.type "int" == Value.ref C) = false := Bool.eq_false_iff.mpr fun q => by cases beq_iff_eq.mp q
  simp only [binaryOp, hi]
  refine wpAny_holding (wpAny_bind ?_)
  unfold binaryOp1
  refine wpAny_bind (L1.here (wpAny_bind (L2.here (wpAny_bind (L3.here ?_)))))
  simp only [hne, Bool.false_eq_true, if_false]
  refine wpAny_bind (L4.here ?_)
  simp only [Bool.and_self, if_true]
  refine wpAny_bind (L5.here ?_)
  simp only [Bool.false_eq_true, if_false, Bool.not_false, if_true]
  refine wpAny_bind (L6.here ?_)
  simp only [Bool.false_eq_true, if_false, pure_bind]
  refine wpAny_bind (wpAny_tryMethod_declines (typeIs_int s i t) slot (call_meets slot (typeIs_int s i t) entry args g (And.intro I.at_ (And.intro rfl ?_))))
  dsimp only
  refine wpAny_bind (wpAny_mono one (fun r s' hr' => ?_) fun _ _ e => e)
  obtain ⟨v, rfl, hq⟩ := hr'
  exact wpAny_bind (wpAny_rule (wpAny_pure (wpAny_pure hq)))
end
section
variable {X : Cx} {CX : CXT} {k : Nat} {f f0 C : Addr} {fd : FuncData} {ps : List Str} {sp : Sp} {E : XK}
/-- the left one is an int -/
def rOwnR (C : Addr) (sp : Sp) (E : XK) : R2 := fun x y H Q => ∃ a i dx fs, x = .int i ∧ y = .ref a ∧ H a = some (.ins C dx fs) ∧ sp [.ref a, .int i] H Q E
theorem op_ownR {op : Operator} {B : Builtin} {idl : String} (F : FnOk X.prog X.w X.K X.mg X.base CX k f fd ps sp) (hr : Room k X.A) (hb : Binds X.K fd ps []) (hx : Passes CX X E) (hc : PySem.W.selfFirst X.K C = true)
    (hs : PySem.W.findIn X.K (.ref C) (PySem.dunder op.info.2) = some (some (.ref f0))) (hR : PySem.W.findIn X.K (.ref C) (dunderR op.info.2) = some (some (.ref f))) (hf : PySem.W.isFn X.K (.ref f) = true)
    (fillsI : fillsNumberSlot (.type "int") op.info.2 = pure true) (slot : Slot "int" (PySem.dunder op.info.2) idl) (entry : entryFor table idl = some B) (args : ∀ a b : Value, argsOk idl ⟨[a, b], []⟩)
    (g : ∀ (i : Int) (t : Tok) (x C dx : Addr), Meets (B ⟨[.int i t, .ref x], []⟩) (fun _ R s => s.heap.get? x = some (PySem.W.instObj C dx) ∧ R (.ok (.ret .notImplemented)) s)) (hsub : PySem.W.subIn X.K (.ref C) (.type "int") = some false) : OpR X (binaryOp op) (rOwnR C sp E) := by
  intro pins s σ H x y v u Q I rx ry h
  obtain ⟨a, i, dx, fs, rfl, rfl, ha, hq⟩ := h
  obtain ⟨t, rfl⟩ := rx
  cases ry
  obtain ⟨mA, J, _⟩ := ins_get I.hok ha
  obtain ⟨od, J, _⟩ := J.look
  obtain ⟨m, hF⟩ := I.fr
  exact binR hF I.ok.mod.kin J hc hs hR hf fillsI slot entry (args _ _) (g _ _ _ _ _) hsub (wpAny_mono (run_fn (vs := [.ref a, .int i]) F hr hb .nil hx I (.cons rfl (.cons ⟨t, rfl⟩ .nil)) hq) (fun _ _ z => back_of z) fun _ _ z => z)
end
theorem ni_add (i : Int) (t : Tok) (x C dx : Addr) : Meets (Builtin.«int.__add__» ⟨[.int i t, .ref x], []⟩) (fun _ R s => s.heap.get? x = some (PySem.W.instObj C dx) ∧ R (.ok (.ret .notImplemented)) s) :=
  .of_wp fun prog w A R s h => by obtain ⟨hp, g, d, tk, os⟩ := s; obtain ⟨hl, h⟩ := h; wp_walk using wpAny_loadPart' hl, wpAny_load hl; exact ⟨_, rfl, h⟩
theorem ni_sub (i : Int) (t : Tok) (x C dx : Addr) : Meets (Builtin.«int.__sub__» ⟨[.int i t, .ref x], []⟩) (fun _ R s => s.heap.get? x = some (PySem.W.instObj C dx) ∧ R (.ok (.ret .notImplemented)) s) :=
  .of_wp fun prog w A R s h => by obtain ⟨hp, g, d, tk, os⟩ := s; obtain ⟨hl, h⟩ := h; wp_walk using wpAny_loadPart' hl, wpAny_load hl; exact ⟨_, rfl, h⟩
theorem ni_mul (i : Int) (t : Tok) (x C dx : Addr) : Meets (Builtin.«int.__mul__» ⟨[.int i t, .ref x], []⟩) (fun _ R s => s.heap.get? x = some (PySem.W.instObj C dx) ∧ R (.ok (.ret .notImplemented)) s) :=
  .of_wp fun prog w A R s h => by obtain ⟨hp, g, d, tk, os⟩ := s; obtain ⟨hl, h⟩ := h; wp_walk using wpAny_loadPart' hl, wpAny_load hl; exact ⟨_, rfl, h⟩
theorem ni_floordiv (i : Int) (t : Tok) (x C dx : Addr) : Meets (Builtin.«int.__floordiv__» ⟨[.int i t, .ref x], []⟩) (fun _ R s => s.heap.get? x = some (PySem.W.instObj C dx) ∧ R (.ok (.ret .notImplemented)) s) :=
  .of_wp fun prog w A R s h => by obtain ⟨hp, g, d, tk, os⟩ := s; obtain ⟨hl, h⟩ := h; wp_walk using wpAny_loadPart' hl, wpAny_load hl; exact ⟨_, rfl, h⟩
theorem ni_mod (i : Int) (t : Tok) (x C dx : Addr) : Meets (Builtin.«int.__mod__» ⟨[.int i t, .ref x], []⟩) (fun _ R s => s.heap.get? x = some (PySem.W.instObj C dx) ∧ R (.ok (.ret .notImplemented)) s) :=
  .of_wp fun prog w A R s h => by obtain ⟨hp, g, d, tk, os⟩ := s; obtain ⟨hl, h⟩ := h; wp_walk using wpAny_loadPart' hl, wpAny_load hl; exact ⟨_, rfl, h⟩
theorem ni_truediv (i : Int) (t : Tok) (x C dx : Addr) : Meets (Builtin.«int.__truediv__» ⟨[.int i t, .ref x], []⟩) (fun _ R s => s.heap.get? x = some (PySem.W.instObj C dx) ∧ R (.ok (.ret .notImplemented)) s) :=
  .of_wp fun prog w A R s h => by obtain ⟨hp, g, d, tk, os⟩ := s; obtain ⟨hl, h⟩ := h; wp_walk using wpAny_loadPart' hl, wpAny_load hl; exact ⟨_, rfl, h⟩
/-! ### != by the text's own ==: object.__ne__ asks it and turns the answer round -/
section
open PySem.W PySem.Calls
variable {prog : Program} {w : World} {A : Around} {E : Value → Shared → Prop} {s : Shared} {K : Frag} {x C L f : Addr} {h₀ : Heap} {m : Str → Option Value} {ox : Obj} {od : Option Obj} {b : Value}
theorem ne_entry (X : K.In s.heap) (I : InstAt s.heap x ox C od) (he : findIn K (.ref C) "__eq__" = some (some (.ref f))) (hf : isFn K (.ref f) = true) (hu : A.units < cLine) {Q : Fin → Shared → Prop}
    (hcall : wpAny (model prog w) A (call (.ref f) [.ref x, b]) (fun v s' => ∃ r, v = .bool r ∧ Q (.done (.ret (.bool (!r)))) s') E s) :
    wpAny (model prog w) A (Builtin.«object.__ne__» ⟨[.ref x, b], []⟩) Q E s := by
  unfold Builtin.«object.__ne__»
  repeat (first
    | with_reducible refine wpAny_cRoomFor hu ?_
    | (refine wpAny_bind (m := callSpecialIfBound? (.ref x) (Str.ofString "__eq__") [b])
        (ifBound_K X I he hf (wpAny_mono hcall (fun r s' hr => by
          obtain ⟨b, rfl, hq⟩ := hr
          repeat (first | exact hq | exact wpAny_pure hq | exact wpAny_truthy_bool hq | (refine wpAny_bind (m := truthy (.bool _)) (wpAny_truthy_bool ?_)) | wp_step)) fun _ _ e => e)))
    | wp_step)
theorem ifBound_slot {name : Str} {id T : String} {args : List Value} {Q : Option Value → Shared → Prop} (S : PySem.Slot T name id) (X : K.In s.heap) (I : InstAt s.heap x ox C od) (hs : findIn K (.ref C) name = some (some (.builtin id)))
    (h : wpAny (model prog w) A (call (.builtin id) (.ref x :: args)) (fun v => Q (some v)) E s) : wpAny (model prog w) A (callSpecialIfBound? (.ref x) name args) Q E s := by
  simp only [callSpecialIfBound?, bindSpecialIfBound?]
  refine wpAny_holding (wpAny_bind (wpAny_bind (wpAny_bind (I.type.here ((looks_findIn X hs).here ?_)))))
  refine wpAny_bind (wpAny_askSetting (wpAny_ite ?_))
  have fin : wpAny (model prog w) A (call (.builtin id) ([.ref x] ++ args) >>= fun v => pure (some v)) Q E s := wpAny_bind (wpAny_mono h (fun v s' h' => wpAny_pure h') fun _ _ h' => h')
  split
  · rw [S.bind]
    exact wpAny_bind (wpAny_pure (wpAny_pure (by exact fin)))
  · rw [S.bind]
    exact wpAny_tryCatch (wpAny_bind (wpAny_pure (wpAny_pure (by exact fin))))
theorem try_ne {Q : Option Value → Shared → Prop} (X : K.In s.heap) (I : InstAt s.heap x ox C od) (hne : findIn K (.ref C) "__ne__" = some (some (.builtin "object.__ne__"))) (hob : subIn K (.ref C) (.type "object") = some true)
    (he : findIn K (.ref C) "__eq__" = some (some (.ref f))) (hf : isFn K (.ref f) = true) (hu : A.in1.units < cLine)
    (hcall : wpAny (model prog w) A.in1 (call (.ref f) [.ref x, b]) (fun v s' => ∃ r, v = .bool r ∧ Q (some (.bool (!r))) s') E s) : wpAny (model prog w) A (tryCompare (.ref x) "__ne__" b) Q E s := by
  unfold tryCompare
  refine wpAny_bind (ifBound_slot F.cmp_object.ne X I hne (wpAny_call (codeAny_call_builtin F.cmp_object.ne.plain F.cmpEntry_ne (PySem.W.check_slot F.cmpKind_ne F.cmpSplit_ne (I.type.andThen (looks_subIn X hob)) (F.cmpArgs_ne _ _)
    (ne_entry X I he hf hu (wpAny_mono hcall (fun v s' hv => ?_) fun _ _ e => e))))))
  obtain ⟨r, rfl, hq⟩ := hv
  exact ⟨r, rfl, wpAny_pure hq⟩
/-- != with any right side whose type is no subclass -/
theorem ne_K {tb : Value} {Q : Value → Shared → Prop} (hu : A.in1.units < cLine) (hu0 : A.units < cLine) (X : K.In s.heap) (I : InstAt s.heap x ox C od) (hb : Looks (model prog w) s.heap (typeOf b) tb) (hn : notFirst K C tb = true)
    (hne : findIn K (.ref C) "__ne__" = some (some (.builtin "object.__ne__"))) (hob : subIn K (.ref C) (.type "object") = some true) (he : findIn K (.ref C) "__eq__" = some (some (.ref f))) (hf : isFn K (.ref f) = true)
    (hcall : wpAny (model prog w) A.in1 (call (.ref f) [.ref x, b]) (fun v s' => ∃ r, v = .bool r ∧ Q (.bool (!r)) s') E s) : wpAny (model prog w) A (richCompare .NotEq (.ref x) b) Q E s := by
  have one : wpAny (model prog w) A (tryCompare (.ref x) "__ne__" b) (fun r s' => ∃ v, r = some v ∧ Q v s') E s :=
    try_ne X I hne hob he hf hu (wpAny_mono hcall (fun v s' hv => by obtain ⟨r, e, q⟩ := hv; exact ⟨r, e, _, rfl, q⟩) fun _ _ e => e)
  unfold richCompare
  simp only [oneThing_ref]
  refine wpAny_holding (wpAny_bind (wpAny_cRoomFor hu0 ?_))
  refine wpAny_bind (I.type.here (wpAny_bind (hb.here ?_)))
  rw [cmpInfo_NotEq]
  split
  · rename_i q
    have e : subIn K tb (.ref C) = some false := by
      rcases Bool.or_eq_true_iff.mp hn with e | e
      · rw [beq_iff_eq.mp e] at q; simp at q
      · exact beq_iff_eq.mp e
    refine wpAny_bind ((looks_subIn X e).here ?_)
    simp only [Bool.false_eq_true, if_false]
    refine wpAny_bind (wpAny_mono one (fun r s' z => ?_) fun _ _ e => e)
    obtain ⟨v, rfl, hq⟩ := z
    exact wpAny_pure hq
  · refine wpAny_bind (wpAny_pure ?_)
    simp only [Bool.false_eq_true, if_false]
    refine wpAny_bind (wpAny_mono one (fun r s' z => ?_) fun _ _ e => e)
    obtain ⟨v, rfl, hq⟩ := z
    exact wpAny_pure hq
end
section
variable {X : Cx} {CX : CXT} {k : Nat} {f C : Addr} {fd : FuncData} {ps : List Str} {sp : Sp} {E : XK}
/-- a promise kept one builtin further in -/
theorem run_in1 {pins : List (Addr × Obj)} {σ : St} {H : Hp} {s : Shared} {Q : VK} {us : List Value} {vs : List V} (F : FnOk X.prog X.w X.K X.mg X.base CX k f fd ps sp) (hr : Room (k + 1) X.A) (hb : Binds X.K fd ps []) (hx : Passes CX X E)
    (I : Inv X pins σ H s) (r : Vals vs us) (h : sp vs H Q E) : wpAny (model X.prog X.w) X.A.in1 (call (.ref f) us) (EP X pins σ Q) X.xe s := by
  have hl : (us ++ []).length = ps.length := by
    rw [List.append_nil, ← F.len _ _ _ _ h]
    exact r.length.symm
  refine wpAny_call (codeAny_mono (F.run X.A.in1 X.stack s H ⟨us, []⟩ us vs Q E hr.in1 I.env0.in1 (by simpa using hb s us I.kIn hl) r h) fun r s' hq => ?_)
  cases r with
  | error er => exact hx pins σ H s er s' I hq
  | ok fl =>
    cases fl with
    | ret u => exact I.after hq
    | next => exact False.elim hq
    | brk => exact False.elim hq
    | cont => exact False.elim hq
/-- what is asked of a class whose != is object's -/
structure NeC (K : PySem.W.Frag) (C f : Addr) : Prop where
  ne : PySem.W.findIn K (.ref C) "__ne__" = some (some (.builtin "object.__ne__"))
  ob : PySem.W.subIn K (.ref C) (.type "object") = some true
  eq : PySem.W.findIn K (.ref C) "__eq__" = some (some (.ref f))
  fn : PySem.W.isFn K (.ref f) = true
/-- the answer turned round -/
def rNotV (Q : VK) : VK := fun v H' => ∃ r, v = .bl r ∧ Q (.bl (!r)) H'
theorem not_back {pins : List (Addr × Obj)} {σ : St} {Q : VK} {v : Value} {s' : Shared} (h : EP X pins σ (rNotV Q) v s') : ∃ r, v = .bool r ∧ EP X pins σ Q (.bool (!r)) s' := by
  obtain ⟨x, H', I, r, b, e, q⟩ := h
  subst e
  cases r
  exact ⟨b, rfl, .bl (!b), H', I, rfl, q⟩
theorem op_ne2 (N : NeC X.K C f) (F : FnOk X.prog X.w X.K X.mg X.base CX k f fd ps sp) (hr : Room (k + 1) X.A) (hb : Binds X.K fd ps []) (hx : Passes CX X E) :
    OpR X (compareOp .NotEq) (fun x y H Q => ∃ a b dx dy fs gs, x = .ref a ∧ y = .ref b ∧ H a = some (.ins C dx fs) ∧ H b = some (.ins C dy gs) ∧ sp [.ref a, .ref b] H (rNotV Q) E) := by
  intro pins s σ H x y v u Q I rx ry h
  obtain ⟨a, b, dx, dy, fs, gs, rfl, rfl, ha, hb', hq⟩ := h
  cases rx
  cases ry
  obtain ⟨mA, J, _⟩ := ins_get I.hok ha
  obtain ⟨mB, J', _⟩ := ins_get I.hok hb'
  obtain ⟨od, J, _⟩ := J.look
  obtain ⟨od', J', _⟩ := J'.look
  show wpAny _ _ (richCompare .NotEq _ _) _ _ _
  exact ne_K hr.in1.units0 (hr.mono (Nat.le_succ _)).units0 I.kIn J J'.type (by simp [PySem.W.notFirst]) N.ne N.ob N.eq N.fn (wpAny_mono (run_in1 (vs := [.ref a, .ref b]) F hr hb hx I (.cons rfl (.cons rfl .nil)) hq) (fun _ _ z => not_back z) fun _ _ z => z)
theorem op_neT {T : String} (N : NeC X.K C f) (F : FnOk X.prog X.w X.K X.mg X.base CX k f fd ps sp) (hr : Room (k + 1) X.A) (hb : Binds X.K fd ps []) (hx : Passes CX X E) (hn : PySem.W.notFirst X.K C (.type T) = true) :
    OpR X (compareOp .NotEq) (fun x y H Q => ∃ a dx fs, x = .ref a ∧ H a = some (.ins C dx fs) ∧ (∀ u : Value, RelV y u → typeOf u = pure (.type T)) ∧ sp [.ref a, y] H (rNotV Q) E) := by
  intro pins s σ H x y v u Q I rx ry h
  obtain ⟨a, dx, fs, rfl, ha, ht, hq⟩ := h
  cases rx
  obtain ⟨mA, J, _⟩ := ins_get I.hok ha
  obtain ⟨od, J, _⟩ := J.look
  show wpAny _ _ (richCompare .NotEq _ _) _ _ _
  exact ne_K hr.in1.units0 (hr.mono (Nat.le_succ _)).units0 I.kIn J (PySem.W.Looks.of_pure (ht u ry)) hn N.ne N.ob N.eq N.fn (wpAny_mono (run_in1 (vs := [.ref a, y]) F hr hb hx I (.cons rfl (.cons ry .nil)) hq) (fun _ _ z => not_back z) fun _ _ z => z)
/-! ### a tuple or a list to the right -/
theorem op_eqRef {op : CmpOp} {T : String} (F : FnOk X.prog X.w X.K X.mg X.base CX k f fd ps sp) (hr : Room k X.A) (hb : Binds X.K fd ps []) (hx : Passes CX X E)
    (hs : PySem.W.findIn X.K (.ref C) (cmpInfo op).2.1 = some (some (.ref f))) (hf : PySem.W.isFn X.K (.ref f) = true) (hn : PySem.W.notFirst X.K C (.type T) = true) (ho : compareOp op = richCompare op) :
    OpR X (compareOp op) (fun x y H Q => ∃ a b dx fs, x = .ref a ∧ y = .ref b ∧ H a = some (.ins C dx fs) ∧ (∀ h : Heap, HOk X.prog X.w H h → ∃ o : Obj, h.get? b = some o ∧ o.cls = .type T) ∧ sp [.ref a, .ref b] H Q E) := by
  intro pins s σ H x y v u Q I rx ry h
  obtain ⟨a, b, dx, fs, rfl, rfl, ha, ht, hq⟩ := h
  cases rx
  cases ry
  obtain ⟨mA, J, _⟩ := ins_get I.hok ha
  obtain ⟨od, J, _⟩ := J.look
  obtain ⟨m, hF⟩ := I.fr
  obtain ⟨o, g, c⟩ := ht _ I.hok
  rw [ho]
  have Lb : PySem.W.Looks (model X.prog X.w) s.heap (typeOf (.ref b)) (.type T) := by
    exact c ▸ (PySem.W.Looks.ld g).andThen .now
  exact PySem.W.cmp_K hr.units0 hF I.ok.mod.kin J Lb hn hs hf (wpAny_mono (run_fn (vs := [.ref a, .ref b]) F hr hb .nil hx I (.cons rfl (.cons rfl .nil)) hq) (fun _ _ z => back_of z) fun _ _ z => z)
end
section
variable {X : Cx} {CX : CXT} {k : Nat} {f C : Addr} {fd : FuncData} {ps : List Str} {sp : Sp} {E : XK} {a b : Expr} {ta tb : TE} {pos : Pos}
/-- a[b], a an instance of an own class with __getitem__ -/
def rIxOwn (C : Addr) (sp : Sp) (E : XK) : R2 := fun x y H Q => ∃ a dx fs, x = .ref a ∧ H a = some (.ins C dx fs) ∧ sp [.ref a, y] H Q E
theorem pe_ixOwn (ha : PE X a ta) (hb : PE X b tb) (F : FnOk X.prog X.w X.K X.mg X.base CX k f fd ps sp) (hr : Room (k + 1) X.A) (hbi : Binds X.K fd ps []) (hx : Passes CX X E)
    (hs : PySem.W.findIn X.K (.ref C) "__getitem__" = some (some (.ref f))) (hf : PySem.W.fnIn X.K f = true) (hfn : PySem.W.isFn X.K (.ref f) = true)
    (hsl : ∀ v u : Value, subscripted b true v u = runValue (.builtin "lifetime.subscript" ⟨[v, u], []⟩) := by intro _ _; with_unfolding_all rfl) : PE X (.Subscript a b pos) (tOp (rIxOwn C sp E) ta tb) := by
  refine ⟨fun pins s σ H Q I h => ?_⟩
  refine PyProof.Rows.Subscript_ (binT ha hb I h fun v u s2 x y H2 I2 rx ry q => ?_)
  obtain ⟨z, dx, fs, rfl, hz, hq⟩ := q
  cases rx
  obtain ⟨mA, J, _⟩ := ins_get I2.hok hz
  obtain ⟨od, J, _⟩ := J.look
  obtain ⟨m, hF⟩ := I2.fr
  exact PySem.W.sub_K hF I2.ok.mod.kin J hs hf hfn (run_in1 (vs := [.ref z, y]) F hr hbi hx I2 (.cons rfl (.cons ry .nil)) hq) (hsl _ _)
end
section
variable {P : Program} {w : World} {K : PySem.W.Frag} {mg : Str → Option Value} {base : Heap}
theorem pm_of {v : V} (h : v ∈ [V.int 1, V.int (-1)]) : ∃ z : Int, v = .int z ∧ (z = 1 ∨ z = -1) := by
  simp only [List.mem_cons, List.not_mem_nil, or_false] at h
  rcases h with rfl | rfl
  · exact ⟨1, rfl, .inl rfl⟩
  · exact ⟨-1, rfl, .inr rfl⟩
abbrev s__law_integer : Stmt := top 14
theorem sc__law_integer : FnScope ["_law_pool_here"] ["_law_pool_here"] (defScope s__law_integer) := ⟨rfl, rfl, rfl, by decide +kernel, rfl, by decide +kernel, by decide +kernel⟩
def spInteger : Sp := fun vs H Q _ => ∃ pp, vs = [.ref pp] ∧ PoolAt H pp ∧ ∀ x H', -(10 ^ 30) < x → x < 10 ^ 30 → PoolAt H' pp → Keep pp H H' → Q (.int x) H'
theorem ok__law_integer (h : Has K mg "_law_integer" s__law_integer ["_law_pool_here"]) (O__law_draw : Ok P w K mg base 1 "_law_draw" ["_law_pool_here", "_law_many"] spDraw) (O__law_choose : Ok P w K mg base 2 "_law_choose" ["_law_pool_here", "_law_items"] (spChoose K)) : Ok P w K mg base 3 "_law_integer" ["_law_pool_here"] spInteger := by
  obtain ⟨f, fd, g, b, F⟩ := h
  refine ⟨f, fd, g, F.kp, b, F.ok sc__law_integer (fun vs H Q E h => ?_) (fun cdv A outer s H vs Q E hr h => ?_)⟩
  · obtain ⟨pp, rfl, _⟩ := h
    rfl
  · obtain ⟨pp, rfl, hP, q⟩ := h
    refine ⟨_, (pss_one (ps_ret (pe_op op_mulS (pe_cO O__law_draw (hr.mono (by decide)) pass0 rfl (pa_cons (pv 0) (pa_cons (pe_cO O__law_choose (hr.mono (by decide)) pass0 rfl (pa_cons (pv 0) (pa_cons (pe_lst (pa_cons pe_int (pa_cons pe_int (pa_cons (pe_op op_pow pe_int pe_int) pa_nil)))) pa_nil))) pa_nil))) (pe_cO O__law_choose (hr.mono (by decide)) pass0 rfl (pa_cons (pv 0) (pa_cons (pe_lst (pa_cons pe_int (pa_cons (pe_un un_neg pe_int) pa_nil))) pa_nil)))))), ?_⟩
    refine ⟨_, rfl, _, rfl, _, _, rfl, rfl, ⟨by decide, by decide, by decide⟩, (by show 3 ≤ sizeLine; decide), fun l hl => ?_⟩
    refine ⟨pp, l, _, rfl, SqL.of upd_same, hP.ne hl, (by show 0 < 3; decide), (by show 3 < 1000000; decide), hP.same (Same.new hl), fun v H1 hv P1 k1 => ?_⟩
    obtain ⟨m, rfl, m0, m1⟩ : ∃ m : Int, v = .int m ∧ 0 < m ∧ m ≤ 10 ^ 30 := by
      simp only [List.mem_cons, List.not_mem_nil, or_false] at hv
      rcases hv with rfl | rfl | rfl
      · exact ⟨_, rfl, by decide, by decide⟩
      · exact ⟨_, rfl, by decide, by decide⟩
      · exact ⟨_, rfl, by decide, by decide⟩
    refine ⟨pp, m, rfl, m0, ⟨by omega, by omega⟩, P1, fun d H2 d0 d1 P2 k2 => ?_⟩
    refine ⟨_, rfl, _, rfl, (by show 2 ≤ sizeLine; decide), fun l' hl' => ?_⟩
    refine ⟨pp, l', _, rfl, SqL.of upd_same, P2.ne hl', (by show 0 < 2; decide), (by show 2 < 1000000; decide), P2.same (Same.new hl'), fun v2 H3 hv2 P3 k3 => ?_⟩
    obtain ⟨z, rfl, hz⟩ := pm_of hv2
    refine ⟨_, _, rfl, rfl, ⟨⟨by omega, by omega⟩, by rcases hz with rfl | rfl <;> exact ⟨by decide, by decide⟩⟩, ?_⟩
    refine q _ H3 ?_ ?_ P3 ((((Same.keep (Same.new hl)).trans k1).trans k2).trans ((Same.keep (Same.new hl')).trans k3))
    · rcases hz with rfl | rfl <;> omega
    · rcases hz with rfl | rfl <;> omega
/-! ### the law's own greatest common divisor -/
abbrev s__law_divisor : Stmt := top 15
theorem sc__law_divisor : FnScope ["_law_one", "_law_other"] ["_law_one", "_law_other"] (defScope s__law_divisor) := ⟨rfl, rfl, rfl, by decide +kernel, rfl, by decide +kernel, by decide +kernel⟩
def spDivisor : Sp := fun vs H Q _ => ∃ a b : Int, vs = [.int a, .int b] ∧ Q (.int (Int.gcd a b : Nat)) H
theorem abs_nat (a : Int) : (if a < 0 then -a else a) = ((a.natAbs : Nat) : Int) := by
  split <;> omega
def gcdM : St → Nat := fun σ => match σ with
  | [_, some (.int y)] => y.toNat
  | _ => 0
theorem ok__law_divisor (h : Has K mg "_law_divisor" s__law_divisor ["_law_one", "_law_other"]) (T : Txt12 mg) : Ok P w K mg base 1 "_law_divisor" ["_law_one", "_law_other"] spDivisor := by
  obtain ⟨f, fd, g, b, F⟩ := h
  refine ⟨f, fd, g, F.kp, b, F.ok sc__law_divisor (fun vs H Q E h => ?_) (fun cdv A outer s H vs Q E hr h => ?_)⟩
  · obtain ⟨a, b, rfl, _⟩ := h
    rfl
  · obtain ⟨a, b, rfl, q⟩ := h
    refine ⟨_, (pss_cons (ps_par (by rfl) sc__law_divisor.nd (i := 0) (j := 1) rfl rfl (by decide) rfl rfl (pa_cons (pe_callB call_abs (by rfl) T.abs (by decide +kernel) (pa_cons (pv 0) pa_nil)) (pa_cons (pe_callB call_abs (by rfl) T.abs (by decide +kernel) (pa_cons (pv 1) pa_nil)) pa_nil)) (by rfl))
    (pss_cons (ps_while PassesOwn.never (pt_cmpR op_gt (pv 1) pe_int (nomark _))
      (pss_one (ps_par (by rfl) sc__law_divisor.nd (i := 0) (j := 1) rfl rfl (by decide) rfl rfl (pa_cons (pv 1) (pa_cons (pe_op op_modN (pe_callTy call_int1 (by rfl) T.int (by decide +kernel) (pa_cons (pv 0) pa_nil)) (pv 1)) pa_nil)) (by rfl))))
    (pss_one (ps_ret (pv 0))))), ?_⟩
    refine ⟨_, rfl, a, rfl, _, rfl, b, rfl, _, _, rfl, ?_⟩
    rw [abs_nat, abs_nat]
    refine while_by (fun σ H' => H' = H ∧ ∃ x y : Nat, σ = [some (.int (x : Int)), some (.int (y : Int))] ∧ Nat.gcd x y = Nat.gcd a.natAbs b.natAbs) (fun σ _ => gcdM σ) ⟨rfl, a.natAbs, b.natAbs, rfl, rfl⟩ ?_ ?_
    · rintro σ H1 ⟨rfl, x, y, rfl, e⟩
      refine ⟨_, rfl, _, _, rfl, rfl, _, rfl, ?_⟩
      refine ite2 (fun c => ?_) (fun c => ?_)
      · have y0 : 0 < y := by
          have := of_decide_eq_true c
          omega
        refine ⟨_, rfl, _, rfl, .inl ⟨_, rfl, _, rfl, _, _, rfl, rfl, by omega, _, _, rfl, ?_⟩⟩
        have em : (x : Int).fmod (y : Int) = ((x % y : Nat) : Int) := by
          rw [Int.fmod_eq_emod_of_nonneg _ (by omega)]
          rfl
        refine ⟨⟨rfl, y, x % y, by show [some (V.int (y : Int)), some (V.int ((x : Int).fmod (y : Int)))] = _; rw [em], ?_⟩, ?_⟩
        · rw [← e, Nat.gcd_comm x y, Nat.gcd_rec y x, Nat.gcd_comm]
        · show ((x : Int).fmod (y : Int)).toNat < (y : Int).toNat
          rw [em, Int.toNat_natCast, Int.toNat_natCast]
          exact Nat.mod_lt _ y0
      · have y0 : y = 0 := by
          have y1 : ¬ ((y : Int) > 0) := fun z => c (decide_eq_true z)
          omega
        subst y0
        rw [Nat.gcd_zero_right] at e
        subst e
        exact ⟨_, rfl, q⟩
    · rintro σ H1 Q1 Q2 mono ⟨v, e1, i, j, e2, e3, k, e4, z⟩
      exact ⟨v, e1, i, j, e2, e3, k, e4, mono _ _ z⟩
/-! ### two numbers drawn, the second no 0 -/
abbrev s__law_drawn : Stmt := top 17
theorem sc__law_drawn : FnScope ["_law_pool_here", "_law_top", "_law_bottom"] ["_law_pool_here"] (defScope s__law_drawn) := ⟨rfl, rfl, rfl, by decide +kernel, rfl, by decide +kernel, by decide +kernel⟩
def spDrawn : Sp := fun vs H Q _ => ∃ pp, vs = [.ref pp] ∧ PoolAt H pp ∧ ∀ (a b : Int) (l : Addr) H', -(10 ^ 30) < a → a < 10 ^ 30 → -(10 ^ 30) < b → b < 10 ^ 30 → b ≠ 0 → PoolAt H' pp → Keep pp H H' → H' l = some (.lst [.int a, .int b]) → l ≠ pp → Q (.ref l) H'
theorem ok__law_drawn (h : Has K mg "_law_drawn" s__law_drawn ["_law_pool_here"]) (O__law_integer : Ok P w K mg base 3 "_law_integer" ["_law_pool_here"] spInteger) : Ok P w K mg base 4 "_law_drawn" ["_law_pool_here"] spDrawn := by
  obtain ⟨f, fd, g, b, F⟩ := h
  refine ⟨f, fd, g, F.kp, b, F.ok sc__law_drawn (fun vs H Q E h => ?_) (fun cdv A outer s H vs Q E hr h => ?_)⟩
  · obtain ⟨pp, rfl, _⟩ := h
    rfl
  · obtain ⟨pp, rfl, hP, q⟩ := h
    refine ⟨_, (pss_cons (ps_par (by rfl) sc__law_drawn.nd (i := 1) (j := 2) rfl rfl (by decide) rfl rfl (pa_cons (pe_cO O__law_integer (hr.mono (by decide)) pass0 rfl (pa_cons (pv 0) pa_nil)) (pa_cons (pe_cO O__law_integer (hr.mono (by decide)) pass0 rfl (pa_cons (pv 0) pa_nil)) pa_nil)) (by rfl))
    (pss_one (ps_ret (pe_lst (pa_cons (pv 1) (pa_cons (pe_ifExp (pt_cmpR op_ne (pv 2) pe_int (nomark _)) (pv 2) pe_int) pa_nil)))))), ?_⟩
    refine ⟨_, rfl, pp, rfl, hP, fun a H1 a0 a1 P1 k1 => ?_⟩
    refine ⟨_, rfl, pp, rfl, P1, fun b H2 b0 b1 P2 k2 => ?_⟩
    refine ⟨_, _, rfl, ?_⟩
    refine ⟨_, rfl, _, rfl, rfl, _, rfl, ite2 (fun c => ?_) (fun c => ?_)⟩
    · refine ⟨_, rfl, (by show 2 ≤ sizeLine; decide), fun l hl => ?_⟩
      exact q a b l _ a0 a1 b0 b1 (fun e => bnot_dec c (by rw [e])) (P2.same (Same.new hl)) ((k1.trans k2).trans (Same.keep (Same.new hl))) upd_same (P2.ne hl)
    · refine ⟨(by show 2 ≤ sizeLine; decide), fun l hl => ?_⟩
      exact q a 7 l _ a0 a1 (by decide) (by decide) (by decide) (P2.same (Same.new hl)) ((k1.trans k2).trans (Same.keep (Same.new hl))) upd_same (P2.ne hl)
end
/-! ### a ratio, whatever its attributes are called: RF p q -/
def Rat (C : Addr) (RF : Int → Int → List (Str × V)) (H : Hp) (a : Addr) (p q : Int) : Prop := (∃ dx, H a = some (.ins C dx (RF p q))) ∧ 0 < q ∧ Int.gcd p q = 1
theorem Rat.same {C : Addr} {RF : Int → Int → List (Str × V)} {H H' : Hp} {a : Addr} {p q : Int} (r : Rat C RF H a p q) (s : Same H H') : Rat C RF H' a p q := by
  obtain ⟨⟨dx, h⟩, z⟩ := r
  exact ⟨⟨dx, s _ _ h⟩, z⟩
def Bd (n : Nat) (x : Int) : Prop := -(10 ^ n) < x ∧ x < 10 ^ n
/-- a ratio or an integer, as top and bottom -/
def Num (C : Addr) (RF : Int → Int → List (Str × V)) (H : Hp) (y : V) (r s : Int) : Prop := (∃ b, y = .ref b ∧ Rat C RF H b r s) ∨ (y = .int r ∧ s = 1)
theorem Num.same {C : Addr} {RF : Int → Int → List (Str × V)} {H H' : Hp} {y : V} {r s : Int} (n : Num C RF H y r s) (e : Same H H') : Num C RF H' y r s := by
  rcases n with ⟨b, h, z⟩ | n
  · exact .inl ⟨b, h, z.same e⟩
  · exact .inr n
/-- an own method that nothing leaves but a value -/
def OwnM (P : Program) (w : World) (K : PySem.W.Frag) (mg : Str → Option Value) (base : Heap) (C : Addr) (k : Nat) (nm : Str) (ps : List Str) (sp : Sp) : Prop :=
  ∃ f fd, PySem.W.findIn K (.ref C) nm = some (some (.ref f)) ∧ PySem.W.isFn K (.ref f) = true ∧ Binds K fd ps [] ∧ FnOk P w K mg base (L2.CX P w) k f fd ps sp
/-- a property of an own class -/
def OwnP (P : Program) (w : World) (K : PySem.W.Frag) (mg : Str → Option Value) (base : Heap) (C : Addr) (k : Nat) (nm : Str) (sp : Sp) : Prop :=
  ∃ p g fd, PropOf K C nm p g ∧ Binds K fd ["self"] [] ∧ FnOk P w K mg base (L2.CX P w) k g fd ["self"] sp
section
variable {X : Cx} {C : Addr} {k : Nat} {ps : List Str} {sp : Sp} {E : XK} {f : Str} {e : Expr} {pos : Pos} {ta : TE}
theorem pe_propO (he : PE X e ta) (c : Cls X.K C) (m : OwnP X.prog X.w X.K X.mg X.base C k f sp) (hr : Room (k + 1) X.A) (hx : Passes (L2.CX X.prog X.w) X.nox E) (hab : attributeBase e f X.env (eval e X.env) = eval e X.env := by rfl) : PE X (.Attribute e f pos) (tProp C sp [] E ta) := by
  obtain ⟨p, g, fd, hp, hb, F⟩ := m
  exact pe_prop he c hp F hr hb .nil hx hab
theorem op_own2O {op : Operator} (m : OwnM X.prog X.w X.K X.mg X.base C k (PySem.dunder op.info.2) ps sp) (hr : Room k X.A) (hx : Passes (L2.CX X.prog X.w) X E) (hc : PySem.W.selfFirst X.K C = true) : OpR X (binaryOp op) (rOwn2 C sp E) := by
  obtain ⟨f, fd, hs, hf, hb, F⟩ := m
  exact op_own2 F hr hb hx hc hs hf
theorem op_cmp2O {op : CmpOp} (m : OwnM X.prog X.w X.K X.mg X.base C k (cmpInfo op).2.1 ps sp) (hr : Room k X.A) (hx : Passes (L2.CX X.prog X.w) X E) (ho : compareOp op = richCompare op) : OpR X (compareOp op) (rOwn2 C sp E) := by
  obtain ⟨f, fd, hs, hf, hb, F⟩ := m
  exact op_cmp2 F hr hb hx hs hf ho
/-- the class's != is object's -/
structure NeO (K : PySem.W.Frag) (C : Addr) : Prop where
  ne : PySem.W.findIn K (.ref C) "__ne__" = some (some (.builtin "object.__ne__"))
  ob : PySem.W.subIn K (.ref C) (.type "object") = some true
theorem op_ne2O (N : NeO X.K C) (m : OwnM X.prog X.w X.K X.mg X.base C k "__eq__" ps sp) (hr : Room (k + 1) X.A) (hx : Passes (L2.CX X.prog X.w) X E) :
    OpR X (compareOp .NotEq) (fun x y H Q => ∃ a b dx dy fs gs, x = .ref a ∧ y = .ref b ∧ H a = some (.ins C dx fs) ∧ H b = some (.ins C dy gs) ∧ sp [.ref a, .ref b] H (rNotV Q) E) := by
  obtain ⟨f, fd, hs, hf, hb, F⟩ := m
  exact op_ne2 ⟨N.ne, N.ob, hs, hf⟩ F hr hb hx
end
def spTop (C : Addr) (RF : Int → Int → List (Str × V)) : Sp := fun vs H Q _ => ∃ a p q, vs = [.ref a] ∧ Rat C RF H a p q ∧ Q (.int p) H
def spBottom (C : Addr) (RF : Int → Int → List (Str × V)) : Sp := fun vs H Q _ => ∃ a p q, vs = [.ref a] ∧ Rat C RF H a p q ∧ Q (.int q) H
/-- a comparison of two ratios: what R says of the products across -/
def spCmp (C : Addr) (RF : Int → Int → List (Str × V)) (R : Int → Int → Bool) : Sp := fun vs H Q _ => ∃ a b p q r s, vs = [.ref a, .ref b] ∧ Rat C RF H a p q ∧ Rat C RF H b r s ∧ Bd 31 p ∧ Bd 31 q ∧ Bd 31 r ∧ Bd 31 s ∧ Q (.bl (R (p * s) (r * q))) H
section
variable {P : Program} {w : World} {K : PySem.W.Frag} {mg : Str → Option Value} {base : Heap} {C : Addr} {RF : Int → Int → List (Str × V)}
abbrev s__law_is : Stmt := top 16
theorem sc__law_is : FnScope ["_law_ratio", "_law_above", "_law_below"] ["_law_ratio", "_law_above", "_law_below"] (defScope s__law_is) := ⟨rfl, rfl, rfl, by decide +kernel, rfl, by decide +kernel, by decide +kernel⟩
def spIs (C : Addr) (RF : Int → Int → List (Str × V)) : Sp := fun vs H Q _ => ∃ (a : Addr) (p q n m : Int), vs = [.ref a, .int n, .int m] ∧ Rat C RF H a p q ∧ Bd 64 p ∧ Bd 64 q ∧ Bd 64 n ∧ Bd 64 m ∧ p * m = n * q ∧ Q (.bl true) H
theorem ok__law_is (h : Has K mg "_law_is" s__law_is ["_law_ratio", "_law_above", "_law_below"]) (c : Cls K C) (mT : OwnP P w K mg base C 1 "top" (spTop C RF)) (mB : OwnP P w K mg base C 1 "bottom" (spBottom C RF)) (O__law_divisor : Ok P w K mg base 1 "_law_divisor" ["_law_one", "_law_other"] spDivisor) :
    Ok P w K mg base 3 "_law_is" ["_law_ratio", "_law_above", "_law_below"] (spIs C RF) := by
  obtain ⟨f, fd, g, b, F⟩ := h
  refine ⟨f, fd, g, F.kp, b, F.ok sc__law_is (fun vs H Q E h => ?_) (fun cdv A outer s H vs Q E hr h => ?_)⟩
  · obtain ⟨a, p, q, n, m, rfl, _⟩ := h
    rfl
  · obtain ⟨a, p, q, n, m, rfl, R, ⟨p0, p1⟩, ⟨q0, q1⟩, ⟨n0, n1⟩, ⟨m0, m1⟩, e, z⟩ := h
    refine ⟨_, (pss_cons (ps_if (PW.pt (pw_or (pt_cmpR op_lt (pe_propO (pv 0) c mB (hr.mono (by decide)) passL) pe_int (nomark _))
        (pw_or1 (pt_cmpR op_ne (pe_cO O__law_divisor (hr.mono (by decide)) pass0 rfl (pa_cons (pe_propO (pv 0) c mT (hr.mono (by decide)) passL) (pa_cons (pe_propO (pv 0) c mB (hr.mono (by decide)) passL) pa_nil))) pe_int (nomark _))))) (pss_one (ps_ret pe_bl)) pss_nil)
      (pss_one (ps_ret (pe_cmpR op_eq (pe_op op_mulS (pe_propO (pv 0) c mT (hr.mono (by decide)) passL) (pv 2)) (pe_op op_mulS (pv 1) (pe_propO (pv 0) c mB (hr.mono (by decide)) passL)) (nomark _))))), ?_⟩
    have R0 := R
    obtain ⟨⟨dx, ea⟩, q2, gc⟩ := R0
    refine ⟨_, rfl, a, dx, _, rfl, ea, a, p, q, rfl, R, _, _, rfl, rfl, _, rfl, iteN (fun z => by have := of_decide_eq_true z; omega) ?_⟩
    refine ⟨_, rfl, a, dx, _, rfl, ea, a, p, q, rfl, R, _, rfl, a, dx, _, rfl, ea, a, p, q, rfl, R, p, q, rfl, rfl, _, rfl, iteN ?_ ?_⟩
    · rw [gc]
      decide
    · refine ⟨_, rfl, a, dx, _, rfl, ea, a, p, q, rfl, R, _, rfl, _, _, rfl, rfl, ⟨⟨by omega, by omega⟩, ⟨by omega, by omega⟩⟩, ?_⟩
      refine ⟨_, rfl, _, rfl, a, dx, _, rfl, ea, a, p, q, rfl, R, _, _, rfl, rfl, ⟨⟨by omega, by omega⟩, ⟨by omega, by omega⟩⟩, rfl, ?_⟩
      rw [veq e]
      exact z
end
/-! ### lists of truth values and texts, compared -/
section
variable {P : Program} {w : World} {K : PySem.W.Frag} {mg : Str → Option Value} {base : Heap}
theorem dpBools {H : Hp} : ∀ xs : List Bool, DpAll K H (xs.map V.bl) (xs.map PyData.bool)
  | [] => .nil
  | x :: xs => .cons (.bl x) (dpBools xs)
theorem layBools : ∀ xs : List Bool, PyData.canLayAll0 (xs.map PyData.bool) = true
  | [] => rfl
  | x :: xs => by
    rw [List.map_cons, PyData.canLayAll0, layBools xs]
    rfl
theorem depthBools : ∀ xs : List Bool, PyData.depthAll (xs.map PyData.bool) ≤ 1
  | [] => Nat.zero_le _
  | x :: xs => by
    rw [List.map_cons, PyData.depthAll]
    exact Nat.max_le.mpr ⟨by simp [PyData.depth], depthBools xs⟩
theorem shapedBools (xs : List Bool) : SeqAt.shaped (.list (xs.map PyData.bool)) = true := by
  have h := depthBools xs
  unfold SeqAt.shaped
  rw [PyData.canLay0, layBools xs, PyData.depth, Bool.true_and]
  exact decide_eq_true (by omega)
theorem eqvBools (xs : List Bool) : PyData.eqv (.list (xs.map PyData.bool)) (.list (xs.map PyData.bool)) = true := PySem.SeqAt.eqv_refl _ (by rw [PyData.canLay0, layBools xs])
end
section
variable {P : Program} {w : World} {K : PySem.W.Frag} {mg : Str → Option Value} {base : Heap} {C : Addr} {RF : Int → Int → List (Str × V)}
abbrev s__law_order_right : Stmt := top 18
theorem sc__law_order_right : FnScope ["_law_one", "_law_other", "_law_apart", "_law_due"] ["_law_one", "_law_other", "_law_apart"] (defScope s__law_order_right) := ⟨rfl, rfl, rfl, by decide +kernel, rfl, by decide +kernel, by decide +kernel⟩
def spOrder (C : Addr) (RF : Int → Int → List (Str × V)) : Sp := fun vs H Q _ => ∃ (a b : Addr) (p q r s t : Int), vs = [.ref a, .ref b, .int t] ∧ Rat C RF H a p q ∧ Rat C RF H b r s ∧ Bd 31 p ∧ Bd 31 q ∧ Bd 31 r ∧ Bd 31 s ∧ (p * s < r * q ↔ t < 0) ∧ (p * s = r * q ↔ t = 0) ∧ ∀ H', Same H H' → Q (.bl true) H'
/-- the six comparisons -/
structure Six (P : Program) (w : World) (K : PySem.W.Frag) (mg : Str → Option Value) (base : Heap) (C : Addr) (RF : Int → Int → List (Str × V)) (k : Nat) : Prop where
  lt : OwnM P w K mg base C k "__lt__" ["self", "other"] (spCmp C RF fun x y => decide (x < y))
  le : OwnM P w K mg base C k "__le__" ["self", "other"] (spCmp C RF fun x y => decide (x ≤ y))
  gt : OwnM P w K mg base C k "__gt__" ["self", "other"] (spCmp C RF fun x y => decide (y < x))
  ge : OwnM P w K mg base C k "__ge__" ["self", "other"] (spCmp C RF fun x y => decide (y ≤ x))
  eq : OwnM P w K mg base C k "__eq__" ["self", "other"] (spCmp C RF fun x y => decide (x = y))
  ne : NeO K C
theorem dpOf {H : Hp} {l : Addr} {xs : List V} {cs : List Bool} (h : H l = some (.lst xs)) (e : xs = cs.map V.bl) : Dp K H (.ref l) (.list (cs.map PyData.bool)) := .lst (SqL.of (by rw [h, e])) (dpBools _)
theorem ok__law_order_right {k : Nat} (h : Has K mg "_law_order_right" s__law_order_right ["_law_one", "_law_other", "_law_apart"]) (S6 : Six P w K mg base C RF k) : Ok P w K mg base (k + 2) "_law_order_right" ["_law_one", "_law_other", "_law_apart"] (spOrder C RF) := by
  obtain ⟨f, fd, g, b, F⟩ := h
  refine ⟨f, fd, g, F.kp, b, F.ok sc__law_order_right (fun vs H Q E h => ?_) (fun cdv A outer s0 H vs Q E hr h => ?_)⟩
  · obtain ⟨a, b, p, q, r, s, t, rfl, _⟩ := h
    rfl
  · obtain ⟨a, b, p, q, r, s, t, rfl, R1, R2, b1, b2, b3, b4, e1, e2, z⟩ := h
    refine ⟨_, (pss_cons (ps_set (i := 3) sc__law_order_right.nd rfl (Or.inl rfl) (pe_lst (pa_cons (pe_cmpR op_lt (pv 2) pe_int (nomark _)) (pa_cons (pe_cmpR op_le (pv 2) pe_int (nomark _)) (pa_cons (pe_cmpR op_gt (pv 2) pe_int (nomark _)) (pa_cons (pe_cmpR op_ge (pv 2) pe_int (nomark _)) (pa_cons (pe_cmpR op_eq (pv 2) pe_int (nomark _)) (pa_cons (pe_cmpR op_ne (pv 2) pe_int (nomark _)) pa_nil))))))))
      (pss_one (ps_ret (pe_cmpR (op_eqD hr.units) (pe_lst (pa_cons (pe_cmpR (op_cmp2O (op := .Lt) S6.lt (hr.mono (by omega)) passL rfl) (pv 0) (pv 1) (nomark _)) (pa_cons (pe_cmpR (op_cmp2O (op := .LtE) S6.le (hr.mono (by omega)) passL rfl) (pv 0) (pv 1) (nomark _)) (pa_cons (pe_cmpR (op_cmp2O (op := .Gt) S6.gt (hr.mono (by omega)) passL rfl) (pv 0) (pv 1) (nomark _)) (pa_cons (pe_cmpR (op_cmp2O (op := .GtE) S6.ge (hr.mono (by omega)) passL rfl) (pv 0) (pv 1) (nomark _))
        (pa_cons (pe_cmpR (op_cmp2O (op := .Eq) S6.eq (hr.mono (by omega)) passL rfl) (pv 0) (pv 1) (nomark _)) (pa_cons (pe_cmpR (op_ne2O S6.ne S6.eq (hr.mono (by omega)) passL) (pv 0) (pv 1) (nomark _)) pa_nil))))))) (pv 3) (nomark _))))), ?_⟩
    refine ⟨_, rfl, _, _, rfl, rfl, _, rfl, _, _, rfl, rfl, _, rfl, _, _, rfl, rfl, _, rfl, _, _, rfl, rfl, _, rfl, rfl, _, rfl, rfl, (by show 6 ≤ sizeLine; decide), fun l hl => ?_⟩
    have s1 : Same H (upd H l (.lst [.bl (decide (t < 0)), .bl (decide (t ≤ 0)), .bl (decide (t > 0)), .bl (decide (t ≥ 0)), .bl (decide (V.int t = V.int 0)), .bl (!decide (V.int t = V.int 0))])) := Same.new hl
    have d1 : (upd H l (.lst [.bl (decide (t < 0)), .bl (decide (t ≤ 0)), .bl (decide (t > 0)), .bl (decide (t ≥ 0)), .bl (decide (V.int t = V.int 0)), .bl (!decide (V.int t = V.int 0))])) l = some (.lst [.bl (decide (t < 0)), .bl (decide (t ≤ 0)), .bl (decide (t > 0)), .bl (decide (t ≥ 0)), .bl (decide (V.int t = V.int 0)), .bl (!decide (V.int t = V.int 0))]) := upd_same
    generalize upd H l (.lst [.bl (decide (t < 0)), .bl (decide (t ≤ 0)), .bl (decide (t > 0)), .bl (decide (t ≥ 0)), .bl (decide (V.int t = V.int 0)), .bl (!decide (V.int t = V.int 0))]) = H1 at s1 d1 ⊢
    have r1 := R1.same s1
    have r2 := R2.same s1
    obtain ⟨⟨dx, ea⟩, _⟩ := id r1
    obtain ⟨⟨dy, eb⟩, _⟩ := id r2
    refine ⟨_, rfl, _, rfl, a, b, dx, dy, _, _, rfl, rfl, ea, eb, a, b, p, q, r, s, rfl, r1, r2, b1, b2, b3, b4, ?_⟩
    refine ⟨_, rfl, _, rfl, a, b, dx, dy, _, _, rfl, rfl, ea, eb, a, b, p, q, r, s, rfl, r1, r2, b1, b2, b3, b4, ?_⟩
    refine ⟨_, rfl, _, rfl, a, b, dx, dy, _, _, rfl, rfl, ea, eb, a, b, p, q, r, s, rfl, r1, r2, b1, b2, b3, b4, ?_⟩
    refine ⟨_, rfl, _, rfl, a, b, dx, dy, _, _, rfl, rfl, ea, eb, a, b, p, q, r, s, rfl, r1, r2, b1, b2, b3, b4, ?_⟩
    refine ⟨_, rfl, _, rfl, a, b, dx, dy, _, _, rfl, rfl, ea, eb, a, b, p, q, r, s, rfl, r1, r2, b1, b2, b3, b4, ?_⟩
    refine ⟨_, rfl, _, rfl, a, b, dx, dy, _, _, rfl, rfl, ea, eb, a, b, p, q, r, s, rfl, r1, r2, b1, b2, b3, b4, _, rfl, ?_⟩
    refine ⟨(by show 6 ≤ sizeLine; decide), fun l2 hl2 => ?_⟩
    have dc : ∀ {A B : Prop} [Decidable A] [Decidable B], (A ↔ B) → decide A = decide B := fun h => decide_eq_decide.mpr h
    refine ⟨_, rfl, _, _, dpOf (cs := [decide (t < 0), decide (t ≤ 0), decide (t > 0), decide (t ≥ 0), decide (t = 0), !decide (t = 0)]) upd_same ?_, dpOf (cs := [decide (t < 0), decide (t ≤ 0), decide (t > 0), decide (t ≥ 0), decide (t = 0), !decide (t = 0)]) ((Same.new hl2) _ _ d1) ?_, shapedBools _, shapedBools _, ?_⟩
    · simp only [List.map_cons, List.map_nil]
      rw [dc e1, dc (show (p * s ≤ r * q) ↔ t ≤ 0 by omega), dc (show (r * q < p * s) ↔ t > 0 by omega), dc (show (r * q ≤ p * s) ↔ t ≥ 0 by omega), dc e2]
    · simp only [List.map_cons, List.map_nil]
      rw [show decide (V.int t = V.int 0) = decide (t = 0) from dc ⟨fun h => by injection h, fun h => by rw [h]⟩]
    · rw [eqvBools]
      exact z _ (s1.trans (Same.new hl2))
end
/-! ### products across -/
theorem cr_add {p q r s a b c d p' q' : Int} (h1 : p * b = a * q) (h2 : r * d = c * s) (e : p' * (q * s) = (p * s + r * q) * q') (hq : q ≠ 0) (hs : s ≠ 0) : p' * (b * d) = (a * d + c * b) * q' := by
  refine Int.eq_of_mul_eq_mul_left (Int.mul_ne_zero hq hs) ?_
  grind
theorem cr_sub {p q r s a b c d p' q' : Int} (h1 : p * b = a * q) (h2 : r * d = c * s) (e : p' * (q * s) = (p * s - r * q) * q') (hq : q ≠ 0) (hs : s ≠ 0) : p' * (b * d) = (a * d - c * b) * q' := by
  refine Int.eq_of_mul_eq_mul_left (Int.mul_ne_zero hq hs) ?_
  grind
theorem cr_mul {p q r s a b c d p' q' : Int} (h1 : p * b = a * q) (h2 : r * d = c * s) (e : p' * (q * s) = (p * r) * q') (hq : q ≠ 0) (hs : s ≠ 0) : p' * (b * d) = (a * c) * q' := by
  refine Int.eq_of_mul_eq_mul_left (Int.mul_ne_zero hq hs) ?_
  grind
theorem cr_over {p q r s a b c d p' q' : Int} (h1 : p * b = a * q) (h2 : r * d = c * s) (e : p' * (q * r) = (p * s) * q') (hq : q ≠ 0) (hs : s ≠ 0) (hr : r ≠ 0) (hd : d ≠ 0) : p' * (b * c) = (a * d) * q' := by
  refine Int.eq_of_mul_eq_mul_left (Int.mul_ne_zero (Int.mul_ne_zero hq hs) hr) ?_
  grind
theorem bd_abs {n : Nat} {x : Int} : Bd n x ↔ x.natAbs < 10 ^ n := by
  unfold Bd
  have e : (10 : Int) ^ n = ((10 ^ n : Nat) : Int) := by simp
  rw [e]
  omega
theorem Bd.mul {n m : Nat} {x y : Int} (h : Bd n x) (g : Bd m y) : Bd (n + m) (x * y) := by
  rw [bd_abs] at *
  rw [Int.natAbs_mul, Nat.pow_add]
  exact Nat.mul_lt_mul'' h g
theorem Bd.add {x y : Int} (h : Bd 60 x) (g : Bd 60 y) : Bd 64 (x + y) := by
  obtain ⟨h1, h2⟩ := h
  obtain ⟨g1, g2⟩ := g
  exact ⟨by omega, by omega⟩
theorem Bd.sub {x y : Int} (h : Bd 60 x) (g : Bd 60 y) : Bd 64 (x - y) := by
  obtain ⟨h1, h2⟩ := h
  obtain ⟨g1, g2⟩ := g
  exact ⟨by omega, by omega⟩
theorem Bd.up {n m : Nat} {x : Int} (h : Bd n x) (e : n ≤ m) : Bd m x := by
  rw [bd_abs] at *
  exact Nat.lt_of_lt_of_le h (Nat.pow_le_pow_right (by decide) e)
theorem Bd.sm {x : Int} (h : Bd 64 x) : Sm x := by
  obtain ⟨h1, h2⟩ := h
  exact ⟨by omega, by omega⟩
/-- a quotient of sums and products: what is made is N over D, in lowest terms -/
def spNum (C : Addr) (RF : Int → Int → List (Str × V)) (N D : Int → Int → Int → Int → Int) (ok : Int → Prop) : Sp := fun vs H Q _ => ∃ (a : Addr) (y : V) (p q r s : Int), vs = [.ref a, y] ∧ Rat C RF H a p q ∧ Num C RF H y r s ∧ Bd 31 p ∧ Bd 31 q ∧ Bd 31 r ∧ Bd 31 s ∧ ok r ∧
  ∀ c H' p' q', Same H H' → Rat C RF H' c p' q' → Bd 64 p' → Bd 64 q' → p' * D p q r s = N p q r s * q' → Q (.ref c) H'
/-- a method called by its name -/
def OwnMeth (P : Program) (w : World) (K : PySem.W.Frag) (mg : Str → Option Value) (base : Heap) (C : Addr) (k : Nat) (nm : Str) (ps : List Str) (sp : Sp) : Prop :=
  ∃ f fd, Meth K C nm f ∧ Binds K fd ps [] ∧ FnOk P w K mg base (L2.CX P w) k f fd ps sp
theorem pe_methO {X : Cx} {C : Addr} {k : Nat} {m : Str} {ps : List Str} {sp : Sp} {E : XK} {o e : Expr} {es : List Expr} {apos pos : Pos} {pl : Sem Bool} {ta : TE} {t : TA} (he : PE X o ta) (c : Cls X.K C) (mm : OwnMeth X.prog X.w X.K X.mg X.base C k m ps sp) (hr : Room k X.A) (hx : Passes (L2.CX X.prog X.w) X E) (ha : PA X (e :: es) t)
    (hst : starEach (e :: es) X.env = (false, eval e X.env) :: starEach es X.env := by rfl) (hpl : (backTo pos (starEach es X.env)).any (·.1) = false := by rfl)
    (ht : eval (.Call (.Attribute o m apos) (e :: es) [] pos) X.env = (do
      let ov ← eval o X.env
      standAt apos.atName
      let (f, first) ← holding [ov] (getMethod ov m pl)
      callWith pos f first (backTo pos (starEach (e :: es) X.env)) (backToKw pos (keywordEach [] X.env))) := by rfl) : PE X (.Call (.Attribute o m apos) (e :: es) [] pos) (tMeth C m sp [] E ta t) := by
  obtain ⟨f, fd, hm, hb, F⟩ := mm
  exact pe_meth (pl := pl) he c hm F hr hb .nil hx ha hst hpl ht
/-- the operations upon ratios and integers -/
structure Nums (P : Program) (w : World) (K : PySem.W.Frag) (mg : Str → Option Value) (base : Heap) (C : Addr) (RF : Int → Int → List (Str × V)) (k : Nat) : Prop where
  add : OwnM P w K mg base C k "__add__" ["self", "other"] (spNum C RF (fun p q r s => p * s + r * q) (fun _ q _ s => q * s) fun _ => True)
  sub : OwnM P w K mg base C k "__sub__" ["self", "other"] (spNum C RF (fun p q r s => p * s - r * q) (fun _ q _ s => q * s) fun _ => True)
  mul : OwnM P w K mg base C k "__mul__" ["self", "other"] (spNum C RF (fun p _ r _ => p * r) (fun _ q _ s => q * s) fun _ => True)
  over : OwnMeth P w K mg base C k "over" ["self", "other"] (spNum C RF (fun p _ _ s => p * s) (fun _ q r _ => q * r) fun r => r ≠ 0)
  first : PySem.W.selfFirst K C = true
  noOver : ∀ p q, (RF p q).lookup ("over" : Str) = none
section
variable {P : Program} {w : World} {K : PySem.W.Frag} {mg : Str → Option Value} {base : Heap} {C : Addr} {RF : Int → Int → List (Str × V)}
abbrev s__law_two_right : Stmt := top 20
theorem sc__law_two_right : FnScope ["_law_one", "_law_other", "_law_four", "_law_a", "_law_b", "_law_c", "_law_d"] ["_law_one", "_law_other", "_law_four"] (defScope s__law_two_right) := ⟨rfl, rfl, rfl, by decide +kernel, rfl, by decide +kernel, by decide +kernel⟩
def spTwo (C : Addr) (RF : Int → Int → List (Str × V)) : Sp := fun vs H Q _ => ∃ (x y l : Addr) (p q r s a b c d : Int), vs = [.ref x, .ref y, .ref l] ∧ Rat C RF H x p q ∧ Rat C RF H y r s ∧ H l = some (.lst [.int a, .int b, .int c, .int d]) ∧ Bd 31 p ∧ Bd 31 q ∧ Bd 31 r ∧ Bd 31 s ∧ Bd 30 a ∧ Bd 30 b ∧ Bd 30 c ∧ Bd 30 d ∧
  p * b = a * q ∧ r * d = c * s ∧ b ≠ 0 ∧ d ≠ 0 ∧ ∀ H', Same H H' → Q (.bl true) H'
theorem ok__law_two_right {k : Nat} (h : Has K mg "_law_two_right" s__law_two_right ["_law_one", "_law_other", "_law_four"]) (cl : Cls K C) (N : Nums P w K mg base C RF k) (O__law_is : Ok P w K mg base 3 "_law_is" ["_law_ratio", "_law_above", "_law_below"] (spIs C RF)) :
    Ok P w K mg base (k + 4) "_law_two_right" ["_law_one", "_law_other", "_law_four"] (spTwo C RF) := by
  obtain ⟨f, fd, g, b, F⟩ := h
  refine ⟨f, fd, g, F.kp, b, F.ok sc__law_two_right (fun vs H Q E h => ?_) (fun cdv A outer s0 H vs Q E hr h => ?_)⟩
  · obtain ⟨x, y, l, p, q, r, s, a, b, c, d, rfl, _⟩ := h
    rfl
  · obtain ⟨x, y, l, p, q, r, s, a, b, c, d, rfl, R1, R2, hl, bp, bq, br, bs, ba, bb, bc, bd, e1, e2, b0, d0, z⟩ := h
    refine ⟨_, (pss_cons (ps_asg (pv 2) (pg_lst (by rfl) (pgs_cons (pg_name (i := 3) sc__law_two_right.nd rfl (.inl rfl)) (pgs_cons (pg_name (i := 4) sc__law_two_right.nd rfl (.inl rfl)) (pgs_cons (pg_name (i := 5) sc__law_two_right.nd rfl (.inl rfl)) (pgs_cons (pg_name (i := 6) sc__law_two_right.nd rfl (.inl rfl)) pgs_nil))))))
      (pss_cons (ps_if (pt_not (pt_val (pe_cO O__law_is (hr.mono (by omega)) pass0 rfl (pa_cons (pe_op (op_own2O (op := .Add) N.add (hr.mono (by omega)) passL N.first) (pv 0) (pv 1)) (pa_cons (pe_op op_add (pe_op op_mulS (pv 3) (pv 6)) (pe_op op_mulS (pv 5) (pv 4))) (pa_cons (pe_op op_mulS (pv 4) (pv 6)) pa_nil)))))) (pss_one (ps_ret pe_bl)) pss_nil)
      (pss_cons (ps_if (pt_not (pt_val (pe_cO O__law_is (hr.mono (by omega)) pass0 rfl (pa_cons (pe_op (op_own2O (op := .Sub) N.sub (hr.mono (by omega)) passL N.first) (pv 0) (pv 1)) (pa_cons (pe_op op_sub (pe_op op_mulS (pv 3) (pv 6)) (pe_op op_mulS (pv 5) (pv 4))) (pa_cons (pe_op op_mulS (pv 4) (pv 6)) pa_nil)))))) (pss_one (ps_ret pe_bl)) pss_nil)
      (pss_cons (ps_if (PW.pt (pw_and (pt_cmpR op_ne (pv 5) pe_int (nomark _)) (pw_and1 (pt_not (pt_val (pe_cO O__law_is (hr.mono (by omega)) pass0 rfl (pa_cons (pe_methO (pv 0) cl N.over (hr.mono (by omega)) passL (pa_cons (pv 1) pa_nil)) (pa_cons (pe_op op_mulS (pv 3) (pv 6)) (pa_cons (pe_op op_mulS (pv 4) (pv 5)) pa_nil))))))))) (pss_one (ps_ret pe_bl)) pss_nil)
      (pss_one (ps_ret (pe_cO O__law_is (hr.mono (by omega)) pass0 rfl (pa_cons (pe_op (op_own2O (op := .Mult) N.mul (hr.mono (by omega)) passL N.first) (pv 0) (pv 1)) (pa_cons (pe_op op_mulS (pv 3) (pv 5)) (pa_cons (pe_op op_mulS (pv 4) (pv 6)) pa_nil)))))))))), ?_⟩
    have sa := (ba.up (show 30 ≤ 64 by decide)).sm
    have sb := (bb.up (show 30 ≤ 64 by decide)).sm
    have sc := (bc.up (show 30 ≤ 64 by decide)).sm
    have sd := (bd.up (show 30 ≤ 64 by decide)).sm
    have q0 : q ≠ 0 := by have := R1.2.1; omega
    have s0' : s ≠ 0 := by have := R2.2.1; omega
    refine ⟨_, rfl, l, _, rfl, SqL.of hl, rfl, _, _, rfl, _, _, rfl, _, _, rfl, _, _, rfl, rfl, ?_⟩
    obtain ⟨⟨dx, ea⟩, _⟩ := id R1
    obtain ⟨⟨dy, eb⟩, _⟩ := id R2
    refine ⟨_, rfl, _, rfl, x, y, dx, dy, _, _, rfl, rfl, ea, eb, x, .ref y, p, q, r, s, rfl, R1, .inl ⟨y, rfl, R2⟩, bp, bq, br, bs, trivial, fun t H1 p' q' s1 R' bp' bq' e => ?_⟩
    refine ⟨_, rfl, _, rfl, _, _, rfl, rfl, ⟨sa, sd⟩, _, rfl, _, rfl, _, _, rfl, rfl, ⟨sc, sb⟩, _, _, rfl, rfl, _, rfl, _, rfl, _, _, rfl, rfl, ⟨sb, sd⟩, ?_⟩
    refine ⟨t, p', q', _, _, rfl, R', bp', bq', (ba.mul bd).add (bc.mul bb), (bb.mul bd).up (by decide), cr_add e1 e2 e q0 s0', true, rfl, iteN (by decide) ?_⟩
    have R1 := R1.same s1
    have R2 := R2.same s1
    refine ⟨_, rfl, _, rfl, x, y, dx, dy, _, _, rfl, rfl, s1 _ _ ea, s1 _ _ eb, x, .ref y, p, q, r, s, rfl, R1, .inl ⟨y, rfl, R2⟩, bp, bq, br, bs, trivial, fun t H2 p' q' s2 R' bp' bq' e => ?_⟩
    refine ⟨_, rfl, _, rfl, _, _, rfl, rfl, ⟨sa, sd⟩, _, rfl, _, rfl, _, _, rfl, rfl, ⟨sc, sb⟩, _, _, rfl, rfl, _, rfl, _, rfl, _, _, rfl, rfl, ⟨sb, sd⟩, ?_⟩
    refine ⟨t, p', q', _, _, rfl, R', bp', bq', (ba.mul bd).sub (bc.mul bb), (bb.mul bd).up (by decide), cr_sub e1 e2 e q0 s0', true, rfl, iteN (by decide) ?_⟩
    have R1 := R1.same s2
    have R2 := R2.same s2
    refine ⟨_, rfl, rfl, _, rfl, ite2 (fun c0 => ?_) (fun c0 => ?_)⟩
    · have c1 : c ≠ 0 := fun e => bnot_dec c0 (by rw [e])
      have r0 : r ≠ 0 := fun e => by
        rw [e, Int.zero_mul] at e2
        exact (Int.mul_ne_zero c1 s0') e2.symm
      refine ⟨_, rfl, x, dx, _, rfl, s2 _ _ (s1 _ _ ea), N.noOver _ _, _, rfl, x, .ref y, p, q, r, s, rfl, R1, .inl ⟨y, rfl, R2⟩, bp, bq, br, bs, r0, fun t H3 p' q' s3 R' bp' bq' e => ?_⟩
      refine ⟨_, rfl, _, rfl, _, _, rfl, rfl, ⟨sa, sd⟩, _, rfl, _, rfl, _, _, rfl, rfl, ⟨sb, sc⟩, ?_⟩
      refine ⟨t, p', q', _, _, rfl, R', bp', bq', (ba.mul bd).up (by decide), (bb.mul bc).up (by decide), cr_over e1 e2 e q0 s0' r0 d0, true, rfl, iteN (by decide) ?_⟩
      have R1 := R1.same s3
      have R2 := R2.same s3
      refine ⟨_, rfl, _, rfl, x, y, dx, dy, _, _, rfl, rfl, s3 _ _ (s2 _ _ (s1 _ _ ea)), s3 _ _ (s2 _ _ (s1 _ _ eb)), x, .ref y, p, q, r, s, rfl, R1, .inl ⟨y, rfl, R2⟩, bp, bq, br, bs, trivial, fun t H4 p' q' s4 R' bp' bq' e => ?_⟩
      refine ⟨_, rfl, _, rfl, _, _, rfl, rfl, ⟨sa, sc⟩, _, rfl, _, rfl, _, _, rfl, rfl, ⟨sb, sd⟩, ?_⟩
      exact ⟨t, p', q', _, _, rfl, R', bp', bq', (ba.mul bc).up (by decide), (bb.mul bd).up (by decide), cr_mul e1 e2 e q0 s0', z _ (((s1.trans s2).trans s3).trans s4)⟩
    · refine iteN (by decide) ?_
      refine ⟨_, rfl, _, rfl, x, y, dx, dy, _, _, rfl, rfl, s2 _ _ (s1 _ _ ea), s2 _ _ (s1 _ _ eb), x, .ref y, p, q, r, s, rfl, R1, .inl ⟨y, rfl, R2⟩, bp, bq, br, bs, trivial, fun t H4 p' q' s4 R' bp' bq' e => ?_⟩
      refine ⟨_, rfl, _, rfl, _, _, rfl, rfl, ⟨sa, sc⟩, _, rfl, _, rfl, _, _, rfl, rfl, ⟨sb, sd⟩, ?_⟩
      exact ⟨t, p', q', _, _, rfl, R', bp', bq', (ba.mul bc).up (by decide), (bb.mul bd).up (by decide), cr_mul e1 e2 e q0 s0', z _ ((s1.trans s2).trans s4)⟩
end
/-! ### with whole numbers -/
theorem cr_rsub {p q r s a b c d p' q' : Int} (h1 : p * b = a * q) (h2 : r * d = c * s) (e : p' * (q * s) = (r * q - p * s) * q') (hq : q ≠ 0) (hs : s ≠ 0) : p' * (b * d) = (c * b - a * d) * q' := by
  refine Int.eq_of_mul_eq_mul_left (Int.mul_ne_zero hq hs) ?_
  grind
section
variable {X : Cx} {C : Addr} {k k' : Nat} {ps ps' : List Str} {sp sp' : Sp} {E : XK}
theorem op_ownIO {op : Operator} {fo ro : Option Value} (m : OwnM X.prog X.w X.K X.mg X.base C k (PySem.dunder op.info.2) ps sp) (mr : OwnM X.prog X.w X.K X.mg X.base C k' (dunderR op.info.2) ps' sp') (hr : Room k X.A) (hx : Passes (L2.CX X.prog X.w) X E) (hc : PySem.W.selfFirst X.K C = true)
    (h1 : PySem.W.findIn X.K (.type "int") (PySem.dunder op.info.2) = some fo) (h2 : PySem.W.findIn X.K (.type "int") (dunderR op.info.2) = some ro) (hsub : PySem.W.subIn X.K (.type "int") (.ref C) = some false) : OpR X (binaryOp op) (rOwnI C sp E) := by
  obtain ⟨f, fd, hs, hf, hb, F⟩ := m
  obtain ⟨f', fd', hs', _⟩ := mr
  exact op_ownI F hr hb hx hc hs hf hs' (.inr ⟨_, rfl⟩) h1 h2 hsub
theorem op_ownRO {op : Operator} {B : Builtin} {idl : String} (m : OwnM X.prog X.w X.K X.mg X.base C k' (PySem.dunder op.info.2) ps' sp') (mr : OwnM X.prog X.w X.K X.mg X.base C k (dunderR op.info.2) ps sp) (hr : Room k X.A) (hx : Passes (L2.CX X.prog X.w) X E) (hc : PySem.W.selfFirst X.K C = true)
    (fillsI : fillsNumberSlot (.type "int") op.info.2 = pure true) (slot : Slot "int" (PySem.dunder op.info.2) idl) (entry : entryFor table idl = some B) (args : ∀ a b : Value, argsOk idl ⟨[a, b], []⟩)
    (g : ∀ (i : Int) (t : Tok) (x C dx : Addr), Meets (B ⟨[.int i t, .ref x], []⟩) (fun _ R s => s.heap.get? x = some (PySem.W.instObj C dx) ∧ R (.ok (.ret .notImplemented)) s)) (hsub : PySem.W.subIn X.K (.ref C) (.type "int") = some false) : OpR X (binaryOp op) (rOwnR C sp E) := by
  obtain ⟨f, fd, hs, hf, hb, F⟩ := mr
  obtain ⟨f', fd', hs', _⟩ := m
  exact op_ownR F hr hb hx hc hs' hs hf fillsI slot entry args g hsub
end
/-- the same operations, the integer on either side -/
structure NumsI (P : Program) (w : World) (K : PySem.W.Frag) (mg : Str → Option Value) (base : Heap) (C : Addr) (RF : Int → Int → List (Str × V)) (k : Nat) : Prop where
  radd : OwnM P w K mg base C k "__radd__" ["self", "other"] (spNum C RF (fun p q r s => p * s + r * q) (fun _ q _ s => q * s) fun _ => True)
  rsub : OwnM P w K mg base C k "__rsub__" ["self", "other"] (spNum C RF (fun p q r s => r * q - p * s) (fun _ q _ s => q * s) fun _ => True)
  rmul : OwnM P w K mg base C k "__rmul__" ["self", "other"] (spNum C RF (fun p _ r _ => p * r) (fun _ q _ s => q * s) fun _ => True)
  no2 : PySem.W.subIn K (.ref C) (.type "int") = some false
section
variable {P : Program} {w : World} {K : PySem.W.Frag} {mg : Str → Option Value} {base : Heap} {C : Addr} {RF : Int → Int → List (Str × V)} {k : Nat}
theorem NumsI.hadd (_ : NumsI P w K mg base C RF k) : PySem.W.findIn K (.type "int") (PySem.dunder "add") = some (some (.builtin "int.__add__")) := by kernel_rfl
theorem NumsI.gadd (_ : NumsI P w K mg base C RF k) : PySem.W.findIn K (.type "int") (dunderR "add") = some (some (.builtin "int.__radd__")) := by kernel_rfl
theorem NumsI.hsub (_ : NumsI P w K mg base C RF k) : PySem.W.findIn K (.type "int") (PySem.dunder "sub") = some (some (.builtin "int.__sub__")) := by kernel_rfl
theorem NumsI.gsub (_ : NumsI P w K mg base C RF k) : PySem.W.findIn K (.type "int") (dunderR "sub") = some (some (.builtin "int.__rsub__")) := by kernel_rfl
theorem NumsI.hmul (_ : NumsI P w K mg base C RF k) : PySem.W.findIn K (.type "int") (PySem.dunder "mul") = some (some (.builtin "int.__mul__")) := by kernel_rfl
theorem NumsI.gmul (_ : NumsI P w K mg base C RF k) : PySem.W.findIn K (.type "int") (dunderR "mul") = some (some (.builtin "int.__rmul__")) := by kernel_rfl
theorem NumsI.no (_ : NumsI P w K mg base C RF k) : PySem.W.subIn K (.type "int") (.ref C) = some false := by
  show some ((([.type "int", .type "object"] : List Value)).contains (.ref C)) = some false
  have h : ∀ T : String, (Value.ref C == Value.type T) = false := fun T => Bool.eq_false_iff.mpr fun h => nomatch beq_iff_eq.mp h
  rw [List.contains_cons, List.contains_cons, h, h]
  rfl
abbrev s__law_wholes_right : Stmt := top 21
theorem sc__law_wholes_right : FnScope ["_law_one", "_law_whole", "_law_a", "_law_b", "_law_above"] ["_law_one", "_law_whole", "_law_a", "_law_b"] (defScope s__law_wholes_right) := ⟨rfl, rfl, rfl, by decide +kernel, rfl, by decide +kernel, by decide +kernel⟩
def spWholes (C : Addr) (RF : Int → Int → List (Str × V)) : Sp := fun vs H Q _ => ∃ (x : Addr) (p q n a b : Int), vs = [.ref x, .int n, .int a, .int b] ∧ Rat C RF H x p q ∧ Bd 31 p ∧ Bd 31 q ∧ Bd 30 n ∧ Bd 30 a ∧ Bd 30 b ∧ p * b = a * q ∧ b ≠ 0 ∧ ∀ H', Same H H' → Q (.bl true) H'
theorem ok__law_wholes_right (h : Has K mg "_law_wholes_right" s__law_wholes_right ["_law_one", "_law_whole", "_law_a", "_law_b"]) (cl : Cls K C) (N : Nums P w K mg base C RF k) (I : NumsI P w K mg base C RF k) (O__law_is : Ok P w K mg base 3 "_law_is" ["_law_ratio", "_law_above", "_law_below"] (spIs C RF)) :
    Ok P w K mg base (k + 4) "_law_wholes_right" ["_law_one", "_law_whole", "_law_a", "_law_b"] (spWholes C RF) := by
  obtain ⟨f, fd, g, b, F⟩ := h
  refine ⟨f, fd, g, F.kp, b, F.ok sc__law_wholes_right (fun vs H Q E h => ?_) (fun cdv A outer s0 H vs Q E hr h => ?_)⟩
  · obtain ⟨x, p, q, n, a, b, rfl, _⟩ := h
    rfl
  · obtain ⟨x, p, q, n, a, b, rfl, R, bp, bq, bn, ba, bb, e1, b0, z⟩ := h
    refine ⟨_, (pss_cons (ps_set (i := 4) sc__law_wholes_right.nd rfl (Or.inl rfl) (pe_op op_add (pv 2) (pe_op op_mulS (pv 1) (pv 3))))
      (pss_cons (ps_if (PW.pt (pw_or (pt_not (pt_val (pe_cO O__law_is (hr.mono (by omega)) pass0 rfl (pa_cons (pe_op (op_ownIO (op := .Add) N.add I.radd (hr.mono (by omega)) passL N.first I.hadd I.gadd I.no) (pv 0) (pv 1)) (pa_cons (pv 4) (pa_cons (pv 3) pa_nil)))))) (pw_or1 (pt_not (pt_val (pe_cO O__law_is (hr.mono (by omega)) pass0 rfl (pa_cons (pe_op (op_ownRO (op := .Add) N.add I.radd (hr.mono (by omega)) passL N.first PySem.F.fills_int_add PySem.F.slot_int_add PySem.F.entry_int_add PySem.F.args_int_add_2 ni_add I.no2) (pv 1) (pv 0)) (pa_cons (pv 4) (pa_cons (pv 3) pa_nil))))))))) (pss_one (ps_ret pe_bl)) pss_nil)
      (pss_cons (ps_if (pt_not (pt_val (pe_cO O__law_is (hr.mono (by omega)) pass0 rfl (pa_cons (pe_op (op_ownIO (op := .Sub) N.sub I.rsub (hr.mono (by omega)) passL N.first I.hsub I.gsub I.no) (pv 0) (pv 1)) (pa_cons (pe_op op_sub (pv 2) (pe_op op_mulS (pv 1) (pv 3))) (pa_cons (pv 3) pa_nil)))))) (pss_one (ps_ret pe_bl)) pss_nil)
      (pss_cons (ps_if (pt_not (pt_val (pe_cO O__law_is (hr.mono (by omega)) pass0 rfl (pa_cons (pe_op (op_ownRO (op := .Sub) N.sub I.rsub (hr.mono (by omega)) passL N.first PySem.F.fills_int_sub PySem.F.slot_int_sub PySem.F.entry_int_sub PySem.F.args_int_sub_2 ni_sub I.no2) (pv 1) (pv 0)) (pa_cons (pe_op op_sub (pe_op op_mulS (pv 1) (pv 3)) (pv 2)) (pa_cons (pv 3) pa_nil)))))) (pss_one (ps_ret pe_bl)) pss_nil)
      (pss_cons (ps_if (PW.pt (pw_and (pt_cmpR op_ne (pv 1) pe_int (nomark _)) (pw_and1 (pt_not (pt_val (pe_cO O__law_is (hr.mono (by omega)) pass0 rfl (pa_cons (pe_methO (pv 0) cl N.over (hr.mono (by omega)) passL (pa_cons (pv 1) pa_nil)) (pa_cons (pv 2) (pa_cons (pe_op op_mulS (pv 3) (pv 1)) pa_nil))))))))) (pss_one (ps_ret pe_bl)) pss_nil)
      (pss_one (ps_ret (pe_and (pe_cO O__law_is (hr.mono (by omega)) pass0 rfl (pa_cons (pe_op (op_ownIO (op := .Mult) N.mul I.rmul (hr.mono (by omega)) passL N.first I.hmul I.gmul I.no) (pv 0) (pv 1)) (pa_cons (pe_op op_mulS (pv 2) (pv 1)) (pa_cons (pv 3) pa_nil)))) (pe_one (pe_cO O__law_is (hr.mono (by omega)) pass0 rfl (pa_cons (pe_op (op_ownRO (op := .Mult) N.mul I.rmul (hr.mono (by omega)) passL N.first PySem.F.fills_int_mul PySem.F.slot_int_mul PySem.F.entry_int_mul PySem.F.args_int_mul_2 ni_mul I.no2) (pv 1) (pv 0)) (pa_cons (pe_op op_mulS (pv 2) (pv 1)) (pa_cons (pv 3) pa_nil))))))))))))), ?_⟩
    have sa := (ba.up (show 30 ≤ 64 by decide)).sm
    have sb := (bb.up (show 30 ≤ 64 by decide)).sm
    have sn := (bn.up (show 30 ≤ 64 by decide)).sm
    have bb' := bb.up (show 30 ≤ 64 by decide)
    have bn' := bn.up (show 30 ≤ 31 by decide)
    have b1 : Bd 31 1 := ⟨by decide, by decide⟩
    have q0 : q ≠ 0 := by have := R.2.1; omega
    have one : (1 : Int) ≠ 0 := by decide
    have e2 : n * 1 = n * 1 := rfl
    refine ⟨_, rfl, _, rfl, _, rfl, _, _, rfl, rfl, ⟨sn, sb⟩, _, _, rfl, rfl, ?_⟩
    obtain ⟨⟨dx, ea⟩, _⟩ := id R
    refine ⟨_, rfl, _, rfl, x, n, dx, _, rfl, rfl, ea, x, .int n, p, q, n, 1, rfl, R, .inr ⟨rfl, rfl⟩, bp, bq, bn', b1, trivial, fun t H1 p' q' s1 R' bp' bq' e => ?_⟩
    refine ⟨_, rfl, _, rfl, ?_⟩
    refine ⟨t, p', q', _, _, rfl, R', bp', bq', (ba.up (show 30 ≤ 60 by decide)).add (bn.mul bb), bb', by simpa only [Int.mul_one] using cr_add (d := 1) e1 e2 e q0 one, true, rfl, iteN (by decide) ?_⟩
    have R := R.same s1
    have ea := s1 _ _ ea
    refine ⟨_, rfl, _, rfl, x, n, dx, _, rfl, rfl, ea, x, .int n, p, q, n, 1, rfl, R, .inr ⟨rfl, rfl⟩, bp, bq, bn', b1, trivial, fun t H2 p' q' s2 R' bp' bq' e => ?_⟩
    refine ⟨_, rfl, _, rfl, ?_⟩
    refine ⟨t, p', q', _, _, rfl, R', bp', bq', (ba.up (show 30 ≤ 60 by decide)).add (bn.mul bb), bb', by simpa only [Int.mul_one] using cr_add (d := 1) e1 e2 e q0 one, true, rfl, iteN (by decide) ?_⟩
    have R := R.same s2
    have ea := s2 _ _ ea
    refine ⟨_, rfl, _, rfl, x, n, dx, _, rfl, rfl, ea, x, .int n, p, q, n, 1, rfl, R, .inr ⟨rfl, rfl⟩, bp, bq, bn', b1, trivial, fun t H3 p' q' s3 R' bp' bq' e => ?_⟩
    refine ⟨_, rfl, _, rfl, _, rfl, _, _, rfl, rfl, ⟨sn, sb⟩, _, _, rfl, rfl, _, rfl, ?_⟩
    refine ⟨t, p', q', _, _, rfl, R', bp', bq', (ba.up (show 30 ≤ 60 by decide)).sub (bn.mul bb), bb', by simpa only [Int.mul_one] using cr_sub (d := 1) e1 e2 e q0 one, true, rfl, iteN (by decide) ?_⟩
    have R := R.same s3
    have ea := s3 _ _ ea
    refine ⟨_, rfl, _, rfl, x, n, dx, _, rfl, rfl, ea, x, .int n, p, q, n, 1, rfl, R, .inr ⟨rfl, rfl⟩, bp, bq, bn', b1, trivial, fun t H4 p' q' s4 R' bp' bq' e => ?_⟩
    refine ⟨_, rfl, _, rfl, _, _, rfl, rfl, ⟨sn, sb⟩, _, rfl, _, _, rfl, rfl, _, rfl, ?_⟩
    refine ⟨t, p', q', _, _, rfl, R', bp', bq', (bn.mul bb).sub (ba.up (show 30 ≤ 60 by decide)), bb', by simpa only [Int.mul_one] using cr_rsub (d := 1) e1 e2 e q0 one, true, rfl, iteN (by decide) ?_⟩
    have R := R.same s4
    have ea := s4 _ _ ea
    have S := ((s1.trans s2).trans s3).trans s4
    refine ⟨_, rfl, rfl, _, rfl, ite2 (fun c0 => ?_) (fun c0 => ?_)⟩
    · have n0 : n ≠ 0 := fun e => bnot_dec c0 (by rw [e])
      refine ⟨_, rfl, x, dx, _, rfl, ea, N.noOver _ _, _, rfl, x, .int n, p, q, n, 1, rfl, R, .inr ⟨rfl, rfl⟩, bp, bq, bn', b1, n0, fun t H5 p' q' s5 R' bp' bq' e => ?_⟩
      refine ⟨_, rfl, _, rfl, _, rfl, _, _, rfl, rfl, ⟨sb, sn⟩, ?_⟩
      refine ⟨t, p', q', _, _, rfl, R', bp', bq', ba.up (by decide), (bb.mul bn).up (by decide), by simpa only [Int.mul_one] using cr_over (d := 1) e1 e2 e q0 one n0 one, true, rfl, iteN (by decide) ?_⟩
      have R := R.same s5
      have ea := s5 _ _ ea
      refine ⟨_, rfl, _, rfl, x, n, dx, _, rfl, rfl, ea, x, .int n, p, q, n, 1, rfl, R, .inr ⟨rfl, rfl⟩, bp, bq, bn', b1, trivial, fun t H6 p' q' s6 R' bp' bq' e => ?_⟩
      refine ⟨_, rfl, _, rfl, _, _, rfl, rfl, ⟨sa, sn⟩, _, rfl, ?_⟩
      refine ⟨t, p', q', _, _, rfl, R', bp', bq', (ba.mul bn).up (by decide), bb', by simpa only [Int.mul_one] using cr_mul (d := 1) e1 e2 e q0 one, _, rfl, iteP rfl ?_⟩
      have R := R.same s6
      have ea := s6 _ _ ea
      refine ⟨_, rfl, _, rfl, x, n, dx, _, rfl, rfl, ea, x, .int n, p, q, n, 1, rfl, R, .inr ⟨rfl, rfl⟩, bp, bq, bn', b1, trivial, fun t H7 p' q' s7 R' bp' bq' e => ?_⟩
      refine ⟨_, rfl, _, rfl, _, _, rfl, rfl, ⟨sa, sn⟩, _, rfl, ?_⟩
      exact ⟨t, p', q', _, _, rfl, R', bp', bq', (ba.mul bn).up (by decide), bb', by simpa only [Int.mul_one] using cr_mul (d := 1) e1 e2 e q0 one, z _ (((S.trans s5).trans s6).trans s7)⟩
    · refine iteN (by decide) ?_
      refine ⟨_, rfl, _, rfl, x, n, dx, _, rfl, rfl, ea, x, .int n, p, q, n, 1, rfl, R, .inr ⟨rfl, rfl⟩, bp, bq, bn', b1, trivial, fun t H6 p' q' s6 R' bp' bq' e => ?_⟩
      refine ⟨_, rfl, _, rfl, _, _, rfl, rfl, ⟨sa, sn⟩, _, rfl, ?_⟩
      refine ⟨t, p', q', _, _, rfl, R', bp', bq', (ba.mul bn).up (by decide), bb', by simpa only [Int.mul_one] using cr_mul (d := 1) e1 e2 e q0 one, _, rfl, iteP rfl ?_⟩
      have R := R.same s6
      have ea := s6 _ _ ea
      refine ⟨_, rfl, _, rfl, x, n, dx, _, rfl, rfl, ea, x, .int n, p, q, n, 1, rfl, R, .inr ⟨rfl, rfl⟩, bp, bq, bn', b1, trivial, fun t H7 p' q' s7 R' bp' bq' e => ?_⟩
      refine ⟨_, rfl, _, rfl, _, _, rfl, rfl, ⟨sa, sn⟩, _, rfl, ?_⟩
      exact ⟨t, p', q', _, _, rfl, R', bp', bq', (ba.mul bn).up (by decide), bb', by simpa only [Int.mul_one] using cr_mul (d := 1) e1 e2 e q0 one, z _ ((S.trans s6).trans s7)⟩
end
/-! ### lambdas as values: their function objects are told -/
section
open LamX
variable {X : Cx} {pins : List (Addr × Obj)} {σ : St} {H : Hp} {s : Shared}
/-- at f: the lambda of this text, its names captured from the cells clo, its code object at c' -/
def LamO (f : Addr) (q : Str) (params : Arguments) (body : Expr) (scope : Scope) (clo : List (Str × Addr)) (c' : Addr) : HO :=
  .ext fun h => ∃ pm ctv : Value, h.get? f = some (PySem.W.kla_obj "<lambda>" q params body scope clo pm c' ctv)
theorem lamO_ok {P : Program} {w : World} {G : Hp} {h : Heap} {f c' : Addr} {q : Str} {params : Arguments} {body : Expr} {scope : Scope} {clo : List (Str × Addr)} {pm ctv : Value} (e : h.get? f = some (PySem.W.kla_obj "<lambda>" q params body scope clo pm c' ctv)) :
    ObjOk P w G h f (LamO f q params body scope clo c') := ⟨⟨pm, ctv, e⟩, ⟨_, e⟩, fun _ _ ⟨a, b, z⟩ k => ⟨a, b, k _ z⟩⟩
theorem lamO_at {P : Program} {w : World} {G : Hp} {h : Heap} {f c' : Addr} {q : Str} {params : Arguments} {body : Expr} {scope : Scope} {clo : List (Str × Addr)} (ok : HOk P w G h) (e : G f = some (LamO f q params body scope clo c')) :
    ∃ pm ctv : Value, h.get? f = some (PySem.W.kla_obj "<lambda>" q params body scope clo pm c' ctv) := (show ObjOk P w G h f (.ext _) from ok f _ e).1
theorem lamO_tbl {f c' : Addr} {q : Str} {params : Arguments} {body : Expr} {scope : Scope} {clo : List (Str × Addr)} (ps : Array Value) : LamO f q params body scope clo c' ≠ .tbl ps := fun z => by
  unfold LamO at z
  cases z
/-- the lambda is made, and told from then on -/
theorem lam_told {T : List (Addr × Str)} {c P : Addr} {params : Arguments} {body : Expr} {scope : Scope} {pos : Pos} {E Q : Value → Shared → Prop} (I : Inv X pins σ H s) (TB : TabB X.base X.mg c P) (code : X.env.code = .ref c) (inT : (P, X.env.qual ++ "<lambda>") ∈ T)
    (one : ∀ p ∈ T, p.1 = P → p.2 = X.env.qual ++ "<lambda>") (tabs : Tabs T H) (dfl : defaultsOf params X.env = ([], [])) (free : ∀ y ∈ scope.names, y.2 = .free → ∃ c, X.env.cells.lookup y.1 = some c)
    (z : ∀ (f c' : Addr) (G : Hp) (s' : Shared), Inv X pins σ G s' → ExtN H G → Tabs T G → H f = none → G f = some (LamO f (X.env.qual ++ "<lambda>") params body scope (cloFrom X.env.cells scope.names []) c') → G c' = some (CodeO c' (X.env.qual ++ "<lambda>")) → Q (.ref f) s') :
    wpAny (model X.prog X.w) X.A (eval (.Lambda params body scope pos) X.env) Q E s := by
  obtain ⟨ps, hP, tri, among⟩ := tabs _ inT
  have bP := TB.bm.keeps I.bk
  have at_P : s.heap.get? P = some { cls := .none, data := .fields ps } := I.hok P _ hP
  refine PySem.W.kla_eval dfl ?_
  cases look : codeAmong pos ps.toList with
  | none =>
    refine PySem.W.kla_makeFunction (mg := X.mg) (c := c) (P := P) (ps := ps) (closure_ok free) I.ok.glob (I.mod.glob.keeps I.bk) code (TB.code.keeps I.bk) at_P tri look TB.gP bP fun c' ctv h1 tk but low high rec_ tab => ?_
    obtain ⟨c2, oc, vs, t, e2, at_c, dc, vc⟩ := rec_
    cases e2
    have far : s.heap.objs.size ≤ h1.objs.size := Nat.le_trans low (Nat.le_of_lt high)
    have nC : H c' = none := I.hok.fresh low
    -- the code object and the table first, the function then
    have J := inv_table (t' := tk) (more := #[rawInt pos.line, rawInt pos.col, .ref c']) (h' := h1) I hP (fun b o hb e => but b o hb e) tab low ⟨oc, vs, t, at_c, dc, vc⟩
    have nF : H h1.objs.size = none := I.hok.fresh far
    have J2 := J.laid (a := h1.objs.size) (o := LamO h1.objs.size (X.env.qual ++ "<lambda>") params body scope (cloFrom X.env.cells scope.names []) c') (t' := tk)
      (h' := h1.push (PySem.W.kla_obj "<lambda>" (X.env.qual ++ "<lambda>") params body scope (cloFrom X.env.cells scope.names []) ((X.mg "__name__").getD .none) c' ctv)) (fun b o e => Heap.get?_push_of_some _ e) (Nat.le_refl _) (lamO_ok (Heap.get?_push_size _ rfl))
    have nFc : h1.objs.size ≠ c' := Nat.ne_of_gt high
    have grow : ∀ b o, H b = some o → (∀ ps, o ≠ .tbl ps) → (upd (upd (upd H P (.tbl (ps ++ #[rawInt pos.line, rawInt pos.col, .ref c']))) c' (CodeO c' (X.env.qual ++ "<lambda>"))) h1.objs.size
        (LamO h1.objs.size (X.env.qual ++ "<lambda>") params body scope (cloFrom X.env.cells scope.names []) c')) b = some o := fun b o e n => by
      rw [upd_ne (ne_of_none e nF), upd_ne (ne_of_none e nC), upd_ne (fun m => n ps (Option.some.inj (e.symm.trans (by rw [m]; exact hP))))]
      exact e
    refine z h1.objs.size c' _ _ J2 grow (fun p hp => ?_) nF upd_same (by rw [upd_ne (Ne.symm nFc), upd_same])
    by_cases hb : p.1 = P
    · have long : (ps ++ #[rawInt pos.line, rawInt pos.col, .ref c']).toList = ps.toList ++ [rawInt pos.line, rawInt pos.col, .ref c'] := by simp
      have nPf : P ≠ h1.objs.size := ne_of_none hP nF
      rw [one p hp hb, hb]
      refine ⟨_, by rw [upd_ne nPf, upd_ne (ne_of_none hP nC), upd_same], by rw [long]; exact PySem.TriplesOk_snoc _ _ _ _ tri, fun p2 cv h2 => ?_⟩
      rw [long] at h2
      rcases among_app _ tri h2 with y | y
      · obtain ⟨c0, e1, e2⟩ := among p2 cv y
        exact ⟨c0, e1, grow _ _ e2 codeO_ne⟩
      · exact ⟨c', y, by rw [upd_ne (Ne.symm nFc), upd_same]⟩
    · obtain ⟨ps2, a1, a2, a3⟩ := tabs p hp
      refine ⟨ps2, ?_, a2, fun p2 cv h2 => ?_⟩
      · rw [upd_ne (ne_of_none a1 nF), upd_ne (ne_of_none a1 nC), upd_ne hb]
        exact a1
      · obtain ⟨c0, e1, e2⟩ := a3 p2 cv h2
        exact ⟨c0, e1, grow _ _ e2 codeO_ne⟩
  | some cv =>
    obtain ⟨c', e, co⟩ := among pos cv look
    subst e
    refine PySem.W.kla_makeFunctionHit (mg := X.mg) (c := c) (P := P) (ps := ps) (closure_ok free) I.ok.glob (I.mod.glob.keeps I.bk) code (TB.code.keeps I.bk) at_P tri look bP fun ctv h1 tk kp far => ?_
    have nF : H h1.objs.size = none := I.hok.fresh far
    have J := (I.kept (t' := tk) (h' := h1) kp).laid (a := h1.objs.size) (o := LamO h1.objs.size (X.env.qual ++ "<lambda>") params body scope (cloFrom X.env.cells scope.names []) c') (t' := tk)
      (h' := h1.push (PySem.W.kla_obj "<lambda>" (X.env.qual ++ "<lambda>") params body scope (cloFrom X.env.cells scope.names []) ((X.mg "__name__").getD .none) c' ctv)) (fun b o e => Heap.get?_push_of_some _ e) (Nat.le_refl _) (lamO_ok (Heap.get?_push_size _ rfl))
    have grow : ∀ b o, H b = some o → (upd H h1.objs.size (LamO h1.objs.size (X.env.qual ++ "<lambda>") params body scope (cloFrom X.env.cells scope.names []) c')) b = some o := fun b o e => by
      rw [upd_ne (ne_of_none e nF)]
      exact e
    exact z h1.objs.size c' _ _ J (.of grow) (tabs.ext grow) nF upd_same (grow _ _ co)
/-- what a lambda as a value asks: f is new, and told -/
def tLamV (T : List (Addr × Str)) (q : Str) (params : Arguments) (body : Expr) (scope : Scope) (clo : List (Str × Addr)) : TE := fun _ H Q => Tabs T H ∧ ∀ (f c' : Addr) (G : Hp), ExtN H G → Tabs T G → H f = none → G f = some (LamO f q params body scope clo c') → G c' = some (CodeO c' q) → Q (.ref f) G
theorem pe_lamV {T : List (Addr × Str)} {c P : Addr} {params : Arguments} {body : Expr} {scope : Scope} {pos : Pos} (TB : TabB X.base X.mg c P) (code : X.env.code = .ref c) (inT : (P, X.env.qual ++ "<lambda>") ∈ T) (one : ∀ p ∈ T, p.1 = P → p.2 = X.env.qual ++ "<lambda>")
    (L : LamS X.env.scope scope) (dfl : defaultsOf params X.env = ([], [])) : PE X (.Lambda params body scope pos) (tLamV T (X.env.qual ++ "<lambda>") params body scope (cloFrom X.env.cells scope.names [])) :=
  ⟨fun pins s σ H Q I h => lam_told I TB code inT one h.1 dfl (L.has I.ok) fun f c' G s' J e t n a b => ⟨.ref f, G, J, rfl, h.2 f c' G e t n a b⟩⟩
end
section
open LamX
variable {X : Cx} {pins : List (Addr × Obj)} {σ : St} {H : Hp} {s : Shared}
abbrev LamF (X : Cx) (f : Addr) (params : Arguments) (body : Expr) (scope : Scope) (c' : Addr) (G : Hp) : Prop :=
  G f = some (LamO f (X.env.qual ++ "<lambda>") params body scope (cloFrom X.env.cells scope.names []) c') ∧ G c' = some (CodeO c' (X.env.qual ++ "<lambda>"))
/-- a lambda takes no arguments -/
abbrev Bare (X : Cx) (params : Arguments) (body : Expr) (scope : Scope) : Prop :=
  ∀ (pm cv ctv : Value), bindArgs (PySem.W.kla_fn "<lambda>" (X.env.qual ++ "<lambda>") params body scope (cloFrom X.env.cells scope.names []) pm cv ctv) ⟨[], []⟩ = pure []
/-- x(), in a def that is called from X's frame at s and was handed a lambda of X -/
theorem pe_act2 {CXg : CXT} {Eg : XK} {Ng : List Str} {qg a : Str} {sg scope : Scope} {g : Addr} {cdg : Value} {params : Arguments} {body : Expr} {k i : Nat} {pn : List (Addr × Obj)} {xe : Value → Shared → Prop} {W : WX} {tb : XK → TE} {p1 p2 : Pos}
    (I : Inv X pins σ H s) (L : LamS X.env.scope scope) (bare : Bare X params body scope) (tk : Takes ((cxOf CXg X.prog X.w X.K X.mg X.base Ng qg sg g cdg X.A X.stack s H Eg).tr pn xe) W)
    (room : Room (k + 1) (X.A.deeper (PyProof.Rows.envOfC qg sg s.heap.objs.size g cdg)))
    (bod : ∀ (A : Around) (outer : List Env) (s : Shared) (H : Hp) (E : XK) (f c' : Addr), Room k (A.deeper (lamEnv X scope s.heap.objs.size f c')) → PE (lamCx X A outer s H E scope f c') body (tb E))
    (at_i : Ng[i]? = some a) (vis : Vis sg a) (nd : (a == ("__debug__" : Str)) = false := by decide) (nc : (a == ("__classdict__" : Str)) = false := by decide) :
    PE ((cxOf CXg X.prog X.w X.K X.mg X.base Ng qg sg g cdg X.A X.stack s H Eg).tr pn xe) (.Call (.Name a p1) [] [] p2) (fun τ G Q => ∃ (E : XK) (f c' : Addr), (∀ cls d τ G, E cls d G → W cls d τ G) ∧ τ[i]? = some (some (.ref f)) ∧ LamF X f params body scope c' G ∧ tb E σ G Q) := by
  refine ⟨fun pz z τ G Q J w => ?_⟩
  obtain ⟨E, f, c', wish, in_i, ⟨ef, ec⟩, ht⟩ := w
  refine wpAny_Call_Name_kw (thn ((pe_var (pos := p1) at_i vis nd nc).run pz z τ G (fun v G1 => v = .ref f ∧ G1 = G) J ⟨.ref f, in_i, rfl, rfl⟩) fun u z1 hu => ?_)
  obtain ⟨v, G1, J1, rv, rfl, rfl⟩ := hu
  obtain rfl : u = Value.ref f := rv
  obtain ⟨pm, ctv, at_f⟩ := lamO_at J1.hok ef
  obtain ⟨⟨oc, vs, t, at_c, dc, vc⟩, _, _⟩ := (show ObjOk _ _ _ _ c' (CodeO c' (X.env.qual ++ "<lambda>")) from J1.hok c' _ ec)
  refine PySem.W.callWith_F0 ⟨_, _, _, _, at_f⟩ (PySem.wpAny_call ?_)
  have un : Un (frs X.stack) [] H G1 s.heap z1.heap := J1.base
  have runs : codeAny (model X.prog X.w) (X.A.deeper (PyProof.Rows.envOfC qg sg s.heap.objs.size g cdg)) (.call (.ref f) ⟨[], []⟩)
      (CR (L2.CX X.prog X.w) (PyProof.Rows.envOfC qg sg s.heap.objs.size g cdg :: X.stack) X.prog X.w G1 z1 Q E) z1 := by
    refine PySem.W.kla_callFunE room.depth at_f rfl L.co L.gen rfl ⟨c', oc, vs, t, rfl, at_c, dc, vc⟩ ?_
    rw [bare]
    refine PySem.wpAny_pure (PySem.wpAny_newFunctionEnv (fun y hy => (L.own y hy).2) (fun y hy => absurd hy (by simp)) (fun h1 ns but => ⟨J1.nolimit.fresh _ but, ?_⟩) L.kind)
    have kp : ∀ b o, z1.heap.get? b = some o → h1.get? b = some o := fun b o e => but.extBut b o (Nat.ne_of_lt (Heap.lt_size e)) (Heap.get?_push_of_some _ e)
    have S := lam_start2 (E := E) (f := f) (c' := c') (tk := z1.toks + ([] : List (Str × Value)).length) I L J1.env0 room.hd un ns kp
    show codeAny _ _ (.expr body (lamEnv X scope z1.heap.objs.size f c')) _ _
    refine PySem.W.kla_codeExpr (PySem.wpAny_mono ((bod _ _ z1 G1 E f c' (room.deeper _)).run [] _ _ G1 Q S ht) (fun v z2 y => ?_) fun _ _ y => y)
    obtain ⟨v', G2, S2, r2, q2⟩ := y
    exact ⟨v', G2, S2.os, S2.bare, S2.base, S2.hok, r2, q2⟩
  refine PySem.codeAny_mono runs ?_
  rintro (er | _ | _ | _ | u) z2 y
  · exact passes_call tk wish pz τ G1 z1 er z2 J1 y
  · exact y.elim
  · exact y.elim
  · exact y.elim
  · exact J1.after y
end
/-! ### a comprehension whose element looks back at the def that holds it -/
section
open PyProof.Rows hiding St
variable {X : Cx}
/-- from the block back to its def -/
def Back (X : Cx) (pins : List (Addr × Obj)) (σ : St) (s : Shared) (H : Hp) (scope : Scope) (ce : Env) (fp : List Addr) : Prop :=
  ∀ (pz : List (Addr × Obj)) (τ : St) (G : Hp) (z : Shared), Inv (X.blk s H scope ce fp) pz τ G z → Inv X pins σ G z
theorem pe_lcB {elt tg iter : Expr} {scope : Scope} {own : List (Str × Nat)} {pos : Pos} {wi : TI} {g : TG} {te : St → TE} (calm : X.calm = true) (nd : X.N.Nodup) (wk : PI X tg iter wi) (bk : BlkOk X.N X.env.scope scope own)
    (gg : ∀ (s : Shared) (H : Hp) (C : Addr) (cl : List (Str × Addr)) (fp : List Addr), PG (X.blk s H scope (compEnvC scope cl C X.env) fp) tg g)
    (ee : ∀ (pins : List (Addr × Obj)) (σ : St) (s : Shared) (H : Hp) (C : Addr) (cl : List (Str × Addr)) (fp : List Addr), Back X pins σ s H scope (compEnvC scope cl C X.env) fp → PE (X.blk s H scope (compEnvC scope cl C X.env) fp) elt (te σ))
    (same : ∀ x, foldedSetIterable iter X.env x = pure x := by intro _; rfl) : PE X (.ListComp elt [⟨tg, iter, [], 0⟩] scope pos) (fun σ H Q => tLc wi g tYes (te σ) (own.map (·.2)) σ H Q) := by
  refine ⟨fun pins s σ H Q I w => ?_⟩
  rw [eval_ListComp]
  have caught : ∀ y ∈ scope.names, y.2 = .free → ∃ c, X.env.cells.lookup y.1 = some c := fun y hy e => (bk.free y hy e).elim (fun k => I.ok.has _ (.inl k)) fun k => I.ok.has _ (.inr k)
  refine wpAny_comprehension_free (use := none) rfl same (closure_ok caught) bk.kind (fun y hy e => by rw [bk.uniq y hy, e]) (thn (wk.run pins s σ H _ I w) fun v1 s1 h1 => thn h1 fun v2 s2 h2 => ?_)
  obtain ⟨it, fp, turn_at, J, H2, rfl, I2, T, st2, frees, w⟩ := h2
  refine wpAny_newObj_type (newEnv_comp ?_) (by show 0 ≤ sizeLine; decide)
  have newD : H2 s2.heap.objs.size = none := I2.hok.fresh (Nat.le_refl _)
  obtain ⟨W, ⟨m0, w0⟩, turn⟩ := w s2.heap.objs.size newD
  generalize eD : s2.heap.objs.size = D at newD w0 turn
  -- the list that is filled
  have stay3 : ∀ b o, s2.heap.get? b = some o → (s2.heap.push { cls := .type "list", data := .seq ([] : List Value).toArray }).get? b = some o := fun b o e => Heap.get?_push_of_some _ e
  have I3 : Inv X pins σ (upd H2 D (.lst [])) { s2 with heap := s2.heap.push { cls := .type "list", data := .seq ([] : List Value).toArray } } :=
    I2.laid (t' := s2.toks) stay3 (Nat.le_of_eq eD) ⟨Nat.zero_le _, [], 0, .nil, by rw [← eD]; exact Heap.get?_push_size _ rfl⟩
  have size3 : (s2.heap.push { cls := .type "list", data := .seq ([] : List Value).toArray }).objs.size = s2.heap.objs.size + 1 := Heap.size_push _ _
  have frees3 : ∀ b ∈ fp, FpOk X pins (upd H2 D (.lst [])) b ∧ b < (s2.heap.push { cls := .type "list", data := .seq ([] : List Value).toArray }).objs.size := fun b hb => by
    obtain ⟨o, e, _⟩ := T.obj _ _ st2 b hb
    have lt := Heap.lt_size e
    refine ⟨⟨?_, (frees b hb).2⟩, by rw [size3]; exact Nat.lt_succ_of_lt lt⟩
    rw [upd_ne (by rw [← eD]; exact Nat.ne_of_lt lt)]
    exact (frees b hb).1
  have st3 : turn_at 0 (s2.heap.push { cls := .type "list", data := .seq ([] : List Value).toArray }) := T.keep _ _ _ st2 fun b _ o e => stay3 b o e
  generalize e3 : ({ s2 with heap := s2.heap.push { cls := .type "list", data := .seq ([] : List Value).toArray } } : Shared) = s3 at I3
  have h3 : s3.heap = s2.heap.push { cls := .type "list", data := .seq ([] : List Value).toArray } := by rw [← e3]
  rw [← h3] at frees3 st3
  have I4 := block_start I3 bk nd frees3
  have pg := gg s3 (upd H2 D (.lst [])) s3.heap.objs.size (cellsFrom (s3.heap.objs.size + 1) scope.names (cloFrom X.env.cells scope.names [])) fp
  have pe := ee pins σ s3 (upd H2 D (.lst [])) s3.heap.objs.size (cellsFrom (s3.heap.objs.size + 1) scope.names (cloFrom X.env.cells scope.names [])) fp
  show codeAny _ _ (.compStart (.ListComp elt [⟨tg, iter, [], 0⟩] scope pos) 0 (.ref it) (.ref D) (compEnvC scope (cellsFrom (s3.heap.objs.size + 1) scope.names (cloFrom X.env.cells scope.names [])) s3.heap.objs.size X.env))
    (compPost (model X.prog X.w) X.A X.xe none (EP X pins σ Q) (.ref D) s3.heap.objs.size) { s3 with heap := pushCells (s3.heap.push { cls := .type "dict", data := .dict #[] }) scope.names }
  have free3 : ∀ b ∈ fp, (upd H2 D (.lst [])) b = none := fun b hb => (frees3 b hb).1.1
  generalize eC : compEnvC scope (cellsFrom (s3.heap.objs.size + 1) scope.names (cloFrom X.env.cells scope.names [])) s3.heap.objs.size X.env = ce at I4 pg pe ⊢
  have locals : ce.locals = s3.heap.objs.size := by rw [← eC]; rfl
  generalize eH : upd H2 D (.lst []) = H3 at I3 I4 pg pe w0 free3 frees3
  generalize e4 : ({ s3 with heap := pushCells (s3.heap.push { cls := .type "dict", data := .dict #[] }) scope.names } : Shared) = s4 at I4 ⊢
  have st4 : turn_at 0 s4.heap := T.keep _ _ _ st3 fun b _ o e => by
    rw [← e4]
    exact pushCells_keeps _ _ _ _ (Heap.get?_push_of_some _ e)
  -- the way back
  have back : Back X pins σ s3 H3 scope ce fp := fun pz τ G z V => I3.call' (ch := fp) V.os V.base V.hok V.bare fun b hb => by
    obtain ⟨⟨_, y1, _, y3, y4, y5⟩, _⟩ := frees3 b hb
    exact ⟨y3, y1, y4, y5⟩
  have walked : ∀ {τ : St} {G : Hp} {z : Shared}, Inv (X.blk s3 H3 scope ce fp) [] τ G z → (∀ b ∈ fp, G b = none) → ∀ b ∈ fp, FpOk (X.blk s3 H3 scope ce fp) [] G b := fun {τ G z} V n b hb =>
    ⟨n b hb, (V.ok.exf b hb).1, V.ok.exfs b hb, .inl hb, fun x c e => (V.ok.exf b hb).2 x c e, fun p hp => absurd (show p ∈ ([] : List (Addr × Obj)) ++ [] from hp) (by simp)⟩
  have loop : codeAny (model X.prog X.w) X.A (.compLoop (.ListComp elt [⟨tg, iter, [], 0⟩] scope pos) 0 (.ref it) (.ref D) ce) (compPost (model X.prog X.w) X.A X.xe none (EP X pins σ Q) (.ref D) s3.heap.objs.size) s4 := by
    refine compLoop_any (fun n z => ∃ i G, Inv (X.blk s3 H3 scope ce fp) [] (wipe σ (own.map (·.2))) G z ∧ turn_at i z.heap ∧ (∀ b ∈ fp, G b = none) ∧ W i n G) ?_ m0 ⟨0, H3, I4, st4, free3, w0⟩
    rintro n z5 ⟨i, G5, V5, st5, n5, w5⟩
    rcases turn i n G5 w5 with ⟨stop, done⟩ | ⟨go, Nx, next, step⟩
    · refine thnF (T.done (X.blk s3 H3 scope ce fp) rfl rfl rfl calm i [] z5 _ G5 (fun _ _ => False) V5 (walked V5 n5) st5 stop) fun r z6 hz => ?_
      obtain ⟨rfl, V6⟩ := hz
      have I7 := back [] _ _ _ V6
      obtain ⟨m, ns, _⟩ := V6.loc
      have ns2 : z6.heap.Ns s3.heap.objs.size m := locals ▸ (show z6.heap.Ns ce.locals m from ns)
      have nC : G5 s3.heap.objs.size = none := locals ▸ (show G5 ce.locals = none from V6.free)
      obtain ⟨f0, f1, f2, f3, f4, f5⟩ := I3.fpOk (Nat.le_refl _) nC
      exact ⟨m, ns2, fun h'' but => ⟨.ref D, G5, I7.turned (t' := z6.toks) (fun b o hb e => (but.2 b hb).trans e) f0 f1 f3 f4 f5, rfl, done⟩⟩
    · refine thnF (T.item (X.blk s3 H3 scope ce fp) rfl rfl rfl calm i [] z5 _ G5 (fun _ _ => False) V5 (walked V5 n5) st5 go) fun r z6 hz => ?_
      obtain ⟨u, rfl, hz⟩ := hz
      refine thnF hz fun _ z7 hz => ?_
      obtain ⟨x, G7, V7, r7, y7, st7, n7⟩ := hz
      have V7' := V7.pinned (walked V7 n7) (T.obj _ _ st7)
      refine thnF (pg.run _ z7 _ G7 x u _ V7' r7 (step x G7 y7)) fun _ z8 hz => ?_
      obtain ⟨τ8, G8, V8, wiped, yes⟩ := hz
      refine thnF (((pts_nil : PTs (X.blk s3 H3 scope ce fp) [] tYes)).run _ z8 τ8 G8 (fun b G => b = true ∧ te σ τ8 G fun y H4 => ∃ acc, H4 D = some (.lst acc) ∧ acc.length < sizeLine ∧ Nx (upd H4 D (.lst (acc ++ [y])))) V8 ⟨rfl, yes⟩) fun b z9 hz => ?_
      obtain ⟨G9, V9, rfl, q9⟩ := hz
      simp only [if_true]
      refine thnF ((pe back).run _ z9 τ8 G9 _ V9 q9) fun y z10 hz => ?_
      obtain ⟨yv, G10, V10, r10, acc, atD, few, nx⟩ := hz
      refine app_ok (X := X.blk s3 H3 scope ce fp) V10 atD few r10 fun z11 V11 => ?_
      obtain ⟨m', less, w'⟩ := next _ nx
      have pinned : ∀ b ∈ fp, ∀ o, z7.heap.get? b = some o → z11.heap.get? b = some o ∧ (upd G10 D (.lst (acc ++ [yv]))) b = none := fun b hb o e =>
        let y := V11.pin (b, o) (List.mem_append_right _ (List.mem_append_right _ (mem_pinsAt hb e)))
        ⟨y.1, y.2.1⟩
      refine ⟨m', less, i + 1, _, (V11.unpinned (pins := [])).weak (by rw [← wiped, wipe_length]) (fun j v e => ?_), T.keep _ _ _ st7 fun b hb o e => (pinned b hb o e).1, fun b hb => ?_, w'⟩
      · rw [← wiped] at e
        exact (wipe_some e).1
      · obtain ⟨o, e, _⟩ := T.obj _ _ st7 b hb
        exact (pinned b hb o e).2
  exact codeAny_compStart_list loop (T.self X.A 0 _ _ _ st4 loop)
end
/-! ### a def that is handed a lambda and calls it -/
section
open LamX
/-- a lambda of the def X: its text, and what it does -/
structure LamD (X : Cx) (k : Nat) where
  params : Arguments
  body : Expr
  scope : Scope
  t : XK → TE
  L : LamS X.env.scope scope
  bare : Bare X params body scope
  bod : ∀ (A : Around) (outer : List Env) (s : Shared) (H : Hp) (E : XK) (f c' : Addr), Room k (A.deeper (lamEnv X scope s.heap.objs.size f c')) → PE (lamCx X A outer s H E scope f c') body (t E)
abbrev LamD.at {X : Cx} {k : Nat} (d : LamD X k) (f c' : Addr) (G : Hp) : Prop := LamF X f d.params d.body d.scope c' G
/-- the def x stands at g, as the text wrote it: one parameter a, the slots Ng -/
structure OneP (K : PySem.W.Frag) (mg : Str → Option Value) (x a : Str) (Ng : List Str) (st : Stmt) (g : Addr) (cdv : Value) : Prop where
  at_ : mg x = some (.ref g)
  kp : PySem.W.keepIn K (.ref g) = true
  lk : ∃ (oc kV doc pm ct : Value) (od an : Option Addr) (osl : Array (Option Value)), K.lookup g = some ⟨oc, od, .func (PySem.W.fnOf x x (defArgs st) (defBody st) (defScope st) .none kV doc pm an cdv ct), osl⟩ ∧
    Binds K (PySem.W.fnOf x x (defArgs st) (defBody st) (defScope st) .none kV doc pm an cdv ct) [a] []
  cd : PySem.W.codeIn K cdv x = true
  sc : FnScope Ng [a] (defScope st)
  slot : Ng[0]? = some a
  vis : Vis (defScope st) a
/-- the def's body does TT of whatever the lambda does -/
def Handed (X : Cx) (k : Nat) (x a : Str) (Ng : List Str) (st : Stmt) (g : Addr) (cdv : Value) (TT : (XK → Hp → VK → Prop) → Hp → VK → Prop) : Prop :=
  ∀ (d : LamD X k) (f c' : Addr) (s : Shared) (H : Hp) (Q : VK) (tl : XK → Hp → VK → Prop), d.at f c' H →
    (∀ (W : WX) (pn : List (Addr × Obj)) (xe : Value → Shared → Prop) (p1 p2 : Pos), Takes ((cxOf CX0 X.prog X.w X.K X.mg X.base Ng x (defScope st) g cdv X.A X.stack s H E0).tr pn xe) W →
      PE ((cxOf CX0 X.prog X.w X.K X.mg X.base Ng x (defScope st) g cdv X.A X.stack s H E0).tr pn xe) (.Call (.Name a p1) [] [] p2) (fun τ G R => ∃ (E : XK) (f' c'' : Addr), (∀ cls dd τ G, E cls dd G → W cls dd τ G) ∧ τ[0]? = some (some (.ref f')) ∧ d.at f' c'' G ∧ tl E G R)) →
    TT tl H Q → ∃ t, PSs (cxOf CX0 X.prog X.w X.K X.mg X.base Ng x (defScope st) g cdv X.A X.stack s H E0).nox (defBody st) t ∧ t { nx := fun _ G => Q .non G, rt := Q } (L2.start Ng [.ref f]) H
section
variable {X : Cx} {pins : List (Addr × Obj)} {σ : St} {H : Hp} {s : Shared} {k : Nat} {x a : Str} {Ng : List Str} {st : Stmt} {g : Addr} {cdv : Value} {TT : (XK → Hp → VK → Prop) → Hp → VK → Prop}
theorem run_handed {Q : VK} (I : Inv X pins σ H s) (D : OneP X.K X.mg x a Ng st g cdv) (room : Room (k + 2) X.A) (G : Handed X k x a Ng st g cdv TT) (d : LamD X k) {f c' : Addr} (kn : d.at f c' H) (nd : (a == ("__debug__" : Str)) = false) (nc : (a == ("__classdict__" : Str)) = false)
    (w : TT (fun E G' Q' => d.t E σ G' Q') H Q) : codeAny (model X.prog X.w) X.A (.call (.ref g) ⟨[.ref f], []⟩) (CR CX0 X.stack X.prog X.w H s Q E0) s := by
  obtain ⟨oc, kV, doc, pm, ct, od, an, osl, lk, bi⟩ := D.lk
  refine run_ofS (N := Ng) (ps := [a]) (us := [.ref f]) (vs := [.ref f]) lk D.cd D.sc room I.env0 (bi s [.ref f] I.kIn rfl) (.cons rfl .nil) rfl fun room' => ?_
  obtain ⟨t, ht, q⟩ := G d f c' s H Q _ kn (fun W pn xe p1 p2 tk => pe_act2 (i := 0) I d.L d.bare tk room' (fun A outer s H E f c' r => d.bod A outer s H E f c' r) D.slot D.vis nd nc) w
  exact ⟨t, ht.nox, q⟩
/-- x(e), e a lambda of X -/
theorem pe_handX {e : Expr} {te : TE} {p pos : Pos} (D : OneP X.K X.mg x a Ng st g cdv) (room : Room (k + 2) X.A) (G : Handed X k x a Ng st g cdv TT) (gl : Gl X x) (he : PE X e te) (nd : (a == ("__debug__" : Str)) = false := by decide) (nc : (a == ("__classdict__" : Str)) = false := by decide) (ndx : (x == ("__debug__" : Str)) = false := by decide)
    (ev : starEach [e] X.env = (false, eval e X.env) :: starEach [] X.env := by rfl) (pl : (backTo pos (starEach [] X.env)).any (·.1) = false := by rfl) :
    PE X (.Call (.Name x p) [e] [] pos) (fun σ H Q => te σ H fun v H1 => ∃ (d : LamD X k) (f c' : Addr), v = .ref f ∧ d.at f c' H1 ∧ TT (fun E G' Q' => d.t E σ G' Q') H1 Q) := by
  refine ⟨fun pins s σ H Q I h => wpAny_Call_Name_kw (ld_glob I gl D.at_ (PySem.W.callWith_K (h₀ := X.base) I.ok.mod.kin D.kp (thn ((pa_cons he pa_nil ev).run pos pins s σ H (fun vs H1 => match vs with | [v] => ∃ (d : LamD X k) (f c' : Addr), v = .ref f ∧ d.at f c' H1 ∧ TT (fun E G' Q' => d.t E σ G' Q') H1 Q | _ => False) I ?_) fun us s1 hu => ?_) ev pl) ndx)⟩
  · exact h
  · obtain ⟨vs, H1, I1, r, w⟩ := hu
    obtain ⟨v, rfl⟩ : ∃ v, vs = [v] := by
      match vs, w with
      | [v], _ => exact ⟨v, rfl⟩
    obtain ⟨d, f, c', rfl, kn, w⟩ := w
    obtain ⟨u, rfl, ru⟩ := vals1 r
    obtain rfl : u = Value.ref f := ru
    refine ⟨I1.kIn, PySem.wpAny_call (PySem.codeAny_mono (run_handed I1 D room G d kn nd nc w) ?_)⟩
    rintro (er | _ | _ | _ | u) s2 y
    · exact y.elim
    · exact y.elim
    · exact y.elim
    · exact y.elim
    · exact I1.after y
def tHandB (X : Cx) (k : Nat) (TT : (XK → Hp → VK → Prop) → Hp → VK → Prop) (te : TE) (σ : St) : TE := fun τ H Q => te τ H fun v H1 => ∃ (d : LamD X k) (f c' : Addr), v = .ref f ∧ d.at f c' H1 ∧ TT (fun E G' Q' => d.t E σ G' Q') H1 Q
/-- the same in a comprehension's block, whose def is X -/
theorem pe_handB {s0 : Shared} {H0 : Hp} {scope : Scope} {ce : Env} {fp : List Addr} {e : Expr} {te : TE} {p pos : Pos} (bk : Back X pins σ s0 H0 scope ce fp) (D : OneP X.K X.mg x a Ng st g cdv) (room : Room (k + 2) X.A) (G : Handed X k x a Ng st g cdv TT) (gl : Gl (X.blk s0 H0 scope ce fp) x)
    (he : PE (X.blk s0 H0 scope ce fp) e te) (nd : (a == ("__debug__" : Str)) = false := by decide) (nc : (a == ("__classdict__" : Str)) = false := by decide) (ndx : (x == ("__debug__" : Str)) = false := by decide)
    (ev : starEach [e] (X.blk s0 H0 scope ce fp).env = (false, eval e (X.blk s0 H0 scope ce fp).env) :: starEach [] (X.blk s0 H0 scope ce fp).env := by rfl) (pl : (backTo pos (starEach [] (X.blk s0 H0 scope ce fp).env)).any (·.1) = false := by rfl) :
    PE (X.blk s0 H0 scope ce fp) (.Call (.Name x p) [e] [] pos) (tHandB X k TT te σ) := by
  refine ⟨fun pz z τ H Q I h => wpAny_Call_Name_kw (ld_glob I gl D.at_ (PySem.W.callWith_K (h₀ := X.base) I.ok.mod.kin D.kp (thn ((pa_cons he pa_nil ev).run pos pz z τ H (fun vs H1 => match vs with | [v] => ∃ (d : LamD X k) (f c' : Addr), v = .ref f ∧ d.at f c' H1 ∧ TT (fun E G' Q' => d.t E σ G' Q') H1 Q | _ => False) I ?_) fun us s1 hu => ?_) ev pl) ndx)⟩
  · exact h
  · obtain ⟨vs, H1, I1, r, w⟩ := hu
    obtain ⟨v, rfl⟩ : ∃ v, vs = [v] := by
      match vs, w with
      | [v], _ => exact ⟨v, rfl⟩
    obtain ⟨d, f, c', rfl, kn, w⟩ := w
    obtain ⟨u, rfl, ru⟩ := vals1 r
    obtain rfl : u = Value.ref f := ru
    refine ⟨I1.kIn, PySem.wpAny_call (PySem.codeAny_mono (run_handed (bk _ _ _ _ I1) D room G d kn nd nc w) ?_)⟩
    rintro (er | _ | _ | _ | u) s2 y
    · exact y.elim
    · exact y.elim
    · exact y.elim
    · exact y.elim
    · exact I1.after y
end
end
/-! ### what the written part says of one own exception class -/
structure Cl (K : PySem.W.Frag) (C fI : Addr) (tl : List Value) (newId : String) (fs : List Str) : Prop where
  T : XCls K C fI tl newId
  look : XLook K C
  no : ∀ f ∈ fs, PySem.W.findIn K (.ref C) f = some none
  mro : (PySem.W.clsIn K C).map (·.mro) = some (.ref C :: tl)
  ty : PySem.W.typeIn K (.ref C) = some (.type "type")
theorem cl_of {K : PySem.W.Frag} {C fI : Addr} {tl : List Value} {newId : String} {fs : List Str} (g1 : PySem.W.specialIn K (.builtin "object.__class__") "__get__" = some (some (.builtin "getset_descriptor.__get__"))) (g2 : PySem.W.takesIn K (.builtin "object.__class__") = some true)
    (b : PySem.W.findIn K (.ref C) "__init__" = some (some (.ref fI)))
    (t : (PySem.W.excInitIn K C tl newId, PySem.W.excOver K C tl, PySem.W.hasDictIn K C, PySem.W.isFn K (.ref fI), PySem.W.keepIn K (.ref C)) = (true, true, true, true, true))
    (u : (PySem.W.findIn K (.ref C) "__setattr__", PySem.W.findIn K (.ref C) "__getattribute__", PySem.W.findIn K (.ref C) "__getattr__", PySem.W.findIn K (.ref C) "__class__") =
      (some (some (.builtin "object.__setattr__")), some (some (.builtin "BaseException.__getattribute__")), some none, some (some (.builtin "object.__class__"))))
    (v : (PySem.W.subIn K (.ref C) (.type "BaseException"), PySem.W.mroIn K C (.type "object"), (PySem.W.clsIn K C).map (·.mro), PySem.W.typeIn K (.ref C)) = (some true, some true, some (.ref C :: tl), some (.type "type")))
    (f : fs.map (fun f => PySem.W.findIn K (.ref C) f) = fs.map fun _ => some none) : Cl K C fI tl newId fs := by
  simp only [Prod.mk.injEq] at t u v
  obtain ⟨t1, t2, t3, t4, t5⟩ := t
  obtain ⟨u1, u2, u3, u4⟩ := u
  obtain ⟨v1, v2, v3, v4⟩ := v
  exact ⟨⟨t1, t2, t3, u1, b, t4, t5⟩, ⟨⟨u2, u3, v1, t3⟩, ⟨u2, u3, v1, t3, u4, g1, g2, v2⟩⟩, List.map_inj_left.mp f, v3, v4⟩
/-! ### ratios: the class -/
def RFd (p q : Int) : List (Str × V) := [("_top", .int p), ("_bottom", .int q)]
/-- whether a value is an integer -/
def IntV (K : PySem.W.Frag) (H : Hp) (v : V) (b : Bool) : Prop := (∃ i, v = .int i ∧ b = true) ∨ (∃ x, v = .bl x ∧ b = false) ∨ (∃ t, TyX K H v t ∧ PySem.W.kitOne K t (.type "int") = some false ∧ b = false)
theorem kBoolInt {K : PySem.W.Frag} : PySem.W.kitOne K (.type "bool") (.type "int") = some true := kit_ty (show kitB "bool" "int" = some true by decide +kernel)
theorem kBoolBool {K : PySem.W.Frag} : PySem.W.kitOne K (.type "bool") (.type "bool") = some true := kit_ty (show kitB "bool" "bool" = some true by decide +kernel)
/-- what the text's top has of the class -/
structure RTx (K : PySem.W.Frag) (mg : Str → Option Value) (C : Addr) : Prop where
  int : mg "int" = none
  bool : mg "bool" = none
  isinstance : mg "isinstance" = none
  mC : mg "Ratio" = some (.ref C)
  gcd : mg "gcd" = some (.builtin "math.gcd")
  cl : Cls K C
  nT : NoAttr K C "_top"
  nB : NoAttr K C "_bottom"
  c1 : PySem.W.findIn K (.ref C) "__class__" = some (some (.builtin "object.__class__"))
  c2 : PySem.W.specialIn K (.builtin "object.__class__") "__get__" = some (some (.builtin "getset_descriptor.__get__"))
  c3 : PySem.W.takesIn K (.builtin "object.__class__") = some true
  c4 : PySem.W.mroIn K C (.type "object") = some true
  kCI : PySem.W.kitOne K (.ref C) (.type "int") = some false
  kCC : PySem.W.kitOne K (.ref C) (.ref C) = some true
  kIC : PySem.W.kitOne K (.type "int") (.ref C) = some false
  kNC : PySem.W.kitOne K (.type "NoneType") (.ref C) = some false
  kTC : PySem.W.kitOne K (.type "tuple") (.ref C) = some false
section
variable {P : Program} {w : World} {K : PySem.W.Frag} {mg : Str → Option Value} {base : Heap} {C : Addr}
theorem RTx.ty (T : RTx K mg C) {H : Hp} {a dx : Addr} {fs : List (Str × V)} (e : H a = some (.ins C dx fs)) : TyX K H (.ref a) (.ref C) := .base (.ins e T.cl T.c1 T.c2 T.c3 T.c4)
abbrev s_is_integer : Stmt := top 5
abbrev N_is_integer : List Str := ["value"]
theorem sc_is_integer : FnScope N_is_integer ["value"] (defScope s_is_integer) := ⟨rfl, rfl, rfl, by decide +kernel, rfl, by decide +kernel, by decide +kernel⟩
def spIsInt (K : PySem.W.Frag) : Sp := fun vs H Q _ => ∃ v b, vs = [v] ∧ IntV K H v b ∧ Q (.bl b) H
theorem ok_is_integer (h : Has K mg "is_integer" s_is_integer ["value"]) (T : RTx K mg C) : Ok P w K mg base 1 "is_integer" ["value"] (spIsInt K) := by
  obtain ⟨f, fd, g, b, F⟩ := h
  refine ⟨f, fd, g, F.kp, b, F.ok sc_is_integer (fun vs H Q E h => ?_) (fun cdv A outer s H vs Q E hr h => ?_)⟩
  · obtain ⟨v, b, rfl, _⟩ := h
    rfl
  · obtain ⟨v, b, rfl, iv, q⟩ := h
    refine ⟨_, (pss_one (ps_ret (pe_and (pe_callB call_isi (by rfl) T.isinstance (by decide +kernel) (pa_cons (pv 0) (pa_cons (pe_bltn (v := .ty "int") (by rfl) T.int (by decide +kernel) rfl) pa_nil))) (pe_one (pe_not (pe_callB call_isi (by rfl) T.isinstance (by decide +kernel) (pa_cons (pv 0) (pa_cons (pe_bltn (v := .ty "bool") (by rfl) T.bool (by decide +kernel) rfl) pa_nil)))))))), ?_⟩
    rcases iv with ⟨i, rfl, rfl⟩ | ⟨x, rfl, rfl⟩ | ⟨t, ty, k, rfl⟩
    · refine ⟨_, rfl, _, _, _, _, _, rfl, .ty _, .base (.int _), kIntInt, _, rfl, ?_⟩
      refine iteT ?_
      exact ⟨_, rfl, _, _, _, _, _, rfl, .ty _, .base (.int _), kIntBool, _, rfl, q⟩
    · refine ⟨_, rfl, _, _, _, _, _, rfl, .ty _, .base (.bl _), kBoolInt, _, rfl, ?_⟩
      refine iteT ?_
      exact ⟨_, rfl, _, _, _, _, _, rfl, .ty _, .base (.bl _), kBoolBool, _, rfl, q⟩
    · refine ⟨_, rfl, _, _, _, _, _, rfl, .ty _, ty, k, _, rfl, ?_⟩
      exact iteF q
/-! ### in lowest terms -/
theorem low_terms {p q : Int} (h : q ≠ 0) (c : Int) (hc : c = if q < 0 then -((Nat.gcd p.natAbs q.natAbs : Nat) : Int) else ((Nat.gcd p.natAbs q.natAbs : Nat) : Int)) :
    c ≠ 0 ∧ c.natAbs ≤ q.natAbs ∧ 0 < q.fdiv c ∧ Int.gcd (p.fdiv c) (q.fdiv c) = 1 ∧ p.fdiv c * q = p * q.fdiv c ∧ (p.fdiv c).natAbs ≤ p.natAbs ∧ (q.fdiv c).natAbs ≤ q.natAbs := by
  have g0 : 0 < Nat.gcd p.natAbs q.natAbs := Nat.gcd_pos_of_pos_right _ (Int.natAbs_pos.mpr h)
  have gp : ((Nat.gcd p.natAbs q.natAbs : Nat) : Int) ∣ p := by
    rw [Int.ofNat_dvd_left]
    exact Nat.gcd_dvd_left _ _
  have gq : ((Nat.gcd p.natAbs q.natAbs : Nat) : Int) ∣ q := by
    rw [Int.ofNat_dvd_left]
    exact Nat.gcd_dvd_right _ _
  have gle : Nat.gcd p.natAbs q.natAbs ≤ q.natAbs := Nat.gcd_le_right _ (Int.natAbs_pos.mpr h)
  have e1 : Int.gcd p q = Nat.gcd p.natAbs q.natAbs := rfl
  generalize hg : Nat.gcd p.natAbs q.natAbs = g at *
  obtain ⟨a, ha⟩ := gp
  obtain ⟨b, hb⟩ := gq
  have gI : (g : Int) ≠ 0 := by omega
  have cop : Int.gcd a b = 1 := by
    have e2 : Int.gcd p q = g * Int.gcd a b := by
      rw [ha, hb, Int.gcd_mul_left]
      rfl
    rw [e1] at e2
    exact Nat.eq_of_mul_eq_mul_left g0 (by rw [← e2, Nat.mul_one])
  have absA : a.natAbs ≤ p.natAbs := by
    rw [ha, Int.natAbs_mul]
    exact Nat.le_mul_of_pos_left _ g0
  have absB : b.natAbs ≤ q.natAbs := by
    rw [hb, Int.natAbs_mul]
    exact Nat.le_mul_of_pos_left _ g0
  by_cases neg : q < 0
  · rw [if_pos neg] at hc
    have fp : p.fdiv c = -a := by
      rw [hc, show p = -(g : Int) * (-a) by rw [ha]; grind]
      exact Int.mul_fdiv_cancel_left _ (by omega)
    have fq : q.fdiv c = -b := by
      rw [hc, show q = -(g : Int) * (-b) by rw [hb]; grind]
      exact Int.mul_fdiv_cancel_left _ (by omega)
    refine ⟨by omega, by omega, ?_, ?_, ?_, ?_, ?_⟩
    · rw [fq]
      have : b < 0 := by
        rcases Int.lt_or_le b 0 with h1 | h1
        · exact h1
        · have := Int.mul_nonneg (show (0 : Int) ≤ g by omega) h1
          omega
      omega
    · rw [fp, fq, Int.neg_gcd, Int.gcd_neg]
      exact cop
    · rw [fp, fq, ha, hb]
      grind
    · rw [fp, Int.natAbs_neg]
      exact absA
    · rw [fq, Int.natAbs_neg]
      exact absB
  · rw [if_neg neg] at hc
    have fp : p.fdiv c = a := by
      rw [hc, ha]
      exact Int.mul_fdiv_cancel_left _ gI
    have fq : q.fdiv c = b := by
      rw [hc, hb]
      exact Int.mul_fdiv_cancel_left _ gI
    refine ⟨by omega, by omega, ?_, ?_, ?_, ?_, ?_⟩
    · rw [fq]
      have : 0 < b := by
        rcases Int.lt_or_le 0 b with h1 | h1
        · exact h1
        · have : (g : Int) * b ≤ 0 := Int.mul_nonpos_of_nonneg_of_nonpos (by omega) h1
          omega
      omega
    · rw [fp, fq]
      exact cop
    · rw [fp, fq, ha, hb]
      grind
    · rw [fp]
      exact absA
    · rw [fq]
      exact absB
end
section
variable {P : Program} {w : World} {K : PySem.W.Frag} {mg : Str → Option Value} {base : Heap} {C CI CZ : Addr}
/-- a def of the text, its errors told -/
def OkX (P : Program) (w : World) (K : PySem.W.Frag) (mg : Str → Option Value) (base : Heap) (k : Nat) (x : Str) (ps : List Str) (sp : Sp) : Prop :=
  ∃ f fd, mg x = some (.ref f) ∧ PySem.W.keepIn K (.ref f) = true ∧ Binds K fd ps [] ∧ FnOk P w K mg base (L2.CX P w) k f fd ps sp
theorem pe_cX {X : Cx} {k : Nat} {x : Str} {ps : List Str} {sp : Sp} {p pos : Pos} {e : Expr} {es : List Expr} {t : TA} {E : XK} (o : OkX X.prog X.w X.K X.mg X.base k x ps sp) (hr : Room k X.A) (hx : Passes (L2.CX X.prog X.w) X E) (hg : Gl X x)
    (ha : PA X (e :: es) t) (hdb : (x == ("__debug__" : Str)) = false := by decide) (he : starEach (e :: es) X.env = (false, eval e X.env) :: starEach es X.env := by rfl) (hpl : (backTo pos (starEach es X.env)).any (·.1) = false := by rfl) :
    PE X (.Call (.Name x p) (e :: es) [] pos) (tCall sp [] E t) := by
  obtain ⟨f, fd, g, kp, b, G⟩ := o
  exact pe_call G hr hg g kp b .nil hx ha hdb he hpl
/-- a method as the top leaves it -/
def MFun (K : PySem.W.Frag) (C : Addr) (nm qual : Str) (st : Stmt) (ps : List Str) : Prop := ∃ f fd, PySem.W.findIn K (.ref C) nm = some (some (.ref f)) ∧ PySem.W.isFn K (.ref f) = true ∧ Fun K nm qual st f fd ∧ Binds K fd ps []
def PFun (K : PySem.W.Frag) (C : Addr) (nm qual : Str) (st : Stmt) : Prop := ∃ p g fd, PropOf K C nm p g ∧ Fun K nm qual st g fd ∧ Binds K fd ["self"] []
abbrev XValue (P : Program) (w : World) (K : PySem.W.Frag) (mg : Str → Option Value) (base : Heap) (x : Str) (CI : Addr) : Prop := XRz P w K mg base x CI 1 (sp1n "value" CI)
/-! ### __init__ -/
abbrev s_Ratio___init__ : Stmt := inClass (top 7) 0
abbrev N_Ratio___init__ : List Str := ["self", "top", "bottom", "common"]
theorem sc_Ratio___init__ : FnScope N_Ratio___init__ ["self", "top", "bottom"] (defScope s_Ratio___init__) := ⟨rfl, rfl, rfl, by decide +kernel, rfl, by decide +kernel, by decide +kernel⟩
def spInit (K : PySem.W.Frag) (C CI CZ : Addr) : Sp := fun vs H Q E => ∃ (a dx : Addr) (x y : V), vs = [.ref a, x, y] ∧ H a = some (.ins C dx []) ∧
  ((∃ p q : Int, x = .int p ∧ y = .int q ∧ q ≠ 0 ∧ Sm p ∧ Sm q ∧ ∀ p' q' : Int, 0 < q' → Int.gcd p' q' = 1 → p' * q = p * q' → p'.natAbs ≤ p.natAbs → q'.natAbs ≤ q.natAbs → Q .non (upd H a (.ins C dx (RFd p' q')))) ∨
   (IntV K H x false ∧ ∀ d, H d = none → E (.ref CI) (some d) (upd H d (.xd [("value", x)]))) ∨
   (∃ p, x = .int p ∧ IntV K H y false ∧ ∀ d, H d = none → E (.ref CI) (some d) (upd H d (.xd [("value", y)]))) ∨
   (∃ p, x = .int p ∧ y = .int 0 ∧ E (.ref CZ) none H))
theorem ok_Ratio_init {fI : Addr} {fd : FuncData} (F : FunD K "__init__" "Ratio.__init__" (defArgs s_Ratio___init__) (defBody s_Ratio___init__) (defScope s_Ratio___init__) [.int 1] [] fI fd) (T : RTx K mg C) (O_is_integer : Ok P w K mg base 1 "is_integer" ["value"] (spIsInt K))
    (XI : XValue P w K mg base "InvalidRatio" CI) (XZ : XRz P w K mg base "DivisionByZero" CZ 0 (sp0 CZ)) : FnOk P w K mg base (L2.CX P w) 3 fI fd ["self", "top", "bottom"] (spInit K C CI CZ) := by
  refine F.ok sc_Ratio___init__ (fun vs H Q E h => ?_) (fun cdv A outer s H vs Q E hr h => ?_)
  · obtain ⟨a, dx, x, y, rfl, _⟩ := h
    rfl
  · obtain ⟨a, dx, x, y, rfl, ea, h⟩ := h
    refine ⟨_, (pss_cons (ps_if (pt_not (pt_val (pe_cO O_is_integer (hr.mono (by decide)) pass0 rfl (pa_cons (pv 1) pa_nil))))
        (pss_one (ps_raiseN XI hr rfl (takes_of rfl rfl rfl rfl) rfl (pa_cons (pv 1) pa_nil)))
        pss_nil)
      (pss_cons (ps_if (pt_not (pt_val (pe_cO O_is_integer (hr.mono (by decide)) pass0 rfl (pa_cons (pv 2) pa_nil))))
        (pss_one (ps_raiseN XI hr rfl (takes_of rfl rfl rfl rfl) rfl (pa_cons (pv 2) pa_nil)))
        pss_nil)
      (pss_cons (ps_if (pt_cmpR op_eq (pv 2) pe_int (nomark _))
        (pss_one (ps_raiseE XZ hr rfl (takes_of rfl rfl rfl rfl) rfl))
        pss_nil)
      (pss_cons (ps_set (i := 3) sc_Ratio___init__.nd rfl (.inl rfl) (pe_callBfun cr_gcd rfl T.gcd (pa_cons (pv 1) (pa_cons (pv 2) pa_nil))))
      (pss_cons (ps_if (pt_cmpR op_lt (pv 2) pe_int (nomark _))
        (pss_one (ps_set (i := 3) sc_Ratio___init__.nd rfl (.inl rfl) (pe_un un_neg (pv 3))))
        pss_nil)
      (pss_cons (ps_fld (pv 0) (pe_op op_divS (pv 1) (pv 3)) rfl)
      (pss_one (ps_fld (pv 0) (pe_op op_divS (pv 2) (pv 3)) rfl)))))))), ?_⟩
    rcases h with ⟨p, q, rfl, rfl, q0, sp, sq, z⟩ | ⟨iv, z⟩ | ⟨p, rfl, iv, z⟩ | ⟨p, rfl, rfl, z⟩
    · refine ⟨_, rfl, _, _, rfl, .inl ⟨p, rfl, rfl⟩, _, rfl, iteN (by decide) ?_⟩
      refine ⟨_, rfl, _, _, rfl, .inl ⟨q, rfl, rfl⟩, _, rfl, iteN (by decide) ?_⟩
      refine ⟨_, rfl, rfl, _, rfl, iteN (vne q0) ?_⟩
      refine ⟨_, rfl, _, rfl, p, q, rfl, _, rfl, _, _, rfl, rfl, _, rfl, ?_⟩
      have fin : ∀ c : Int, c = (if q < 0 then -((Nat.gcd p.natAbs q.natAbs : Nat) : Int) else ((Nat.gcd p.natAbs q.natAbs : Nat) : Int)) →
          c ≠ 0 ∧ Sm c ∧ Q .non (upd (upd H a (.ins C dx (putF "_top" (.int (p.fdiv c)) []))) a (.ins C dx (putF "_bottom" (.int (q.fdiv c)) (putF "_top" (.int (p.fdiv c)) [])))) := fun c hc => by
        obtain ⟨c0, c1, l1, l2, l3, l4, l5⟩ := low_terms q0 c hc
        refine ⟨c0, ?_, ?_⟩
        · have := sq.nat
          exact ⟨by omega, by omega⟩
        · rw [upd_upd]
          exact z _ _ l1 l2 l3 l4 l5
      refine ite2 (fun lt => ?_) (fun lt => ?_)
      · obtain ⟨c0, sc, fin⟩ := fin (-((Nat.gcd p.natAbs q.natAbs : Nat) : Int)) (by rw [if_pos (of_decide_eq_true lt)])
        refine ⟨_, rfl, _, rfl, ?_⟩
        refine ⟨_, rfl, _, rfl, _, _, rfl, rfl, ⟨c0, sc⟩, _, rfl, a, C, dx, [], rfl, ea, T.cl, T.nT, by show 0 < 1000; decide, ?_⟩
        exact ⟨_, rfl, _, rfl, _, _, rfl, rfl, ⟨c0, sc⟩, _, rfl, a, C, dx, _, rfl, upd_same, T.cl, T.nB, by show 1 < 1000; decide, fin⟩
      · obtain ⟨c0, sc, fin⟩ := fin ((Nat.gcd p.natAbs q.natAbs : Nat) : Int) (by rw [if_neg (fun z => lt (decide_eq_true z))])
        refine ⟨_, rfl, _, rfl, _, _, rfl, rfl, ⟨c0, sc⟩, _, rfl, a, C, dx, [], rfl, ea, T.cl, T.nT, by show 0 < 1000; decide, ?_⟩
        exact ⟨_, rfl, _, rfl, _, _, rfl, rfl, ⟨c0, sc⟩, _, rfl, a, C, dx, _, rfl, upd_same, T.cl, T.nB, by show 1 < 1000; decide, fin⟩
    · refine ⟨_, rfl, _, _, rfl, iv, _, rfl, iteP (by decide) ?_⟩
      exact ⟨_, rfl, rfl, by show 1 ≤ 1000; decide, flies1 z⟩
    · refine ⟨_, rfl, _, _, rfl, .inl ⟨p, rfl, rfl⟩, _, rfl, iteN (by decide) ?_⟩
      refine ⟨_, rfl, _, _, rfl, iv, _, rfl, iteP (by decide) ?_⟩
      exact ⟨_, rfl, rfl, by show 1 ≤ 1000; decide, flies1 z⟩
    · refine ⟨_, rfl, _, _, rfl, .inl ⟨p, rfl, rfl⟩, _, rfl, iteN (by decide) ?_⟩
      refine ⟨_, rfl, _, _, rfl, .inl ⟨0, rfl, rfl⟩, _, rfl, iteN (by decide) ?_⟩
      exact ⟨_, rfl, rfl, _, rfl, iteP (by decide) (flies0 z)⟩
end
section
variable {P : Program} {w : World} {K : PySem.W.Frag} {mg : Str → Option Value} {base : Heap} {C CI CZ : Addr}
/-- Ratio(..) -/
def MkR (P : Program) (w : World) (K : PySem.W.Frag) (mg : Str → Option Value) (base : Heap) (C CI CZ : Addr) : Prop :=
  ∃ (f : Addr) (fd : FuncData) (ds : List Value), Mk K C f ∧ FnOk P w K mg base (L2.CX P w) 3 f fd ["self", "top", "bottom"] (spInit K C CI CZ) ∧ Binds K fd ["self", "top", "bottom"] [] ∧ Vals [.int 1] ds ∧ Binds K fd ["self", "top", "bottom"] ds ∧ mg "Ratio" = some (.ref C)
section
variable {X : Cx} {E : XK} {p pos : Pos} {e1 e2 : Expr} {t : TA}
theorem pe_mk2 (m : MkR X.prog X.w X.K X.mg X.base C CI CZ) (hr : Room 4 X.A) (hx : Passes (L2.CX X.prog X.w) X E) (hg : Gl X "Ratio") (ha : PA X [e1, e2] t)
    (he : starEach [e1, e2] X.env = (false, eval e1 X.env) :: starEach [e2] X.env := by rfl) (hpl : (backTo pos (starEach [e2] X.env)).any (·.1) = false := by rfl) :
    PE X (.Call (.Name "Ratio" p) [e1, e2] [] pos) (tMake C (spInit X.K C CI CZ) [] E t) := by
  obtain ⟨f, fd, ds, M, F, b, v, b1, g⟩ := m
  exact pe_make M F hr hg g b .nil hx ha (by decide) he hpl
theorem pe_mk1 (m : MkR X.prog X.w X.K X.mg X.base C CI CZ) (hr : Room 4 X.A) (hx : Passes (L2.CX X.prog X.w) X E) (hg : Gl X "Ratio") (ha : PA X [e1] t)
    (he : starEach [e1] X.env = (false, eval e1 X.env) :: starEach [] X.env := by rfl) (hpl : (backTo pos (starEach [] X.env)).any (·.1) = false := by rfl) :
    PE X (.Call (.Name "Ratio" p) [e1] [] pos) (tMake C (spInit X.K C CI CZ) [.int 1] E t) := by
  obtain ⟨f, fd, ds, M, F, b, v, b1, g⟩ := m
  exact pe_make M F hr hg g b1 v hx ha (by decide) he hpl
end
theorem new_same {H : Hp} {x dx : Addr} {o : HO} (hx : H x = none) (hd : H dx = none) : Same H (upd (upd H dx (.own x)) x o) := fun b u e => by
  rw [upd_ne (ne_of_none e hx), upd_ne (ne_of_none e hd)]
  exact e
/-- what Ratio(p, q) asks: q is no 0 -/
theorem init_rat {H : Hp} {Q : VK} {E : XK} {p q : Int} {x dx : Addr} (q0 : q ≠ 0) (sp : Sm p) (sq : Sm q) (hx : H x = none) (hd : H dx = none)
    (z : ∀ c H' p' q', Same H H' → Rat C RFd H' c p' q' → p' * q = p * q' → p'.natAbs ≤ p.natAbs → q'.natAbs ≤ q.natAbs → Q (.ref c) H') :
    spInit K C CI CZ [.ref x, .int p, .int q] (upd (upd H dx (.own x)) x (.ins C dx [])) (fun v H2 => v = .non ∧ Q (.ref x) H2) E := by
  refine ⟨x, dx, _, _, rfl, upd_same, .inl ⟨p, q, rfl, rfl, q0, sp, sq, fun p' q' h1 h2 h3 h4 h5 => ⟨rfl, ?_⟩⟩⟩
  rw [upd_upd]
  exact z x _ p' q' (new_same hx hd) ⟨⟨dx, upd_same⟩, h1, h2⟩ h3 h4 h5
abbrev s_is_number : Stmt := top 8
abbrev N_is_number : List Str := ["value"]
theorem sc_is_number : FnScope N_is_number ["value"] (defScope s_is_number) := ⟨rfl, rfl, rfl, by decide +kernel, rfl, by decide +kernel, by decide +kernel⟩
/-- of a number -/
def spIsNum (K : PySem.W.Frag) (C : Addr) : Sp := fun vs H Q _ => ∃ v r s, vs = [v] ∧ Num C RFd H v r s ∧ Q (.bl true) H
theorem ok_is_number (h : Has K mg "is_number" s_is_number ["value"]) (T : RTx K mg C) (O_is_integer : Ok P w K mg base 1 "is_integer" ["value"] (spIsInt K)) : Ok P w K mg base 2 "is_number" ["value"] (spIsNum K C) := by
  obtain ⟨f, fd, g, b, F⟩ := h
  refine ⟨f, fd, g, F.kp, b, F.ok sc_is_number (fun vs H Q E h => ?_) (fun cdv A outer s H vs Q E hr h => ?_)⟩
  · obtain ⟨v, r, s, rfl, _⟩ := h
    rfl
  · obtain ⟨v, r, s, rfl, n, q⟩ := h
    refine ⟨_, (pss_one (ps_ret (pe_or (pe_cO O_is_integer (hr.mono (by decide)) pass0 rfl (pa_cons (pv 0) pa_nil)) (pe_one (pe_callB call_isi (by rfl) T.isinstance (by decide +kernel) (pa_cons (pv 0) (pa_cons (pe_glob (v := .ref C) (by rfl) T.mC rfl) pa_nil))))))), ?_⟩
    rcases n with ⟨b, rfl, ⟨dx, ea⟩, _⟩ | ⟨rfl, rfl⟩
    · refine ⟨_, rfl, _, _, rfl, .inr (.inr ⟨_, T.ty ea, T.kCI, rfl⟩), _, rfl, iteF ?_⟩
      exact ⟨_, rfl, _, _, _, _, _, rfl, .own _, T.ty ea, T.kCC, q⟩
    · exact ⟨_, rfl, _, _, rfl, .inl ⟨r, rfl, rfl⟩, _, rfl, iteT q⟩
abbrev s_ratio_of : Stmt := top 9
abbrev N_ratio_of : List Str := ["value"]
theorem sc_ratio_of : FnScope N_ratio_of ["value"] (defScope s_ratio_of) := ⟨rfl, rfl, rfl, by decide +kernel, rfl, by decide +kernel, by decide +kernel⟩
def spRatioOf (C : Addr) : Sp := fun vs H Q _ => ∃ v r s, vs = [v] ∧ Num C RFd H v r s ∧ Sm r ∧ ∀ b H', Same H H' → Rat C RFd H' b r s → Q (.ref b) H'
theorem one_terms {r p' q' : Int} (q0 : 0 < q') (h : q'.natAbs ≤ (1 : Int).natAbs) (e : p' * 1 = r * q') : q' = 1 ∧ p' = r := by
  have h1 : (1 : Int).natAbs = 1 := rfl
  have : q' = 1 := by omega
  subst this
  exact ⟨rfl, by omega⟩
theorem ok_ratio_of (h : Has K mg "ratio_of" s_ratio_of ["value"]) (T : RTx K mg C) (m : MkR P w K mg base C CI CZ) : OkX P w K mg base 5 "ratio_of" ["value"] (spRatioOf C) := by
  obtain ⟨f, fd, g, b, F⟩ := h
  refine ⟨f, fd, g, F.kp, b, F.okX sc_ratio_of (fun vs H Q E h => ?_) (fun cdv A outer s H vs Q E hr h => ?_)⟩
  · obtain ⟨v, r, s, rfl, _⟩ := h
    rfl
  · obtain ⟨v, r, s, rfl, n, sr, q⟩ := h
    refine ⟨_, (pss_one (ps_ret (pe_ifExp (pt_val (pe_callB call_isi (by rfl) T.isinstance (by decide +kernel) (pa_cons (pv 0) (pa_cons (pe_glob (v := .ref C) (by rfl) T.mC rfl) pa_nil)))) (pv 0) (pe_mk1 m hr passL rfl (pa_cons (pv 0) pa_nil))))), ?_⟩
    rcases n with ⟨b, rfl, R⟩ | ⟨rfl, rfl⟩
    · obtain ⟨⟨dx, ea⟩, _⟩ := id R
      refine ⟨_, rfl, _, _, _, _, _, rfl, .own _, T.ty ea, T.kCC, _, rfl, iteT ?_⟩
      exact ⟨_, rfl, q b H (fun _ _ e => e) R⟩
    · refine ⟨_, rfl, _, _, _, _, _, rfl, .own _, .base (.int _), T.kIC, _, rfl, iteF ?_⟩
      refine ⟨_, rfl, fun x dx hx hd ne => init_rat (by decide) sr ⟨by decide, by decide⟩ hx hd fun c H' p' q' s R e h4 h5 => ?_⟩
      obtain ⟨rfl, rfl⟩ := one_terms R.2.1 h5 e
      exact q c H' s R
/-- what the methods of the class lean on -/
structure RCls (P : Program) (w : World) (K : PySem.W.Frag) (mg : Str → Option Value) (base : Heap) (C CI CZ : Addr) : Prop where
  T : RTx K mg C
  isI : Ok P w K mg base 1 "is_integer" ["value"] (spIsInt K)
  isN : Ok P w K mg base 2 "is_number" ["value"] (spIsNum K C)
  rOf : OkX P w K mg base 5 "ratio_of" ["value"] (spRatioOf C)
  makes : MkR P w K mg base C CI CZ
/-! ### top, bottom -/
abbrev s_Ratio_top : Stmt := inClass (top 7) 1
theorem sc_Ratio_top : FnScope ["self"] ["self"] (defScope s_Ratio_top) := ⟨rfl, rfl, rfl, by decide +kernel, rfl, by decide +kernel, by decide +kernel⟩
theorem ok_Ratio_top (h : PFun K C "top" "Ratio.top" s_Ratio_top) (T : RTx K mg C) : OwnP P w K mg base C 1 "top" (spTop C RFd) := by
  obtain ⟨p, g, fd, hp, F, b⟩ := h
  refine ⟨p, g, fd, hp, b, F.okX sc_Ratio_top (fun vs H Q E h => ?_) (fun cdv A outer s H vs Q E hr h => ?_)⟩
  · obtain ⟨a, p, q, rfl, _⟩ := h
    rfl
  · obtain ⟨a, p, q, rfl, ⟨⟨dx, ea⟩, _⟩, z⟩ := h
    exact ⟨_, pss_one (ps_ret (pe_fld (pv 0) rfl)), _, rfl, a, C, dx, _, _, rfl, ea, T.cl, T.nT, rfl, z⟩
abbrev s_Ratio_bottom : Stmt := inClass (top 7) 2
theorem sc_Ratio_bottom : FnScope ["self"] ["self"] (defScope s_Ratio_bottom) := ⟨rfl, rfl, rfl, by decide +kernel, rfl, by decide +kernel, by decide +kernel⟩
theorem ok_Ratio_bottom (h : PFun K C "bottom" "Ratio.bottom" s_Ratio_bottom) (T : RTx K mg C) : OwnP P w K mg base C 1 "bottom" (spBottom C RFd) := by
  obtain ⟨p, g, fd, hp, F, b⟩ := h
  refine ⟨p, g, fd, hp, b, F.okX sc_Ratio_bottom (fun vs H Q E h => ?_) (fun cdv A outer s H vs Q E hr h => ?_)⟩
  · obtain ⟨a, p, q, rfl, _⟩ := h
    rfl
  · obtain ⟨a, p, q, rfl, ⟨⟨dx, ea⟩, _⟩, z⟩ := h
    exact ⟨_, pss_one (ps_ret (pe_fld (pv 0) rfl)), _, rfl, a, C, dx, _, _, rfl, ea, T.cl, T.nB, rfl, z⟩
end
section
variable {P : Program} {w : World} {K : PySem.W.Frag} {mg : Str → Option Value} {base : Heap} {C CI CZ : Addr}
theorem bd_le {n : Nat} {x y : Int} (h : x.natAbs ≤ y.natAbs) (b : Bd n y) : Bd n x := by
  rw [bd_abs] at *
  omega
theorem Bd.s31 {x : Int} (h : Bd 31 x) : Sm x := (h.up (show 31 ≤ 64 by decide)).sm
theorem Bd.s62 {x : Int} (h : Bd 62 x) : Sm x := (h.up (show 62 ≤ 64 by decide)).sm
theorem Bd.plus {x y : Int} (h : Bd 62 x) (g : Bd 62 y) : Bd 64 (x + y) := by
  obtain ⟨h1, h2⟩ := h
  obtain ⟨g1, g2⟩ := g
  exact ⟨by omega, by omega⟩
theorem Bd.neg {n : Nat} {x : Int} (h : Bd n x) : Bd n (-x) := by
  rw [bd_abs] at *
  rw [Int.natAbs_neg]
  exact h
theorem Num.ref {RF : Int → Int → List (Str × V)} {H : Hp} {b : Addr} {r s : Int} (h : Rat C RF H b r s) : Num C RF H (.ref b) r s := .inl ⟨b, rfl, h⟩
theorem Num.bot {RF : Int → Int → List (Str × V)} {H : Hp} {y : V} {r s : Int} (h : Num C RF H y r s) : 0 < s := by
  rcases h with ⟨_, _, _, h, _⟩ | ⟨_, rfl⟩
  · exact h
  · decide
abbrev s_Ratio___add__ : Stmt := inClass (top 7) 4
theorem sc_Ratio___add__ : FnScope ["self", "other", "more"] ["self", "other"] (defScope s_Ratio___add__) := ⟨rfl, rfl, rfl, by decide +kernel, rfl, by decide +kernel, by decide +kernel⟩
theorem ok_Ratio___add__ {f : Addr} {fd : FuncData} (F : Fun K "__add__" "Ratio.__add__" s_Ratio___add__ f fd) (L : RCls P w K mg base C CI CZ) : FnOk P w K mg base (L2.CX P w) 6 f fd ["self", "other"] (spNum C RFd (fun p q r s => p * s + r * q) (fun _ q _ s => q * s) fun _ => True) := by
  refine F.okX sc_Ratio___add__ (fun vs H Q E h => ?_) (fun cdv A outer s0 H vs Q E hr h => ?_)
  · obtain ⟨a, y, p, q, r, s, rfl, _⟩ := h
    rfl
  · obtain ⟨a, y, p, q, r, s, rfl, R, n, bp, bq, br, bs, okr, z⟩ := h
    have T := L.T
    have q0 := R.2.1
    have s0' := n.bot
    refine ⟨_, (pss_cons (ps_if (pt_not (pt_val (pe_cO L.isN (hr.mono (by decide)) pass0 rfl (pa_cons (pv 1) pa_nil))))
        (pss_one ps_never)
        pss_nil)
      (pss_cons (ps_set (i := 2) sc_Ratio___add__.nd rfl (.inl rfl) (pe_cX L.rOf (hr.mono (by decide)) passL rfl (pa_cons (pv 1) pa_nil)))
      (pss_one (ps_ret (pe_mk2 L.makes (hr.mono (by decide)) passL rfl (pa_cons (pe_op op_add (pe_op op_mulS (pe_fld (pv 0) rfl) (pe_fld (pv 2) rfl)) (pe_op op_mulS (pe_fld (pv 2) rfl) (pe_fld (pv 0) rfl))) (pa_cons (pe_op op_mulS (pe_fld (pv 0) rfl) (pe_fld (pv 2) rfl)) pa_nil))))))), ?_⟩
    refine ⟨_, rfl, y, r, s, rfl, n, _, rfl, iteN (by decide) ?_⟩
    refine ⟨_, rfl, y, r, s, rfl, n, br.s31, fun b H1 s1 Rb => ?_⟩
    obtain ⟨da, ea⟩ := (R.same s1).1
    obtain ⟨db, eb⟩ := Rb.1
    refine ⟨_, rfl, a, C, da, _, _, rfl, ea, T.cl, T.nT, rfl, _, rfl, b, C, db, _, _, rfl, eb, T.cl, T.nB, rfl, _, _, rfl, rfl, ⟨bp.s31, bs.s31⟩, _, rfl, b, C, db, _, _, rfl, eb, T.cl, T.nT, rfl, _, rfl, a, C, da, _, _, rfl, ea, T.cl, T.nB, rfl, _, _, rfl, rfl, ⟨br.s31, bq.s31⟩, _, _, rfl, rfl, _, rfl, a, C, da, _, _, rfl, ea, T.cl, T.nB, rfl, _, rfl, b, C, db, _, _, rfl, eb, T.cl, T.nB, rfl, _, _, rfl, rfl, ⟨bq.s31, bs.s31⟩, fun x dx hx hd ne => init_rat (Int.mul_ne_zero (by omega) (by omega)) ((bp.mul bs).plus (br.mul bq)).sm ((bq.mul bs).up (show 62 ≤ 64 by decide)).sm hx hd fun c H2 p' q' s2 R' e h4 h5 => ?_⟩
    exact z c H2 p' q' (s1.trans s2) R' (bd_le h4 ((bp.mul bs).plus (br.mul bq))) (bd_le h5 ((bq.mul bs).up (show 62 ≤ 64 by decide))) e
abbrev s_Ratio___mul__ : Stmt := inClass (top 7) 6
theorem sc_Ratio___mul__ : FnScope ["self", "other", "factor"] ["self", "other"] (defScope s_Ratio___mul__) := ⟨rfl, rfl, rfl, by decide +kernel, rfl, by decide +kernel, by decide +kernel⟩
theorem ok_Ratio___mul__ {f : Addr} {fd : FuncData} (F : Fun K "__mul__" "Ratio.__mul__" s_Ratio___mul__ f fd) (L : RCls P w K mg base C CI CZ) : FnOk P w K mg base (L2.CX P w) 6 f fd ["self", "other"] (spNum C RFd (fun p _ r _ => p * r) (fun _ q _ s => q * s) fun _ => True) := by
  refine F.okX sc_Ratio___mul__ (fun vs H Q E h => ?_) (fun cdv A outer s0 H vs Q E hr h => ?_)
  · obtain ⟨a, y, p, q, r, s, rfl, _⟩ := h
    rfl
  · obtain ⟨a, y, p, q, r, s, rfl, R, n, bp, bq, br, bs, okr, z⟩ := h
    have T := L.T
    have q0 := R.2.1
    have s0' := n.bot
    refine ⟨_, (pss_cons (ps_if (pt_not (pt_val (pe_cO L.isN (hr.mono (by decide)) pass0 rfl (pa_cons (pv 1) pa_nil))))
        (pss_one ps_never)
        pss_nil)
      (pss_cons (ps_set (i := 2) sc_Ratio___mul__.nd rfl (.inl rfl) (pe_cX L.rOf (hr.mono (by decide)) passL rfl (pa_cons (pv 1) pa_nil)))
      (pss_one (ps_ret (pe_mk2 L.makes (hr.mono (by decide)) passL rfl (pa_cons (pe_op op_mulS (pe_fld (pv 0) rfl) (pe_fld (pv 2) rfl)) (pa_cons (pe_op op_mulS (pe_fld (pv 0) rfl) (pe_fld (pv 2) rfl)) pa_nil))))))), ?_⟩
    refine ⟨_, rfl, y, r, s, rfl, n, _, rfl, iteN (by decide) ?_⟩
    refine ⟨_, rfl, y, r, s, rfl, n, br.s31, fun b H1 s1 Rb => ?_⟩
    obtain ⟨da, ea⟩ := (R.same s1).1
    obtain ⟨db, eb⟩ := Rb.1
    refine ⟨_, rfl, a, C, da, _, _, rfl, ea, T.cl, T.nT, rfl, _, rfl, b, C, db, _, _, rfl, eb, T.cl, T.nT, rfl, _, _, rfl, rfl, ⟨bp.s31, br.s31⟩, _, rfl, a, C, da, _, _, rfl, ea, T.cl, T.nB, rfl, _, rfl, b, C, db, _, _, rfl, eb, T.cl, T.nB, rfl, _, _, rfl, rfl, ⟨bq.s31, bs.s31⟩, fun x dx hx hd ne => init_rat (Int.mul_ne_zero (by omega) (by omega)) ((bp.mul br).up (show 62 ≤ 64 by decide)).sm ((bq.mul bs).up (show 62 ≤ 64 by decide)).sm hx hd fun c H2 p' q' s2 R' e h4 h5 => ?_⟩
    exact z c H2 p' q' (s1.trans s2) R' (bd_le h4 ((bp.mul br).up (show 62 ≤ 64 by decide))) (bd_le h5 ((bq.mul bs).up (show 62 ≤ 64 by decide))) e
abbrev s_Ratio_over : Stmt := inClass (top 7) 3
theorem sc_Ratio_over : FnScope ["self", "other", "divisor"] ["self", "other"] (defScope s_Ratio_over) := ⟨rfl, rfl, rfl, by decide +kernel, rfl, by decide +kernel, by decide +kernel⟩
theorem ok_Ratio_over {f : Addr} {fd : FuncData} (F : Fun K "over" "Ratio.over" s_Ratio_over f fd) (L : RCls P w K mg base C CI CZ) : FnOk P w K mg base (L2.CX P w) 6 f fd ["self", "other"] (spNum C RFd (fun p _ _ s => p * s) (fun _ q r _ => q * r) fun r => r ≠ 0) := by
  refine F.okX sc_Ratio_over (fun vs H Q E h => ?_) (fun cdv A outer s0 H vs Q E hr h => ?_)
  · obtain ⟨a, y, p, q, r, s, rfl, _⟩ := h
    rfl
  · obtain ⟨a, y, p, q, r, s, rfl, R, n, bp, bq, br, bs, okr, z⟩ := h
    have T := L.T
    have q0 := R.2.1
    have s0' := n.bot
    refine ⟨_, (pss_cons (ps_set (i := 2) sc_Ratio_over.nd rfl (.inl rfl) (pe_cX L.rOf (hr.mono (by decide)) passL rfl (pa_cons (pv 1) pa_nil)))
      (pss_one (ps_ret (pe_mk2 L.makes (hr.mono (by decide)) passL rfl (pa_cons (pe_op op_mulS (pe_fld (pv 0) rfl) (pe_fld (pv 2) rfl)) (pa_cons (pe_op op_mulS (pe_fld (pv 0) rfl) (pe_fld (pv 2) rfl)) pa_nil)))))), ?_⟩
    refine ⟨_, rfl, y, r, s, rfl, n, br.s31, fun b H1 s1 Rb => ?_⟩
    obtain ⟨da, ea⟩ := (R.same s1).1
    obtain ⟨db, eb⟩ := Rb.1
    refine ⟨_, rfl, a, C, da, _, _, rfl, ea, T.cl, T.nT, rfl, _, rfl, b, C, db, _, _, rfl, eb, T.cl, T.nB, rfl, _, _, rfl, rfl, ⟨bp.s31, bs.s31⟩, _, rfl, a, C, da, _, _, rfl, ea, T.cl, T.nB, rfl, _, rfl, b, C, db, _, _, rfl, eb, T.cl, T.nT, rfl, _, _, rfl, rfl, ⟨bq.s31, br.s31⟩, fun x dx hx hd ne => init_rat (Int.mul_ne_zero (by omega) okr) ((bp.mul bs).up (show 62 ≤ 64 by decide)).sm ((bq.mul br).up (show 62 ≤ 64 by decide)).sm hx hd fun c H2 p' q' s2 R' e h4 h5 => ?_⟩
    exact z c H2 p' q' (s1.trans s2) R' (bd_le h4 ((bp.mul bs).up (show 62 ≤ 64 by decide))) (bd_le h5 ((bq.mul br).up (show 62 ≤ 64 by decide))) e
end
section
variable {X : Cx} {C : Addr} {E : XK}
/-- x op y, x a ratio, y a ratio or an integer: the method of x -/
def rNum (C : Addr) (sp : Sp) (E : XK) : R2 := fun x y H Q => ∃ a r s dx fs, x = .ref a ∧ H a = some (.ins C dx fs) ∧ Num C RFd H y r s ∧ sp [.ref a, y] H Q E
theorem op_num {CX : CXT} {op : Operator} {k : Nat} {f g : Addr} {fd : FuncData} {fo ro : Option Value} {ps : List Str} {sp : Sp} (F : FnOk X.prog X.w X.K X.mg X.base CX k f fd ps sp) (hr : Room k X.A) (hb : Binds X.K fd ps []) (hx : Passes CX X E) (hc : PySem.W.selfFirst X.K C = true)
    (hs : PySem.W.findIn X.K (.ref C) (PySem.dunder op.info.2) = some (some (.ref f))) (hf : PySem.W.isFn X.K (.ref f) = true) (hR : PySem.W.findIn X.K (.ref C) (dunderR op.info.2) = some (some (.ref g)))
    (h1 : PySem.W.findIn X.K (.type "int") (PySem.dunder op.info.2) = some fo) (h2 : PySem.W.findIn X.K (.type "int") (dunderR op.info.2) = some ro) (hsub : PySem.W.subIn X.K (.type "int") (.ref C) = some false) : OpR X (binaryOp op) (rNum C sp E) := by
  intro pins s σ H x y v u Q I rx ry h
  obtain ⟨a, r, s', dx, fs, rfl, ea, n, z⟩ := h
  rcases n with ⟨b, rfl, ⟨db, eb⟩, _⟩ | ⟨rfl, _⟩
  · exact op_own2 F hr hb hx hc hs hf pins s σ H _ _ v u Q I rx ry ⟨a, b, dx, db, fs, _, rfl, rfl, ea, eb, z⟩
  · exact op_ownI F hr hb hx hc hs hf hR (.inr ⟨_, rfl⟩) h1 h2 hsub pins s σ H _ _ v u Q I rx ry ⟨a, r, dx, fs, rfl, rfl, ea, z⟩
end
section
variable {P : Program} {w : World} {K : PySem.W.Frag} {mg : Str → Option Value} {base : Heap} {C CI CZ : Addr}
theorem intNot {C : Addr} : PySem.W.subIn K (.type "int") (.ref C) = some false := by
  show some ((([.type "int", .type "object"] : List Value)).contains (.ref C)) = some false
  have h : ∀ T : String, (Value.ref C == Value.type T) = false := fun T => Bool.eq_false_iff.mpr fun h => nomatch beq_iff_eq.mp h
  rw [List.contains_cons, List.contains_cons, h, h]
  rfl
theorem int_add : PySem.W.findIn K (.type "int") (PySem.dunder "add") = some (some (.builtin "int.__add__")) := by kernel_rfl
theorem int_radd : PySem.W.findIn K (.type "int") (dunderR "add") = some (some (.builtin "int.__radd__")) := by kernel_rfl
theorem int_mul : PySem.W.findIn K (.type "int") (PySem.dunder "mul") = some (some (.builtin "int.__mul__")) := by kernel_rfl
theorem int_rmul : PySem.W.findIn K (.type "int") (dunderR "mul") = some (some (.builtin "int.__rmul__")) := by kernel_rfl
/-! ### -x -/
theorem same_terms {p q p' q' : Int} (q0 : 0 < q) (q1 : 0 < q') (g : Int.gcd p q = 1) (g' : Int.gcd p' q' = 1) (e : p' * q = p * q') : p' = p ∧ q' = q := by
  have key : ∀ {x y z : Int}, Int.gcd x y = 1 → y ∣ x * z → y ∣ z := fun {x y z} c h => by
    have c' : Nat.Coprime y.natAbs x.natAbs := by
      rw [Nat.Coprime, Nat.gcd_comm]
      exact c
    have h' : y.natAbs ∣ x.natAbs * z.natAbs := by
      rw [← Int.natAbs_mul]
      exact Int.natAbs_dvd_natAbs.mpr h
    exact Int.natAbs_dvd_natAbs.mp (c'.dvd_of_dvd_mul_left h')
  have d1 : q ∣ q' := key g ⟨p', by rw [← e, Int.mul_comm]⟩
  have d2 : q' ∣ q := key g' ⟨p, by rw [e, Int.mul_comm]⟩
  have h1 := Int.le_of_dvd q1 d1
  have h2 := Int.le_of_dvd q0 d2
  have : q' = q := by omega
  subst this
  exact ⟨Int.eq_of_mul_eq_mul_right (by omega) e, rfl⟩
abbrev s_Ratio___neg__ : Stmt := inClass (top 7) 10
theorem sc_Ratio___neg__ : FnScope ["self"] ["self"] (defScope s_Ratio___neg__) := ⟨rfl, rfl, rfl, by decide +kernel, rfl, by decide +kernel, by decide +kernel⟩
def spNeg (C : Addr) : Sp := fun vs H Q _ => ∃ a p q, vs = [.ref a] ∧ Rat C RFd H a p q ∧ Bd 62 p ∧ Bd 62 q ∧ ∀ c H', Same H H' → Rat C RFd H' c (-p) q → Q (.ref c) H'
theorem ok_Ratio___neg__ {f : Addr} {fd : FuncData} (F : Fun K "__neg__" "Ratio.__neg__" s_Ratio___neg__ f fd) (L : RCls P w K mg base C CI CZ) : FnOk P w K mg base (L2.CX P w) 5 f fd ["self"] (spNeg C) := by
  refine F.okX sc_Ratio___neg__ (fun vs H Q E h => ?_) (fun cdv A outer s0 H vs Q E hr h => ?_)
  · obtain ⟨a, p, q, rfl, _⟩ := h
    rfl
  · obtain ⟨a, p, q, rfl, R, bp, bq, z⟩ := h
    have T := L.T
    obtain ⟨⟨da, ea⟩, q0, g0⟩ := id R
    refine ⟨_, (pss_one (ps_ret (pe_mk2 L.makes hr passL rfl (pa_cons (pe_un un_neg (pe_fld (pv 0) rfl)) (pa_cons (pe_fld (pv 0) rfl) pa_nil))))), ?_⟩
    refine ⟨_, rfl, a, C, da, _, _, rfl, ea, T.cl, T.nT, rfl, _, rfl, _, rfl, a, C, da, _, _, rfl, ea, T.cl, T.nB, rfl, fun x dx hx hd ne => init_rat (by omega) bp.neg.s62 bq.s62 hx hd fun c H2 p' q' s2 R' e h4 h5 => ?_⟩
    obtain ⟨rfl, rfl⟩ := same_terms q0 R'.2.1 (by rw [Int.neg_gcd]; exact g0) R'.2.2 e
    exact z c H2 s2 R'
/-- what the methods that call others find -/
structure RMs (P : Program) (w : World) (K : PySem.W.Frag) (mg : Str → Option Value) (base : Heap) (C CI CZ : Addr) : Prop where
  L : RCls P w K mg base C CI CZ
  first : PySem.W.selfFirst K C = true
  add : ∃ f fd, PySem.W.findIn K (.ref C) "__add__" = some (some (.ref f)) ∧ PySem.W.isFn K (.ref f) = true ∧ Binds K fd ["self", "other"] [] ∧ FnOk P w K mg base (L2.CX P w) 6 f fd ["self", "other"] (spNum C RFd (fun p q r s => p * s + r * q) (fun _ q _ s => q * s) fun _ => True)
  mul : ∃ f fd, PySem.W.findIn K (.ref C) "__mul__" = some (some (.ref f)) ∧ PySem.W.isFn K (.ref f) = true ∧ Binds K fd ["self", "other"] [] ∧ FnOk P w K mg base (L2.CX P w) 6 f fd ["self", "other"] (spNum C RFd (fun p _ r _ => p * r) (fun _ q _ s => q * s) fun _ => True)
  neg : ∃ f fd, PySem.W.findIn K (.ref C) "__neg__" = some (some (.ref f)) ∧ PySem.W.isFn K (.ref f) = true ∧ Binds K fd ["self"] [] ∧ FnOk P w K mg base (L2.CX P w) 5 f fd ["self"] (spNeg C)
  radd : ∃ g : Addr, PySem.W.findIn K (.ref C) "__radd__" = some (some (.ref g))
  rmul : ∃ g : Addr, PySem.W.findIn K (.ref C) "__rmul__" = some (some (.ref g))
abbrev s_Ratio___sub__ : Stmt := inClass (top 7) 5
theorem sc_Ratio___sub__ : FnScope ["self", "other"] ["self", "other"] (defScope s_Ratio___sub__) := ⟨rfl, rfl, rfl, by decide +kernel, rfl, by decide +kernel, by decide +kernel⟩
theorem ok_Ratio___sub__ {f : Addr} {fd : FuncData} (F : Fun K "__sub__" "Ratio.__sub__" s_Ratio___sub__ f fd) (M : RMs P w K mg base C CI CZ) : FnOk P w K mg base (L2.CX P w) 7 f fd ["self", "other"] (spNum C RFd (fun p q r s => p * s - r * q) (fun _ q _ s => q * s) fun _ => True) := by
  refine F.okX sc_Ratio___sub__ (fun vs H Q E h => ?_) (fun cdv A outer s0 H vs Q E hr h => ?_)
  · obtain ⟨a, y, p, q, r, s, rfl, _⟩ := h
    rfl
  · obtain ⟨a, y, p, q, r, s, rfl, R, n, bp, bq, br, bs, okr, z⟩ := h
    have L := M.L
    have T := L.T
    obtain ⟨fn, fdn, sn, hn, bn, Fn⟩ := M.neg
    obtain ⟨fa, fda, sa, ha, ba, Fa⟩ := M.add
    refine ⟨_, (pss_cons (ps_if (pt_not (pt_val (pe_cO L.isN (hr.mono (by decide)) pass0 rfl (pa_cons (pv 1) pa_nil))))
        (pss_one ps_never)
        pss_nil)
      (pss_one (ps_ret (pe_op (op_own2 (op := .Add) Fa hr ba passL M.first sa ha) (pv 0) (pe_un (un_own Fn (hr.mono (by decide)) bn passL sn hn) (pe_cX L.rOf (hr.mono (by decide)) passL rfl (pa_cons (pv 1) pa_nil))))))), ?_⟩
    refine ⟨_, rfl, y, r, s, rfl, n, _, rfl, iteN (by decide) ?_⟩
    refine ⟨_, rfl, _, rfl, y, r, s, rfl, n, br.s31, fun b H1 s1 Rb => ?_⟩
    obtain ⟨db, eb⟩ := Rb.1
    refine ⟨b, db, _, rfl, eb, b, r, s, rfl, Rb, br.up (by decide), bs.up (by decide), fun c H2 s2 Rc => ?_⟩
    have R2 := (R.same s1).same s2
    obtain ⟨da, ea⟩ := R2.1
    obtain ⟨dc, ec⟩ := Rc.1
    refine ⟨a, c, da, dc, _, _, rfl, rfl, ea, ec, a, .ref c, p, q, -r, s, rfl, R2, Num.ref Rc, bp, bq, br.neg, bs, trivial, fun d H3 p' q' s3 R' b1 b2 e => ?_⟩
    exact z d H3 p' q' ((s1.trans s2).trans s3) R' b1 b2 (by
      show p' * (q * s) = (p * s - r * q) * q'
      have e' : p' * (q * s) = (p * s + -r * q) * q' := e
      rw [e', Int.neg_mul]
      rfl)
abbrev s_Ratio___radd__ : Stmt := inClass (top 7) 7
theorem sc_Ratio___radd__ : FnScope ["self", "other"] ["self", "other"] (defScope s_Ratio___radd__) := ⟨rfl, rfl, rfl, by decide +kernel, rfl, by decide +kernel, by decide +kernel⟩
theorem ok_Ratio___radd__ {f : Addr} {fd : FuncData} (F : Fun K "__radd__" "Ratio.__radd__" s_Ratio___radd__ f fd) (M : RMs P w K mg base C CI CZ) : FnOk P w K mg base (L2.CX P w) 7 f fd ["self", "other"] (spNum C RFd (fun p q r s => p * s + r * q) (fun _ q _ s => q * s) fun _ => True) := by
  refine F.okX sc_Ratio___radd__ (fun vs H Q E h => ?_) (fun cdv A outer s0 H vs Q E hr h => ?_)
  · obtain ⟨a, y, p, q, r, s, rfl, _⟩ := h
    rfl
  · obtain ⟨a, y, p, q, r, s, rfl, R, n, z⟩ := h
    obtain ⟨fa, fda, sa, ha, ba, Fa⟩ := M.add
    obtain ⟨g, hg⟩ := M.radd
    obtain ⟨da, ea⟩ := R.1
    refine ⟨_, (pss_one (ps_ret (pe_op (op_num (op := .Add) Fa hr ba passL M.first sa ha hg int_add int_radd intNot) (pv 0) (pv 1)))), ?_⟩
    exact ⟨_, rfl, _, rfl, a, r, s, da, _, rfl, ea, n, a, y, p, q, r, s, rfl, R, n, z⟩
abbrev s_Ratio___rmul__ : Stmt := inClass (top 7) 9
theorem sc_Ratio___rmul__ : FnScope ["self", "other"] ["self", "other"] (defScope s_Ratio___rmul__) := ⟨rfl, rfl, rfl, by decide +kernel, rfl, by decide +kernel, by decide +kernel⟩
theorem ok_Ratio___rmul__ {f : Addr} {fd : FuncData} (F : Fun K "__rmul__" "Ratio.__rmul__" s_Ratio___rmul__ f fd) (M : RMs P w K mg base C CI CZ) : FnOk P w K mg base (L2.CX P w) 7 f fd ["self", "other"] (spNum C RFd (fun p _ r _ => p * r) (fun _ q _ s => q * s) fun _ => True) := by
  refine F.okX sc_Ratio___rmul__ (fun vs H Q E h => ?_) (fun cdv A outer s0 H vs Q E hr h => ?_)
  · obtain ⟨a, y, p, q, r, s, rfl, _⟩ := h
    rfl
  · obtain ⟨a, y, p, q, r, s, rfl, R, n, z⟩ := h
    obtain ⟨fa, fda, sa, ha, ba, Fa⟩ := M.mul
    obtain ⟨g, hg⟩ := M.rmul
    obtain ⟨da, ea⟩ := R.1
    refine ⟨_, (pss_one (ps_ret (pe_op (op_num (op := .Mult) Fa hr ba passL M.first sa ha hg int_mul int_rmul intNot) (pv 0) (pv 1)))), ?_⟩
    exact ⟨_, rfl, _, rfl, a, r, s, da, _, rfl, ea, n, a, y, p, q, r, s, rfl, R, n, z⟩
abbrev s_Ratio___rsub__ : Stmt := inClass (top 7) 8
theorem sc_Ratio___rsub__ : FnScope ["self", "other"] ["self", "other"] (defScope s_Ratio___rsub__) := ⟨rfl, rfl, rfl, by decide +kernel, rfl, by decide +kernel, by decide +kernel⟩
theorem ok_Ratio___rsub__ {f : Addr} {fd : FuncData} (F : Fun K "__rsub__" "Ratio.__rsub__" s_Ratio___rsub__ f fd) (M : RMs P w K mg base C CI CZ) : FnOk P w K mg base (L2.CX P w) 7 f fd ["self", "other"] (spNum C RFd (fun p q r s => r * q - p * s) (fun _ q _ s => q * s) fun _ => True) := by
  refine F.okX sc_Ratio___rsub__ (fun vs H Q E h => ?_) (fun cdv A outer s0 H vs Q E hr h => ?_)
  · obtain ⟨a, y, p, q, r, s, rfl, _⟩ := h
    rfl
  · obtain ⟨a, y, p, q, r, s, rfl, R, n, bp, bq, br, bs, okr, z⟩ := h
    obtain ⟨fn, fdn, sn, hn, bn, Fn⟩ := M.neg
    obtain ⟨fa, fda, sa, ha, ba, Fa⟩ := M.add
    obtain ⟨g, hg⟩ := M.radd
    obtain ⟨da, ea⟩ := R.1
    refine ⟨_, (pss_one (ps_ret (pe_op (op_num (op := .Add) Fa hr ba passL M.first sa ha hg int_add int_radd intNot) (pe_un (un_own Fn (hr.mono (by decide)) bn passL sn hn) (pv 0)) (pv 1)))), ?_⟩
    refine ⟨_, rfl, a, da, _, rfl, ea, a, p, q, rfl, R, bp.up (by decide), bq.up (by decide), fun c H1 s1 Rc => ?_⟩
    obtain ⟨dc, ec⟩ := Rc.1
    refine ⟨_, rfl, c, r, s, dc, _, rfl, ec, n.same s1, c, y, -p, q, r, s, rfl, Rc, n.same s1, bp.neg, bq, br, bs, trivial, fun d H3 p' q' s3 R' b1 b2 e => ?_⟩
    exact z d H3 p' q' (s1.trans s3) R' b1 b2 (by
      show p' * (q * s) = (r * q - p * s) * q'
      have e' : p' * (q * s) = (-p * s + r * q) * q' := e
      rw [e', Int.neg_mul, Int.add_comm]
      rfl)
end
section
variable {P : Program} {w : World} {K : PySem.W.Frag} {mg : Str → Option Value} {base : Heap} {C CI CZ : Addr}
theorem num_eq {p q r s : Int} {C : Addr} {RF : Int → Int → List (Str × V)} {H : Hp} {a b : Addr} (R : Rat C RF H a p q) (R' : Rat C RF H b r s) : p * s = r * q ↔ p = r ∧ q = s :=
  ⟨fun e => same_terms R'.2.1 R.2.1 R'.2.2 R.2.2 e, fun ⟨e1, e2⟩ => by rw [e1, e2]⟩
abbrev s_Ratio___lt__ : Stmt := inClass (top 7) 11
theorem sc_Ratio___lt__ : FnScope ["self", "other"] ["self", "other"] (defScope s_Ratio___lt__) := ⟨rfl, rfl, rfl, by decide +kernel, rfl, by decide +kernel, by decide +kernel⟩
theorem ok_Ratio___lt__ {f : Addr} {fd : FuncData} (F : Fun K "__lt__" "Ratio.__lt__" s_Ratio___lt__ f fd) (T : RTx K mg C) : FnOk P w K mg base (L2.CX P w) 1 f fd ["self", "other"] (spCmp C RFd (fun x y => decide (x < y))) := by
  refine F.okX sc_Ratio___lt__ (fun vs H Q E h => ?_) (fun cdv A outer s0 H vs Q E hr h => ?_)
  · obtain ⟨a, b, p, q, r, s, rfl, _⟩ := h
    rfl
  · obtain ⟨a, b, p, q, r, s, rfl, R, R', bp, bq, br, bs, z⟩ := h
    obtain ⟨da, ea⟩ := R.1
    obtain ⟨db, eb⟩ := R'.1
    refine ⟨_, (pss_cons (ps_if (pt_not (pt_val (pe_callB call_isi (by rfl) T.isinstance (by decide +kernel) (pa_cons (pv 1) (pa_cons (pe_glob (v := .ref C) (by rfl) T.mC rfl) pa_nil)))))
        (pss_one ps_never)
        pss_nil)
      (pss_one (ps_ret (pe_cmpR op_lt (pe_op op_mulS (pe_fld (pv 0) rfl) (pe_fld (pv 1) rfl)) (pe_op op_mulS (pe_fld (pv 1) rfl) (pe_fld (pv 0) rfl)) (nomark _))))), ?_⟩
    refine ⟨_, rfl, _, _, _, _, _, rfl, .own _, T.ty eb, T.kCC, _, rfl, iteN (by decide) ?_⟩
    exact ⟨_, rfl, a, C, da, _, _, rfl, ea, T.cl, T.nT, rfl, _, rfl, b, C, db, _, _, rfl, eb, T.cl, T.nB, rfl, _, _, rfl, rfl, ⟨bp.s31, bs.s31⟩, _, rfl, b, C, db, _, _, rfl, eb, T.cl, T.nT, rfl, _, rfl, a, C, da, _, _, rfl, ea, T.cl, T.nB, rfl, _, _, rfl, rfl, ⟨br.s31, bq.s31⟩, _, _, rfl, rfl, z⟩
abbrev s_Ratio___le__ : Stmt := inClass (top 7) 12
theorem sc_Ratio___le__ : FnScope ["self", "other"] ["self", "other"] (defScope s_Ratio___le__) := ⟨rfl, rfl, rfl, by decide +kernel, rfl, by decide +kernel, by decide +kernel⟩
theorem ok_Ratio___le__ {f : Addr} {fd : FuncData} (F : Fun K "__le__" "Ratio.__le__" s_Ratio___le__ f fd) (T : RTx K mg C) : FnOk P w K mg base (L2.CX P w) 1 f fd ["self", "other"] (spCmp C RFd (fun x y => decide (x ≤ y))) := by
  refine F.okX sc_Ratio___le__ (fun vs H Q E h => ?_) (fun cdv A outer s0 H vs Q E hr h => ?_)
  · obtain ⟨a, b, p, q, r, s, rfl, _⟩ := h
    rfl
  · obtain ⟨a, b, p, q, r, s, rfl, R, R', bp, bq, br, bs, z⟩ := h
    obtain ⟨da, ea⟩ := R.1
    obtain ⟨db, eb⟩ := R'.1
    refine ⟨_, (pss_cons (ps_if (pt_not (pt_val (pe_callB call_isi (by rfl) T.isinstance (by decide +kernel) (pa_cons (pv 1) (pa_cons (pe_glob (v := .ref C) (by rfl) T.mC rfl) pa_nil)))))
        (pss_one ps_never)
        pss_nil)
      (pss_one (ps_ret (pe_cmpR op_le (pe_op op_mulS (pe_fld (pv 0) rfl) (pe_fld (pv 1) rfl)) (pe_op op_mulS (pe_fld (pv 1) rfl) (pe_fld (pv 0) rfl)) (nomark _))))), ?_⟩
    refine ⟨_, rfl, _, _, _, _, _, rfl, .own _, T.ty eb, T.kCC, _, rfl, iteN (by decide) ?_⟩
    exact ⟨_, rfl, a, C, da, _, _, rfl, ea, T.cl, T.nT, rfl, _, rfl, b, C, db, _, _, rfl, eb, T.cl, T.nB, rfl, _, _, rfl, rfl, ⟨bp.s31, bs.s31⟩, _, rfl, b, C, db, _, _, rfl, eb, T.cl, T.nT, rfl, _, rfl, a, C, da, _, _, rfl, ea, T.cl, T.nB, rfl, _, _, rfl, rfl, ⟨br.s31, bq.s31⟩, _, _, rfl, rfl, z⟩
abbrev s_Ratio___gt__ : Stmt := inClass (top 7) 13
theorem sc_Ratio___gt__ : FnScope ["self", "other"] ["self", "other"] (defScope s_Ratio___gt__) := ⟨rfl, rfl, rfl, by decide +kernel, rfl, by decide +kernel, by decide +kernel⟩
theorem ok_Ratio___gt__ {f : Addr} {fd : FuncData} (F : Fun K "__gt__" "Ratio.__gt__" s_Ratio___gt__ f fd) (T : RTx K mg C) : FnOk P w K mg base (L2.CX P w) 1 f fd ["self", "other"] (spCmp C RFd (fun x y => decide (y < x))) := by
  refine F.okX sc_Ratio___gt__ (fun vs H Q E h => ?_) (fun cdv A outer s0 H vs Q E hr h => ?_)
  · obtain ⟨a, b, p, q, r, s, rfl, _⟩ := h
    rfl
  · obtain ⟨a, b, p, q, r, s, rfl, R, R', bp, bq, br, bs, z⟩ := h
    obtain ⟨da, ea⟩ := R.1
    obtain ⟨db, eb⟩ := R'.1
    refine ⟨_, (pss_cons (ps_if (pt_not (pt_val (pe_callB call_isi (by rfl) T.isinstance (by decide +kernel) (pa_cons (pv 1) (pa_cons (pe_glob (v := .ref C) (by rfl) T.mC rfl) pa_nil)))))
        (pss_one ps_never)
        pss_nil)
      (pss_one (ps_ret (pe_cmpR op_gt (pe_op op_mulS (pe_fld (pv 0) rfl) (pe_fld (pv 1) rfl)) (pe_op op_mulS (pe_fld (pv 1) rfl) (pe_fld (pv 0) rfl)) (nomark _))))), ?_⟩
    refine ⟨_, rfl, _, _, _, _, _, rfl, .own _, T.ty eb, T.kCC, _, rfl, iteN (by decide) ?_⟩
    exact ⟨_, rfl, a, C, da, _, _, rfl, ea, T.cl, T.nT, rfl, _, rfl, b, C, db, _, _, rfl, eb, T.cl, T.nB, rfl, _, _, rfl, rfl, ⟨bp.s31, bs.s31⟩, _, rfl, b, C, db, _, _, rfl, eb, T.cl, T.nT, rfl, _, rfl, a, C, da, _, _, rfl, ea, T.cl, T.nB, rfl, _, _, rfl, rfl, ⟨br.s31, bq.s31⟩, _, _, rfl, rfl, z⟩
abbrev s_Ratio___ge__ : Stmt := inClass (top 7) 14
theorem sc_Ratio___ge__ : FnScope ["self", "other"] ["self", "other"] (defScope s_Ratio___ge__) := ⟨rfl, rfl, rfl, by decide +kernel, rfl, by decide +kernel, by decide +kernel⟩
theorem ok_Ratio___ge__ {f : Addr} {fd : FuncData} (F : Fun K "__ge__" "Ratio.__ge__" s_Ratio___ge__ f fd) (T : RTx K mg C) : FnOk P w K mg base (L2.CX P w) 1 f fd ["self", "other"] (spCmp C RFd (fun x y => decide (y ≤ x))) := by
  refine F.okX sc_Ratio___ge__ (fun vs H Q E h => ?_) (fun cdv A outer s0 H vs Q E hr h => ?_)
  · obtain ⟨a, b, p, q, r, s, rfl, _⟩ := h
    rfl
  · obtain ⟨a, b, p, q, r, s, rfl, R, R', bp, bq, br, bs, z⟩ := h
    obtain ⟨da, ea⟩ := R.1
    obtain ⟨db, eb⟩ := R'.1
    refine ⟨_, (pss_cons (ps_if (pt_not (pt_val (pe_callB call_isi (by rfl) T.isinstance (by decide +kernel) (pa_cons (pv 1) (pa_cons (pe_glob (v := .ref C) (by rfl) T.mC rfl) pa_nil)))))
        (pss_one ps_never)
        pss_nil)
      (pss_one (ps_ret (pe_cmpR op_ge (pe_op op_mulS (pe_fld (pv 0) rfl) (pe_fld (pv 1) rfl)) (pe_op op_mulS (pe_fld (pv 1) rfl) (pe_fld (pv 0) rfl)) (nomark _))))), ?_⟩
    refine ⟨_, rfl, _, _, _, _, _, rfl, .own _, T.ty eb, T.kCC, _, rfl, iteN (by decide) ?_⟩
    exact ⟨_, rfl, a, C, da, _, _, rfl, ea, T.cl, T.nT, rfl, _, rfl, b, C, db, _, _, rfl, eb, T.cl, T.nB, rfl, _, _, rfl, rfl, ⟨bp.s31, bs.s31⟩, _, rfl, b, C, db, _, _, rfl, eb, T.cl, T.nT, rfl, _, rfl, a, C, da, _, _, rfl, ea, T.cl, T.nB, rfl, _, _, rfl, rfl, ⟨br.s31, bq.s31⟩, _, _, rfl, rfl, z⟩
abbrev s_Ratio___eq__ : Stmt := inClass (top 7) 15
theorem sc_Ratio___eq__ : FnScope ["self", "other"] ["self", "other"] (defScope s_Ratio___eq__) := ⟨rfl, rfl, rfl, by decide +kernel, rfl, by decide +kernel, by decide +kernel⟩
/-- of a ratio and any value -/
def spEqA (K : PySem.W.Frag) (C : Addr) : Sp := fun vs H Q _ => ∃ (a : Addr) (y : V) (p q : Int), vs = [.ref a, y] ∧ Rat C RFd H a p q ∧ ((∃ b r s, y = .ref b ∧ Rat C RFd H b r s ∧ Q (.bl (decide (p * s = r * q))) H) ∨ (∃ t, TyX K H y t ∧ PySem.W.kitOne K t (.ref C) = some false ∧ Q (.bl false) H))
theorem ok_Ratio___eq__ {f : Addr} {fd : FuncData} (F : Fun K "__eq__" "Ratio.__eq__" s_Ratio___eq__ f fd) (T : RTx K mg C) : FnOk P w K mg base (L2.CX P w) 1 f fd ["self", "other"] (spEqA K C) := by
  refine F.okX sc_Ratio___eq__ (fun vs H Q E h => ?_) (fun cdv A outer s0 H vs Q E hr h => ?_)
  · obtain ⟨a, y, p, q, rfl, _⟩ := h
    rfl
  · obtain ⟨a, y, p, q, rfl, R, h⟩ := h
    obtain ⟨da, ea⟩ := R.1
    refine ⟨_, (pss_one (ps_ret (pe_and (pe_callB call_isi (by rfl) T.isinstance (by decide +kernel) (pa_cons (pv 1) (pa_cons (pe_glob (v := .ref C) (by rfl) T.mC rfl) pa_nil))) (pe_and (pe_cmpR op_eq (pe_fld (pv 0) rfl) (pe_fld (pv 1) rfl) (nomark _)) (pe_one (pe_cmpR op_eq (pe_fld (pv 0) rfl) (pe_fld (pv 1) rfl) (nomark _))))))), ?_⟩
    rcases h with ⟨b, r, s, rfl, R', z⟩ | ⟨t, ty, k, z⟩
    · obtain ⟨db, eb⟩ := R'.1
      refine ⟨_, rfl, _, _, _, _, _, rfl, .own _, T.ty eb, T.kCC, _, rfl, iteT ?_⟩
      refine ⟨_, rfl, a, C, da, _, _, rfl, ea, T.cl, T.nT, rfl, _, rfl, b, C, db, _, _, rfl, eb, T.cl, T.nT, rfl, rfl, _, rfl, ite2 (fun c => ?_) (fun c => ?_)⟩
      · have e1 := of_veq c
        refine ⟨_, rfl, a, C, da, _, _, rfl, ea, T.cl, T.nB, rfl, _, rfl, b, C, db, _, _, rfl, eb, T.cl, T.nB, rfl, rfl, ?_⟩
        have e2 : decide (V.int q = V.int s) = decide (p * s = r * q) := decide_eq_decide.mpr ((⟨fun h => by injection h, fun h => by rw [h]⟩ : V.int q = V.int s ↔ q = s).trans ((⟨fun h => ⟨e1, h⟩, fun h => h.2⟩ : q = s ↔ p = r ∧ q = s).trans (num_eq R R').symm))
        rw [e2]
        exact z
      · have e2 : decide (p * s = r * q) = false := decide_eq_false fun h => c (veq ((num_eq R R').mp h).1)
        rw [e2] at z
        exact z
    · exact ⟨_, rfl, _, _, _, _, _, rfl, .own _, ty, k, _, rfl, iteF z⟩
/-! ### over 0 -/
def spOverZ (C CZ : Addr) : Sp := fun vs H _ E => ∃ (a : Addr) (y : V) (p q s : Int), vs = [.ref a, y] ∧ Rat C RFd H a p q ∧ Num C RFd H y 0 s ∧ Bd 31 p ∧ Bd 31 q ∧ Bd 31 s ∧ ∀ H', Same H H' → E (.ref CZ) none H'
theorem ok_Ratio_overZ {f : Addr} {fd : FuncData} (F : Fun K "over" "Ratio.over" s_Ratio_over f fd) (L : RCls P w K mg base C CI CZ) : FnOk P w K mg base (L2.CX P w) 6 f fd ["self", "other"] (spOverZ C CZ) := by
  refine F.okX sc_Ratio_over (fun vs H Q E h => ?_) (fun cdv A outer s0 H vs Q E hr h => ?_)
  · obtain ⟨a, y, p, q, s, rfl, _⟩ := h
    rfl
  · obtain ⟨a, y, p, q, s, rfl, R, n, bp, bq, bs, z⟩ := h
    have T := L.T
    refine ⟨_, (pss_cons (ps_set (i := 2) sc_Ratio_over.nd rfl (.inl rfl) (pe_cX L.rOf (hr.mono (by decide)) passL rfl (pa_cons (pv 1) pa_nil)))
      (pss_one (ps_ret (pe_mk2 L.makes (hr.mono (by decide)) (passes_call (takes_of rfl rfl rfl rfl) (fun _ _ _ _ z => z)) rfl (pa_cons (pe_op op_mulS (pe_fld (pv 0) rfl) (pe_fld (pv 2) rfl)) (pa_cons (pe_op op_mulS (pe_fld (pv 0) rfl) (pe_fld (pv 2) rfl)) pa_nil)))))), ?_⟩
    refine ⟨_, rfl, y, 0, s, rfl, n, ⟨by decide, by decide⟩, fun b H1 s1 Rb => ?_⟩
    obtain ⟨da, ea⟩ := (R.same s1).1
    obtain ⟨db, eb⟩ := Rb.1
    refine ⟨_, rfl, a, C, da, _, _, rfl, ea, T.cl, T.nT, rfl, _, rfl, b, C, db, _, _, rfl, eb, T.cl, T.nB, rfl, _, _, rfl, rfl, ⟨bp.s31, bs.s31⟩, _, rfl, a, C, da, _, _, rfl, ea, T.cl, T.nB, rfl, _, rfl, b, C, db, _, _, rfl, eb, T.cl, T.nT, rfl, _, _, rfl, rfl, ⟨bq.s31, ⟨by decide, by decide⟩⟩, fun x dx hx hd ne => ?_⟩
    exact ⟨x, dx, .int (p * s), .int (q * 0), rfl, upd_same, .inr (.inr (.inr ⟨_, rfl, by rw [Int.mul_zero], z _ (s1.trans (new_same hx hd))⟩))⟩
end
/-! ### _law_told: a lambda is handed in and called; its errors are told -/
section
open LamX
/-- what the text's top has of both classes -/
structure TTx (K : PySem.W.Frag) (mg : Str → Option Value) (CI CZ : Addr) : Prop where
  mI : mg "InvalidRatio" = some (.ref CI)
  mZ : mg "DivisionByZero" = some (.ref CZ)
  repr : mg "repr" = none
  isinstance : mg "isinstance" = none
  arith : mg "ArithmeticError" = none
  eII : PySem.W.exmOne K (.ref CI) (.ref CI) = some true
  eZI : PySem.W.exmOne K (.ref CZ) (.ref CI) = some false
  eZZ : PySem.W.exmOne K (.ref CZ) (.ref CZ) = some true
  xf : XfC K CI
  nv : PySem.W.findIn K (.ref CI) "value" = some none
  xc : L2.ExcC K CZ
  kA : PySem.W.kitOne K (.ref CZ) (.type "ArithmeticError") = some true
abbrev s__law_told : Stmt := top 19
abbrev N__law_told : List Str := ["_law_call", "e"]
theorem sc__law_told : FnScope N__law_told ["_law_call"] (defScope s__law_told) := ⟨rfl, rfl, rfl, by decide +kernel, rfl, by decide +kernel, by decide +kernel⟩
def EGood (K : PySem.W.Frag) (CI CZ : Addr) (Q : VK) : XK := fun cls dd G => (cls = .ref CI ∧ ∃ (d : Addr) (fs : List (Str × V)) (v : V) (pd : PyData), dd = some d ∧ G d = some (.xd fs) ∧ fs.lookup ("value" : Str) = some v ∧ Dp K G v pd ∧ pd.hasDict = false ∧ pd.showable = true ∧ pd.depth + 1 ≤ 64 ∧ pd.shown.length ≤ sizeLine ∧ Q (.str pd.shown) G) ∨
  (cls = .ref CZ ∧ dd = none ∧ ∀ l, G l = none → Q (.ref l) (upd G l (.lst [.str "zero", .bl true])))
def toldT (K : PySem.W.Frag) (CI CZ : Addr) : (XK → Hp → VK → Prop) → Hp → VK → Prop := fun tl H Q => tl (EGood K CI CZ Q) H (fun _ G => Q .non G)
theorem PSs.len {X : Cx} {st : List Stmt} {t : TS} (h : PSs X st t) : PSs X st (fun D τ H => τ.length = X.N.length → t D τ H) := ⟨fun pins s σ H D I w => h.run pins s σ H D I (w I.len)⟩
theorem two_of {α : Type} {τ : List α} (h : τ.length = 2) : ∃ x y, τ = [x, y] := by
  match τ, h with
  | [x, y], _ => exact ⟨x, y, rfl⟩
theorem PSs.imp {X : Cx} {st : List Stmt} {t t' : TS} (h : PSs X st t) (k : ∀ D τ H, t' D τ H → t D τ H) : PSs X st t' := ⟨fun pins s σ H D I w => h.run pins s σ H D I (k _ _ _ w)⟩
def ts1 (K : PySem.W.Frag) (CI : Addr) : Addr → Value → Option Addr → TS := fun a kd dd D τ G => τ.length = 2 → τ[1]? = some (some (.ref a)) ∧ kd = .ref CI ∧ ∃ (d : Addr) (fs : List (Str × V)) (v : V) (pd : PyData), dd = some d ∧ G d = some (.xd fs) ∧ fs.lookup ("value" : Str) = some v ∧ Dp K G v pd ∧ pd.hasDict = false ∧ pd.showable = true ∧ pd.depth + 1 ≤ 64 ∧ pd.shown.length ≤ sizeLine ∧ D.rt (.str pd.shown) G
def ts2 (CZ : Addr) : Addr → Value → Option Addr → TS := fun a kd dd D τ G => τ.length = 2 → τ[1]? = some (some (.ref a)) ∧ kd = .ref CZ ∧ dd = none ∧ ∀ l, G l = none → D.rt (.ref l) (upd G l (.lst [.str "zero", .bl true]))
theorem told_handed {X : Cx} {k : Nat} {g : Addr} {cdv : Value} {CI CZ : Addr} (T : TTx X.K X.mg CI CZ) (hG : X.A.guards = some []) (hr : Room (k + 2) X.A) : Handed X k "_law_told" "_law_call" N__law_told s__law_told g cdv (toldT X.K CI CZ) := by
  intro d f c' s H Q tl kn act w
  have un := (hr.deeper (PyProof.Rows.envOfC "_law_told" (defScope s__law_told) s.heap.objs.size g cdv)).un
  rw [Nat.add_assoc] at un
  refine ⟨_, pss_cons (ps_tryN rfl rfl sc__law_told.nd (out := fun _ _ _ _ => False) (l := [⟨.ref CI, some 1, ts1 X.K CI⟩, ⟨.ref CZ, some 1, ts2 CZ⟩]) ?tk (fun W ps xe tk _ => pss_one (ps_expr (act W ps xe _ _ tk)))
    (.named (i := 1) ⟨rfl, by decide +kernel, .inl T.mI⟩ rfl rfl ?su1
    (.named (i := 1) ⟨rfl, by decide +kernel, .inl T.mZ⟩ rfl rfl ?su2 .nil))) (pss_one (ps_ret pe_non)), ?_⟩
  case su1 =>
    intro a ob kd dd ps zc isF
    refine PSs.imp (PSs.len (pss_one (ps_ret (pe_callB (call_repr hG (Nat.lt_of_le_of_lt (Nat.add_le_add_left (by omega) _) un)) (by rfl) T.repr (by decide +kernel) (pa_cons (pe_xf T.xf T.nv zc isF (pv 1)) pa_nil))))) ?_
    intro D τ G w1 len
    obtain ⟨e1, rfl, d1, fs, v, pd, rfl, ed, lk, dp, hd, sh, dep, siz, q⟩ := w1 len
    exact ⟨_, e1, rfl, rfl, d1, fs, v, rfl, ed, lk, v, pd, rfl, Rds.of dp hd, sh, dep, siz, q⟩
  case tk =>
    exact fun _ _ z => by
      obtain ⟨a, B, sI, pins1, τ1, G1, kd, dd, rfl, J1, nb, up, sky, free, os, ag, wish⟩ := z
      exact wish.elim
  case su2 =>
    intro a ob kd dd ps zc isF
    by_cases e1 : kd = .ref CZ
    · by_cases e2 : dd = none
      · subst e1
        subst e2
        refine PSs.imp (PSs.len (pss_one (ps_ret (pe_lst (pa_cons pe_str (pa_cons (pe_callB (call_isE T.xc zc isF) (by rfl) T.isinstance (by decide +kernel) (pa_cons (pv 1) (pa_cons (pe_bltn (v := .ty "ArithmeticError") (by rfl) T.arith (by decide +kernel) rfl) pa_nil))) pa_nil)))))) ?_
        intro D τ G w1 len
        obtain ⟨e1, _, _, q⟩ := w1 len
        refine ⟨_, e1, _, _, _, rfl, (fun u hu => hu), T.kA, (by show 2 ≤ sizeLine; decide), fun l hl => ?_⟩
        exact q l hl
      · exact PSs.imp (PSs.len ⟨fun _ _ _ _ _ _ w => w.elim⟩) fun D τ G w1 len => e2 (w1 len).2.2.1
    · exact PSs.imp (PSs.len ⟨fun _ _ _ _ _ _ w => w.elim⟩) fun D τ G w1 len => e1 (w1 len).2.1
  refine ⟨EGood X.K CI CZ Q, f, c', fun cls dd τ G h => ?_, rfl, kn, w⟩
  rcases h with ⟨rfl, d1, fs, v, pd, rfl, ed, lk, dp, hd, sh, dep, siz, q⟩ | ⟨rfl, rfl, q⟩
  · refine ⟨true, T.eII, fun _ a na len => ?_, (fun z => nomatch z)⟩
    obtain ⟨x, y, e⟩ := two_of (show τ.length = 2 by simpa using len)
    subst e
    exact ⟨rfl, rfl, d1, fs, v, pd, rfl, ed, lk, dp, hd, sh, dep, siz, q⟩
  · refine ⟨false, T.eZI, (fun z => nomatch z), fun _ => ⟨true, T.eZZ, fun _ a na len => ?_, (fun z => nomatch z)⟩⟩
    obtain ⟨x, y, e⟩ := two_of (show τ.length = 2 by simpa using len)
    subst e
    exact ⟨rfl, rfl, rfl, q⟩
end
/-! ### the two errors -/
section
variable {P : Program} {w : World} {K : PySem.W.Frag} {mg : Str → Option Value} {base : Heap}
abbrev si_InvalidRatio : Stmt := inClass (top 2) 0
theorem sci_InvalidRatio : FnScope ["self", "value"] ["self", "value"] (defScope si_InvalidRatio) := ⟨rfl, rfl, rfl, by decide +kernel, rfl, by decide +kernel, by decide +kernel⟩
theorem in_InvalidRatio {C fI : Addr} {fd : FuncData} (F : Fun K "__init__" "InvalidRatio.__init__" si_InvalidRatio fI fd) (L : Cl K C fI [.type "ValueError", .type "Exception", .type "BaseException", .type "object"] "ValueError.__new__" ["value"]) (m : mg "InvalidRatio" = some (.ref C)) : XValue P w K mg base "InvalidRatio" C := by
  obtain ⟨oc, od, kV, doc, pm, an, cdv, ct, osl, rfl, lk, hcd⟩ := F.ex
  refine ⟨fI, _, ["self", "value"], "ValueError", "ValueError.__new__", "ValueError.__init__", [.type "ValueError", .type "Exception", .type "BaseException", .type "object"], PySem.F.excBase_ValueError, L.T, m, F.ok sci_InvalidRatio (fun vs H Q E h => ?_) (fun cdv A outer s H vs Q E hr h => ?_),
    ⟨fun s us ws _ l1 l2 => match us, ws, l1, l2 with | [_, _], [], _, _ => .of_eq rfl, fun r _ => r⟩, L.look.xf.exC, L.ty⟩
  · obtain ⟨a, v, rfl, _⟩ := h
    rfl
  · obtain ⟨a, v, rfl, ea, q⟩ := h
    refine ⟨_, pss_one (ps_xst PySem.F.store_ValueError (newId := "ValueError.__new__") (pv 0) (pv 1)), ?_⟩
    exact ⟨_, rfl, _, rfl, a, C, fI, rfl, L.T, L.no _ (by simp), .inl ⟨ea, q⟩⟩
abbrev si_DivisionByZero : Stmt := inClass (top 3) 0
theorem sci_DivisionByZero : FnScope ["self"] ["self"] (defScope si_DivisionByZero) := ⟨rfl, rfl, rfl, by decide +kernel, rfl, by decide +kernel, by decide +kernel⟩
theorem in_DivisionByZero {C fI : Addr} {fd : FuncData} (F : Fun K "__init__" "DivisionByZero.__init__" si_DivisionByZero fI fd) (L : Cl K C fI [.type "ArithmeticError", .type "Exception", .type "BaseException", .type "object"] "ArithmeticError.__new__" []) (m : mg "DivisionByZero" = some (.ref C)) : XRz P w K mg base "DivisionByZero" C 0 (sp0 C) := by
  obtain ⟨oc, od, kV, doc, pm, an, cdv, ct, osl, rfl, lk, hcd⟩ := F.ex
  refine ⟨fI, _, ["self"], "ArithmeticError", "ArithmeticError.__new__", "ArithmeticError.__init__", [.type "ArithmeticError", .type "Exception", .type "BaseException", .type "object"], PySem.F.excBase_ArithmeticError, L.T, m, F.ok sci_DivisionByZero (fun vs H Q E h => ?_) (fun cdv A outer s H vs Q E hr h => ?_),
    ⟨fun s us ws _ l1 l2 => match us, ws, l1, l2 with | [_], [], _, _ => .of_eq rfl, fun r _ => r⟩, L.look.xf.exC, L.ty⟩
  · obtain ⟨a, rfl, _⟩ := h
    rfl
  · obtain ⟨a, rfl, ea, q⟩ := h
    exact ⟨_, pss_one ps_pass, q⟩
end
/-! ### what the text's top has written of the class, and what follows -/
structure Has12 (K : PySem.W.Frag) (mg : Str → Option Value) (C : Addr) : Prop where
  isI : Has K mg "is_integer" s_is_integer ["value"]
  isN : Has K mg "is_number" s_is_number ["value"]
  rOf : Has K mg "ratio_of" s_ratio_of ["value"]
  init : ∃ (fI : Addr) (fd : FuncData) (ds : List Value), Mk K C fI ∧ FunD K "__init__" "Ratio.__init__" (defArgs s_Ratio___init__) (defBody s_Ratio___init__) (defScope s_Ratio___init__) [.int 1] [] fI fd ∧ Binds K fd ["self", "top", "bottom"] [] ∧ Vals [.int 1] ds ∧ Binds K fd ["self", "top", "bottom"] ds
  pT : PFun K C "top" "Ratio.top" s_Ratio_top
  pB : PFun K C "bottom" "Ratio.bottom" s_Ratio_bottom
  over : ∃ f fd, Meth K C "over" f ∧ Fun K "over" "Ratio.over" s_Ratio_over f fd ∧ Binds K fd ["self", "other"] []
  add : MFun K C "__add__" "Ratio.__add__" s_Ratio___add__ ["self", "other"]
  sub : MFun K C "__sub__" "Ratio.__sub__" s_Ratio___sub__ ["self", "other"]
  mul : MFun K C "__mul__" "Ratio.__mul__" s_Ratio___mul__ ["self", "other"]
  radd : MFun K C "__radd__" "Ratio.__radd__" s_Ratio___radd__ ["self", "other"]
  rsub : MFun K C "__rsub__" "Ratio.__rsub__" s_Ratio___rsub__ ["self", "other"]
  rmul : MFun K C "__rmul__" "Ratio.__rmul__" s_Ratio___rmul__ ["self", "other"]
  lt : MFun K C "__lt__" "Ratio.__lt__" s_Ratio___lt__ ["self", "other"]
  le : MFun K C "__le__" "Ratio.__le__" s_Ratio___le__ ["self", "other"]
  gt : MFun K C "__gt__" "Ratio.__gt__" s_Ratio___gt__ ["self", "other"]
  ge : MFun K C "__ge__" "Ratio.__ge__" s_Ratio___ge__ ["self", "other"]
  eq : MFun K C "__eq__" "Ratio.__eq__" s_Ratio___eq__ ["self", "other"]
  neg : MFun K C "__neg__" "Ratio.__neg__" s_Ratio___neg__ ["self"]
  ne : NeO K C
  first : PySem.W.selfFirst K C = true
  no2 : PySem.W.subIn K (.ref C) (.type "int") = some false
/-- all that the law asks of ratios -/
structure All12 (P : Program) (w : World) (K : PySem.W.Frag) (mg : Str → Option Value) (base : Heap) (C CI CZ : Addr) : Prop where
  M : RMs P w K mg base C CI CZ
  six : Six P w K mg base C RFd 7
  nums : Nums P w K mg base C RFd 7
  numsI : NumsI P w K mg base C RFd 7
  eqA : OwnM P w K mg base C 7 "__eq__" ["self", "other"] (spEqA K C)
  ne : NeO K C
  pT : OwnP P w K mg base C 1 "top" (spTop C RFd)
  pB : OwnP P w K mg base C 1 "bottom" (spBottom C RFd)
  neg : OwnM P w K mg base C 5 "__neg__" ["self"] (spNeg C)
  overZ : OwnMeth P w K mg base C 6 "over" ["self", "other"] (spOverZ C CZ)
section
variable {P : Program} {w : World} {K : PySem.W.Frag} {mg : Str → Option Value} {base : Heap} {C CI CZ : Addr}
theorem all12 (T : RTx K mg C) (h : Has12 K mg C) (XI : XValue P w K mg base "InvalidRatio" CI) (XZ : XRz P w K mg base "DivisionByZero" CZ 0 (sp0 CZ)) : All12 P w K mg base C CI CZ := by
  have O1 := ok_is_integer (P := P) (w := w) (base := base) h.isI T
  have O2 := ok_is_number (P := P) (w := w) (base := base) h.isN T O1
  obtain ⟨fI, fd, ds, mk, FI, b1, v, b2⟩ := h.init
  have mr : MkR P w K mg base C CI CZ := ⟨fI, fd, ds, mk, ok_Ratio_init FI T O1 XI XZ, b1, v, b2, T.mC⟩
  have O3 := ok_ratio_of (P := P) (w := w) (base := base) h.rOf T mr
  have L : RCls P w K mg base C CI CZ := ⟨T, O1, O2, O3, mr⟩
  obtain ⟨f_add, d_add, s_add, i_add, F_add, b_add⟩ := h.add
  obtain ⟨f_sub, d_sub, s_sub, i_sub, F_sub, b_sub⟩ := h.sub
  obtain ⟨f_mul, d_mul, s_mul, i_mul, F_mul, b_mul⟩ := h.mul
  obtain ⟨f_radd, d_radd, s_radd, i_radd, F_radd, b_radd⟩ := h.radd
  obtain ⟨f_rsub, d_rsub, s_rsub, i_rsub, F_rsub, b_rsub⟩ := h.rsub
  obtain ⟨f_rmul, d_rmul, s_rmul, i_rmul, F_rmul, b_rmul⟩ := h.rmul
  obtain ⟨f_lt, d_lt, s_lt, i_lt, F_lt, b_lt⟩ := h.lt
  obtain ⟨f_le, d_le, s_le, i_le, F_le, b_le⟩ := h.le
  obtain ⟨f_gt, d_gt, s_gt, i_gt, F_gt, b_gt⟩ := h.gt
  obtain ⟨f_ge, d_ge, s_ge, i_ge, F_ge, b_ge⟩ := h.ge
  obtain ⟨f_eq, d_eq, s_eq, i_eq, F_eq, b_eq⟩ := h.eq
  obtain ⟨f_neg, d_neg, s_neg, i_neg, F_neg, b_neg⟩ := h.neg
  obtain ⟨f_o, d_o, s_o, F_o, b_o⟩ := h.over
  have M : RMs P w K mg base C CI CZ := ⟨L, h.first, ⟨f_add, d_add, s_add, i_add, b_add, ok_Ratio___add__ F_add L⟩, ⟨f_mul, d_mul, s_mul, i_mul, b_mul, ok_Ratio___mul__ F_mul L⟩, ⟨f_neg, d_neg, s_neg, i_neg, b_neg, ok_Ratio___neg__ F_neg L⟩, ⟨f_radd, s_radd⟩, ⟨f_rmul, s_rmul⟩⟩
  have eqA := ok_Ratio___eq__ (P := P) (w := w) (mg := mg) (base := base) F_eq T
  refine ⟨M, ⟨?_, ?_, ?_, ?_, ?_, h.ne⟩, ⟨?_, ?_, ?_, ?_, h.first, fun p q => rfl⟩, ⟨?_, ?_, ?_, h.no2⟩, ?_, h.ne, ok_Ratio_top h.pT T, ok_Ratio_bottom h.pB T, ?_, ?_⟩
  · exact ⟨f_lt, d_lt, s_lt, i_lt, b_lt, (ok_Ratio___lt__ F_lt T).mono (by decide)⟩
  · exact ⟨f_le, d_le, s_le, i_le, b_le, (ok_Ratio___le__ F_le T).mono (by decide)⟩
  · exact ⟨f_gt, d_gt, s_gt, i_gt, b_gt, (ok_Ratio___gt__ F_gt T).mono (by decide)⟩
  · exact ⟨f_ge, d_ge, s_ge, i_ge, b_ge, (ok_Ratio___ge__ F_ge T).mono (by decide)⟩
  · refine ⟨f_eq, d_eq, s_eq, i_eq, b_eq, (eqA.mono (by decide)).imp ?_⟩
    rintro vs H Q E ⟨a, b, p, q, r, s, rfl, R, R', _, _, _, _, z⟩
    exact ⟨a, _, p, q, rfl, R, .inl ⟨b, r, s, rfl, R', z⟩⟩
  · exact ⟨f_add, d_add, s_add, i_add, b_add, (ok_Ratio___add__ F_add L).mono (by decide)⟩
  · exact ⟨f_sub, d_sub, s_sub, i_sub, b_sub, (ok_Ratio___sub__ F_sub M).mono (by decide)⟩
  · exact ⟨f_mul, d_mul, s_mul, i_mul, b_mul, (ok_Ratio___mul__ F_mul L).mono (by decide)⟩
  · exact ⟨f_o, d_o, s_o, b_o, (ok_Ratio_over F_o L).mono (by decide)⟩
  · exact ⟨f_radd, d_radd, s_radd, i_radd, b_radd, (ok_Ratio___radd__ F_radd M).mono (by decide)⟩
  · exact ⟨f_rsub, d_rsub, s_rsub, i_rsub, b_rsub, (ok_Ratio___rsub__ F_rsub M).mono (by decide)⟩
  · exact ⟨f_rmul, d_rmul, s_rmul, i_rmul, b_rmul, (ok_Ratio___rmul__ F_rmul M).mono (by decide)⟩
  · exact ⟨f_eq, d_eq, s_eq, i_eq, b_eq, eqA.mono (by decide)⟩
  · exact ⟨f_neg, d_neg, s_neg, i_neg, b_neg, ok_Ratio___neg__ F_neg L⟩
  · exact ⟨f_o, d_o, s_o, b_o, ok_Ratio_overZ F_o L⟩
end
/-! ### the law's five lambdas -/
section
open LamX
theorem PE.imp {X : Cx} {e : Expr} {t t' : TE} (h : PE X e t) (k : ∀ σ H Q, t' σ H Q → t σ H Q) : PE X e t' := ⟨fun pins s σ H Q I w => h.run pins s σ H Q I (k _ _ _ w)⟩
abbrev s_law : Stmt := top 22
abbrev N_law : List Str := ["_law_script", "_law_value", "_law_k", "_law_pool_here", "_law_turn", "_law_a", "_law_b", "_law_c", "_law_d", "_law_one", "_law_other", "_law_whole", "_law_sign", "_law_zeros", "_law_call"]
theorem sc_law : FnScope N_law ["_law_script"] (defScope s_law) := ⟨rfl, rfl, rfl, by decide +kernel, rfl, by decide +kernel, by decide +kernel⟩
def noStmt : Stmt := .Pass ⟨0, 0, 0, 0⟩
def noExpr : Expr := .Name "" ⟨0, 0, 0, 0⟩
def stBody : Stmt → List Stmt
  | .For _ _ b _ _ => b
  | _ => []
def stExpr : Stmt → Expr
  | .If t _ _ _ => t
  | .Assign _ e _ => e
  | .Expr e _ => e
  | _ => noExpr
def cmpL : Expr → Expr
  | .Compare l _ _ _ => l
  | e => e
def arg0 : Expr → Expr
  | .Call _ (a :: _) _ _ => a
  | .List (a :: _) _ => a
  | e => e
def lamArgs : Expr → Arguments
  | .Lambda p _ _ _ => p
  | _ => defArgs noStmt
def lamBody : Expr → Expr
  | .Lambda _ b _ _ => b
  | e => e
def lamScope : Expr → Scope
  | .Lambda _ _ s _ => s
  | _ => defScope noStmt
def turnS : List Stmt := stBody ((stBody ((defBody s_law).getD 1 noStmt)).getD 1 noStmt)
def lamE1 : Expr := arg0 (cmpL (stExpr ((stBody ((defBody s_law).getD 0 noStmt)).getD 0 noStmt)))
def lamE2 : Expr := arg0 (cmpL (stExpr ((stBody ((defBody s_law).getD 0 noStmt)).getD 1 noStmt)))
def lamE3 : Expr := arg0 (stExpr (turnS.getD 8 noStmt))
def lamE4 : Expr := arg0 (stExpr (turnS.getD 9 noStmt))
def lamE5 : Expr := arg0 (stExpr (turnS.getD 10 noStmt))
/-- the law's frame -/
abbrev LX (P : Program) (w : World) (K : PySem.W.Frag) (mg : Str → Option Value) (base : Heap) (g : Addr) (cdv : Value) (A : Around) (outer : List Env) (s : Shared) (H : Hp) (E : XK) : Cx := (cxOf CX0 P w K mg base N_law "law" (defScope s_law) g cdv A outer s H E).nox
section
variable {P : Program} {w : World} {K : PySem.W.Frag} {mg : Str → Option Value} {base : Heap} {C CI CZ : Addr} {g : Addr} {cdv : Value} {A0 : Around} {outer0 : List Env} {s0 : Shared} {H0 : Hp} {Ex0 : XK}
theorem passE {X : Cx} {A : Around} {outer : List Env} {s : Shared} {H : Hp} {E : XK} {scope : Scope} {f c' : Addr} : Passes (L2.CX X.prog X.w) (lamCx X A outer s H E scope f c') E := passes_call (takes_of rfl rfl rfl rfl) (fun _ _ _ _ z => z)
/-- Ratio(value, 0) -/
def lam1 (B : All12 P w K mg base C CI CZ) : LamD (LX P w K mg base g cdv A0 outer0 s0 H0 Ex0) 6 where
  params := lamArgs lamE1
  body := lamBody lamE1
  scope := lamScope lamE1
  t := fun E σ H Q => ∃ v, σ[1]? = some (some v) ∧ ∀ H', Same H H' → IntV K H' v false ∧ ∀ d, H' d = none → E (.ref CI) (some d) (upd H' d (.xd [("value", v)]))
  L := lamS_by (show lamSB (defScope s_law) (lamScope lamE1) = true by decide +kernel)
  bare := fun _ _ _ => rfl
  bod := fun A outer s H E f c' r => PE.imp (pe_mk2 (E := E) B.M.L.makes (r.mono (by decide)) (passE (X := LX P w K mg base g cdv A0 outer0 s0 H0 Ex0)) rfl (pa_cons (pv 1) (pa_cons pe_int pa_nil))) (by
    rintro σ H Q ⟨v, e, z⟩
    refine ⟨v, e, fun x dx hx hd ne => ?_⟩
    obtain ⟨z1, z2⟩ := z _ (new_same (o := .ins C dx []) hx hd)
    exact ⟨x, dx, _, _, rfl, upd_same, .inr (.inl ⟨z1, z2⟩)⟩)
/-- Ratio(1, value) -/
def lam2 (B : All12 P w K mg base C CI CZ) : LamD (LX P w K mg base g cdv A0 outer0 s0 H0 Ex0) 6 where
  params := lamArgs lamE2
  body := lamBody lamE2
  scope := lamScope lamE2
  t := fun E σ H Q => ∃ v, σ[1]? = some (some v) ∧ ∀ H', Same H H' → IntV K H' v false ∧ ∀ d, H' d = none → E (.ref CI) (some d) (upd H' d (.xd [("value", v)]))
  L := lamS_by (show lamSB (defScope s_law) (lamScope lamE2) = true by decide +kernel)
  bare := fun _ _ _ => rfl
  bod := fun A outer s H E f c' r => PE.imp (pe_mk2 (E := E) B.M.L.makes (r.mono (by decide)) (passE (X := LX P w K mg base g cdv A0 outer0 s0 H0 Ex0)) rfl (pa_cons pe_int (pa_cons (pv 1) pa_nil))) (by
    rintro σ H Q ⟨v, e, z⟩
    refine ⟨v, e, fun x dx hx hd ne => ?_⟩
    obtain ⟨z1, z2⟩ := z _ (new_same (o := .ins C dx []) hx hd)
    exact ⟨x, dx, _, _, rfl, upd_same, .inr (.inr (.inl ⟨_, rfl, z1, z2⟩))⟩)
/-- Ratio(a, 0) -/
def lam3 (B : All12 P w K mg base C CI CZ) : LamD (LX P w K mg base g cdv A0 outer0 s0 H0 Ex0) 6 where
  params := lamArgs lamE3
  body := lamBody lamE3
  scope := lamScope lamE3
  t := fun E σ H Q => ∃ i : Int, σ[5]? = some (some (.int i)) ∧ ∀ H', Same H H' → E (.ref CZ) none H'
  L := lamS_by (show lamSB (defScope s_law) (lamScope lamE3) = true by decide +kernel)
  bare := fun _ _ _ => rfl
  bod := fun A outer s H E f c' r => PE.imp (pe_mk2 (E := E) B.M.L.makes (r.mono (by decide)) (passE (X := LX P w K mg base g cdv A0 outer0 s0 H0 Ex0)) rfl (pa_cons (pv 5) (pa_cons pe_int pa_nil))) (by
    rintro σ H Q ⟨i, e, z⟩
    refine ⟨_, e, fun x dx hx hd ne => ?_⟩
    exact ⟨x, dx, _, _, rfl, upd_same, .inr (.inr (.inr ⟨_, rfl, rfl, z _ (new_same hx hd)⟩))⟩)
/-- one.over(0) -/
def lam4 (B : All12 P w K mg base C CI CZ) : LamD (LX P w K mg base g cdv A0 outer0 s0 H0 Ex0) 6 where
  params := lamArgs lamE4
  body := lamBody lamE4
  scope := lamScope lamE4
  t := fun E σ H Q => ∃ (a : Addr) (p q : Int), σ[9]? = some (some (.ref a)) ∧ Rat C RFd H a p q ∧ Bd 31 p ∧ Bd 31 q ∧ ∀ H', Same H H' → E (.ref CZ) none H'
  L := lamS_by (show lamSB (defScope s_law) (lamScope lamE4) = true by decide +kernel)
  bare := fun _ _ _ => rfl
  bod := fun A outer s H E f c' r => PE.imp (pe_methO (E := E) (pv 9) B.M.L.T.cl B.overZ r (passE (X := LX P w K mg base g cdv A0 outer0 s0 H0 Ex0)) (pa_cons pe_int pa_nil)) (by
    rintro σ H Q ⟨a, p, q, e, R, bp, bq, z⟩
    obtain ⟨dx, ea⟩ := R.1
    exact ⟨_, e, a, dx, _, rfl, ea, rfl, a, _, p, q, 1, rfl, R, .inr ⟨rfl, rfl⟩, bp, bq, ⟨by decide, by decide⟩, z⟩)
/-- one.over(Ratio(0, d)) -/
def lam5 (B : All12 P w K mg base C CI CZ) : LamD (LX P w K mg base g cdv A0 outer0 s0 H0 Ex0) 6 where
  params := lamArgs lamE5
  body := lamBody lamE5
  scope := lamScope lamE5
  t := fun E σ H Q => ∃ (a : Addr) (p q d : Int), σ[9]? = some (some (.ref a)) ∧ Rat C RFd H a p q ∧ Bd 31 p ∧ Bd 31 q ∧ σ[8]? = some (some (.int d)) ∧ d ≠ 0 ∧ Bd 31 d ∧ ∀ H', Same H H' → E (.ref CZ) none H'
  L := lamS_by (show lamSB (defScope s_law) (lamScope lamE5) = true by decide +kernel)
  bare := fun _ _ _ => rfl
  bod := fun A outer s H E f c' r => PE.imp (pe_methO (E := E) (pv 9) B.M.L.T.cl B.overZ r (passE (X := LX P w K mg base g cdv A0 outer0 s0 H0 Ex0)) (pa_cons (pe_mk2 (E := E) B.M.L.makes (r.mono (by decide)) (passE (X := LX P w K mg base g cdv A0 outer0 s0 H0 Ex0)) rfl (pa_cons pe_int (pa_cons (pv 8) pa_nil))) pa_nil)) (by
    rintro σ H Q ⟨a, p, q, d, e, R, bp, bq, e8, d0, bd, z⟩
    obtain ⟨da0, ea0⟩ := R.1
    refine ⟨_, e, a, da0, _, rfl, ea0, rfl, _, e8, fun x dx hx hd ne => ?_⟩
    refine init_rat (Q := fun y H1 => spOverZ C CZ [.ref a, y] H1 Q E) (p := 0) d0 ⟨by decide, by decide⟩ (Bd.sm (bd.up (by decide))) hx hd fun c H' p' q' s1 R' eq l1 l2 => ?_
    have p0 : p' = 0 := by
      have : (0 : Int).natAbs = 0 := rfl
      omega
    subst p0
    have bq' : Bd 31 q' := bd_abs.mpr (Nat.lt_of_le_of_lt l2 (bd_abs.mp bd))
    exact ⟨a, _, p, q, q', rfl, R.same s1, .inl ⟨c, rfl, R'⟩, bp, bq, bq', fun H2 s2 => z _ (s1.trans s2)⟩)
end
end
/-! ### what stays: all but tables, all but a pool and tables -/
section
open LamX
theorem SqL.extN {K : PySem.W.Frag} {H H' : Hp} {a : Addr} {xs : List V} (e : ExtN H H') (h : SqL K H a xs) : SqL K H' a xs := by
  rcases h with (h | ⟨o, h⟩) | h
  · exact .inl (.inl (e _ _ h (fun ps z => by cases z)))
  · exact .inl (.inr ⟨o, e _ _ h (fun ps z => by cases z)⟩)
  · exact .inr h
theorem ExtN.same {H H' : Hp} (e : Same H H') : ExtN H H' := fun b o h _ => e b o h
/-- all but what stands at pp, and tables, stays -/
def Kp (pp : Addr) (H H' : Hp) : Prop := ∀ b o, H b = some o → b ≠ pp → (∀ ps, o ≠ .tbl ps) → H' b = some o
theorem Kp.refl {pp : Addr} {H : Hp} : Kp pp H H := fun _ _ h _ _ => h
theorem Kp.trans {pp : Addr} {H H1 H2 : Hp} (a : Kp pp H H1) (b : Kp pp H1 H2) : Kp pp H H2 := fun c o h n t => b c o (a c o h n t) n t
theorem Keep.kp {pp : Addr} {H H' : Hp} (e : Keep pp H H') : Kp pp H H' := fun b o h n _ => e b o h n
theorem kp_ext {pp : Addr} {H H' : Hp} (e : ExtN H H') : Kp pp H H' := fun b o h _ t => e b o h t
theorem kp_same {pp : Addr} {H H' : Hp} (e : Same H H') : Kp pp H H' := fun b o h _ _ => e b o h
theorem Kp.ext {pp : Addr} {H0 H H' : Hp} (e : Kp pp H H') (n : H0 pp = none) (f : ExtN H0 H) : ExtN H0 H' := fun b o h t => e b o (f b o h t) (ne_of_none h n) t
theorem PoolAt.ext {H H' : Hp} {p : Addr} (h : PoolAt H p) (e : ExtN H H') : PoolAt H' p := by
  obtain ⟨c, s, h0, h1, h2⟩ := h
  exact ⟨c, s, h0, h1, e _ _ h2 (fun ps z => by cases z)⟩
theorem Rat.kp {C : Addr} {RF : Int → Int → List (Str × V)} {H H' : Hp} {a pp : Addr} {p q : Int} (r : Rat C RF H a p q) (P : PoolAt H pp) (e : Kp pp H H') : Rat C RF H' a p q := by
  obtain ⟨⟨dx, h⟩, z⟩ := r
  obtain ⟨c, s, h0, h1, h2⟩ := P
  exact ⟨⟨dx, e _ _ h (fun m => by rw [m, h2] at h; cases h) (fun ps z => by cases z)⟩, z⟩
theorem Rat.ext {C : Addr} {RF : Int → Int → List (Str × V)} {H H' : Hp} {a : Addr} {p q : Int} (r : Rat C RF H a p q) (e : ExtN H H') : Rat C RF H' a p q := by
  obtain ⟨⟨dx, h⟩, z⟩ := r
  exact ⟨⟨dx, e _ _ h (fun ps z => by cases z)⟩, z⟩
theorem Tabs.but {T : List (Addr × Str)} {H H' : Hp} {pp : Addr} {xs : List V} (t : Tabs T H) (h : H pp = some (.lst xs)) (k : ∀ b o, H b = some o → b ≠ pp → H' b = some o) : Tabs T H' := fun p hp => by
  obtain ⟨ps, a1, a2, a3⟩ := t p hp
  refine ⟨ps, k _ _ a1 (fun m => by rw [m, h] at a1; cases a1), a2, fun pos cv hc => ?_⟩
  obtain ⟨c0, e1, e2⟩ := a3 pos cv hc
  exact ⟨c0, e1, k _ _ e2 (fun m => by rw [m, h] at e2; exact absurd (Option.some.inj e2) (fun z => by unfold CodeO at z; cases z))⟩
theorem Tabs.pool {T : List (Addr × Str)} {H H' : Hp} {pp : Addr} (t : Tabs T H) (P : PoolAt H pp) (k : Keep pp H H') : Tabs T H' := by
  obtain ⟨c, s, h0, h1, h2⟩ := P
  exact Tabs.but t h2 k
/-! ### the values that are no integers -/
def VOk (K : PySem.W.Frag) (H : Hp) (v : V) : Prop := ∃ pd : PyData, pd.hasDict = false ∧ pd.showable = true ∧ pd.depth + 1 ≤ 64 ∧ pd.shown.length ≤ sizeLine ∧ ∀ H', ExtN H H' → Dp K H' v pd ∧ IntV K H' v false
theorem dpInts2 {K : PySem.W.Frag} {H : Hp} (i j : Int) : DpAll K H [.int i, .int j] [.int i, .int j] := .cons (.int _) (.cons (.int _) .nil)
theorem vok_non {K : PySem.W.Frag} {H : Hp} : VOk K H .non := ⟨.none, rfl, rfl, by decide, by decide +kernel, fun H' _ => ⟨.non, .inr (.inr ⟨_, .base .non, kit_ty (show kitB "NoneType" "int" = some false by decide +kernel), rfl⟩)⟩⟩
theorem vok_bl {K : PySem.W.Frag} {H : Hp} {b : Bool} : VOk K H (.bl b) := ⟨.bool b, rfl, rfl, by show 0 + 1 ≤ 64; decide, by cases b <;> decide +kernel, fun H' _ => ⟨.bl _, .inr (.inl ⟨_, rfl, rfl⟩)⟩⟩
theorem vok_one {K : PySem.W.Frag} {H : Hp} : VOk K H (.str "1") := ⟨.str "1", rfl, by decide +kernel, by decide +kernel, by decide +kernel, fun H' _ => ⟨.str _, .inr (.inr ⟨_, .base (.str _), kit_ty (show kitB "str" "int" = some false by decide +kernel), rfl⟩)⟩⟩
theorem vok_lst {K : PySem.W.Frag} {H : Hp} {l : Addr} (h : H l = some (.lst [.int 1])) : VOk K H (.ref l) := ⟨.list [.int 1], by decide +kernel, by decide +kernel, by decide +kernel, by decide +kernel, fun H' e => by
  have h' := e _ _ h (fun ps z => by cases z)
  exact ⟨.lst (SqL.of h') (.cons (.int _) .nil), .inr (.inr ⟨_, .base (.lst h'), kit_ty (show kitB "list" "int" = some false by decide +kernel), rfl⟩)⟩⟩
theorem vok_tup {K : PySem.W.Frag} {H : Hp} {l : Addr} (h : H l = some (.tup [.int 1, .int 2])) : VOk K H (.ref l) := ⟨.tuple [.int 1, .int 2], by decide +kernel, by decide +kernel, by decide +kernel, by decide +kernel, fun H' e => by
  have h' := e _ _ h (fun ps z => by cases z)
  exact ⟨.tup (.inl (.inl h')) (dpInts2 1 2), .inr (.inr ⟨_, .base (.tup h'), kit_ty (show kitB "tuple" "int" = some false by decide +kernel), rfl⟩)⟩⟩
theorem VOk.ext {K : PySem.W.Frag} {H H' : Hp} {v : V} (h : VOk K H v) (e : ExtN H H') : VOk K H' v := by
  obtain ⟨pd, a, b, c, d, z⟩ := h
  exact ⟨pd, a, b, c, d, fun H2 e2 => z H2 (e.trans e2)⟩
/-- what the first two lambdas ask of a value that is no integer -/
theorem val_told {K : PySem.W.Frag} {CI CZ : Addr} {v : V} {G : Hp} {Qk : VK} (hv : VOk K G v) (q : ∀ (pd : PyData) (G' : Hp), Same G G' → Dp K G' v pd → pd.hasDict = false → pd.showable = true → pd.depth + 1 ≤ 64 → pd.shown.length ≤ sizeLine → Qk (.str pd.shown) G') :
    ∀ H', Same G H' → IntV K H' v false ∧ ∀ d, H' d = none → EGood K CI CZ Qk (.ref CI) (some d) (upd H' d (.xd [("value", v)])) := fun H' s => by
  obtain ⟨pd, a, b, c, d, z⟩ := hv
  refine ⟨(z H' (ExtN.same s)).2, fun dx hd => ?_⟩
  have s2 : Same G (upd H' dx (.xd [("value", v)])) := s.trans (Same.new hd)
  have dp := (z _ (ExtN.same s2)).1
  exact .inl ⟨rfl, dx, _, v, pd, rfl, upd_same, by simp [List.lookup], dp, a, b, c, d, q pd _ s2 dp a b c d⟩
theorem oneP_of {K : PySem.W.Frag} {mg : Str → Option Value} (h : Has K mg "_law_told" s__law_told ["_law_call"]) : ∃ g cdv, OneP K mg "_law_told" "_law_call" N__law_told s__law_told g cdv := by
  obtain ⟨f, fd, m, b, F⟩ := h
  obtain ⟨oc, od, kV, doc, pm, an, cdv, ct, osl, rfl, lk, hcd⟩ := F.ex
  exact ⟨f, cdv, m, F.kp, ⟨oc, kV, doc, pm, ct, od, an, osl, lk, b⟩, hcd, sc__law_told, rfl, .inl (by decide +kernel)⟩
/-! ### the order of two quotients -/
theorem cross_sign {x y m k : Int} (e : x * k = y * m) (hm : 0 < m) : (0 < k → ((x < 0 ↔ y < 0) ∧ (x = 0 ↔ y = 0))) ∧ (k < 0 → ((x < 0 ↔ -y < 0) ∧ (x = 0 ↔ -y = 0))) := by
  have ypos : ∀ {a b : Int}, 0 < b → 0 < a → 0 < a * b := fun hb ha => Int.mul_pos ha hb
  have yneg : ∀ {a b : Int}, 0 < b → a < 0 → a * b < 0 := fun hb ha => Int.mul_neg_of_neg_of_pos ha hb
  have tri : ∀ {a b c d : Int}, 0 < b → 0 < d → a * b = c * d → ((a < 0 ↔ c < 0) ∧ (a = 0 ↔ c = 0)) := by
    intro a b c d hb hd h
    rcases Int.lt_trichotomy a 0 with h1 | h1 | h1
    · have := yneg hb h1
      rcases Int.lt_trichotomy c 0 with h2 | h2 | h2
      · constructor <;> constructor <;> intro _ <;> omega
      · rw [h2, Int.zero_mul] at h
        omega
      · have := ypos hd h2
        omega
    · rw [h1, Int.zero_mul] at h
      rcases Int.lt_trichotomy c 0 with h2 | h2 | h2
      · have := yneg hd h2
        omega
      · constructor <;> constructor <;> intro _ <;> omega
      · have := ypos hd h2
        omega
    · have := ypos hb h1
      rcases Int.lt_trichotomy c 0 with h2 | h2 | h2
      · have := yneg hd h2
        omega
      · rw [h2, Int.zero_mul] at h
        omega
      · constructor <;> constructor <;> intro _ <;> omega
  refine ⟨fun hk => tri hk hm e, fun hk => ?_⟩
  exact tri (a := x) (b := -k) (c := -y) (d := m) (by omega) hm (by rw [Int.mul_neg, e, Int.neg_mul])
theorem order_ok {p q r s a b c d : Int} (h1 : p * b = a * q) (h2 : r * d = c * s) (hq : 0 < q) (hs : 0 < s) (hb : b ≠ 0) (hd : d ≠ 0) :
    (p * s < r * q ↔ (a * d - c * b) * ((1 - 2 * (if decide (b < 0) = true then 1 else 0)) * (1 - 2 * (if decide (d < 0) = true then 1 else 0))) < 0) ∧
    (p * s = r * q ↔ (a * d - c * b) * ((1 - 2 * (if decide (b < 0) = true then 1 else 0)) * (1 - 2 * (if decide (d < 0) = true then 1 else 0))) = 0) := by
  have e : (p * s - r * q) * (b * d) = (a * d - c * b) * (q * s) := by
    have e1 : p * s * (b * d) = a * q * (s * d) := by rw [← h1]; grind
    have e2 : r * q * (b * d) = c * s * (q * b) := by rw [← h2]; grind
    grind
  have qs : 0 < q * s := Int.mul_pos hq hs
  obtain ⟨z1, z2⟩ := cross_sign e qs
  have key : (if decide (b < 0) = true then (1 : Int) else 0) = (if b < 0 then 1 else 0) := by simp
  have key2 : (if decide (d < 0) = true then (1 : Int) else 0) = (if d < 0 then 1 else 0) := by simp
  rw [key, key2]
  by_cases hb0 : b < 0 <;> by_cases hd0 : d < 0
  · have : 0 < b * d := Int.mul_pos_of_neg_of_neg hb0 hd0
    obtain ⟨w1, w2⟩ := z1 this
    rw [if_pos hb0, if_pos hd0, show (1 - 2 * (1 : Int)) * (1 - 2 * 1) = 1 by decide, Int.mul_one]
    constructor <;> omega
  · have : b * d < 0 := Int.mul_neg_of_neg_of_pos hb0 (by omega)
    obtain ⟨w1, w2⟩ := z2 this
    rw [if_pos hb0, if_neg hd0, show (1 - 2 * (1 : Int)) * (1 - 2 * 0) = -1 by decide, Int.mul_neg, Int.mul_one]
    constructor <;> omega
  · have : b * d < 0 := Int.mul_neg_of_pos_of_neg (by omega) hd0
    obtain ⟨w1, w2⟩ := z2 this
    rw [if_neg hb0, if_pos hd0, show (1 - 2 * (0 : Int)) * (1 - 2 * 1) = -1 by decide, Int.mul_neg, Int.mul_one]
    constructor <;> omega
  · have : 0 < b * d := Int.mul_pos (by omega) (by omega)
    obtain ⟨w1, w2⟩ := z1 this
    rw [if_neg hb0, if_neg hd0, show (1 - 2 * (0 : Int)) * (1 - 2 * 0) = 1 by decide, Int.mul_one]
    constructor <;> omega
theorem order_same {p q p2 q2 a b : Int} (h1 : p * b = a * q) (h2 : p2 * b = a * q2) (hb : b ≠ 0) : (p * q2 < p2 * q ↔ (0 : Int) < 0) ∧ (p * q2 = p2 * q ↔ (0 : Int) = 0) := by
  have e : p * q2 = p2 * q := by
    have e1 : b * (p * q2) = b * (p2 * q) := by
      have a1 : b * (p * q2) = a * q * q2 := by rw [← h1]; grind
      have a2 : b * (p2 * q) = a * q2 * q := by rw [← h2]; grind
      grind
    exact Int.eq_of_mul_eq_mul_left hb e1
  constructor <;> omega
theorem init_rat2 {K : PySem.W.Frag} {C CI CZ : Addr} {H : Hp} {Qp : Hp → Prop} {E : XK} {p q : Int} {x dx : Addr} (q0 : q ≠ 0) (sp : Sm p) (sq : Sm q) (hx : H x = none) (hd : H dx = none)
    (z : ∀ H' p' q', Same H H' → Rat C RFd H' x p' q' → p' * q = p * q' → p'.natAbs ≤ p.natAbs → q'.natAbs ≤ q.natAbs → Qp H') :
    spInit K C CI CZ [.ref x, .int p, .int q] (upd (upd H dx (.own x)) x (.ins C dx [])) (fun v H2 => v = .non ∧ Qp H2) E := by
  refine ⟨x, dx, _, _, rfl, upd_same, .inl ⟨p, q, rfl, rfl, q0, sp, sq, fun p' q' h1 h2 h3 h4 h5 => ⟨rfl, ?_⟩⟩⟩
  rw [upd_upd]
  exact z _ p' q' (new_same hx hd) ⟨⟨dx, upd_same⟩, h1, h2⟩ h3 h4 h5
theorem sm_if (b : Bool) : Sm 2 ∧ Sm (if b = true then (1 : Int) else 0) := by cases b <;> exact ⟨⟨by decide, by decide⟩, ⟨by decide, by decide⟩⟩
theorem sm_sgn (b : Bool) : Sm (1 - 2 * (if b = true then (1 : Int) else 0)) := by cases b <;> exact ⟨by decide, by decide⟩
theorem sm_sgn2 (b d : Bool) : Sm ((1 - 2 * (if b = true then (1 : Int) else 0)) * (1 - 2 * (if d = true then (1 : Int) else 0))) := by cases b <;> cases d <;> exact ⟨by decide, by decide⟩
theorem lamF_ext {X : Cx} {f c' : Addr} {G G' : Hp} {params : Arguments} {body : Expr} {scope : Scope} (h : LamF X f params body scope c' G) (e : ExtN G G') : LamF X f params body scope c' G' := ⟨e _ _ h.1 (fun ps => lamO_tbl ps), e _ _ h.2 (fun ps => codeO_ne ps)⟩
theorem lamF_but {X : Cx} {f c' z : Addr} {G G' : Hp} {params : Arguments} {body : Expr} {scope : Scope} {xs : List V} (h : LamF X f params body scope c' G) (l : G z = some (.lst xs)) (k : ∀ b o, G b = some o → b ≠ z → G' b = some o) : LamF X f params body scope c' G' :=
  ⟨k _ _ h.1 (fun m => by
    have e := h.1
    rw [m, l] at e
    have e2 := Option.some.inj e
    unfold LamO at e2
    cases e2), k _ _ h.2 (fun m => by
    have e := h.2
    rw [m, l] at e
    have e2 := Option.some.inj e
    unfold CodeO at e2
    cases e2)⟩
theorem three_of {α : Type} {l : List α} (h : l.length = 3) : ∃ x y z, l = [x, y, z] := by
  match l, h with
  | [x, y, z], _ => exact ⟨x, y, z, rfl⟩
abbrev zeroD : PyData := .list [.str "zero", .bool true]
theorem dp_zero {K : PySem.W.Frag} {H : Hp} {r : Addr} (h : H r = some (.lst [.str "zero", .bl true])) : Dp K H (.ref r) zeroD := .lst (SqL.of h) (.cons (.str _) (.cons (.bl _) .nil))
theorem dp_three {K : PySem.W.Frag} {H : Hp} {l r1 r2 r3 : Addr} (h : H l = some (.lst [.ref r1, .ref r2, .ref r3])) (h1 : H r1 = some (.lst [.str "zero", .bl true])) (h2 : H r2 = some (.lst [.str "zero", .bl true])) (h3 : H r3 = some (.lst [.str "zero", .bl true])) :
    Dp K H (.ref l) (.list [zeroD, zeroD, zeroD]) := .lst (SqL.of h) (.cons (dp_zero h1) (.cons (dp_zero h2) (.cons (dp_zero h3) .nil)))
end
/-! ### the law -/
section
open LamX
variable {P : Program} {w : World} {K : PySem.W.Frag} {mg : Str → Option Value} {base : Heap} {C CI CZ : Addr}
/-- what stands to the right of a ratio has no say first -/
structure No12 (K : PySem.W.Frag) (C : Addr) : Prop where
  int : PySem.W.notFirst K C (.type "int") = true
  tup : PySem.W.notFirst K C (.type "tuple") = true
  non : PySem.W.notFirst K C (.type "NoneType") = true
abbrev qLam : Str := (PyProof.Rows.envOfC "law" (defScope s_law) 0 0 .none).qual ++ "<lambda>"
theorem un_ownO {X : Cx} {k : Nat} {ps : List Str} {sp : Sp} {E : XK} (m : OwnM X.prog X.w X.K X.mg X.base C k "__neg__" ps sp) (hr : Room k X.A) (hx : Passes (L2.CX X.prog X.w) X E) : UnR X (unaryOp .USub) fun x H Q => ∃ a dx fs, x = .ref a ∧ H a = some (.ins C dx fs) ∧ sp [.ref a] H Q E := by
  obtain ⟨f, fd, hs, hf, hb, F⟩ := m
  exact un_own F hr hb hx hs hf
theorem op_cmpTO {X : Cx} {k : Nat} {ps : List Str} {sp : Sp} {E : XK} {op : CmpOp} {T : String} (m : OwnM X.prog X.w X.K X.mg X.base C k (cmpInfo op).2.1 ps sp) (hr : Room k X.A) (hx : Passes (L2.CX X.prog X.w) X E) (hn : PySem.W.notFirst X.K C (.type T) = true) (ho : compareOp op = richCompare op) : OpR X (compareOp op) (rOwnT C T sp E) := by
  obtain ⟨f, fd, hs, hf, hb, F⟩ := m
  exact op_cmpT F hr hb hx hs hf hn ho
theorem op_eqRefO {X : Cx} {k : Nat} {ps : List Str} {sp : Sp} {E : XK} {op : CmpOp} {T : String} (m : OwnM X.prog X.w X.K X.mg X.base C k (cmpInfo op).2.1 ps sp) (hr : Room k X.A) (hx : Passes (L2.CX X.prog X.w) X E) (hn : PySem.W.notFirst X.K C (.type T) = true) (ho : compareOp op = richCompare op) :
    OpR X (compareOp op) (fun x y H Q => ∃ a b dx fs, x = .ref a ∧ y = .ref b ∧ H a = some (.ins C dx fs) ∧ (∀ h : Heap, HOk X.prog X.w H h → ∃ o : Obj, h.get? b = some o ∧ o.cls = .type T) ∧ sp [.ref a, .ref b] H Q E) := by
  obtain ⟨f, fd, hs, hf, hb, F⟩ := m
  exact op_eqRef F hr hb hx hs hf hn ho
theorem op_neTO {X : Cx} {k : Nat} {ps : List Str} {sp : Sp} {E : XK} {T : String} (N : NeO X.K C) (m : OwnM X.prog X.w X.K X.mg X.base C k "__eq__" ps sp) (hr : Room (k + 1) X.A) (hx : Passes (L2.CX X.prog X.w) X E) (hn : PySem.W.notFirst X.K C (.type T) = true) :
    OpR X (compareOp .NotEq) (fun x y H Q => ∃ a dx fs, x = .ref a ∧ H a = some (.ins C dx fs) ∧ (∀ u : Value, RelV y u → typeOf u = pure (.type T)) ∧ sp [.ref a, y] H (rNotV Q) E) := by
  obtain ⟨f, fd, hs, hf, hb, F⟩ := m
  exact op_neT ⟨N.ne, N.ob, hs, hf⟩ F hr hb hx hn
end
section
open LamX
variable {P : Program} {w : World} {K : PySem.W.Frag} {mg : Str → Option Value} {base : Heap} {C CI CZ : Addr}
def spLaw (K : PySem.W.Frag) (Pt : Addr) : Sp := fun vs H Q _ => ∃ (a : Addr) (ns : List Int), vs = [.ref a] ∧ SqL K H a (ns.map V.int) ∧ ns.length ≤ 63 ∧ H Pt = some (.tbl #[]) ∧ ∀ H', Q (.bl true) H'
theorem ok_law {f g c Pt : Addr} {cdv : Value} {oc kV doc pm ct : Value} {an od : Option Addr} {osl : Array (Option Value)} (lk : K.lookup f = some ⟨oc, od, .func (PySem.W.fnOf "law" "law" (defArgs s_law) (defBody s_law) (defScope s_law) .none kV doc pm an (.ref c) ct), osl⟩) (hcd : PySem.W.codeIn K (.ref c) "law" = true)
    (TT : TTx K mg CI CZ) (B : All12 P w K mg base C CI CZ) (no : No12 K C) (TB : TabB base mg c Pt) (hP : OneP K mg "_law_told" "_law_call" N__law_told s__law_told g cdv) (T : Txt12 mg)
    (O__law_pool : Ok P w K mg base 1 "_law_pool" ["_law_script", "_law_k"] (spPool K)) (O__law_integer : Ok P w K mg base 3 "_law_integer" ["_law_pool_here"] spInteger) (O__law_is : Ok P w K mg base 3 "_law_is" ["_law_ratio", "_law_above", "_law_below"] (spIs C RFd)) (O__law_drawn : Ok P w K mg base 4 "_law_drawn" ["_law_pool_here"] spDrawn)
    (O__law_order_right : Ok P w K mg base 9 "_law_order_right" ["_law_one", "_law_other", "_law_apart"] (spOrder C RFd)) (O__law_two_right : Ok P w K mg base 11 "_law_two_right" ["_law_one", "_law_other", "_law_four"] (spTwo C RFd)) (O__law_wholes_right : Ok P w K mg base 11 "_law_wholes_right" ["_law_one", "_law_whole", "_law_a", "_law_b"] (spWholes C RFd)) :
    FnG P w K mg base CX0 12 f (PySem.W.fnOf "law" "law" (defArgs s_law) (defBody s_law) (defScope s_law) .none kV doc pm an (.ref c) ct) ["_law_script"] (spLaw K Pt) := by
  refine fnG_of lk hcd sc_law (fun vs H Q E h => ?_) fun A outer s0 H vs Q E hG hr hsp => ?_
  · obtain ⟨a, ns, rfl, _⟩ := h
    rfl
  · obtain ⟨a, ns, rfl, hS, hlen, tb0, q⟩ := hsp
    have hu : (LX P w K mg base f (.ref c) A outer s0 H E).A.units + 64 < cLine := hr.units
    have inT : (Pt, qLam) ∈ [(Pt, qLam)] := by simp
    have one : ∀ p ∈ [(Pt, qLam)], p.1 = Pt → p.2 = qLam := fun p hp _ => by
      rw [List.mem_singleton.mp hp]
    have T0 : Tabs [(Pt, qLam)] H := fun p hp => by
      rw [List.mem_singleton.mp hp]
      exact TabS.nil tb0
    refine ⟨_, PSs.nox (X := cxOf CX0 P w K mg base N_law "law" (defScope s_law) f (.ref c) A outer s0 H E) (pss_cons (ps_for PassesOwn.never rfl (pi_list (pe_lst (pa_cons pe_non (pa_cons pe_bl (pa_cons pe_str (pa_cons (pe_lst (pa_cons pe_int pa_nil)) (pa_cons (pe_tup (pa_cons pe_int (pa_cons pe_int pa_nil))) pa_nil))))))) (pg_name (i := 1) sc_law.nd rfl (.inr rfl))
        (pss_cons (ps_if (pt_cmpR op_ne (pe_handX (k := 6) hP (hr.mono (by decide)) (told_handed TT hG (hr.mono (by decide))) rfl (pe_lamV (T := [(Pt, qLam)]) TB rfl inT one (lamS_by (show lamSB (defScope s_law) (lamScope lamE1) = true by decide +kernel)) rfl)) (pe_callB (call_repr hG hu) (by rfl) TT.repr (by decide +kernel) (pa_cons (pv 1) pa_nil)) (nomark _))
          (pss_one (ps_ret pe_bl))
          pss_nil)
        (pss_one (ps_if (pt_cmpR op_ne (pe_handX (k := 6) hP (hr.mono (by decide)) (told_handed TT hG (hr.mono (by decide))) rfl (pe_lamV (T := [(Pt, qLam)]) TB rfl inT one (lamS_by (show lamSB (defScope s_law) (lamScope lamE2) = true by decide +kernel)) rfl)) (pe_callB (call_repr hG hu) (by rfl) TT.repr (by decide +kernel) (pa_cons (pv 1) pa_nil)) (nomark _))
          (pss_one (ps_ret pe_bl))
          pss_nil))))
      (pss_cons (ps_for PassesOwn.never rfl (pi_range1 (by rfl) T.range (pa_cons (pe_callB (call_max2 rfl) (by rfl) T.max (by decide +kernel) (pa_cons pe_int (pa_cons (pe_callB (call_min2 rfl) (by rfl) T.min (by decide +kernel) (pa_cons (pe_callB call_len_seq (by rfl) T.len (by decide +kernel) (pa_cons (pv 0) pa_nil)) (pa_cons pe_int pa_nil))) pa_nil))) pa_nil)) (pg_name (i := 2) sc_law.nd rfl (.inl rfl))
        (pss_cons (ps_set (i := 3) sc_law.nd rfl (.inl rfl) (pe_cO O__law_pool (hr.mono (by decide)) pass0 rfl (pa_cons (pv 0) (pa_cons (pv 2) pa_nil))))
        (pss_one (ps_for PassesOwn.never rfl (pi_range1 (by rfl) T.range (pa_cons pe_int pa_nil)) (pg_name (i := 4) sc_law.nd rfl (.inl rfl))
          (pss_cons (ps_asg (pe_cO O__law_drawn (hr.mono (by decide)) pass0 rfl (pa_cons (pv 3) pa_nil)) (pg_lst (by rfl) (pgs_cons (pg_name (i := 5) sc_law.nd rfl (.inr rfl)) (pgs_cons (pg_name (i := 6) sc_law.nd rfl (.inl rfl)) pgs_nil))))
          (pss_cons (ps_asg (pe_cO O__law_drawn (hr.mono (by decide)) pass0 rfl (pa_cons (pv 3) pa_nil)) (pg_lst (by rfl) (pgs_cons (pg_name (i := 7) sc_law.nd rfl (.inl rfl)) (pgs_cons (pg_name (i := 8) sc_law.nd rfl (.inr rfl)) pgs_nil))))
          (pss_cons (ps_asg (pe_tup (pa_cons (pe_mk2 (E := E0) B.M.L.makes (hr.mono (by decide)) passL rfl (pa_cons (pv 5) (pa_cons (pv 6) pa_nil))) (pa_cons (pe_mk2 (E := E0) B.M.L.makes (hr.mono (by decide)) passL rfl (pa_cons (pv 7) (pa_cons (pv 8) pa_nil))) (pa_cons (pe_cO O__law_integer (hr.mono (by decide)) pass0 rfl (pa_cons (pv 3) pa_nil)) pa_nil)))) (pg_tup (by rfl) (pgs_cons (pg_name (i := 9) sc_law.nd rfl (.inr rfl)) (pgs_cons (pg_name (i := 10) sc_law.nd rfl (.inl rfl)) (pgs_cons (pg_name (i := 11) sc_law.nd rfl (.inl rfl)) pgs_nil)))))
          (pss_cons (ps_if (PW.pt (pw_or (pt_not (pt_val (pe_cO O__law_is (hr.mono (by decide)) pass0 rfl (pa_cons (pv 9) (pa_cons (pv 5) (pa_cons (pv 6) pa_nil)))))) (pw_or (pt_not (pt_val (pe_cO O__law_is (hr.mono (by decide)) pass0 rfl (pa_cons (pe_mk1 (E := E0) B.M.L.makes (hr.mono (by decide)) passL rfl (pa_cons (pv 11) pa_nil)) (pa_cons (pv 11) (pa_cons pe_int pa_nil)))))) (pw_or1 (pt_not (pt_val (pe_cO O__law_is (hr.mono (by decide)) pass0 rfl (pa_cons (pe_un (un_ownO B.neg (hr.mono (by decide)) passL) (pv 9)) (pa_cons (pe_op op_sub pe_int (pv 5)) (pa_cons (pv 6) pa_nil)))))))))) (pss_one (ps_ret pe_bl)) pss_nil)
          (pss_cons (ps_if (PW.pt (pw_or (pt_not (pt_val (pe_cO O__law_two_right (hr.mono (by decide)) pass0 rfl (pa_cons (pv 9) (pa_cons (pv 10) (pa_cons (pe_lst (pa_cons (pv 5) (pa_cons (pv 6) (pa_cons (pv 7) (pa_cons (pv 8) pa_nil))))) pa_nil)))))) (pw_or1 (pt_not (pt_val (pe_cO O__law_wholes_right (hr.mono (by decide)) pass0 rfl (pa_cons (pv 9) (pa_cons (pv 11) (pa_cons (pv 5) (pa_cons (pv 6) pa_nil))))))))))
            (pss_one (ps_ret pe_bl))
            pss_nil)
          (pss_cons (ps_set (i := 12) sc_law.nd rfl (.inl rfl) (pe_op op_mulS (pe_op op_sub pe_int (pe_op op_mulS pe_int (pe_callTy call_int1 (by rfl) T.int (by decide +kernel) (pa_cons (pe_cmpR op_lt (pv 6) pe_int (nomark _)) pa_nil)))) (pe_op op_sub pe_int (pe_op op_mulS pe_int (pe_callTy call_int1 (by rfl) T.int (by decide +kernel) (pa_cons (pe_cmpR op_lt (pv 8) pe_int (nomark _)) pa_nil))))))
          (pss_cons (ps_if (PW.pt (pw_or (pt_not (pt_val (pe_cO O__law_order_right (hr.mono (by decide)) pass0 rfl (pa_cons (pv 9) (pa_cons (pv 10) (pa_cons (pe_op op_mulS (pe_op op_sub (pe_op op_mulS (pv 5) (pv 8)) (pe_op op_mulS (pv 7) (pv 6))) (pv 12)) pa_nil)))))) (pw_or1 (pt_not (pt_val (pe_cO O__law_order_right (hr.mono (by decide)) pass0 rfl (pa_cons (pv 9) (pa_cons (pe_mk2 (E := E0) B.M.L.makes (hr.mono (by decide)) passL rfl (pa_cons (pv 5) (pa_cons (pv 6) pa_nil))) (pa_cons pe_int pa_nil)))))))))
            (pss_one (ps_ret pe_bl))
            pss_nil)
          (pss_cons (ps_if (PW.pt (pw_or (pt_cmpR (op_cmpTO (op := .Eq) (T := "int") B.eqA (hr.mono (by decide)) passL no.int rfl) (pv 9) (pv 11) (nomark _)) (pw_or (pt_cmpR (op_eqRefO (op := .Eq) (T := "tuple") B.eqA (hr.mono (by decide)) passL no.tup rfl) (pv 9) (pe_tup (pa_cons (pe_propO (pv 9) B.M.L.T.cl B.pT (hr.mono (by decide)) passL) (pa_cons (pe_propO (pv 9) B.M.L.T.cl B.pB (hr.mono (by decide)) passL) pa_nil))) (nomark _)) (pw_or1 (pt_not (pt_cmpR (op_neTO (T := "NoneType") B.ne B.eqA (hr.mono (by decide)) passL no.non) (pv 9) pe_non (nomark _)))))))
            (pss_one (ps_ret pe_bl))
            pss_nil)
          (pss_cons (ps_set (i := 13) sc_law.nd rfl (.inl rfl) (pe_lst (pa_cons (pe_lamV (T := [(Pt, qLam)]) TB rfl inT one (lamS_by (show lamSB (defScope s_law) (lamScope lamE3) = true by decide +kernel)) rfl) pa_nil)))
          (pss_cons (ps_expr (pe_bm PySem.F.plainAttrs_list PySem.F.slot_list_append PySem.F.type_list_append mt_append (pv 13) (pa_cons (pe_lamV (T := [(Pt, qLam)]) TB rfl inT one (lamS_by (show lamSB (defScope s_law) (lamScope lamE4) = true by decide +kernel)) rfl) pa_nil)))
          (pss_cons (ps_expr (pe_bm PySem.F.plainAttrs_list PySem.F.slot_list_append PySem.F.type_list_append mt_append (pv 13) (pa_cons (pe_lamV (T := [(Pt, qLam)]) TB rfl inT one (lamS_by (show lamSB (defScope s_law) (lamScope lamE5) = true by decide +kernel)) rfl) pa_nil)))
          (pss_one (ps_if (PW.pt (pw_or (pt_cmpR (op_neD hr.units) (pe_lcB (own := [("_law_call", 14)]) (g := (gName 14)) rfl sc_law.nd (pi_list (pv 13)) (blkOk_by (N := N_law) (sc := defScope s_law) (by decide +kernel)) (fun _ _ _ _ _ => (pg_name (i := 14) sc_law.nd rfl (.inl rfl))) (fun _ _ _ _ _ _ _ bk => (pe_handB (k := 6) bk hP (hr.mono (by decide)) (told_handed TT hG (hr.mono (by decide))) rfl (pv 14)))) (pe_op op_rep (pe_lst (pa_cons (pe_lst (pa_cons pe_str (pa_cons pe_bl pa_nil))) pa_nil)) pe_int) (nomark _)) (pw_or1 (pt_not (pt_val (pe_cO O__law_is (hr.mono (by decide)) pass0 rfl (pa_cons (pv 9) (pa_cons (pv 5) (pa_cons (pv 6) pa_nil)))))))))
            (pss_one (ps_ret pe_bl))
            pss_nil)))))))))))))))))
      (pss_one (ps_ret pe_bl)))), ?_⟩
    -- the values that are no integers
    refine ⟨by show 1 ≤ sizeLine; decide, fun l1 hl1 => ⟨by show 2 ≤ sizeLine; decide, fun l2 hl2 => ⟨by show 5 ≤ sizeLine; decide, fun l hl => ?_⟩⟩⟩
    have s1 : Same H (upd H l1 (.lst [.int 1])) := Same.new hl1
    have e1 : (upd H l1 (.lst [.int 1])) l1 = some (.lst [.int 1]) := upd_same
    generalize upd H l1 (.lst [.int 1]) = H1 at s1 e1 hl2 hl ⊢
    have s2 : Same H1 (upd H1 l2 (.tup [.int 1, .int 2])) := Same.new hl2
    have e2 : (upd H1 l2 (.tup [.int 1, .int 2])) l2 = some (.tup [.int 1, .int 2]) := upd_same
    generalize upd H1 l2 (.tup [.int 1, .int 2]) = H2 at s2 e2 hl ⊢
    have s3 : Same H2 (upd H2 l (.lst [.non, .bl true, .str "1", .ref l1, .ref l2])) := Same.new hl
    have e3 : (upd H2 l (.lst [.non, .bl true, .str "1", .ref l1, .ref l2])) l = some (.lst [.non, .bl true, .str "1", .ref l1, .ref l2]) := upd_same
    generalize upd H2 l (.lst [.non, .bl true, .str "1", .ref l1, .ref l2]) = H3 at s3 e3 ⊢
    have s03 : Same H H3 := (s1.trans s2).trans s3
    have T3 : Tabs [(Pt, qLam)] H3 := T0.ext s03
    have hS3 : SqL K H3 a (ns.map V.int) := s03.seq hS
    have vs_ok : ∀ v ∈ [V.non, .bl true, .str "1", .ref l1, .ref l2], VOk K H3 v := fun v hv => by
      simp only [List.mem_cons, List.not_mem_nil, or_false] at hv
      rcases hv with rfl | rfl | rfl | rfl | rfl
      · exact vok_non
      · exact vok_bl
      · exact vok_one
      · exact vok_lst (s3 _ _ (s2 _ _ e1))
      · exact vok_tup (s3 _ _ e2)
    refine ⟨l, rfl, ⟨_, SqL.of e3⟩, for_list (K := K) (xs := [.non, .bl true, .str "1", .ref l1, .ref l2])
      (fun _ σ G => ExtN H3 G ∧ Tabs [(Pt, qLam)] G ∧ ∃ v : Option V, σ = [some (.ref a), v, none, none, none, none, none, none, none, none, none, none, none, none, none]) ⟨ExtN.refl _, T3, none, rfl⟩
      (fun i σ G _ p => SqL.extN p.1 (SqL.of e3)) ?_ ?_⟩
    · rintro i v σ G hv ⟨x1, t1, v0, rfl⟩
      have ok := vs_ok v (List.mem_of_getElem? hv)
      -- the first of both
      refine ⟨t1, fun f1 c1 G1 x2 t2 nf1 a1 b1 => ⟨lam1 B, f1, c1, rfl, ⟨a1, b1⟩, v, rfl, val_told (ok.ext (x1.trans x2)) fun pd G2 s4 dp p1 p2 p3 p4 => ?_⟩⟩
      refine ⟨_, rfl, v, pd, rfl, Rds.of dp p1, p2, p3, p4, rfl, _, rfl, iteN (by simp) ?_⟩
      have x3 : ExtN H3 G2 := (x1.trans x2).trans (ExtN.same s4)
      have t3 : Tabs [(Pt, qLam)] G2 := t2.ext s4
      -- the second of both
      refine ⟨t3, fun f2 c2 G3 x4 t4 nf2 a2 b2 => ⟨lam2 B, f2, c2, rfl, ⟨a2, b2⟩, v, rfl, val_told (ok.ext (x3.trans x4)) fun pd G4 s5 dp p1 p2 p3 p4 => ?_⟩⟩
      refine ⟨_, rfl, v, pd, rfl, Rds.of dp p1, p2, p3, p4, rfl, _, rfl, iteN (by simp) ?_⟩
      exact ⟨(x3.trans x4).trans (ExtN.same s5), t4.ext s5, some v, rfl⟩
    · rintro σ G ⟨x1, t1, v0, rfl⟩
      have hS1 : SqL K G a (ns.map V.int) := SqL.extN x1 hS3
      refine ⟨_, rfl, a, _, rfl, .inl hS1, _, _, rfl, _, _, rfl, ?_⟩
      rw [List.length_map]
      have hn : ∃ n : Int, n = (if (if (12 : Int) < (ns.length : Int) then (12 : Int) else (ns.length : Int)) > 1 then (if (12 : Int) < (ns.length : Int) then (12 : Int) else (ns.length : Int)) else 1) ∧ 0 ≤ n ∧ n ≤ 12 := by
        refine ⟨_, rfl, ?_, ?_⟩ <;> split <;> split <;> omega
      obtain ⟨n, en, n0, n1⟩ := hn
      rw [← en]
      refine ⟨n, rfl, by omega, by omega, for_range (n := n.toNat) (fun i σ H' => ExtN G H' ∧ Tabs [(Pt, qLam)] H' ∧ ∃ v2 v3 v4 v5 v6 v7 v8 v9 v10 v11 v12 v13 v14 : Option V, σ = [some (.ref a), v0, v2, v3, v4, v5, v6, v7, v8, v9, v10, v11, v12, v13, v14]) ⟨ExtN.refl _, t1, none, none, none, none, none, none, none, none, none, none, none, none, none, rfl⟩ ?_ ?_⟩
      · rintro i σ H4 hi ⟨x4, t4, v2, v3, v4, v5, v6, v7, v8, v9, v10, v11, v12, v13, v14, rfl⟩
        refine ⟨_, rfl, _, rfl, a, ns, i, by rw [Int.zero_add]; rfl, SqL.extN x4 hS1, by omega, fun pp H5 s5 hpp P5 => ?_⟩
        have t5 : Tabs [(Pt, qLam)] H5 := t4.ext s5
        have x5 : ExtN G H5 := x4.trans (ExtN.same s5)
        refine ⟨_, rfl, by decide, by decide, for_range (n := 4) (fun j σ H' => Kp pp H5 H' ∧ PoolAt H' pp ∧ Tabs [(Pt, qLam)] H' ∧ ∃ v4 v5 v6 v7 v8 v9 v10 v11 v12 v13 v14 : Option V, σ = [some (.ref a), v0, some (.int (0 + i)), some (.ref pp), v4, v5, v6, v7, v8, v9, v10, v11, v12, v13, v14]) ⟨Kp.refl, P5, t5, v4, v5, v6, v7, v8, v9, v10, v11, v12, v13, v14, rfl⟩ ?_ ?_⟩
        · rintro j σ H6 hj ⟨k6, P6, t6, v4, v5, v6, v7, v8, v9, v10, v11, v12, v13, v14, rfl⟩
          refine ⟨_, rfl, pp, rfl, P6, fun A1 B1 l1 H7 a0 a1 b0 b1 bz P7 k7 hl1 nl1 => ?_⟩
          have t7 := Tabs.pool t6 P6 k7
          refine ⟨l1, _, rfl, SqL.of hl1, rfl, _, _, rfl, _, _, rfl, rfl, ?_⟩
          refine ⟨_, rfl, pp, rfl, P7, fun C1 D1 l2 H8 c0 c1 d0 d1 dz P8 k8 hl2 nl2 => ?_⟩
          have t8 := Tabs.pool t7 P7 k8
          refine ⟨l2, _, rfl, SqL.of hl2, rfl, _, _, rfl, _, _, rfl, rfl, ?_⟩
          have bA : Bd 30 A1 := ⟨a0, a1⟩
          have bB : Bd 30 B1 := ⟨b0, b1⟩
          have bC : Bd 30 C1 := ⟨c0, c1⟩
          have bD : Bd 30 D1 := ⟨d0, d1⟩
          have sA := (bA.up (show 30 ≤ 64 by decide)).sm
          have sB := (bB.up (show 30 ≤ 64 by decide)).sm
          have sC := (bC.up (show 30 ≤ 64 by decide)).sm
          have sD := (bD.up (show 30 ≤ 64 by decide)).sm
          have below : ∀ {x y : Int}, x.natAbs ≤ y.natAbs → Bd 30 y → Bd 31 x := fun h g => bd_abs.mpr (Nat.lt_of_le_of_lt h (bd_abs.mp (g.up (show 30 ≤ 31 by decide))))
          -- one and other
          refine ⟨_, rfl, _, rfl, fun o1 y1 hx hy ne => ?_⟩
          refine init_rat2 bz sA sB hx hy fun H9 p q s9 R1 e1 lp lq => ?_
          refine ⟨_, rfl, _, rfl, fun o2 y2 hx hy ne => ?_⟩
          refine init_rat2 dz sC sD hx hy fun H10 r s s10 R2 e2 lr ls => ?_
          have P10 : PoolAt H10 pp := (P8.same s9).same s10
          refine ⟨_, rfl, pp, rfl, P10, fun W1 H11 w0 w1 P11 k11 => ?_⟩
          have t11 : Tabs [(Pt, qLam)] H11 := Tabs.pool ((t8.ext s9).ext s10) P10 k11
          have bW : Bd 30 W1 := ⟨w0, w1⟩
          have sW := (bW.up (show 30 ≤ 64 by decide)).sm
          refine ⟨by show 3 ≤ sizeLine; decide, fun tp htp => ⟨tp, _, rfl, .inl (.inl upd_same), rfl, _, _, rfl, _, _, rfl, _, _, rfl, rfl, ?_⟩⟩
          have s12 : Same H11 (upd H11 tp (.tup [.ref o1, .ref o2, .int W1])) := Same.new htp
          generalize upd H11 tp (.tup [.ref o1, .ref o2, .int W1]) = H12 at s12 ⊢
          have k12 : Kp pp H5 H12 := ((((((k6.trans k7.kp).trans k8.kp).trans (kp_same s9)).trans (kp_same s10)).trans k11.kp)).trans (kp_same s12)
          have P12 : PoolAt H12 pp := P11.same s12
          have t12 : Tabs [(Pt, qLam)] H12 := t11.ext s12
          have R1 : Rat C RFd H12 o1 p q := ((R1.same s10).kp P10 k11.kp).same s12
          have R2 : Rat C RFd H12 o2 r s := (R2.kp P10 k11.kp).same s12
          have bp : Bd 31 p := below lp bA
          have bq : Bd 31 q := below lq bB
          have br : Bd 31 r := below lr bC
          have bs : Bd 31 s := below ls bD
          have up : ∀ {x : Int}, Bd 31 x → Bd 64 x := fun h => h.up (by decide)
          have up0 : ∀ {x : Int}, Bd 30 x → Bd 64 x := fun h => h.up (by decide)
          -- one; Ratio(whole); -one
          refine ⟨_, rfl, _, rfl, _, rfl, o1, p, q, A1, B1, rfl, R1, up bp, up bq, up0 bA, up0 bB, e1, true, rfl, iteN (by decide) ?_⟩
          refine ⟨_, rfl, fun o3 y3 hx hy ne => ?_⟩
          refine init_rat2 (p := W1) (q := 1) (by decide) sW ⟨by decide, by decide⟩ hx hy fun H13 p3 q3 s13 R3 e3 l3 l4 => ?_
          have bp3 : Bd 31 p3 := below l3 bW
          have bq3 : Bd 31 q3 := below l4 (show Bd 30 1 from ⟨by decide, by decide⟩)
          refine ⟨_, rfl, o3, p3, q3, W1, 1, rfl, R3, up bp3, up bq3, up0 bW, ⟨by decide, by decide⟩, e3, true, rfl, iteN (by decide) ?_⟩
          have R1 := R1.same s13
          obtain ⟨da, ea⟩ := R1.1
          refine ⟨_, rfl, o1, da, _, rfl, ea, o1, p, q, rfl, R1, bp.up (by decide), bq.up (by decide), fun o4 H14 s14 R4 => ?_⟩
          refine ⟨_, rfl, _, _, rfl, rfl, _, rfl, o4, -p, q, 0 - A1, B1, rfl, R4, bd_abs.mpr (by rw [Int.natAbs_neg]; exact bd_abs.mp (up bp)), up bq, bd_abs.mpr (by rw [Int.zero_sub, Int.natAbs_neg]; exact bd_abs.mp (up0 bA)), up0 bB, (by rw [Int.zero_sub, Int.neg_mul, Int.neg_mul, e1]), true, rfl, iteN (by decide) ?_⟩
          have R1 := R1.same s14
          have R2 := (R2.same s13).same s14
          -- both by the four operations
          refine ⟨_, rfl, _, rfl, _, rfl, _, rfl, _, rfl, _, rfl, by show 4 ≤ sizeLine; decide, fun l4 hl4 => ?_⟩
          refine ⟨o1, o2, l4, p, q, r, s, A1, B1, C1, D1, rfl, R1.same (Same.new hl4), R2.same (Same.new hl4), upd_same, bp, bq, br, bs, bA, bB, bC, bD, e1, e2, bz, dz, fun H15 s15 => ⟨true, rfl, iteN (by decide) ?_⟩⟩
          have R1 := (R1.same (Same.new hl4)).same s15
          have R2 := (R2.same (Same.new hl4)).same s15
          refine ⟨_, rfl, _, rfl, _, rfl, _, rfl, o1, p, q, W1, A1, B1, rfl, R1, bp, bq, bW, bA, bB, e1, bz, fun H16 s16 => ⟨true, rfl, iteN (by decide) ?_⟩⟩
          have R1 := R1.same s16
          have R2 := R2.same s16
          -- the sign, the order
          refine ⟨_, rfl, _, _, rfl, rfl, .inr ⟨_, rfl, _, _, rfl, rfl, sm_if _, _, _, rfl, rfl, _, rfl, _, _, rfl, rfl, .inr ⟨_, rfl, _, _, rfl, rfl, sm_if _, _, _, rfl, rfl, _, _, rfl, rfl, ⟨sm_sgn _, sm_sgn _⟩, ?_⟩⟩⟩
          refine ⟨_, rfl, _, rfl, _, rfl, _, rfl, _, _, rfl, rfl, ⟨sA, sD⟩, _, rfl, _, rfl, _, _, rfl, rfl, ⟨sC, sB⟩, _, _, rfl, rfl, _, rfl, _, _, rfl, rfl, ⟨((bA.mul bD).sub (bC.mul bB)).sm, sm_sgn2 _ _⟩, ?_⟩
          have oo := order_ok e1 e2 R1.2.1 R2.2.1 bz dz
          refine ⟨o1, o2, p, q, r, s, _, rfl, R1, R2, bp, bq, br, bs, oo.1, oo.2, fun H17 s17 => ⟨true, rfl, iteN (by decide) ?_⟩⟩
          have R1 := R1.same s17
          refine ⟨_, rfl, _, rfl, _, rfl, fun o5 y5 hx hy ne => ?_⟩
          refine init_rat2 bz sA sB hx hy fun H18 p5 q5 s18 R5 e5 l5 l6 => ?_
          have R1 := R1.same s18
          have os := order_same e1 e5 bz
          refine ⟨o1, o5, p, q, p5, q5, 0, rfl, R1, R5, bp, bq, below l5 bA, below l6 bB, os.1, os.2, fun H19 s19 => ⟨true, rfl, iteN (by decide) ?_⟩⟩
          have R1 := R1.same s19
          obtain ⟨da, ea⟩ := R1.1
          have Tx := B.M.L.T
          -- unlike an integer, a tuple, None
          refine ⟨_, rfl, _, rfl, o1, da, _, rfl, ea, (fun u hu => by cases u <;> first | rfl | exact hu.elim | (obtain ⟨t, e⟩ := hu; cases e)), o1, _, p, q, rfl, R1, .inr ⟨_, .base (.int _), Tx.kIC, _, rfl, iteN (by decide) ?_⟩⟩
          refine ⟨_, rfl, _, rfl, o1, da, _, rfl, ea, o1, p, q, rfl, R1, _, rfl, o1, da, _, rfl, ea, o1, p, q, rfl, R1, by show 2 ≤ sizeLine; decide, fun tq htq => ?_⟩
          have s20 : Same H19 (upd H19 tq (.tup [.int p, .int q])) := Same.new htq
          have e20 : (upd H19 tq (.tup [.int p, .int q])) tq = some (.tup [.int p, .int q]) := upd_same
          generalize upd H19 tq (.tup [.int p, .int q]) = HZ at s20 e20 ⊢
          have R1 := R1.same s20
          have ea := s20 _ _ ea
          refine ⟨o1, tq, da, _, rfl, rfl, ea, (fun h ok => by
            obtain ⟨z, its, n, rv, at_⟩ := (show ObjOk _ _ _ h tq (.tup _) from ok tq _ e20)
            exact ⟨rv, at_.1, at_.2.1⟩), o1, _, p, q, rfl, R1, .inr ⟨_, .base (.tup e20), Tx.kTC, _, rfl, iteN (by decide) ?_⟩⟩
          refine ⟨_, rfl, o1, da, _, rfl, ea, (fun u hu => by cases u <;> first | rfl | exact hu.elim | cases hu), o1, _, p, q, rfl, R1, .inr ⟨_, .base .non, Tx.kNC, _, rfl, _, rfl, iteN (by decide) ?_⟩⟩
          have kZ : Kp pp H12 HZ := ((((((((kp_same s13).trans (kp_same s14)).trans (kp_same (Same.new hl4))).trans (kp_same s15)).trans (kp_same s16)).trans (kp_same s17)).trans (kp_same s18)).trans (kp_same s19)).trans (kp_same s20)
          have sZ : Same H12 HZ := ((((((((s13.trans s14).trans (Same.new hl4)).trans s15).trans s16).trans s17).trans s18).trans s19).trans s20)
          have tZ : Tabs [(Pt, qLam)] HZ := t12.ext sZ
          have PZ : PoolAt HZ pp := P12.same sZ
          -- the three lambdas
          refine ⟨tZ, fun f3 c3 G1 x3 tG1 nf3 a3 b3 => ⟨by show 1 ≤ sizeLine; decide, fun z hz => ?_⟩⟩
          have sG2 : Same G1 (upd G1 z (.lst [.ref f3])) := Same.new hz
          have eG2 : (upd G1 z (.lst [.ref f3])) z = some (.lst [.ref f3]) := upd_same
          generalize upd G1 z (.lst [.ref f3]) = G2 at sG2 eG2 ⊢
          refine ⟨_, rfl, .inl ⟨rfl, _, SqL.of eG2⟩, tG1.ext sG2, fun f4 c4 G3 x4 tG3 nf4 a4 b4 => ?_⟩
          have eG3 := x4 _ _ eG2 (fun ps m => by cases m)
          refine ⟨z, _, _, rfl, rfl, eG3, by show 1 < sizeLine; decide, ?_⟩
          have bG4 : ∀ b o, G3 b = some o → b ≠ z → (upd G3 z (.lst ([.ref f3] ++ [.ref f4]))) b = some o := fun b o h n => by rw [upd_ne n]; exact h
          have eG4 : (upd G3 z (.lst ([.ref f3] ++ [.ref f4]))) z = some (.lst [.ref f3, .ref f4]) := upd_same
          generalize upd G3 z (.lst ([.ref f3] ++ [.ref f4])) = G4 at bG4 eG4 ⊢
          refine ⟨_, rfl, .inl ⟨rfl, _, SqL.of eG4⟩, Tabs.but tG3 eG3 bG4, fun f5 c5 G5 x5 tG5 nf5 a5 b5 => ?_⟩
          have eG5 := x5 _ _ eG4 (fun ps m => by cases m)
          refine ⟨z, _, _, rfl, rfl, eG5, by show 2 < sizeLine; decide, ?_⟩
          have bG6 : ∀ b o, G5 b = some o → b ≠ z → (upd G5 z (.lst ([.ref f3, .ref f4] ++ [.ref f5]))) b = some o := fun b o h n => by rw [upd_ne n]; exact h
          have eG6 : (upd G5 z (.lst ([.ref f3, .ref f4] ++ [.ref f5]))) z = some (.lst [.ref f3, .ref f4, .ref f5]) := upd_same
          generalize upd G5 z (.lst ([.ref f3, .ref f4] ++ [.ref f5])) = G6 at bG6 eG6 ⊢
          have xG : ExtN G1 G6 := fun b o h t => by
            have n := ne_of_none h hz
            exact bG6 _ _ (x5 _ _ (bG4 _ _ (x4 _ _ (sG2 _ _ h) t) n) t) n
          have tG6 : Tabs [(Pt, qLam)] G6 := Tabs.but tG5 eG5 bG6
          have L3 : (lam3 (g := f) (cdv := .ref c) (A0 := A) (outer0 := outer) (s0 := s0) (H0 := H) (Ex0 := E) B).at f3 c3 G6 := lamF_ext ⟨a3, b3⟩ xG
          have L4 : (lam4 (g := f) (cdv := .ref c) (A0 := A) (outer0 := outer) (s0 := s0) (H0 := H) (Ex0 := E) B).at f4 c4 G6 := lamF_but (lamF_ext (lamF_but ⟨a4, b4⟩ eG3 bG4) x5) eG5 bG6
          have L5 : (lam5 (g := f) (cdv := .ref c) (A0 := A) (outer0 := outer) (s0 := s0) (H0 := H) (Ex0 := E) B).at f5 c5 G6 := lamF_but ⟨a5, b5⟩ eG5 bG6
          have RG : Rat C RFd G6 o1 p q := (R1.ext x3).ext xG
          -- each of them is told
          refine ⟨_, rfl, z, rfl, ⟨_, SqL.of eG6⟩, fun D hD => ?_⟩
          have nD : ∀ b o, G6 b = some o → b ≠ D := fun b o h => ne_of_none h hD
          refine lc_list (K := K) (xs := [.ref f3, .ref f4, .ref f5]) (fun i G => ∃ rl : List Addr, rl.length = i ∧ G D = some (.lst (rl.map V.ref)) ∧ (∀ r ∈ rl, r ≠ D ∧ G r = some (.lst [.str "zero", .bl true])) ∧ Same G6 G) ⟨[], rfl, upd_same, (fun r hr => absurd hr (by simp)), Same.new hD⟩
            (fun i G _ p => by
              obtain ⟨rl, _, _, _, sm⟩ := p
              exact SqL.of (sm _ _ eG6)) ?_ ?_
          · rintro i x Gi hx ⟨rl, len, gD, all, sm⟩
            have i3 : i < 3 := by
              rcases Nat.lt_or_ge i 3 with h | h
              · exact h
              · rw [List.getElem?_eq_none (by simpa using h)] at hx
                cases hx
            refine ⟨rfl, ?_⟩
            refine ⟨_, rfl, ?_⟩
            have close : ∀ Gr, Same Gi Gr → EGood K CI CZ (fun y H4 => ∃ acc, H4 D = some (.lst acc) ∧ acc.length < sizeLine ∧ ∃ rl : List Addr, rl.length = i + 1 ∧ (upd H4 D (.lst (acc ++ [y]))) D = some (.lst (rl.map V.ref)) ∧ (∀ r ∈ rl, r ≠ D ∧ (upd H4 D (.lst (acc ++ [y]))) r = some (.lst [.str "zero", .bl true])) ∧ Same G6 (upd H4 D (.lst (acc ++ [y])))) (.ref CZ) none Gr := fun Gr sr =>
              .inr ⟨rfl, rfl, fun r hr => by
                have gDr := sr _ _ gD
                have sn : Same Gr (upd Gr r (.lst [.str "zero", .bl true])) := Same.new hr
                refine ⟨rl.map V.ref, sn _ _ gDr, by rw [List.length_map, len]; exact Nat.lt_trans i3 (by decide), rl ++ [r], by rw [List.length_append, len]; rfl, by rw [List.map_append]; exact upd_same, fun r2 hr2 => ?_, fun b o h => ?_⟩
                · rcases List.mem_append.mp hr2 with m | m
                  · obtain ⟨n2, g2⟩ := all r2 m
                    exact ⟨n2, by rw [upd_ne n2]; exact sn _ _ (sr _ _ g2)⟩
                  · obtain rfl := List.mem_singleton.mp m
                    have n2 : r2 ≠ D := (ne_of_none gDr hr).symm
                    exact ⟨n2, by rw [upd_ne n2]; exact upd_same⟩
                · rw [upd_ne (nD b o h)]
                  exact sn _ _ (sr _ _ (sm _ _ h))⟩
            have m3 := List.mem_of_getElem? hx
            simp only [List.mem_cons, List.not_mem_nil, or_false] at m3
            have xi : ExtN G6 Gi := ExtN.same sm
            rcases m3 with rfl | rfl | rfl
            · exact ⟨lam3 B, f3, c3, rfl, lamF_ext L3 xi, A1, rfl, close⟩
            · exact ⟨lam4 B, f4, c4, rfl, lamF_ext L4 xi, o1, p, q, rfl, RG.ext xi, bp, bq, close⟩
            · exact ⟨lam5 B, f5, c5, rfl, lamF_ext L5 xi, o1, p, q, D1, rfl, RG.ext xi, bp, bq, rfl, dz, bD.up (by decide), close⟩
          · rintro Ge ⟨rl, len, gD, all, sm⟩
            obtain ⟨r1, r2, r3, rfl⟩ := three_of len
            have z1 := (all r1 (by simp)).2
            have z2 := (all r2 (by simp)).2
            have z3 := (all r3 (by simp)).2
            refine ⟨by show 2 ≤ sizeLine; decide, fun r0 hr0 => ⟨by show 1 ≤ sizeLine; decide, fun w2 hw2 => ?_⟩⟩
            have u1 : Same Ge (upd Ge r0 (.lst [.str "zero", .bl true])) := Same.new hr0
            have y1 : (upd Ge r0 (.lst [.str "zero", .bl true])) r0 = some (.lst [.str "zero", .bl true]) := upd_same
            generalize upd Ge r0 (.lst [.str "zero", .bl true]) = Gf at u1 y1 hw2 ⊢
            have u2 : Same Gf (upd Gf w2 (.lst [.ref r0])) := Same.new hw2
            have y2 : (upd Gf w2 (.lst [.ref r0])) w2 = some (.lst [.ref r0]) := upd_same
            generalize upd Gf w2 (.lst [.ref r0]) = Gg at u2 y2 ⊢
            refine ⟨w2, 3, _, rfl, rfl, y2, by decide, by decide, by show 1 * 3 ≤ sizeLine; decide, fun w3 hw3 => ?_⟩
            have u3 : Same Gg (upd Gg w3 (.lst (List.replicate (3 : Int).toNat [V.ref r0]).flatten)) := Same.new hw3
            have y3 : (upd Gg w3 (.lst (List.replicate (3 : Int).toNat [V.ref r0]).flatten)) w3 = some (.lst [.ref r0, .ref r0, .ref r0]) := upd_same
            generalize upd Gg w3 (.lst (List.replicate (3 : Int).toNat [V.ref r0]).flatten) = Gh at u3 y3 ⊢
            have ue : Same Ge Gh := (u1.trans u2).trans u3
            have r0h := u3 _ _ (u2 _ _ y1)
            refine ⟨_, _, dp_three (ue _ _ gD) (ue _ _ z1) (ue _ _ z2) (ue _ _ z3), dp_three y3 r0h r0h r0h, by decide +kernel, by decide +kernel, _, rfl, iteN (by decide +kernel) ?_⟩
            have xE : ExtN HZ Gh := (x3.trans xG).trans (ExtN.same (sm.trans ue))
            refine ⟨_, rfl, _, rfl, _, rfl, o1, p, q, A1, B1, rfl, R1.ext xE, up bp, up bq, up0 bA, up0 bB, e1, true, rfl, iteN (by decide) ?_⟩
            exact ⟨(k12.trans kZ).trans (kp_ext xE), PZ.ext xE, tG6.ext (sm.trans ue), _, _, _, _, _, _, _, _, _, _, _, rfl⟩
        · rintro σ Hn ⟨kn, Pn, tn, w4, w5, w6, w7, w8, w9, w10, w11, w12, w13, w14, rfl⟩
          exact ⟨x4.trans (Kp.ext kn hpp (ExtN.same s5)), tn, _, _, _, _, _, _, _, _, _, _, _, _, _, rfl⟩
      · rintro σ Hn ⟨xn, tn, w2, w3, w4, w5, w6, w7, w8, w9, w10, w11, w12, w13, w14, rfl⟩
        exact q _
end
/-! ### the law's own call, with a table of code objects that its lambdas fill -/
section
open LamX
/-- the abstract heap H tells of the script at a, of the empty table at Pt, and of nothing else -/
structure SoleT (P : Program) (w : World) (K : PySem.W.Frag) (H : Hp) (h : Heap) (a Pt : Addr) (ns : List Int) : Prop where
  only : ∀ b, H b = none ∨ b = Pt ∨ ∃ o xs, H b = some (.frz o (.lst xs))
  seq : SqL K H a (ns.map V.int)
  ok : HOk P w H h
  known : ∀ b, H b ≠ none → b = a ∨ b = Pt
  notK : H a ≠ none → K.lookup a = none
  tab : H Pt = some (.tbl #[])
/-- the empty table of a code object -/
abbrev noTab : Obj := { cls := .none, data := .fields #[] }
theorem sole_runT {P : Program} {w : World} {K : PySem.W.Frag} {mg mb : Str → Option Value} {CX : CXT} {k : Nat} {fa a c Pt : Addr} {fd : FuncData} {x : Str} {sp : Sp} {s₁ : Shared} {vs : List Value} {ns : List Int} {H : Hp}
    (Z : SoleT P w K H s₁.heap a Pt ns) (KX : K.In s₁.heap) (gN : s₁.heap.Ns mainGlobals mg) (bN : s₁.heap.Ns builtinsNs mb) (bB : ∀ y : Str, y ≠ "__name__" → mb y = bootBuiltins y) (lim : s₁.heap.NoLimit) (gens0 : s₁.gens = #[])
    (obj : s₁.heap.get? a = some { cls := .type "list", data := .seq vs.toArray }) (tabO : s₁.heap.get? Pt = some noTab) (tabK : K.lookup Pt = none) (hd : PySem.W.CodeHd s₁.heap c Pt)
    (main : ∃ (bm : Addr) (ob : Obj), mg "__builtins__" = some (.ref bm) ∧ bm ≠ builtinsNs ∧ s₁.heap.get? bm = some ob ∧ ob.cls = .type "module" ∧ ob.dict = some builtinsNs ∧ ob.data = .plain)
    (room : Room k callerA) (F : ∀ base : Heap, K.In base → base.Ns mainGlobals mg → TabB base mg c Pt → FnG P w K mg base CX k fa fd [x] sp)
    (bind : ∀ (s : Shared) (u : Value), BindsTo s fd ⟨[u], []⟩ [(x, u)]) (want : ∀ H : Hp, H Pt = some (.tbl #[]) → SqL K H a (ns.map V.int) → sp [.ref a] H (fun v _ => v = .bl true) fun _ _ _ => False)
    (noX : ∀ H e s', CX [] H s₁ (fun _ _ _ => False) e s' → False) : codeAny (model P w) callerA (.call (.ref fa) ⟨[.ref a], []⟩) (Wanted s₁) s₁ := by
  -- what H tells of an address is the script's list or the table
  have told : ∀ {b : Addr} {o : Obj}, s₁.heap.get? b = some o → H b ≠ none → o.data = .seq vs.toArray ∨ o.data = .fields #[] := fun {b o} g n => by
    rcases Z.known b n with e | e
    · rw [e, obj] at g
      rw [← Option.some.inj g]
      exact .inl rfl
    · rw [e, tabO] at g
      rw [← Option.some.inj g]
      exact .inr rfl
  have hid : ∀ {b : Addr} {o : Obj}, s₁.heap.get? b = some o → ¬ H b ≠ none → (hidT s₁.heap H).get? b = some o := fun g n => hidT_get g (Classical.byContradiction n)
  have names : ∀ {b : Addr} {m : Str → Option Value}, s₁.heap.Ns b m → (hidT s₁.heap H).Ns b m := by
    rintro b m ⟨o, es, ep, g, d, r⟩
    refine ⟨o, es, ep, hid g fun n => ?_, d, r⟩
    rcases told g n with e | e
    · rw [e] at d
      exact Data.noConfusion d
    · rw [e] at d
      exact Data.noConfusion d
  have part : K.In (hidT s₁.heap H) := fun b o g => hid (KX b o g) fun n => by
    rcases Z.known b n with e | e
    · subst e
      rw [Z.notK n] at g
      cases g
    · subst e
      rw [tabK] at g
      cases g
  obtain ⟨mc, c1, c2⟩ := lim
  have md : Mod K mg (hidT s₁.heap H) := ⟨part, names gN, ⟨mb, names bN, bB⟩, ⟨mc, names c1, c2⟩⟩
  have apart : ∀ {bm : Addr} {o : Obj}, s₁.heap.get? bm = some o → o.data = .plain → bm ≠ Pt ∧ ¬ H bm ≠ none := fun {bm o} g d => by
    refine ⟨fun m => ?_, fun n => ?_⟩
    · rw [m, tabO] at g
      rw [← Option.some.inj g] at d
      exact Data.noConfusion d
    · rcases told g n with e | e
      · rw [d] at e
        exact Data.noConfusion e
      · rw [d] at e
        exact Data.noConfusion e
  have TB : TabB (hidT s₁.heap H) mg c Pt := by
    refine ⟨?_, ?_, fun m => ?_⟩
    · obtain ⟨o, us, file, tf, flags, tg, inF, text, tt, q1, q2, q3, q⟩ := id hd
      refine ⟨o, us, file, tf, flags, tg, inF, text, tt, hid q1 fun n => ?_, q2, q3, q⟩
      rcases told q1 n with e | e
      · rw [q3] at e
        exact Data.noConfusion e
      · rw [q3] at e
        obtain ⟨q4, _⟩ := q
        injection e with e
        rw [e] at q4
        simp at q4
    · obtain ⟨bm, ob, b1, b2, b3, b4, b5, b6⟩ := main
      obtain ⟨n1, n2⟩ := apart b3 b6
      refine ⟨bm, ob, b1, b2, fun m => ?_, n1, hid b3 n2, b4, b5, b6⟩
      obtain ⟨o, es, ep, g, d, _⟩ := gN
      rw [m, g] at b3
      rw [← Option.some.inj b3, d] at b6
      exact Data.noConfusion b6
    · obtain ⟨o, es, ep, g, d, _⟩ := gN
      rw [m, tabO] at g
      rw [← Option.some.inj g] at d
      exact Data.noConfusion d
  have e0 : Env0 P w K mg (hidT s₁.heap H) callerA [] s₁ H := ⟨rfl, md, fun _ _ g => of_hidT g, Nat.le_of_eq (hidT_size _ _), trivial, fun b m => absurd m (List.not_mem_nil (a := b)), Z.ok, PyProof.Rows.AllBare.of_eq gens0⟩
  refine codeAny_mono ((F _ part (names gN) TB).goes callerA [] s₁ H ⟨[.ref a], []⟩ [.ref a] [.ref a] _ _ rfl room e0 (bind s₁ (.ref a)) (.cons rfl .nil) (want H Z.tab Z.seq)) ?_
  rintro (er | _ | _ | _ | u) s' q
  · exact (noX H er s' q).elim
  · exact q.elim
  · exact q.elim
  · exact q.elim
  · obtain ⟨v, H', os, bare, un, ok', rv, rfl⟩ := q
    obtain rfl : u = Value.bool true := rv
    have stay : ∀ b o, b ≠ Pt → s₁.heap.get? b = some o → s'.heap.get? b = some o := fun b o nb g => by
      rcases Z.only b with n | n | ⟨ob, xs, n⟩
      · exact un.keep b o g n (fun m => by cases m) (fun m => by cases m)
      · exact absurd n nb
      · have g1 := (Z.ok b _ n).1
        have g2 := (ok' b _ (un.frzs b ob _ n)).1
        rw [g] at g1
        rw [g2, Option.some.inj g1]
    obtain ⟨more, gm⟩ := un.tbls Pt #[] Z.tab
    have grown : s'.heap.get? Pt = some { cls := .none, data := .fields more } := by
      have z : s'.heap.get? Pt = some { cls := .none, data := .fields (#[] ++ more) } := ok' Pt _ gm
      rw [Array.empty_append] at z
      exact z
    refine ⟨rfl, ⟨fun b o g => ?_, fun b o g => ?_⟩, os, bare⟩
    · by_cases m : b = Pt
      · subst m
        rw [tabO] at g
        cases g
        exact .inr (.inl ⟨(hd.tab tabO).isCodeTable, rfl, #[], more, rfl, by first | exact grown | (rw [Array.empty_append]; exact grown)⟩)
      · exact .inl (stay b o m g)
    · by_cases m : b = Pt
      · subst m
        exact ⟨_, grown⟩
      · exact ⟨o, stay b o m g⟩
theorem law_callGT {P : Program} {w : World} {K : PySem.W.Frag} {mg mb : Str → Option Value} {CX : CXT} {k : Nat} {fa a c Pt : Addr} {fd : FuncData} {x : Str} {sp : Sp} {s₁ : Shared} {vs : List Value} {ns : List Int} (KX : K.In s₁.heap) (gN : s₁.heap.Ns mainGlobals mg)
    (bN : s₁.heap.Ns builtinsNs mb) (bB : ∀ y : Str, y ≠ "__name__" → mb y = bootBuiltins y) (lim : s₁.heap.NoLimit) (gens0 : s₁.gens = #[]) (obj : s₁.heap.get? a = some { cls := .type "list", data := .seq vs.toArray }) (hints : PyProof.Rows.IntsAre vs ns) (few : ns.length ≤ sizeLine)
    (tabO : s₁.heap.get? Pt = some noTab) (tabK : K.lookup Pt = none) (hd : PySem.W.CodeHd s₁.heap c Pt)
    (main : ∃ (bm : Addr) (ob : Obj), mg "__builtins__" = some (.ref bm) ∧ bm ≠ builtinsNs ∧ s₁.heap.get? bm = some ob ∧ ob.cls = .type "module" ∧ ob.dict = some builtinsNs ∧ ob.data = .plain)
    (room : Room k callerA) (F : ∀ base : Heap, K.In base → base.Ns mainGlobals mg → TabB base mg c Pt → FnG P w K mg base CX k fa fd [x] sp) (bind : ∀ (s : Shared) (u : Value), BindsTo s fd ⟨[u], []⟩ [(x, u)])
    (want : ∀ H : Hp, H Pt = some (.tbl #[]) → SqL K H a (ns.map V.int) → sp [.ref a] H (fun v _ => v = .bl true) fun _ _ _ => False) (noX : ∀ H e s', CX [] H s₁ (fun _ _ _ => False) e s' → False) :
    codeAny (model P w) callerA (.call (.ref fa) ⟨[.ref a], []⟩) (Wanted s₁) s₁ := by
  have rv := vals_ints hints
  have many := hints.length
  have ne : a ≠ Pt := fun m => by
    rw [m, tabO] at obj
    cases obj
  by_cases hk : K.lookup a = none
  · -- the script is the caller's own: told as a locked list
    generalize eH : (fun b : Addr => if b = a then some (HO.frz { cls := .type "list", data := .seq vs.toArray } (.lst (ns.map V.int))) else if b = Pt then some (.tbl #[]) else none) = H
    have at_a : H a = some (HO.frz { cls := .type "list", data := .seq vs.toArray } (.lst (ns.map V.int))) := by
      rw [← eH]
      exact if_pos rfl
    have at_t : H Pt = some (.tbl #[]) := by
      rw [← eH]
      exact (if_neg (Ne.symm ne)).trans (if_pos rfl)
    have else_ : ∀ b, b ≠ a → b ≠ Pt → H b = none := fun b n1 n2 => by
      rw [← eH]
      exact (if_neg n1).trans (if_neg n2)
    refine sole_runT (H := H) ⟨fun b => ?_, .inl (.inr ⟨_, at_a⟩), fun b u z => ?_, fun b n => ?_, fun _ => hk, at_t⟩ KX gN bN bB lim gens0 obj tabO tabK hd main room F bind want noX
    · by_cases e1 : b = a
      · exact .inr (.inr ⟨_, _, by rw [e1]; exact at_a⟩)
      · by_cases e2 : b = Pt
        · exact .inr (.inl e2)
        · exact .inl (else_ b e1 e2)
    · by_cases e1 : b = a
      · subst e1
        obtain rfl := Option.some.inj (at_a.symm.trans z)
        exact ⟨obj, by rw [List.length_map]; exact few, vs, _, rv, obj⟩
      · by_cases e2 : b = Pt
        · subst e2
          obtain rfl := Option.some.inj (at_t.symm.trans z)
          exact tabO
        · rw [else_ b e1 e2] at z
          cases z
    · by_cases e1 : b = a
      · exact .inl e1
      · by_cases e2 : b = Pt
        · exact .inr e2
        · exact absurd (else_ b e1 e2) n
  · -- the script is one of the module's objects
    obtain ⟨o, ho⟩ := Option.ne_none_iff_exists'.mp hk
    have eo := Option.some.inj (obj.symm.trans (KX a o ho))
    generalize eH : (fun b : Addr => if b = Pt then some (HO.tbl #[]) else none) = H
    have at_t : H Pt = some (.tbl #[]) := by
      rw [← eH]
      exact if_pos rfl
    have else_ : ∀ b, b ≠ Pt → H b = none := fun b n => by
      rw [← eH]
      exact if_neg n
    refine sole_runT (H := H) ⟨fun b => ?_, .inr ⟨o, vs.toArray, 0, ho, by rw [← eo], by rw [← eo], by rw [← eo], by rw [List.size_toArray, many]; exact few, by simpa using rv⟩, fun b u z => ?_, fun b n => ?_, fun n => absurd (else_ a ne) n, at_t⟩ KX gN bN bB lim gens0 obj tabO tabK hd main room F bind want noX
    · by_cases e2 : b = Pt
      · exact .inr (.inl e2)
      · exact .inl (else_ b e2)
    · by_cases e2 : b = Pt
      · subst e2
        obtain rfl := Option.some.inj (at_t.symm.trans z)
        exact tabO
      · rw [else_ b e2] at z
        cases z
    · by_cases e2 : b = Pt
      · exact .inr e2
      · exact absurd (else_ b e2) n
/-- the goal behind the head, by such a promise -/
theorem walk_ofGT {l : PySem.W.OpenLaw} {n k : Nat} {q : Program} {loose : List Str} {XP : (Str → Option Value) → Heap → Prop} {YP : World → Heap → Prop} {d : DefRec} {K : Params → PySem.W.Frag} {CX : World → CXT} {sp : World → Addr → Sp} {x : Str}
    (hn : l.most = some n) (few : n ≤ sizeLine) (hdf : d.params.defaults = []) (room : Room k callerA) (hY : ∀ (w : World) (h : Heap), YP w h → (K w.params).In h)
    (F : ∀ (w : World) (mg : Str → Option Value) (fa : Addr) (h : Heap), YP w h → (K w.params).In h → h.Ns mainGlobals mg → mg d.name = some (.ref fa) → ∃ (fd : FuncData) (c Pt : Addr), (∀ (s : Shared) (u : Value), BindsTo s fd ⟨[u], []⟩ [(x, u)]) ∧
      h.get? Pt = some noTab ∧ (K w.params).lookup Pt = none ∧ PySem.W.CodeHd h c Pt ∧
      (∀ base : Heap, (K w.params).In base → base.Ns mainGlobals mg → TabB base mg c Pt → FnG l.prog w (K w.params) mg base (CX w) k fa fd [x] (sp w Pt)))
    (want : ∀ (w : World) (Pt : Addr) (H : Hp) (a : Addr) (ns : List Int), ns.length ≤ n → H Pt = some (.tbl #[]) → SqL (K w.params) H a (ns.map V.int) → sp w Pt [.ref a] H (fun v _ => v = .bl true) fun _ _ _ => False)
    (noX : ∀ (w : World) (H : Hp) (s : Shared) (e : Value) (s' : Shared), CX w [] H s (fun _ _ _ => False) e s' → False) : PySem.W.WalkO q loose XP YP l.row.toRowW d [] (fun f vs => PySem.call f vs) :=
  Att.attach_call hn hdf fun w s₀ s₁ mg mb fa o pm cd doc a vs ns G Y ho hd hcd hmg hobj hints hlen hg => by
    have KX := hY w _ Y
    obtain ⟨fd, c, Pt, hb, t1, t2, t3, hF⟩ := F w mg fa _ Y KX G.T.g hmg
    exact law_callGT KX G.T.g G.T.b G.T.builtins G.T.nolimit hg hobj hints (Nat.le_trans hlen few) t1 t2 t3 G.T.bmain room hF hb (fun H z1 z2 => want w Pt H a ns hlen z1 z2) fun H e s' => noX w H s₁ e s'
end
/-! ### what the top has written, bundle by bundle -/
/-- the class x stands at C, its __init__ is st -/
def CIn (K : PySem.W.Frag) (x q : Str) (st : Stmt) (C : Addr) (tl : List Value) (nw : String) (fs : List Str) : Prop :=
  ∃ fI fd, PySem.W.nsIn K mainGlobals x = some (some (.ref C)) ∧ Fun K "__init__" q st fI fd ∧ Cl K C fI tl nw fs
theorem cin_mk {K : PySem.W.Frag} {x q : Str} {st : Stmt} {C fI : Addr} {tl : List Value} {nw : String} {fs : List Str} {oc : Value} {od an : Option Addr} {osl : Array (Option Value)} {kV doc pm cdv ct : Value}
    (a : PySem.W.nsIn K mainGlobals x = some (some (.ref C))) (b : PySem.W.findIn K (.ref C) "__init__" = some (some (.ref fI)))
    (l : K.lookup fI = some ⟨oc, od, .func (PySem.W.fnOf "__init__" q (defArgs st) (defBody st) (defScope st) .none kV doc pm an cdv ct), osl⟩) (c : PySem.W.codeIn K cdv q = true) (k : PySem.W.keepIn K (.ref fI) = true)
    (g1 : PySem.W.specialIn K (.builtin "object.__class__") "__get__" = some (some (.builtin "getset_descriptor.__get__"))) (g2 : PySem.W.takesIn K (.builtin "object.__class__") = some true)
    (t : (PySem.W.excInitIn K C tl nw, PySem.W.excOver K C tl, PySem.W.hasDictIn K C, PySem.W.isFn K (.ref fI), PySem.W.keepIn K (.ref C)) = (true, true, true, true, true))
    (u : (PySem.W.findIn K (.ref C) "__setattr__", PySem.W.findIn K (.ref C) "__getattribute__", PySem.W.findIn K (.ref C) "__getattr__", PySem.W.findIn K (.ref C) "__class__") =
      (some (some (.builtin "object.__setattr__")), some (some (.builtin "BaseException.__getattribute__")), some none, some (some (.builtin "object.__class__"))))
    (v : (PySem.W.subIn K (.ref C) (.type "BaseException"), PySem.W.mroIn K C (.type "object"), (PySem.W.clsIn K C).map (·.mro), PySem.W.typeIn K (.ref C)) = (some true, some true, some (.ref C :: tl), some (.type "type")))
    (f : fs.map (fun f => PySem.W.findIn K (.ref C) f) = fs.map fun _ => some none) : CIn K x q st C tl nw fs := ⟨fI, _, a, fun_mk l c k, cl_of g1 g2 b t u v f⟩
theorem has_mk {K : PySem.W.Frag} {h : Heap} {mg : Str → Option Value} {x : Str} {st : Stmt} {ps : List Str} {f : Addr} {oc : Value} {od an : Option Addr} {osl : Array (Option Value)} {kV doc pm cdv ct : Value} (X : K.In h) (G : h.Ns mainGlobals mg)
    (b : ∀ (kV doc pm : Value) (an : Option Addr) (cdv ct : Value) (us : List Value), us.length = ps.length → bindArgs (PySem.W.fnOf x x (defArgs st) (defBody st) (defScope st) .none kV doc pm an cdv ct) ⟨us, []⟩ = pure (ps.zip us))
    (a : PySem.W.nsIn K mainGlobals x = some (some (.ref f))) (l : K.lookup f = some ⟨oc, od, .func (PySem.W.fnOf x x (defArgs st) (defBody st) (defScope st) .none kV doc pm an cdv ct), osl⟩) (c : PySem.W.codeIn K cdv x = true) (k : PySem.W.keepIn K (.ref f) = true) : Has K mg x st ps :=
  ⟨f, _, PySem.W.mg_of X G a, (fun_mk (st := st) l c k).binds (ps := ps) b, fun_mk (st := st) l c k⟩
theorem mfun_mk {K : PySem.W.Frag} {C f : Addr} {nm q : Str} {st : Stmt} {ps : List Str} {oc : Value} {od an : Option Addr} {osl : Array (Option Value)} {kV doc pm cdv ct : Value}
    (b : ∀ (kV doc pm : Value) (an : Option Addr) (cdv ct : Value) (us : List Value), us.length = ps.length → bindArgs (PySem.W.fnOf nm q (defArgs st) (defBody st) (defScope st) .none kV doc pm an cdv ct) ⟨us, []⟩ = pure (ps.zip us))
    (a : PySem.W.findIn K (.ref C) nm = some (some (.ref f))) (l : K.lookup f = some ⟨oc, od, .func (PySem.W.fnOf nm q (defArgs st) (defBody st) (defScope st) .none kV doc pm an cdv ct), osl⟩) (c : PySem.W.codeIn K cdv q = true) (k : PySem.W.keepIn K (.ref f) = true) (i : PySem.W.isFn K (.ref f) = true) : MFun K C nm q st ps :=
  ⟨f, _, a, i, fun_mk (st := st) l c k, (fun_mk (st := st) l c k).binds (ps := ps) b⟩
theorem over_mk {K : PySem.W.Frag} {C f : Addr} {nm q : Str} {st : Stmt} {ps : List Str} {oc : Value} {od an : Option Addr} {osl : Array (Option Value)} {kV doc pm cdv ct : Value}
    (b : ∀ (kV doc pm : Value) (an : Option Addr) (cdv ct : Value) (us : List Value), us.length = ps.length → bindArgs (PySem.W.fnOf nm q (defArgs st) (defBody st) (defScope st) .none kV doc pm an cdv ct) ⟨us, []⟩ = pure (ps.zip us))
    (a : PySem.W.findIn K (.ref C) nm = some (some (.ref f))) (l : K.lookup f = some ⟨oc, od, .func (PySem.W.fnOf nm q (defArgs st) (defBody st) (defScope st) .none kV doc pm an cdv ct), osl⟩) (c : PySem.W.codeIn K cdv q = true) (k : PySem.W.keepIn K (.ref f) = true) (i : PySem.W.isFn K (.ref f) = true) :
    ∃ f fd, Meth K C nm f ∧ Fun K nm q st f fd ∧ Binds K fd ps [] :=
  ⟨f, _, ⟨a, i, k⟩, fun_mk (st := st) l c k, (fun_mk (st := st) l c k).binds (ps := ps) b⟩
theorem pfun_mk {K : PySem.W.Frag} {C p g : Addr} {nm q : Str} {st : Stmt} {rest : List Value} {oc : Value} {od an : Option Addr} {osl : Array (Option Value)} {kV doc pm cdv ct : Value}
    (b : ∀ (kV doc pm : Value) (an : Option Addr) (cdv ct : Value) (us : List Value), us.length = 1 → bindArgs (PySem.W.fnOf nm q (defArgs st) (defBody st) (defScope st) .none kV doc pm an cdv ct) ⟨us, []⟩ = pure ((["self"] : List Str).zip us))
    (a : PySem.W.findIn K (.ref C) nm = some (some (.ref p))) (s : PySem.W.specialIn K (.ref p) "__get__" = some (some (.builtin "property.__get__"))) (t : PySem.W.takesIn K (.ref p) = some true) (r : PySem.W.recIn K p "property" = some (.ref g :: rest))
    (l : K.lookup g = some ⟨oc, od, .func (PySem.W.fnOf nm q (defArgs st) (defBody st) (defScope st) .none kV doc pm an cdv ct), osl⟩) (c : PySem.W.codeIn K cdv q = true) (k : PySem.W.keepIn K (.ref g) = true) : PFun K C nm q st :=
  ⟨p, g, _, ⟨a, s, t, rest, r⟩, fun_mk (st := st) l c k, (fun_mk (st := st) l c k).binds (ps := ["self"]) b⟩
/-- Ratio's __init__, its default 1 -/
theorem init_mk {K : PySem.W.Frag} {C fI Td : Addr} {oc dc : Value} {od an dd : Option Addr} {osl dsl : Array (Option Value)} {kV doc pm cdv ct : Value} {n : Nat} {tk : Tok}
    (a : PySem.W.findIn K (.ref C) "__init__" = some (some (.ref fI))) (l : K.lookup fI = some ⟨oc, od, .func (PySem.W.fnOf "__init__" "Ratio.__init__" (defArgs s_Ratio___init__) (defBody s_Ratio___init__) (defScope s_Ratio___init__) (.ref Td) kV doc pm an cdv ct), osl⟩)
    (d : K.lookup Td = some ⟨dc, dd, .seq #[.int 1 tk] n, dsl⟩) (c : PySem.W.codeIn K cdv "Ratio.__init__" = true) (k : PySem.W.keepIn K (.ref fI) = true) (m : PySem.W.makesIn K C = true) (i : PySem.W.isFn K (.ref fI) = true) (kc : PySem.W.keepIn K (.ref C) = true) :
    ∃ (fI : Addr) (fd : FuncData) (ds : List Value), Mk K C fI ∧ FunD K "__init__" "Ratio.__init__" (defArgs s_Ratio___init__) (defBody s_Ratio___init__) (defScope s_Ratio___init__) [.int 1] [] fI fd ∧ Binds K fd ["self", "top", "bottom"] [] ∧ Vals [.int 1] ds ∧ Binds K fd ["self", "top", "bottom"] ds := by
  have F : FunD K "__init__" "Ratio.__init__" (defArgs s_Ratio___init__) (defBody s_Ratio___init__) (defScope s_Ratio___init__) [.int 1] [] fI (PySem.W.fnOf "__init__" "Ratio.__init__" (defArgs s_Ratio___init__) (defBody s_Ratio___init__) (defScope s_Ratio___init__) (.ref Td) kV doc pm an cdv ct) :=
    ⟨⟨oc, od, _, kV, doc, pm, an, cdv, ct, osl, rfl, l, c, .inr ⟨by simp, Td, _, [.int 1 tk], n, rfl, d, rfl, .cons ⟨tk, rfl⟩ .nil⟩, .inl rfl⟩, k⟩
  obtain ⟨d0, v0, b0⟩ := F.binds1 (ps := ["self", "top", "bottom"]) 3 1 (by simp) rfl (fun T kV doc pm an cdv ct us its h1 h2 => match us, its, h1, h2 with | [_, _, _], [_], _, _ => ⟨_, rfl, rfl⟩)
  obtain ⟨d1, v1, b1⟩ := F.binds1 (ps := ["self", "top", "bottom"]) 2 0 (by simp) rfl (fun T kV doc pm an cdv ct us its h1 h2 => match us, its, h1, h2 with | [_, _], [_], _, _ => ⟨_, rfl, rfl⟩)
  cases v0
  exact ⟨fI, _, d1, ⟨m, a, i, kc⟩, F, b0, v1, b1⟩
/-- what else is asked of the class Ratio -/
structure RIn (K : PySem.W.Frag) (C : Addr) : Prop where
  cl : Cls K C
  nT : NoAttr K C "_top"
  nB : NoAttr K C "_bottom"
  c1 : PySem.W.findIn K (.ref C) "__class__" = some (some (.builtin "object.__class__"))
  c2 : PySem.W.specialIn K (.builtin "object.__class__") "__get__" = some (some (.builtin "getset_descriptor.__get__"))
  c3 : PySem.W.takesIn K (.builtin "object.__class__") = some true
  c4 : PySem.W.mroIn K C (.type "object") = some true
  kCI : PySem.W.kitOne K (.ref C) (.type "int") = some false
  kCC : PySem.W.kitOne K (.ref C) (.ref C) = some true
  kIC : PySem.W.kitOne K (.type "int") (.ref C) = some false
  kNC : PySem.W.kitOne K (.type "NoneType") (.ref C) = some false
  kTC : PySem.W.kitOne K (.type "tuple") (.ref C) = some false
  ne : NeO K C
  first : PySem.W.selfFirst K C = true
  no2 : PySem.W.subIn K (.ref C) (.type "int") = some false
  no : No12 K C
theorem rin_mk {K : PySem.W.Frag} {C : Addr} (g1 : PySem.W.specialIn K (.builtin "object.__class__") "__get__" = some (some (.builtin "getset_descriptor.__get__"))) (g2 : PySem.W.takesIn K (.builtin "object.__class__") = some true)
    (t : (PySem.W.plainGet K C Str.empty, PySem.W.hasDictIn K C, PySem.W.plainOver K C, PySem.W.selfFirst K C) = (true, true, true, true))
    (n1 : PySem.W.notFirst K C (.type "int") = true) (n2 : PySem.W.notFirst K C (.type "tuple") = true) (n3 : PySem.W.notFirst K C (.type "NoneType") = true)
    (u : (PySem.W.findIn K (.ref C) "__setattr__", PySem.W.findIn K (.ref C) "_top", PySem.W.findIn K (.ref C) "_bottom", PySem.W.findIn K (.ref C) "__class__", PySem.W.findIn K (.ref C) "__ne__") =
      (some (some (.builtin "object.__setattr__")), some none, some none, some (some (.builtin "object.__class__")), some (some (.builtin "object.__ne__"))))
    (v : (PySem.W.mroIn K C (.type "object"), PySem.W.subIn K (.ref C) (.type "object"), PySem.W.subIn K (.ref C) (.type "int")) = (some true, some true, some false))
    (k1 : PySem.W.kitOne K (.ref C) (.type "int") = some false) (k2 : PySem.W.kitOne K (.ref C) (.ref C) = some true) (k3 : PySem.W.kitOne K (.type "int") (.ref C) = some false) (k4 : PySem.W.kitOne K (.type "NoneType") (.ref C) = some false) (k5 : PySem.W.kitOne K (.type "tuple") (.ref C) = some false) : RIn K C := by
  simp only [Prod.mk.injEq] at t u v
  obtain ⟨t1, t2, t3, t4⟩ := t
  obtain ⟨u1, u2, u3, u4, u5⟩ := u
  obtain ⟨v1, v2, v3⟩ := v
  exact ⟨⟨t1, t2, t3, u1⟩, u2, u3, u4, g1, g2, v1, k1, k2, k3, k4, k5, ⟨u5, v2⟩, t4, v3, ⟨n1, n2, n3⟩⟩
theorem all_mk {l : PySem.W.OpenLaw} {w : World} {K : PySem.W.Frag} {h : Heap} {mg : Str → Option Value} {fa fL c Pt C CI CZ : Addr} {oc kV doc pm ct : Value} {od an : Option Addr} {osl : Array (Option Value)} (X : K.In h) (G : h.Ns mainGlobals mg) (hfa : mg "law" = some (.ref fa)) (tb : h.get? Pt = some noTab)
    (D0 : Has K mg "is_integer" s_is_integer ["value"])
    (D1 : Has K mg "is_number" s_is_number ["value"])
    (D2 : Has K mg "ratio_of" s_ratio_of ["value"])
    (D3 : Has K mg "_law_pool" s__law_pool ["_law_script", "_law_k"])
    (D4 : Has K mg "_law_draw" s__law_draw ["_law_pool_here", "_law_many"])
    (D5 : Has K mg "_law_choose" s__law_choose ["_law_pool_here", "_law_items"])
    (D6 : Has K mg "_law_integer" s__law_integer ["_law_pool_here"])
    (D7 : Has K mg "_law_divisor" s__law_divisor ["_law_one", "_law_other"])
    (D8 : Has K mg "_law_is" s__law_is ["_law_ratio", "_law_above", "_law_below"])
    (D9 : Has K mg "_law_drawn" s__law_drawn ["_law_pool_here"])
    (D10 : Has K mg "_law_order_right" s__law_order_right ["_law_one", "_law_other", "_law_apart"])
    (D11 : Has K mg "_law_told" s__law_told ["_law_call"])
    (D12 : Has K mg "_law_two_right" s__law_two_right ["_law_one", "_law_other", "_law_four"])
    (D13 : Has K mg "_law_wholes_right" s__law_wholes_right ["_law_one", "_law_whole", "_law_a", "_law_b"])
    (NI : CIn K "InvalidRatio" "InvalidRatio.__init__" si_InvalidRatio CI [.type "ValueError", .type "Exception", .type "BaseException", .type "object"] "ValueError.__new__" ["value"]) (NZ : CIn K "DivisionByZero" "DivisionByZero.__init__" si_DivisionByZero CZ [.type "ArithmeticError", .type "Exception", .type "BaseException", .type "object"] "ArithmeticError.__new__" [])
    (aC : PySem.W.nsIn K mainGlobals "Ratio" = some (some (.ref C))) (aG : PySem.W.nsIn K mainGlobals "gcd" = some (some (.builtin "math.gcd")))
    (ini : ∃ (fI : Addr) (fd : FuncData) (ds : List Value), Mk K C fI ∧ FunD K "__init__" "Ratio.__init__" (defArgs s_Ratio___init__) (defBody s_Ratio___init__) (defScope s_Ratio___init__) [.int 1] [] fI fd ∧ Binds K fd ["self", "top", "bottom"] [] ∧ Vals [.int 1] ds ∧ Binds K fd ["self", "top", "bottom"] ds)
    (pT : PFun K C "top" "Ratio.top" s_Ratio_top) (pB : PFun K C "bottom" "Ratio.bottom" s_Ratio_bottom) (ov : ∃ f fd, Meth K C "over" f ∧ Fun K "over" "Ratio.over" s_Ratio_over f fd ∧ Binds K fd ["self", "other"] [])
    (m_add : MFun K C "__add__" "Ratio.__add__" s_Ratio___add__ ["self", "other"]) (m_sub : MFun K C "__sub__" "Ratio.__sub__" s_Ratio___sub__ ["self", "other"]) (m_mul : MFun K C "__mul__" "Ratio.__mul__" s_Ratio___mul__ ["self", "other"]) (m_radd : MFun K C "__radd__" "Ratio.__radd__" s_Ratio___radd__ ["self", "other"]) (m_rsub : MFun K C "__rsub__" "Ratio.__rsub__" s_Ratio___rsub__ ["self", "other"]) (m_rmul : MFun K C "__rmul__" "Ratio.__rmul__" s_Ratio___rmul__ ["self", "other"]) (m_lt : MFun K C "__lt__" "Ratio.__lt__" s_Ratio___lt__ ["self", "other"]) (m_le : MFun K C "__le__" "Ratio.__le__" s_Ratio___le__ ["self", "other"]) (m_gt : MFun K C "__gt__" "Ratio.__gt__" s_Ratio___gt__ ["self", "other"]) (m_ge : MFun K C "__ge__" "Ratio.__ge__" s_Ratio___ge__ ["self", "other"]) (m_eq : MFun K C "__eq__" "Ratio.__eq__" s_Ratio___eq__ ["self", "other"]) (m_neg : MFun K C "__neg__" "Ratio.__neg__" s_Ratio___neg__ ["self"])
    (R : RIn K C) (xII : PySem.W.exmOne K (.ref CI) (.ref CI) = some true) (xZI : PySem.W.exmOne K (.ref CZ) (.ref CI) = some false) (xZZ : PySem.W.exmOne K (.ref CZ) (.ref CZ) = some true) (kA : PySem.W.kitOne K (.ref CZ) (.type "ArithmeticError") = some true)
    (z0 : PySem.W.nsIn K mainGlobals "int" = some none) (z1 : PySem.W.nsIn K mainGlobals "bool" = some none) (z2 : PySem.W.nsIn K mainGlobals "isinstance" = some none) (z3 : PySem.W.nsIn K mainGlobals "repr" = some none) (z4 : PySem.W.nsIn K mainGlobals "ArithmeticError" = some none) (z5 : PySem.W.nsIn K mainGlobals "abs" = some none) (z6 : PySem.W.nsIn K mainGlobals "len" = some none) (z7 : PySem.W.nsIn K mainGlobals "range" = some none) (z8 : PySem.W.nsIn K mainGlobals "max" = some none) (z9 : PySem.W.nsIn K mainGlobals "min" = some none)
    (aL : PySem.W.nsIn K mainGlobals "law" = some (some (.ref fL))) (lL : K.lookup fL = some ⟨oc, od, .func (PySem.W.fnOf "law" "law" (defArgs s_law) (defBody s_law) (defScope s_law) .none kV doc pm an (.ref c) ct), osl⟩) (cL : PySem.W.codeIn K (.ref c) "law" = true)
    (ch : PySem.W.codeHdIn K c Pt = true) (tk : K.lookup Pt = none) :
    ∃ (fd : FuncData) (c Pt : Addr), (∀ (s : Shared) (v : Value), BindsTo s fd ⟨[v], []⟩ [("_law_script", v)]) ∧ h.get? Pt = some noTab ∧ K.lookup Pt = none ∧ PySem.W.CodeHd h c Pt ∧
      (∀ base : Heap, K.In base → base.Ns mainGlobals mg → LamX.TabB base mg c Pt → FnG l.prog w K mg base CX0 12 fa fd ["_law_script"] (spLaw K Pt)) := by
  have e := hfa.symm.trans (PySem.W.mg_of X G aL)
  cases e
  have fr : ∀ {y : Str}, PySem.W.nsIn K mainGlobals y = some none → mg y = none := fun z => PySem.W.mg_none_of X G z
  refine ⟨PySem.W.fnOf "law" "law" (defArgs s_law) (defBody s_law) (defScope s_law) .none kV doc pm an (.ref c) ct, c, Pt, fun s v => .of_eq rfl, tb, tk, PySem.W.codeHd_of_K X ch, fun base _ _ TB => ?_⟩
  have T : Txt12 mg := ⟨fr z2, fr z0, fr z6, fr z7, fr z8, fr z9, fr z5, fr z3, fr z4⟩
  have RT : RTx K mg C := ⟨fr z0, fr z1, fr z2, PySem.W.mg_of X G aC, PySem.W.mg_of X G aG, R.cl, R.nT, R.nB, R.c1, R.c2, R.c3, R.c4, R.kCI, R.kCC, R.kIC, R.kNC, R.kTC⟩
  obtain ⟨fI, dI, aI, FI, LI⟩ := NI
  obtain ⟨fZ, dZ, aZ, FZ, LZ⟩ := NZ
  have mI := PySem.W.mg_of X G aI
  have mZ := PySem.W.mg_of X G aZ
  have TT : TTx K mg CI CZ := ⟨mI, mZ, fr z3, fr z2, fr z4, xII, xZI, xZZ, LI.look.xf, LI.no _ (by simp), LZ.look.ex, kA⟩
  have XI := in_InvalidRatio (P := l.prog) (w := w) (base := base) FI LI mI
  have XZ := in_DivisionByZero (P := l.prog) (w := w) (base := base) FZ LZ mZ
  have B : All12 l.prog w K mg base C CI CZ := all12 RT ⟨D0, D1, D2, ini, pT, pB, ov, m_add, m_sub, m_mul, m_radd, m_rsub, m_rmul, m_lt, m_le, m_gt, m_ge, m_eq, m_neg, R.ne, R.first, R.no2⟩ XI XZ
  obtain ⟨g, cdv, hP⟩ := oneP_of D11
  have O_pool := ok__law_pool (P := l.prog) (w := w) (base := base) (aR := 0) D3 T
  have O_draw := ok__law_draw (P := l.prog) (w := w) (base := base) (aR := 0) D4 T
  have O_choose := ok__law_choose (P := l.prog) (w := w) (base := base) (aR := 0) D5 T O_draw
  have O_integer := ok__law_integer (P := l.prog) (w := w) (base := base) D6 O_draw O_choose
  have O_divisor := ok__law_divisor (P := l.prog) (w := w) (base := base) D7 T
  have O_is := ok__law_is D8 RT.cl B.pT B.pB O_divisor
  have O_drawn := ok__law_drawn D9 O_integer
  have O_order := ok__law_order_right D10 B.six
  have O_two := ok__law_two_right D12 RT.cl B.nums O_is
  have O_wholes := ok__law_wholes_right D13 RT.cl B.nums B.numsI O_is
  exact ok_law lL cL TT B R.no TB hP T O_pool O_integer O_is O_drawn O_order O_two O_wholes
theorem walk {l : PySem.W.OpenLaw} {q : Program} {loose : List Str} {XP : (Str → Option Value) → Heap → Prop} {YP : World → Heap → Prop} {d : DefRec} {K : Params → PySem.W.Frag} (hn : l.most = some 63) (hdf : d.params.defaults = [])
    (hY : ∀ (w : World) (h : Heap), YP w h → (K w.params).In h)
    (F : ∀ (w : World) (mg : Str → Option Value) (fa : Addr) (h : Heap), YP w h → (K w.params).In h → h.Ns mainGlobals mg → mg d.name = some (.ref fa) → ∃ (fd : FuncData) (c Pt : Addr), (∀ (s : Shared) (u : Value), BindsTo s fd ⟨[u], []⟩ [("_law_script", u)]) ∧
      h.get? Pt = some noTab ∧ (K w.params).lookup Pt = none ∧ PySem.W.CodeHd h c Pt ∧
      (∀ base : Heap, (K w.params).In base → base.Ns mainGlobals mg → LamX.TabB base mg c Pt → FnG l.prog w (K w.params) mg base CX0 12 fa fd ["_law_script"] (spLaw (K w.params) Pt))) :
    PySem.W.WalkO q loose XP YP l.row.toRowW d [] (fun f vs => PySem.call f vs) :=
  walk_ofGT (n := 63) (k := 12) (x := "_law_script") (CX := fun _ => CX0) (sp := fun w Pt => spLaw (K w.params) Pt) hn (by decide) hdf ⟨rfl, by decide, by decide⟩ hY F (fun _ _ H a ns hl t hS => ⟨a, ns, rfl, hS, hl, t, fun _ => rfl⟩) fun _ _ _ _ _ z => z
end W1
open PySem PySem.W PyProof.Rows
set_option maxRecDepth 100000 in
set_option maxHeartbeats 0 in
theorem PySem.Challenge.cw_twodivisions_k12_ratios_holds : PySem.Challenge.rw_twodivisions_k12_ratios.Holds := by
  w_on; o_law; k_head; (case hw => w_witness2)
  k_fill
  refine W1.walk (l := PySem.Challenge.rw_twodivisions_k12_ratios) rfl rfl (fun w h Y => PySem.W.km_in_of Y) ?F
  case F =>
    intro w mg fa h Y KX G hmg
    refine' W1.all_mk KX G hmg (PySem.W.km_tabs_of Y _ List.mem_cons_self) ?D0 ?D1 ?D2 ?D3 ?D4 ?D5 ?D6 ?D7 ?D8 ?D9 ?D10 ?D11 ?D12 ?D13 ?NI ?NZ ?aC ?aG ?ini ?pT ?pB ?ov ?m_add ?m_sub ?m_mul ?m_radd ?m_rsub ?m_rmul ?m_lt ?m_le ?m_gt ?m_ge ?m_eq ?m_neg ?R ?xII ?xZI ?xZZ ?kA ?z0 ?z1 ?z2 ?z3 ?z4 ?z5 ?z6 ?z7 ?z8 ?z9 ?aL ?lL ?cL ?ch ?tk
    (case D0 => (refine' W1.has_mk KX G (fun _ _ _ _ _ _ us hl => match us, hl with | [_], _ => rfl) ?a ?l ?c ?k; (case a => k_is); (case l => k_is); (case c => k_is); (case k => k_is)))
    (case D1 => (refine' W1.has_mk KX G (fun _ _ _ _ _ _ us hl => match us, hl with | [_], _ => rfl) ?a ?l ?c ?k; (case a => k_is); (case l => k_is); (case c => k_is); (case k => k_is)))
    (case D2 => (refine' W1.has_mk KX G (fun _ _ _ _ _ _ us hl => match us, hl with | [_], _ => rfl) ?a ?l ?c ?k; (case a => k_is); (case l => k_is); (case c => k_is); (case k => k_is)))
    (case D3 => (refine' W1.has_mk KX G (fun _ _ _ _ _ _ us hl => match us, hl with | [_, _], _ => rfl) ?a ?l ?c ?k; (case a => k_is); (case l => k_is); (case c => k_is); (case k => k_is)))
    (case D4 => (refine' W1.has_mk KX G (fun _ _ _ _ _ _ us hl => match us, hl with | [_, _], _ => rfl) ?a ?l ?c ?k; (case a => k_is); (case l => k_is); (case c => k_is); (case k => k_is)))
    (case D5 => (refine' W1.has_mk KX G (fun _ _ _ _ _ _ us hl => match us, hl with | [_, _], _ => rfl) ?a ?l ?c ?k; (case a => k_is); (case l => k_is); (case c => k_is); (case k => k_is)))
    (case D6 => (refine' W1.has_mk KX G (fun _ _ _ _ _ _ us hl => match us, hl with | [_], _ => rfl) ?a ?l ?c ?k; (case a => k_is); (case l => k_is); (case c => k_is); (case k => k_is)))
    (case D7 => (refine' W1.has_mk KX G (fun _ _ _ _ _ _ us hl => match us, hl with | [_, _], _ => rfl) ?a ?l ?c ?k; (case a => k_is); (case l => k_is); (case c => k_is); (case k => k_is)))
    (case D8 => (refine' W1.has_mk KX G (fun _ _ _ _ _ _ us hl => match us, hl with | [_, _, _], _ => rfl) ?a ?l ?c ?k; (case a => k_is); (case l => k_is); (case c => k_is); (case k => k_is)))
    (case D9 => (refine' W1.has_mk KX G (fun _ _ _ _ _ _ us hl => match us, hl with | [_], _ => rfl) ?a ?l ?c ?k; (case a => k_is); (case l => k_is); (case c => k_is); (case k => k_is)))
    (case D10 => (refine' W1.has_mk KX G (fun _ _ _ _ _ _ us hl => match us, hl with | [_, _, _], _ => rfl) ?a ?l ?c ?k; (case a => k_is); (case l => k_is); (case c => k_is); (case k => k_is)))
    (case D11 => (refine' W1.has_mk KX G (fun _ _ _ _ _ _ us hl => match us, hl with | [_], _ => rfl) ?a ?l ?c ?k; (case a => k_is); (case l => k_is); (case c => k_is); (case k => k_is)))
    (case D12 => (refine' W1.has_mk KX G (fun _ _ _ _ _ _ us hl => match us, hl with | [_, _, _], _ => rfl) ?a ?l ?c ?k; (case a => k_is); (case l => k_is); (case c => k_is); (case k => k_is)))
    (case D13 => (refine' W1.has_mk KX G (fun _ _ _ _ _ _ us hl => match us, hl with | [_, _, _, _], _ => rfl) ?a ?l ?c ?k; (case a => k_is); (case l => k_is); (case c => k_is); (case k => k_is)))
    (case NI => (refine' W1.cin_mk ?YNIa ?YNIb ?YNIl ?YNIc ?YNIk ?YNIg1 ?YNIg2 ?YNIt ?YNIu ?YNIv ?YNIw; (case YNIa => k_is); (case YNIb => k_is); (case YNIl => k_is); (case YNIc => k_is); (case YNIk => k_is); (case YNIg1 => k_is); (case YNIg2 => k_is); (case YNIt => kernel_rfl); (case YNIu => kernel_rfl); (case YNIv => kernel_rfl); (case YNIw => kernel_rfl)))
    (case NZ => (refine' W1.cin_mk ?YNZa ?YNZb ?YNZl ?YNZc ?YNZk ?YNZg1 ?YNZg2 ?YNZt ?YNZu ?YNZv ?YNZw; (case YNZa => k_is); (case YNZb => k_is); (case YNZl => k_is); (case YNZc => k_is); (case YNZk => k_is); (case YNZg1 => k_is); (case YNZg2 => k_is); (case YNZt => kernel_rfl); (case YNZu => kernel_rfl); (case YNZv => kernel_rfl); (case YNZw => kernel_rfl)))
    (case aC => k_is); (case aG => k_is)
    (case ini => (refine' W1.init_mk ?a ?l ?d ?c ?k ?m ?i ?kc; (case a => k_is); (case l => k_is); (case d => k_is); (case c => k_is); (case k => k_is); (case m => k_is); (case i => k_is); (case kc => k_is)))
    (case pT => (refine' W1.pfun_mk (fun _ _ _ _ _ _ us hl => match us, hl with | [_], _ => rfl) ?a ?s ?t ?r ?l ?c ?k; (case a => k_is); (case s => k_is); (case t => k_is); (case r => k_is); (case l => k_is); (case c => k_is); (case k => k_is)))
    (case pB => (refine' W1.pfun_mk (fun _ _ _ _ _ _ us hl => match us, hl with | [_], _ => rfl) ?a ?s ?t ?r ?l ?c ?k; (case a => k_is); (case s => k_is); (case t => k_is); (case r => k_is); (case l => k_is); (case c => k_is); (case k => k_is)))
    (case ov => (refine' W1.over_mk (fun _ _ _ _ _ _ us hl => match us, hl with | [_, _], _ => rfl) ?a ?l ?c ?k ?i; (case a => k_is); (case l => k_is); (case c => k_is); (case k => k_is); (case i => k_is)))
    (case m_add => (refine' W1.mfun_mk (fun _ _ _ _ _ _ us hl => match us, hl with | [_, _], _ => rfl) ?a ?l ?c ?k ?i; (case a => k_is); (case l => k_is); (case c => k_is); (case k => k_is); (case i => k_is)))
    (case m_sub => (refine' W1.mfun_mk (fun _ _ _ _ _ _ us hl => match us, hl with | [_, _], _ => rfl) ?a ?l ?c ?k ?i; (case a => k_is); (case l => k_is); (case c => k_is); (case k => k_is); (case i => k_is)))
    (case m_mul => (refine' W1.mfun_mk (fun _ _ _ _ _ _ us hl => match us, hl with | [_, _], _ => rfl) ?a ?l ?c ?k ?i; (case a => k_is); (case l => k_is); (case c => k_is); (case k => k_is); (case i => k_is)))
    (case m_radd => (refine' W1.mfun_mk (fun _ _ _ _ _ _ us hl => match us, hl with | [_, _], _ => rfl) ?a ?l ?c ?k ?i; (case a => k_is); (case l => k_is); (case c => k_is); (case k => k_is); (case i => k_is)))
    (case m_rsub => (refine' W1.mfun_mk (fun _ _ _ _ _ _ us hl => match us, hl with | [_, _], _ => rfl) ?a ?l ?c ?k ?i; (case a => k_is); (case l => k_is); (case c => k_is); (case k => k_is); (case i => k_is)))
    (case m_rmul => (refine' W1.mfun_mk (fun _ _ _ _ _ _ us hl => match us, hl with | [_, _], _ => rfl) ?a ?l ?c ?k ?i; (case a => k_is); (case l => k_is); (case c => k_is); (case k => k_is); (case i => k_is)))
    (case m_lt => (refine' W1.mfun_mk (fun _ _ _ _ _ _ us hl => match us, hl with | [_, _], _ => rfl) ?a ?l ?c ?k ?i; (case a => k_is); (case l => k_is); (case c => k_is); (case k => k_is); (case i => k_is)))
    (case m_le => (refine' W1.mfun_mk (fun _ _ _ _ _ _ us hl => match us, hl with | [_, _], _ => rfl) ?a ?l ?c ?k ?i; (case a => k_is); (case l => k_is); (case c => k_is); (case k => k_is); (case i => k_is)))
    (case m_gt => (refine' W1.mfun_mk (fun _ _ _ _ _ _ us hl => match us, hl with | [_, _], _ => rfl) ?a ?l ?c ?k ?i; (case a => k_is); (case l => k_is); (case c => k_is); (case k => k_is); (case i => k_is)))
    (case m_ge => (refine' W1.mfun_mk (fun _ _ _ _ _ _ us hl => match us, hl with | [_, _], _ => rfl) ?a ?l ?c ?k ?i; (case a => k_is); (case l => k_is); (case c => k_is); (case k => k_is); (case i => k_is)))
    (case m_eq => (refine' W1.mfun_mk (fun _ _ _ _ _ _ us hl => match us, hl with | [_, _], _ => rfl) ?a ?l ?c ?k ?i; (case a => k_is); (case l => k_is); (case c => k_is); (case k => k_is); (case i => k_is)))
    (case m_neg => (refine' W1.mfun_mk (fun _ _ _ _ _ _ us hl => match us, hl with | [_], _ => rfl) ?a ?l ?c ?k ?i; (case a => k_is); (case l => k_is); (case c => k_is); (case k => k_is); (case i => k_is)))
    (case R => (refine' W1.rin_mk ?g1 ?g2 ?t ?n1 ?n2 ?n3 ?u ?v ?k1 ?k2 ?k3 ?k4 ?k5; (case g1 => k_is); (case g2 => k_is); (case t => kernel_rfl); (case n1 => k_is); (case n2 => k_is); (case n3 => k_is); (case u => kernel_rfl); (case v => kernel_rfl); (case k1 => kernel_rfl); (case k2 => kernel_rfl); (case k3 => kernel_rfl); (case k4 => kernel_rfl); (case k5 => kernel_rfl)))
    (case xII => kernel_rfl); (case xZI => kernel_rfl); (case xZZ => kernel_rfl); (case kA => kernel_rfl)
    (case z0 => k_is); (case z1 => k_is); (case z2 => k_is); (case z3 => k_is); (case z4 => k_is); (case z5 => k_is); (case z6 => k_is); (case z7 => k_is); (case z8 => k_is); (case z9 => k_is)
    (case aL => k_is); (case lL => k_is); (case cL => k_is); (case ch => kernel_rfl); (case tk => kernel_rfl)
