import PyProof.Rows.All
import Wide.All
import OpenK.AllK
import Wide.FinOn
import HandS.ForMost
import HandS.Wide
import HandS.IsInst
import KE.KExcInit
import KE.KExcPX
import HandS.ExcInit
import HandS.ExcField
import HandS.ExcIs
import KE.KExcIs
import HandS.Defaults
import HandS.MakeKw
import PyProof.ReprRoads
import PyProof.CallFns
import PyProof.ReprLen
import PySem.Challenge.RW_twodivisions_k30_error_classes
set_option Elab.async false
set_option maxRecDepth 100000
set_option maxHeartbeats 4000000
set_option linter.all false
namespace W1
open PySem L2
/-! ### own layer: promises that are kept where no repr is under way (A.guards = some []) -/
structure FnG (P : Program) (w : World) (K : PySem.W.Frag) (mg : Str → Option Value) (base : Heap) (CX : CXT) (k : Nat) (f : Addr) (fd : FuncData) (ps : List Str) (sp : Sp) : Prop where
  lens : ∀ vs H Q E, sp vs H Q E → vs.length = ps.length
  goes : ∀ (A : Around) (outer : List Env) (s : Shared) (H : Hp) (args : Args) (us : List Value) (vs : List V) (Q : VK) (E : XK), A.guards = some [] → Room k A → Env0 P w K mg base A outer s H →
    BindsTo s fd args (ps.zip us) → Vals vs us → sp vs H Q E → codeAny (model P w) A (.call (.ref f) args) (CR CX outer P w H s Q E) s
theorem FnG.of {P : Program} {w : World} {K : PySem.W.Frag} {mg : Str → Option Value} {base : Heap} {CX : CXT} {k : Nat} {f : Addr} {fd : FuncData} {ps : List Str} {sp : Sp} (F : FnOk P w K mg base CX k f fd ps sp) : FnG P w K mg base CX k f fd ps sp :=
  ⟨F.len, fun A outer s H args us vs Q E _ => F.run A outer s H args us vs Q E⟩
section
variable {X : Cx} {CX : CXT} {k : Nat} {f C : Addr} {fd : FuncData} {ps : List Str} {sp : Sp} {dvs : List V} {ds : List Value} {E : XK} {x m : Str} {p pos apos : Pos} {e o : Expr} {es : List Expr} {ta : TE} {t : TA}
theorem goG {pins : List (Addr × Obj)} {σ : St} {H : Hp} {s : Shared} {Q : VK} {us : List Value} {vs : List V} (F : FnG X.prog X.w X.K X.mg X.base CX k f fd ps sp) (hG : X.A.guards = some []) (hr : Room k X.A) (hb : Binds X.K fd ps ds) (hd : Vals dvs ds)
    (hx : Passes CX X E) (I : Inv X pins σ H s) (r : Vals vs us) (h : sp (vs ++ dvs) H Q E) : wpAny (model X.prog X.w) X.A (call (.ref f) us) (EP X pins σ Q) X.xe s := by
  have both := r.append hd
  have many : (us ++ ds).length = ps.length := both.length.symm.trans (F.lens _ _ _ _ h)
  refine wpAny_call (codeAny_mono (F.goes X.A X.stack s H ⟨us, []⟩ (us ++ ds) (vs ++ dvs) Q E hG hr I.env0 (hb s us I.kIn many) both h) ?_)
  rintro (er | fl) s' z
  · exact hx pins σ H s er s' I z
  · cases fl with
    | ret u => exact I.after z
    | _ => exact z.elim
theorem pe_callG (F : FnG X.prog X.w X.K X.mg X.base CX k f fd ps sp) (hG : X.A.guards = some []) (hr : Room k X.A) (hg : Gl X x) (hm : X.mg x = some (.ref f)) (hk : PySem.W.keepIn X.K (.ref f) = true) (hb : Binds X.K fd ps ds) (hd : Vals dvs ds) (hx : Passes CX X E)
    (ha : PA X (e :: es) t) (hdb : (x == ("__debug__" : Str)) = false := by decide) (he : starEach (e :: es) X.env = (false, eval e X.env) :: starEach es X.env := by rfl) (hpl : (backTo pos (starEach es X.env)).any (·.1) = false := by rfl) :
    PE X (.Call (.Name x p) (e :: es) [] pos) (tCall sp dvs E t) :=
  ⟨fun pins s σ H Q I h => wpAny_Call_Name_kw (ld_glob I hg hm (PySem.W.callWith_K (h₀ := X.base) I.ok.mod.kin hk (thn (ha.run pos pins s σ H _ I h) fun us s1 ⟨vs, H1, I1, r, q⟩ => ⟨I1.kIn, goG F hG hr hb hd hx I1 r q⟩) he hpl) hdb)⟩
theorem pe_callG0 (F : FnG X.prog X.w X.K X.mg X.base CX k f fd ps sp) (hG : X.A.guards = some []) (hr : Room k X.A) (hg : Gl X x) (hm : X.mg x = some (.ref f)) (hk : PySem.W.keepIn X.K (.ref f) = true) (hb : Binds X.K fd ps ds) (hd : Vals dvs ds) (hx : Passes CX X E)
    (hdb : (x == ("__debug__" : Str)) = false := by decide) : PE X (.Call (.Name x p) [] [] pos) (tCall sp dvs E tNil) :=
  ⟨fun pins s σ H Q I h => wpAny_Call_Name_kw (ld_glob I hg hm (PySem.W.callWith_K0 I.kIn hk (goG (us := []) F hG hr hb hd hx I .nil h)) hdb)⟩
end
/-- a def keeps its promise by its body, in such surroundings -/
theorem fnG_of {CX : CXT} {P : Program} {w : World} {K : PySem.W.Frag} {mg : Str → Option Value} {base : Heap} {k : Nat} {f : Addr} {name qual : Str} {params : Arguments} {body : List Stmt} {scope : Scope} {dV kV doc pm cdv ct oc : Value} {an od : Option Addr}
    {osl : Array (Option Value)} {N ps : List Str} {sp : Sp} (lk : K.lookup f = some ⟨oc, od, .func (PySem.W.fnOf name qual params body scope dV kV doc pm an cdv ct), osl⟩) (hcd : PySem.W.codeIn K cdv qual = true) (S : FnScope N ps scope)
    (len : ∀ vs H Q E, sp vs H Q E → vs.length = ps.length)
    (hbody : ∀ (A : Around) (outer : List Env) (s : Shared) (H : Hp) (vs : List V) (Q : VK) (E : XK), A.guards = some [] → Room k (A.deeper (PyProof.Rows.envOfC qual scope s.heap.objs.size f cdv)) → sp vs H Q E →
      ∃ t, PSs (cxOf CX P w K mg base N qual scope f cdv A outer s H E) body t ∧ t { nx := fun _ H' => Q .non H', rt := Q } (start N vs) H) :
    FnG P w K mg base CX (k + 1) f (PySem.W.fnOf name qual params body scope dV kV doc pm an cdv ct) ps sp := by
  refine ⟨len, fun A outer s H args us vs Q E hG hr e0 hb r hsp => ?_⟩
  have many := len _ _ _ _ hsp
  have part : K.In s.heap := e0.mod.kin.keeps fun b o z => (e0.bs b o z).1
  have below : s.heap.NoLimit := e0.mod.nolimit.keeps fun b o z => (e0.bs b o z).1
  have kinds : ∀ y ∈ ps.zip us, scope.names.lookup y.1 = some .local ∨ (scope.names.lookup y.1 = some .cell ∧ ((PySem.cellsFrom (s.heap.objs.size + 1) scope.names []).lookup y.1).isSome = true) := by
    rintro ⟨n, v⟩ hy
    exact (S.par n (List.of_mem_zip hy).1).imp id fun q => ⟨q, PySem.W.cellsFrom_some _ _ _ (.inl q)⟩
  refine PySem.codeAny_call_function hr.depth (part _ _ lk) rfl S.co S.gen rfl (PySem.W.codeRec_of part hcd) (hb _ _ _ _ (PySem.wpAny_newFunctionEnv_cells S.kind kinds ?_))
  intro env he s1 x
  subst he
  obtain ⟨t, ht, hq⟩ := hbody A outer s H vs Q E hG (hr.deeper _) hsp
  have I := inv_start (CX := CX) (N := N) (qual := qual) (f := f) (cd := cdv) (E := E) S hr.hd e0 many r x
  refine ⟨below.keeps x.toInCall.keep, PySem.codeAny_func (wpAny_mono (ht.run [] s1 (start N vs) H _ I hq) ?_ fun _ _ z => z)⟩
  rintro (_ | _ | _ | u) s' hs
  · obtain ⟨σ', H', J, q⟩ := hs
    exact ⟨V.non, H', J.os, J.bare, J.base, J.hok, rfl, q⟩
  · exact hs.elim fun _ z => z.elim fun _ z => z.2.elim
  · exact hs.elim fun _ z => z.elim fun _ z => z.2.elim
  · obtain ⟨v, σ', H', J, rv, q⟩ := hs
    exact ⟨v, H', J.os, J.bare, J.base, J.hok, rv, q⟩
theorem Fun.okG {P : Program} {w : World} {K : PySem.W.Frag} {mg : Str → Option Value} {base : Heap} {x qual : Str} {st : Stmt} {f : Addr} {fd : FuncData} {N ps : List Str} {k : Nat} {sp : Sp} (F : Fun K x qual st f fd) (S : FnScope N ps (defScope st)) (len : ∀ vs H Q E, sp vs H Q E → vs.length = ps.length)
    (hbody : ∀ (cdv : Value) (A : Around) (outer : List Env) (s : Shared) (H : Hp) (vs : List V) (Q : VK) (E : XK), A.guards = some [] → Room k (A.deeper (PyProof.Rows.envOfC qual (defScope st) s.heap.objs.size f cdv)) → sp vs H Q E →
      ∃ t, PSs (cxOf CX0 P w K mg base N qual (defScope st) f cdv A outer s H E).nox (defBody st) t ∧ t { nx := fun _ H' => Q .non H', rt := Q } (start N vs) H) : FnG P w K mg base CX0 (k + 1) f fd ps sp := by
  obtain ⟨oc, od, kV, doc, pm, an, cdv, ct, osl, rfl, lk, hcd⟩ := F.ex
  refine fnG_of lk hcd S len fun A outer s H vs Q E hG hr hsp => ?_
  obtain ⟨t, h, q⟩ := hbody cdv A outer s H vs Q E hG hr hsp
  exact ⟨t, h.nox, q⟩
/-! ### the law's own call, by such a promise -/
/-- what the caller wants of the law's call -/
abbrev Wanted (s₁ : Shared) (r : Result) (s' : Shared) : Prop := r = .ok (.ret (.bool true)) ∧ PySem.OldK s₁.heap s'.heap ∧ s'.os = s₁.os ∧ PyProof.Rows.AllBare s'.gens
/-- the abstract heap H tells of the script at a, and of nothing else -/
structure Sole (P : Program) (w : World) (K : PySem.W.Frag) (H : Hp) (h : Heap) (a : Addr) (ns : List Int) : Prop where
  only : Only H
  seq : SqL K H a (ns.map V.int)
  ok : HOk P w H h
  at_a : ∀ b, H b ≠ none → b = a
  notK : H a ≠ none → K.lookup a = none
theorem sole_run {P : Program} {w : World} {K : PySem.W.Frag} {mg mb : Str → Option Value} {CX : CXT} {k : Nat} {fa a : Addr} {fd : FuncData} {x : Str} {sp : Sp} {s₁ : Shared} {vs : List Value} {ns : List Int} {H : Hp}
    (Z : Sole P w K H s₁.heap a ns) (KX : K.In s₁.heap) (gN : s₁.heap.Ns mainGlobals mg) (bN : s₁.heap.Ns builtinsNs mb) (bB : ∀ y : Str, y ≠ "__name__" → mb y = bootBuiltins y) (lim : s₁.heap.NoLimit) (gens0 : s₁.gens = #[])
    (obj : s₁.heap.get? a = some { cls := .type "list", data := .seq vs.toArray }) (room : Room k callerA) (F : ∀ base : Heap, K.In base → base.Ns mainGlobals mg → FnG P w K mg base CX k fa fd [x] sp)
    (bind : ∀ (s : Shared) (u : Value), BindsTo s fd ⟨[u], []⟩ [(x, u)]) (want : ∀ H : Hp, Only H → SqL K H a (ns.map V.int) → sp [.ref a] H (fun v _ => v = .bl true) fun _ _ _ => False)
    (noX : ∀ H e s', CX [] H s₁ (fun _ _ _ => False) e s' → False) : codeAny (model P w) callerA (.call (.ref fa) ⟨[.ref a], []⟩) (Wanted s₁) s₁ := by
  -- what H tells of an address is the script's list
  have told : ∀ {b : Addr} {o : Obj}, s₁.heap.get? b = some o → H b ≠ none → b = a ∧ o = { cls := .type "list", data := .seq vs.toArray } := fun {b o} g n => by
    have e := Z.at_a b n
    rw [e, obj] at g
    exact ⟨e, (Option.some.inj g).symm⟩
  have hid : ∀ {b : Addr} {o : Obj}, s₁.heap.get? b = some o → ¬ H b ≠ none → (hidT s₁.heap H).get? b = some o := fun g n => hidT_get g (Classical.byContradiction n)
  have names : ∀ {b : Addr} {m : Str → Option Value}, s₁.heap.Ns b m → (hidT s₁.heap H).Ns b m := by
    rintro b m ⟨o, es, ep, g, d, r⟩
    refine ⟨o, es, ep, hid g fun n => ?_, d, r⟩
    rw [(told g n).2] at d
    exact Data.noConfusion d
  have part : K.In (hidT s₁.heap H) := fun b o g => hid (KX b o g) fun n => by
    have e := (told (KX b o g) n).1
    subst e
    rw [Z.notK n] at g
    cases g
  obtain ⟨mc, c1, c2⟩ := lim
  have md : Mod K mg (hidT s₁.heap H) := ⟨part, names gN, ⟨mb, names bN, bB⟩, ⟨mc, names c1, c2⟩⟩
  have e0 : Env0 P w K mg (hidT s₁.heap H) callerA [] s₁ H := ⟨rfl, md, fun _ _ g => of_hidT g, Nat.le_of_eq (hidT_size _ _), trivial, fun b m => absurd m (List.not_mem_nil (a := b)), Z.ok, PyProof.Rows.AllBare.of_eq gens0⟩
  refine codeAny_mono ((F _ part (names gN)).goes callerA [] s₁ H ⟨[.ref a], []⟩ [.ref a] [.ref a] _ _ rfl room e0 (bind s₁ (.ref a)) (.cons rfl .nil) (want H Z.only Z.seq)) ?_
  rintro (er | _ | _ | _ | u) s' q
  · exact (noX H er s' q).elim
  · exact q.elim
  · exact q.elim
  · exact q.elim
  · obtain ⟨v, H', os, bare, un, ok', rv, rfl⟩ := q
    obtain rfl : u = Value.bool true := rv
    refine ⟨rfl, PySem.OldK.of_keep fun b o g => ?_, os, bare⟩
    rcases Z.only b with n | ⟨ob, xs, n⟩
    · exact un.keep b o g n (fun m => by cases m) (fun m => by cases m)
    · have g1 := (Z.ok b _ n).1
      have g2 := (ok' b _ (un.frzs b ob _ n)).1
      rw [g] at g1
      rw [g2, Option.some.inj g1]
theorem law_callG {P : Program} {w : World} {K : PySem.W.Frag} {mg mb : Str → Option Value} {CX : CXT} {k : Nat} {fa a : Addr} {fd : FuncData} {x : Str} {sp : Sp} {s₁ : Shared} {vs : List Value} {ns : List Int} (KX : K.In s₁.heap) (gN : s₁.heap.Ns mainGlobals mg)
    (bN : s₁.heap.Ns builtinsNs mb) (bB : ∀ y : Str, y ≠ "__name__" → mb y = bootBuiltins y) (lim : s₁.heap.NoLimit) (gens0 : s₁.gens = #[]) (obj : s₁.heap.get? a = some { cls := .type "list", data := .seq vs.toArray }) (hints : PyProof.Rows.IntsAre vs ns) (few : ns.length ≤ sizeLine)
    (room : Room k callerA) (F : ∀ base : Heap, K.In base → base.Ns mainGlobals mg → FnG P w K mg base CX k fa fd [x] sp) (bind : ∀ (s : Shared) (u : Value), BindsTo s fd ⟨[u], []⟩ [(x, u)])
    (want : ∀ H : Hp, Only H → SqL K H a (ns.map V.int) → sp [.ref a] H (fun v _ => v = .bl true) fun _ _ _ => False) (noX : ∀ H e s', CX [] H s₁ (fun _ _ _ => False) e s' → False) :
    codeAny (model P w) callerA (.call (.ref fa) ⟨[.ref a], []⟩) (Wanted s₁) s₁ := by
  have rv := vals_ints hints
  have many := hints.length
  by_cases hk : K.lookup a = none
  · -- the script is the caller's own: told as a locked list
    have at_a : ∀ b : Addr, (if b = a then some (HO.frz { cls := .type "list", data := .seq vs.toArray } (.lst (ns.map V.int))) else none) ≠ none → b = a := fun b n => Classical.byContradiction fun z => n (if_neg z)
    refine sole_run (H := fun b => if b = a then some (.frz { cls := .type "list", data := .seq vs.toArray } (.lst (ns.map V.int))) else none) ⟨fun b => ?_, .inl (.inr ⟨_, if_pos rfl⟩), fun b u z => ?_, at_a, fun _ => hk⟩ KX gN bN bB lim gens0 obj room F bind want noX
    · by_cases e : b = a
      · exact .inr ⟨_, _, if_pos e⟩
      · exact .inl (if_neg e)
    · have e := at_a b (by rw [z]; exact Option.some_ne_none u)
      subst e
      obtain rfl := Option.some.inj ((if_pos rfl).symm.trans z)
      exact ⟨obj, by rw [List.length_map]; exact few, vs, _, rv, obj⟩
  · -- the script is one of the module's objects
    obtain ⟨o, ho⟩ := Option.ne_none_iff_exists'.mp hk
    have eo := Option.some.inj (obj.symm.trans (KX a o ho))
    refine sole_run (H := fun _ => none) ⟨fun _ => .inl rfl, .inr ⟨o, vs.toArray, 0, ho, by rw [← eo], by rw [← eo], by rw [← eo], by rw [List.size_toArray, many]; exact few, by simpa using rv⟩, fun b u z => (by cases z), fun b n => absurd rfl n, fun n => absurd rfl n⟩ KX gN bN bB lim gens0 obj room F bind want noX
/-- the goal behind the head, by such a promise -/
theorem walk_ofG {l : PySem.W.OpenLaw} {n k : Nat} {q : Program} {loose : List Str} {XP : (Str → Option Value) → Heap → Prop} {YP : World → Heap → Prop} {d : DefRec} {K : Params → PySem.W.Frag} {CX : World → CXT} {sp : World → Sp} {x : Str}
    (hn : l.most = some n) (few : n ≤ sizeLine) (hdf : d.params.defaults = []) (room : Room k callerA) (hY : ∀ (w : World) (h : Heap), YP w h → (K w.params).In h)
    (F : ∀ (w : World) (mg : Str → Option Value) (fa : Addr) (h : Heap), (K w.params).In h → h.Ns mainGlobals mg → mg d.name = some (.ref fa) → ∃ fd : FuncData, (∀ (s : Shared) (u : Value), BindsTo s fd ⟨[u], []⟩ [(x, u)]) ∧
      ∀ base : Heap, (K w.params).In base → base.Ns mainGlobals mg → FnG l.prog w (K w.params) mg base (CX w) k fa fd [x] (sp w))
    (want : ∀ (w : World) (H : Hp) (a : Addr) (ns : List Int), ns.length ≤ n → Only H → SqL (K w.params) H a (ns.map V.int) → sp w [.ref a] H (fun v _ => v = .bl true) fun _ _ _ => False)
    (noX : ∀ (w : World) (H : Hp) (s : Shared) (e : Value) (s' : Shared), CX w [] H s (fun _ _ _ => False) e s' → False) : PySem.W.WalkO q loose XP YP l.row.toRowW d [] (fun f vs => PySem.call f vs) :=
  Att.attach_call hn hdf fun w s₀ s₁ mg mb fa o pm cd doc a vs ns G Y ho hd hcd hmg hobj hints hlen hg => by
    have KX := hY w _ Y
    obtain ⟨fd, hb, hF⟩ := F w mg fa _ KX G.T.g hmg
    exact law_callG KX G.T.g G.T.b G.T.builtins G.T.nolimit hg hobj hints (Nat.le_trans hlen few) room hF hb (fun H z1 z2 => want w H a ns hlen z1 z2) fun H e s' => noX w H s₁ e s'
/-! ### own exception classes, called with keywords (rest: by place; kw: by name) -/
section
open PySem.PX
variable {prog : Program} {w : World} {M : Model} {A : Around} {E : Value → Shared → Prop} {R : Result → Shared → Prop} {h : Heap} {g : Array GenState} {d : Drawn} {t : Nat} {os : OsState}
variable {nm q : Str} {C N : Addr} {bs bm tl : List Value} {hdct : Bool} {sn : List Str} {sub : List Value} {ab : Bool} {col : Option Bool} {dd : Option Addr} {k0 k1 k2 k3 k5 : Option Value} {B newId initId : String}
abbrev exLaid (h : Heap) (C : Addr) (rest : List Value) : Heap := (h.push { cls := .type "tuple", data := .seq rest.toArray }).push { cls := .ref C, data := .fields #[.ref h.objs.size, .none, .none, .none, .bool false, .none] }
theorem kw_check_new (F : ExcBaseFacts B newId initId tl) (same : ∀ Y : String, bm.contains (.type Y) = tl.contains (.type Y)) {rest : List Value} {kw : List (Str × Value)} {Q : Unit → Shared → Prop}
    (hC : h.get? C = some (excClassObj nm q C N bs bm hdct sn sub ab col dd k0 k1 k2 k3 k5 newId)) (z : Q () ⟨h, g, d, t, os⟩) : wpAny M A (checkBuiltinCall newId ⟨.ref C :: rest, kw⟩) Q E ⟨h, g, d, t, os⟩ := by
  have inB : (Value.ref C :: bm).contains (.type B) = true := by
    rw [List.contains_cons, same, F.hasB, Bool.or_true]
  have star := F.noStar
  simp only [checkBuiltinCall, F.newKind, F.newSplit, F.newRow]
  repeat (first
    | refine wpAny_loadPart_at hC ?_
    | (refine wpAny_isSubtype_exc hC ?_; rw [inB])
    | refine wpAny_staticBase_exc hC ?_
    | refine wpAny_madeBy_exc hC ?_
    | simp only [bne_self_eq_false, Bool.false_eq_true, if_false]
    | wp_step)
  exact z
theorem kw_new (F : ExcBaseFacts B newId initId tl) (same : ∀ Y : String, bm.contains (.type Y) = tl.contains (.type Y)) {rest : List Value} {kw : List (Str × Value)}
    (hC : h.get? C = some (excClassObj nm q C N bs bm hdct sn sub ab col dd k0 k1 k2 k3 k5 newId)) (z : R (.ok (.ret (.ref (h.objs.size + 1)))) ⟨exLaid h C rest, g, d, t, os⟩) (few : rest.length ≤ sizeLine) :
    codeAny (model prog w) A (.builtin newId ⟨.ref C :: rest, kw⟩) R ⟨h, g, d, t, os⟩ := by
  have stops := F.ends
  have inB : (Value.ref C :: bm).contains (.type B) = true := by
    rw [List.contains_cons, same, F.hasB, Bool.or_true]
  have noA : (Value.ref C :: bm).contains (.type "AttributeError") = false := by
    rw [List.contains_cons, same, F.noAttr]
    rfl
  have noN : (Value.ref C :: bm).contains (.type "NameError") = false := by
    rw [List.contains_cons, same, F.noName]
    rfl
  refine codeAny_builtinAt F.entry ?_
  unfold Builtin.«BaseException.__new__»
  refine wpAt_bind ?_
  show wpAt _ _ _ (stack >>= _) _ _ _
  refine wpAt_bind (wpAt_stack fun p below => wpAt_of_wpAny ?_)
  wp_walk
  refine wpAt_of_wpAny ?_
  rw [F.owner]
  repeat (first
    | with_reducible refine wpAny_madeHere_exc F.canon hC ?_
    | with_reducible refine wpAny_loadPart_at hC ?_
    | (with_reducible refine wpAny_isSubtype_exc hC ?_; first | rw [inB] | rw [noA] | rw [noN])
    | wp_step)
  show R _ _
  rw [Heap.size_push]
  exact z
theorem kw_type_call (F : ExcBaseFacts B newId initId tl) (same : ∀ Y : String, bm.contains (.type Y) = tl.contains (.type Y)) {rest : List Value} {kw : List (Str × Value)} {fI : Addr} {Q : Fin → Shared → Prop}
    (hC : h.get? C = some (excClassObj nm q C N bs bm hdct sn sub ab col dd k0 k1 k2 k3 k5 newId)) (li : PySem.W.Looks (model prog w) h (typeLookup (.ref C) "__init__") (some (.ref fI)))
    (lb : ∀ self, PySem.W.Looks (model prog w) h (bindSpecial (.ref fI) self) (.ref fI, [self])) (few : rest.length ≤ sizeLine)
    (z : codeAny (model prog w) A (.call (.ref fI) ⟨.ref (h.objs.size + 1) :: rest, kw⟩) (fun r s' => match r with | .ok (.ret v) => v = .none ∧ Q (.done (.ret (.ref (h.objs.size + 1)))) s' | .ok _ => False | .error e => E e s') ⟨exLaid h C rest, g, d, t, os⟩) :
    wpAny (model prog w) A (Builtin.«type.__call__» ⟨.ref C :: rest, kw⟩) Q E ⟨h, g, d, t, os⟩ := by
  repeat (first
    | with_reducible refine wpAny_loadPart_at hC ?_
    | with_reducible refine wpAny_madeBy_exc hC ?_
    | wp_step)
  refine codeAny_call_builtin_code (Code.quiet_builtin _ F.quiet) (kw_check_new F same hC (kw_new F same hC ?_ few))
  show wpAny _ _ _ _ _ _
  have stay : ∀ b o, h.get? b = some o → (exLaid h C rest).get? b = some o := fun b o e => Heap.get?_push_of_some _ (Heap.get?_push_of_some _ e)
  have hC2 := stay _ _ hC
  have made : (exLaid h C rest).get? (h.objs.size + 1) = some { cls := .ref C, data := .fields #[.ref h.objs.size, .none, .none, .none, .bool false, .none] } := by
    unfold exLaid
    heap_get
  have inC : (Value.ref C :: bm).contains (.ref C) = true := by simp
  have li2 := li.keeps stay
  have lb2 := (lb (.ref (h.objs.size + 1))).keeps stay
  unfold isInstance
  repeat (first
    | with_reducible refine wpAny_loadPart_at made ?_
    | (with_reducible refine wpAny_isSubtype_exc hC2 ?_; rw [inC])
    | wp_step)
  show wpAny _ _ (typeLookup (.ref C) _) _ _ _
  refine li2.at (wpAny_holding (wpAny_bind (lb2.at (wpAny_bind (wpAny_call (codeAny_mono z ?_))))))
  rintro (e | _ | _ | _ | v) s' y <;> first | exact y | exact y.elim | skip
  obtain ⟨rfl, y⟩ := y
  first
    | exact wpAny_pure (wpAny_pure y)
    | (wp_walk; exact y)
theorem kw_call (F : ExcBaseFacts B newId initId tl) (same : ∀ Y : String, bm.contains (.type Y) = tl.contains (.type Y)) {rest : List Value} {kw : List (Str × Value)} {fI : Addr}
    (hC : h.get? C = some (excClassObj nm q C N bs bm hdct sn sub ab col dd k0 k1 k2 k3 k5 newId)) (li : PySem.W.Looks (model prog w) h (typeLookup (.ref C) "__init__") (some (.ref fI)))
    (lb : ∀ self, PySem.W.Looks (model prog w) h (bindSpecial (.ref fI) self) (.ref fI, [self])) (few : rest.length ≤ sizeLine)
    (z : codeAny (model prog w) (A.under (.builtin "type.__call__" ⟨.ref C :: rest, kw⟩)) (.call (.ref fI) ⟨.ref (h.objs.size + 1) :: rest, kw⟩) (PySem.W.InitBack (h.objs.size + 1) R) ⟨exLaid h C rest, g, d, t, os⟩) :
    codeAny (model prog w) A (.call (.ref C) ⟨rest, kw⟩) R ⟨h, g, d, t, os⟩ := by
  have f1 := tc_lookup
  have f2 := tc_bind (.ref C)
  have isT : (⟨h, g, d, t, os⟩ : Shared).TypeIs (.ref C) "type" := ⟨_, hC, rfl⟩
  refine codeAny_of_tree ?_
  show wpAny _ _ (callAny (.ref C) _) _ _ _
  repeat (any_goals (first
    | assumption
    | with_reducible refine wpAny_loadPart_at hC ?_
    | wp_step))
  refine ⟨rfl, codeAny_call_builtin_at (Code.quiet_builtin _ (by decide +kernel)) entry_typeCall (wpAny_check_type_call_sub hC (kw_type_call F same hC li lb few (codeAny_mono z ?_)))⟩
  rintro (e | _ | _ | _ | v) s' y <;> exact y
end
/-! ### a store into an own exception, whatever built-in class is its base -/
section
open PySem.PX Builtin Builtin.ObjectAttr
variable {prog : Program} {w : World} {A : Around} {E : Value → Shared → Prop} {R : Result → Shared → Prop} {hp : Heap} {g : Array GenState} {d : Drawn} {t : Nat} {os : OsState} {B : String} {tl : List Value} {K : PySem.W.Frag}
theorem taker_none {C : Addr} {name : Str} (no : PySem.W.findIn K (.ref C) name = some none) : PySem.W.takerIn K C name = some none := by
  unfold PySem.W.takerIn
  rw [no]
  rfl
theorem xs_first {name : Str} {tk : Tok} {v : Value} {x C : Addr} {fv : Array Value} (SF : StoreFacts B tl "object.__setattr__" "object") (X : K.In hp) (at_x : hp.get? x = some { cls := .ref C, data := .fields fv }) (ov : PySem.W.excOver K C tl = true)
    (hasD : PySem.W.hasDictIn K C = true) (no : PySem.W.findIn K (.ref C) name = some none)
    (z : ∀ h' tk' dx, (∀ b o, b ≠ x → hp.get? b = some o → h'.get? b = some o) → hp.objs.size ≤ dx → dx ≠ x → h'.get? x = some { cls := .ref C, dict := some dx, data := .fields fv } →
      h'.Ns1 dx (fun y => if y = name then some v else none) → R (.ok (.ret .none)) ⟨h', g, d, tk', os⟩) :
    codeAny (model prog w) A (.call (.builtin "object.__setattr__") ⟨[.ref x, .str name tk, v], []⟩) R ⟨hp, g, d, t, os⟩ := by
  refine PySem.W.osa_openX (od := none) SF X ⟨at_x, rfl, rfl, trivial⟩ ov (taker_none no) fun b => ?_
  obtain ⟨cd, hc, hd⟩ := PySem.W.any_some hasD
  have lk : PySem.W.Looks (model prog w) hp (classData C) cd := PySem.W.looks_clsIn X hc
  have apart : x ≠ hp.objs.size := Nat.ne_of_lt (Heap.lt_size at_x)
  show wpAny _ _ (storeInOwnDict (.ref x) (.ref C) (.str name tk) name v b) _ _ _
  obtain ⟨nm, bs, mro, ns, qn, hd1, sn, sb, ab, col, del⟩ := cd
  obtain rfl : hd1 = true := hd
  unfold storeInOwnDict ownDictForStores
  repeat (first
    | with_reducible refine store_in_new ?_ ?_
    | with_reducible refine wpAny_loadPart_at at_x ?_
    | with_reducible refine lk.at ?_
    | wp_step)
  · exact ⟨_, #[], _, (Heap.get?_update_ne _ _ _ _ apart.symm).trans (Heap.get?_push_at rfl rfl), rfl, fun e he => absurd he (by simp), fun _ => rfl⟩
  · intro h' tk' hn hs
    have x2 : (hp.push { cls := .type "dict", data := .dict #[] }).get? x = some { cls := .ref C, data := .fields fv } := Heap.get?_push_of_some _ at_x
    refine z h' tk' hp.objs.size (fun b o nb ho => ?_) (Nat.le_refl _) apart.symm ((hs.2 x apart).trans (Heap.get?_update_self _ x2 rfl)) hn
    exact (hs.2 b (Nat.ne_of_lt (Heap.lt_size ho))).trans ((Heap.get?_update_ne _ _ _ _ nb).trans (Heap.get?_push_of_some _ ho))
theorem xs_later {name : Str} {tk : Tok} {v : Value} {x C dx : Addr} {fv : Array Value} {m0 : Str → Option Value} {nl : List Str} (SF : StoreFacts B tl "object.__setattr__" "object") (X : K.In hp)
    (at_x : hp.get? x = some { cls := .ref C, dict := some dx, data := .fields fv }) (nd : hp.Ns1 dx m0) (wi : Within m0 nl) (few : nl.length ≤ 1000) (ov : PySem.W.excOver K C tl = true) (hasD : PySem.W.hasDictIn K C = true) (no : PySem.W.findIn K (.ref C) name = some none)
    (z : ∀ h' tk', (∀ b o, b ≠ dx → hp.get? b = some o → h'.get? b = some o) → h'.Ns1 dx (fun y => if y = name then some v else m0 y) → R (.ok (.ret .none)) ⟨h', g, d, tk', os⟩) :
    codeAny (model prog w) A (.call (.builtin "object.__setattr__") ⟨[.ref x, .str name tk, v], []⟩) R ⟨hp, g, d, t, os⟩ := by
  obtain ⟨oD, esD, epD, at_d, dD, _⟩ := nd.count wi
  refine PySem.W.osa_openX (od := some oD) SF X ⟨at_x, rfl, rfl, at_d⟩ ov (taker_none no) fun b => ?_
  obtain ⟨cd, hc, hd⟩ := PySem.W.any_some hasD
  have lk : PySem.W.Looks (model prog w) hp (classData C) cd := PySem.W.looks_clsIn X hc
  show wpAny _ _ (storeInOwnDict (.ref x) (.ref C) (.str name tk) name v b) _ _ _
  obtain ⟨nm, bs, mro, ns, qn, hd1, sn, sb, ab, col, del⟩ := cd
  obtain rfl : hd1 = true := hd
  unfold storeInOwnDict ownDictForStores
  repeat (first
    | with_reducible refine store_in_old nd wi few ?_
    | with_reducible refine wpAny_loadPart_at at_x ?_
    | with_reducible refine lk.at ?_
    | wp_step)
  intro h' tk' hn hs
  exact z h' tk' (fun b o nb ho => (hs.2 b nb).trans ho) hn
end
/-! ### the same over the layer: self.f = y in an own exception's __init__ -/
/-- what the written part says of an own exception class C, its __init__ at fI -/
structure XCls (K : PySem.W.Frag) (C fI : Addr) (tl : List Value) (newId : String) : Prop where
  ini : PySem.W.excInitIn K C tl newId = true
  over : PySem.W.excOver K C tl = true
  hasD : PySem.W.hasDictIn K C = true
  sa : PySem.W.findIn K (.ref C) "__setattr__" = some (some (.builtin "object.__setattr__"))
  init : PySem.W.findIn K (.ref C) "__init__" = some (some (.ref fI))
  isF : PySem.W.isFn K (.ref fI) = true
  kp : PySem.W.keepIn K (.ref C) = true
section
variable {X : Cx} {pins : List (Addr × Obj)} {σ : St} {H : Hp} {s : Shared} {a C fI dx : Addr} {f : Str} {y : V} {u : Value} {fs : List (Str × V)} {Q : Unit → Shared → Prop} {E : Value → Shared → Prop} {A : Around} {B newId : String} {tl : List Value}
theorem xset_first (SF : StoreFacts B tl "object.__setattr__" "object") (T : XCls X.K C fI tl newId) (I : Inv X pins σ H s) (ex : H a = some (exo a C none)) (no : PySem.W.findIn X.K (.ref C) f = some none) (ry : RelV y u)
    (z : ∀ dx s', H dx = none → dx ≠ a → Inv X pins σ (upd (upd H dx (exd dx [(f, y)])) a (exo a C (some dx))) s' → Q () s') : wpAny (model X.prog X.w) A (setAttr (.ref a) f u) Q E s := by
  obtain ⟨t1, ho⟩ := exo_at I.hok ex
  obtain ⟨hp, g, d, t, os⟩ := s
  refine PySem.W.set_plain I.kIn (ox := { cls := .ref C, dict := none, data := .fields #[.ref t1, .none, .none, .none, .bool false, .none] }) (od := none) ⟨ho, rfl, rfl, trivial⟩ T.sa (xs_first SF I.kIn ho T.over T.hasD no fun h' tk' dx k dn dne hx hn => ?_)
  have free : H dx = none := I.hok.fresh dn
  have old : ∀ {b : Addr} {o : Obj}, hp.get? b = some o → b ≠ dx := fun {b o} q => Nat.ne_of_lt (Nat.lt_of_lt_of_le (Heap.lt_size q) dn)
  have off : ∀ {b : Addr}, H b = none → b ≠ a := fun {b} n e => by
    subst e
    rw [n] at ex
    cases ex
  -- what is told elsewhere is told as before
  have same : ∀ {b : Addr} {o : HO}, H b = some o → o ≠ exo a C none → (upd (upd H dx (exd dx [(f, y)])) a (exo a C (some dx))) b = some o := fun {b o} q ne => by
    rw [upd_ne (at_ne ex q (Ne.symm ne)), upd_ne (ne_of_none q free)]
    exact q
  have U : Un X.fs [] H (upd (upd H dx (exd dx [(f, y)])) a (exo a C (some dx))) hp h' :=
    { keep := fun b o q n _ _ => k b o (off n) q
      slot := fun b o q n _ _ => ⟨o.slots, k b o (off n) q⟩
      free := fun b o q n _ => by
        rw [upd_ne (off n), upd_ne (old q)]
        exact n
      there := fun b o q _ => (Classical.em (b = a)).elim (fun e => ⟨_, e ▸ hx⟩) fun e => ⟨o, k b o e q⟩
      tups := fun b xs q => same q (Ne.symm exo_tup)
      frzs := fun b o v q => same q (Ne.symm exo_frz)
      tbls := fun b ps q => ⟨#[], by rw [same q (Ne.symm exo_tbl)]; simp⟩ }
  refine z dx _ free dne (I.un (t' := tk') U fun b o q => ?_)
  by_cases e1 : b = a
  · subst e1
    obtain rfl := Option.some.inj (upd_same.symm.trans q)
    exact exo_ok hx
  · rw [upd_ne e1] at q
    by_cases e2 : b = dx
    · subst e2
      obtain rfl := Option.some.inj (upd_same.symm.trans q)
      exact exd_ok hn (relO_put (fs := []) ry fun _ => True.intro)
    · rw [upd_ne e2] at q
      refine (I.hok b o q).stay (fun c v hc r => k c v ?_ r) (fun c hc => same hc (Ne.symm exo_own)) fun c xs hc => same hc (Ne.symm exo_tup)
      rcases hc with rfl | hc
      · exact e1
      · exact at_ne ex hc exo_own
theorem xset_later (SF : StoreFacts B tl "object.__setattr__" "object") (T : XCls X.K C fI tl newId) (I : Inv X pins σ H s) (ex : H a = some (exo a C (some dx))) (ed : H dx = some (exd dx fs)) (few : fs.length ≤ 900) (no : PySem.W.findIn X.K (.ref C) f = some none) (ry : RelV y u)
    (z : ∀ s', Inv X pins σ (upd H dx (exd dx ((f, y) :: fs))) s' → Q () s') : wpAny (model X.prog X.w) A (setAttr (.ref a) f u) Q E s := by
  obtain ⟨t1, ho⟩ := exo_at I.hok ex
  obtain ⟨mA, nd, rel⟩ := exd_at I.hok ed
  obtain ⟨hp, g, d, t, os⟩ := s
  obtain ⟨oD, _, _, at_d, _, _⟩ := nd.count (within_of rel)
  refine PySem.W.set_plain I.kIn (ox := { cls := .ref C, dict := some dx, data := .fields #[.ref t1, .none, .none, .none, .bool false, .none] }) (od := some oD) ⟨ho, rfl, rfl, at_d⟩ T.sa
    (xs_later SF I.kIn ho nd (within_of rel) (by rw [List.length_map]; omega) T.over T.hasD no fun h' tk' k hn => z _ (I.write (t' := tk') (x := dx) (e := dx) (o := exd dx ((f, y) :: fs)) (by rw [ed]; exact True.intro) (.inl rfl) k ?_ (exd_ok hn (relO_put ry rel))))
  obtain ⟨o, _, _, e, _⟩ := hn
  exact ⟨o, e⟩
end
/-- self.f = e, in an __init__ of an own exception class -/
def tXst (K : PySem.W.Frag) (tl : List Value) (newId : String) (f : Str) (to te : TE) : TS := fun D σ H => te σ H fun y H1 => to σ H1 fun x H2 => ∃ a C fI : Addr, x = .ref a ∧ XCls K C fI tl newId ∧ PySem.W.findIn K (.ref C) f = some none ∧
  ((H2 a = some (exo a C none) ∧ ∀ dx, H2 dx = none → dx ≠ a → D.nx σ (upd (upd H2 dx (exd dx [(f, y)])) a (exo a C (some dx)))) ∨
    ∃ (dx : Addr) (fs : List (Str × V)), H2 a = some (exo a C (some dx)) ∧ H2 dx = some (exd dx fs) ∧ fs.length ≤ 900 ∧ D.nx σ (upd H2 dx (exd dx ((f, y) :: fs))))
theorem ps_xst {X : Cx} {o e : Expr} {to te : TE} {f : Str} {p' pos : Pos} {B newId : String} {tl : List Value} (SF : StoreFacts B tl "object.__setattr__" "object") (ho : PE X o to) (he : PE X e te) (hs : swapsWith e (some (.Attribute o f p')) pos.line X.env = pure false := by rfl) :
    PS X (.Assign [.Attribute o f p'] e pos) (tXst X.K tl newId f to te) := by
  refine ⟨fun pins s σ H D I h => PySem.plainObj_wpAny_Assign_Attribute (thn (he.run pins s σ H _ I h) fun v s1 ⟨y, H1, I1, r1, q1⟩ => thn (ho.run pins s1 σ H1 _ I1 q1) fun u s2 ⟨x, H2, I2, r2, a, C, fI, ex, T, no, q⟩ => ?_) hs⟩
  subst ex
  obtain rfl : u = Value.ref a := r2
  rcases q with ⟨ea, q⟩ | ⟨dx, fs, ea, ed, few, q⟩
  · exact xset_first SF T I2 ea no r1 fun dx s' n ne J => ⟨σ, _, J, q dx n ne⟩
  · exact xset_later SF T I2 ea ed few no r1 fun s' J => ⟨σ, _, J, q⟩
/-! ### an own exception made as a value, its fields read, isinstance of it, repr -/
/-- C(.. by place .., .. by name ..) of an own exception class: a new exception, then its __init__ -/
def tXmk (C : Addr) (n m : Nat) (sp : Sp) (gV : List V → List V → List V) (t tk : TA) : TE := fun σ H Q => t σ H fun vs H1 => tk σ H1 fun zs H2 => vs.length = n ∧ zs.length = m ∧ vs.length ≤ 1000 ∧
  ∀ a, H2 a = none → sp (gV (.ref a :: vs) zs) (upd H2 a (exo a C none)) (fun v H3 => v = .non ∧ Q (.ref a) H3) E0
section
variable {X : Cx} {k n : Nat} {fI C : Addr} {fd : FuncData} {ps ks : List Str} {sp : Sp} {x : Str} {p pos : Pos} {e : Expr} {es : List Expr} {kws : List Keyword} {t tk : TA} {g : List Value → List Value → List Value} {gV : List V → List V → List V} {B newId initId : String} {tl : List Value}
theorem run_xmk {pins : List (Addr × Obj)} {σ : St} {H : Hp} {s : Shared} {Q : VK} {us ws : List Value} {vs zs : List V} (FB : ExcBaseFacts B newId initId tl) (T : XCls X.K C fI tl newId) (F : FnOk X.prog X.w X.K X.mg X.base CX0 k fI fd ps sp) (hr : Room (k + 1) X.A)
    (hb : KBn X.K fd ps (n + 1) ks g gV) (I : Inv X pins σ H s) (r : Vals vs us) (rz : Vals zs ws) (l1 : vs.length = n) (l2 : zs.length = ks.length) (few : vs.length ≤ 1000)
    (z : ∀ a, H a = none → sp (gV (.ref a :: vs) zs) (upd H a (exo a C none)) (fun v H3 => v = .non ∧ Q (.ref a) H3) E0) : wpAny (model X.prog X.w) X.A (call (.ref C) us (ks.zip ws)) (EP X pins σ Q) X.xe s := by
  obtain ⟨hp, gs, dr, tk, os⟩ := s
  obtain ⟨nm, N, qn, bs, bm, hdct, sn, sub, ab, col, dd, k0, k1, k2, k3, k5, hC, same⟩ := PySem.W.excInit_of I.kIn T.ini
  have up : hp.objs.size ≤ hp.objs.size + 1 := Nat.le_succ _
  have hq := z (hp.objs.size + 1) (I.hok.fresh up)
  have stay : ∀ b o, hp.get? b = some o → (exLaid hp C us).get? b = some o := fun b o q => Heap.get?_push_of_some _ (Heap.get?_push_of_some _ q)
  have made : (exLaid hp C us).get? (hp.objs.size + 1) = some { cls := .ref C, data := .fields #[.ref hp.objs.size, .none, .none, .none, .bool false, .none] } := by
    unfold exLaid
    heap_get
  have I2 : Inv X pins σ (upd H (hp.objs.size + 1) (exo (hp.objs.size + 1) C none)) ⟨exLaid hp C us, gs, dr, tk, os⟩ := I.laid (t' := tk) stay up (exo_ok made)
  have r1 : Vals (V.ref (hp.objs.size + 1) :: vs) (Value.ref (hp.objs.size + 1) :: us) := .cons rfl r
  have n1 : (Value.ref (hp.objs.size + 1) :: us).length = n + 1 := by
    rw [List.length_cons, ← r.length, l1]
  have fewU : us.length ≤ sizeLine := by
    rw [← r.length]
    exact Nat.le_trans few (by decide)
  obtain ⟨oI, at_I, isI⟩ : ∃ oI, hp.get? fI = some oI ∧ oI.cls = .type "function" := by
    obtain ⟨o, q, c⟩ := Option.map_eq_some_iff.mp (show (X.K.lookup fI).map (·.cls) = some (.type "function") from beq_iff_eq.mp T.isF)
    exact ⟨o, I.kIn _ _ q, c⟩
  refine wpAny_call (kw_call FB same hC (PySem.W.looks_findIn I.kIn T.init) (fun self => PySem.W.exc_bind at_I isI self) fewU (codeAny_mono (F.run _ X.stack _ _ ⟨Value.ref (hp.objs.size + 1) :: us, ks.zip ws⟩ (g (Value.ref (hp.objs.size + 1) :: us) ws) _ _ E0
    (hr.make C us (ks.zip ws)) (I2.env0.make C us (ks.zip ws)) (hb.to _ (Value.ref (hp.objs.size + 1) :: us) ws I2.kIn n1 (rz.length.symm.trans l2)) (hb.rel r1 rz) hq) ?_))
  rintro (er | _ | _ | _ | u) s' q
  · exact q.elim
  · exact q.elim
  · exact q.elim
  · exact q.elim
  · obtain ⟨v, H3, I3, rv, ev, q3⟩ := I2.after q
    subst ev
    exact ⟨rv, ⟨V.ref (hp.objs.size + 1), H3, I3, rfl, q3⟩⟩
/-- C(e, ..) -/
theorem pe_xmk (FB : ExcBaseFacts B newId initId tl) (T : XCls X.K C fI tl newId) (F : FnOk X.prog X.w X.K X.mg X.base CX0 k fI fd ps sp) (hr : Room (k + 1) X.A) (hg : Gl X x) (hm : X.mg x = some (.ref C)) (hb : KBn X.K fd ps (n + 1) [] g gV) (ha : PA X (e :: es) t)
    (hdb : (x == ("__debug__" : Str)) = false := by decide) (he : starEach (e :: es) X.env = (false, eval e X.env) :: starEach es X.env := by rfl) (hpl : (backTo pos (starEach es X.env)).any (·.1) = false := by rfl) :
    PE X (.Call (.Name x p) (e :: es) [] pos) (tXmk C n 0 sp gV t tNil) :=
  ⟨fun pins s σ H Q I h => wpAny_Call_Name_kw (ld_glob I hg hm (PySem.W.callWith_K (h₀ := X.base) I.ok.mod.kin T.kp (thn (ha.run pos pins s σ H _ I h) fun us s1 ⟨vs, H1, I1, r, l1, l2, l3, q⟩ => ⟨I1.kIn, run_xmk (ws := []) FB T F hr hb I1 r .nil l1 rfl l3 q⟩) he hpl) hdb)⟩
/-- C() -/
theorem pe_xmk0 (FB : ExcBaseFacts B newId initId tl) (T : XCls X.K C fI tl newId) (F : FnOk X.prog X.w X.K X.mg X.base CX0 k fI fd ps sp) (hr : Room (k + 1) X.A) (hg : Gl X x) (hm : X.mg x = some (.ref C)) (hb : KBn X.K fd ps 1 [] g gV)
    (hdb : (x == ("__debug__" : Str)) = false := by decide) : PE X (.Call (.Name x p) [] [] pos) (tXmk C 0 0 sp gV tNil tNil) :=
  ⟨fun pins s σ H Q I h => wpAny_Call_Name_kw (ld_glob I hg hm (PySem.W.callWith_K0 I.kIn T.kp (run_xmk (us := []) (vs := []) (ws := []) (zs := []) FB T F hr hb I .nil .nil rfl rfl (Nat.zero_le _) h.2.2.2)) hdb)⟩
/-- C(k = e, ..) -/
theorem pe_xmkK (FB : ExcBaseFacts B newId initId tl) (T : XCls X.K C fI tl newId) (F : FnOk X.prog X.w X.K X.mg X.base CX0 k fI fd ps sp) (hr : Room (k + 1) X.A) (hg : Gl X x) (hm : X.mg x = some (.ref C)) (hb : KBn X.K fd ps 1 ks g gV) (hkw : PK X kws tk)
    (hall : (backToKw pos (keywordEach kws X.env)).all (·.1.isSome) = true := by rfl) (hks : (backToKw pos (keywordEach kws X.env)).filterMap (·.1) = ks := by rfl) (hdb : (x == ("__debug__" : Str)) = false := by decide)
    (hpl : ((backTo pos (starEach [] X.env)).any (·.1) || (backToKw pos (keywordEach kws X.env)).any (·.1.isNone)) = false := by rfl) : PE X (.Call (.Name x p) [] kws pos) (tXmk C 0 ks.length sp gV tNil tk) := by
  refine ⟨fun pins s σ H Q I h => wpAny_Call_Name_kw (ld_glob I hg hm (PySem.W.callWith_KW0 (h₀ := X.base) I.ok.mod.kin T.kp hall (thn (hkw.run pos pins s σ H _ I h) fun ws s2 ⟨zs, H2, I2, rz, l1, l2, l3, q2⟩ => ⟨I2.kIn, ?_⟩) hpl) hdb)⟩
  rw [hks]
  exact run_xmk (us := []) (vs := []) FB T F hr hb I2 .nil rz rfl l2 l3 q2
end
/-- what is asked of an own exception class so that its fields are read and isinstance answers -/
structure XLook (K : PySem.W.Frag) (C : Addr) : Prop where
  xf : XfC K C
  ex : ExcC K C
/-- e.f of an own exception -/
def tXfd (K : PySem.W.Frag) (f : Str) (te : TE) : TE := fun σ H Q => te σ H fun x H1 => ∃ (a C d : Addr) (fs : List (Str × V)) (v : V), x = .ref a ∧ XLook K C ∧ PySem.W.findIn K (.ref C) f = some none ∧ H1 a = some (exo a C (some d)) ∧ H1 d = some (exd d fs) ∧ fs.lookup f = some v ∧ Q v H1
theorem pe_xfd {X : Cx} {e : Expr} {te : TE} {pos : Pos} {f : Str} (he : PE X e te) (hb : attributeBase e f X.env (eval e X.env) = eval e X.env := by rfl) : PE X (.Attribute e f pos) (tXfd X.K f te) := by
  refine ⟨fun pins s σ H Q I h => attr_of hb (thn (he.run pins s σ H _ I h) fun u s1 ⟨x, H1, I1, rx, a, C, d, fs, v, ex, T, no, ea, ed, l, q⟩ => ?_)⟩
  subst ex
  obtain rfl : u = Value.ref a := rx
  obtain ⟨t1, ha⟩ := exo_at I1.hok ea
  obtain ⟨mA, hns, hr⟩ := exd_at I1.hok ed
  obtain ⟨od, ho, hl⟩ := lookIn_ns hns
  obtain ⟨u, hu, ru⟩ := RelO.some_of (v := v) (o := mA f) (by rw [← l]; exact hr f)
  exact HandSPX.exc_get I1.kIn ⟨ha, rfl, rfl, ho⟩ T.xf.ga T.xf.gg T.xf.exC (PySem.W.findObj_own T.xf.hdC no rfl (by rw [hl, hu])) (handed_of ru) ⟨v, H1, I1.tok _, ru, q⟩
/-- isinstance(e, c) of an own exception -/
def rIsX (K : PySem.W.Frag) : List V → Hp → VK → Prop := fun xs H Q => ∃ (a D : Addr) (d : Option Addr) (c : V) (cv : Value) (b : Bool), xs = [.ref a, c] ∧ ExcC K D ∧ (H a = some (exo a D d) ∧ ∀ dd, d = some dd → ∃ fs, H dd = some (exd dd fs)) ∧ ClsV c cv ∧
  PySem.W.kitOne K (.ref D) cv = some b ∧ Q (.bl b) H
theorem call_isX {X : Cx} : CallR X (.builtin "isinstance") (rIsX X.K) := by
  intro pins s σ H xs us Q I r h
  obtain ⟨a, D, d, c, cv, b, rfl, T, ⟨ea, ed⟩, hc, hk, q⟩ := h
  obtain ⟨u1, u2, rfl, r1, r2⟩ := vals2 r
  obtain rfl : u1 = Value.ref a := r1
  obtain rfl := hc.eq r2
  obtain ⟨t1, ha⟩ := exo_at I.hok ea
  have cl : (PySem.W.clsIn X.K D).isSome = true := by
    obtain ⟨cd, hc, _⟩ := PySem.W.any_some T.hd
    rw [hc]
    rfl
  have J : ∃ od, PySem.W.InstAt s.heap a { cls := .ref D, dict := d, data := .fields #[.ref t1, .none, .none, .none, .bool false, .none] } D od := by
    cases d with
    | none => exact ⟨none, ha, rfl, rfl, trivial⟩
    | some dd =>
      obtain ⟨fs, e⟩ := ed dd rfl
      obtain ⟨mA, hns, _⟩ := exd_at I.hok e
      obtain ⟨od, ho, _⟩ := lookIn_ns hns
      exact ⟨some od, ha, rfl, rfl, ho⟩
  obtain ⟨od, J⟩ := J
  exact PySem.W.kia_one (PySem.W.kitx_exc (od := od) cl T.hg T.hk T.hs T.ha T.hn T.ht T.hm) I.kIn J hk (fun z => nomatch z) fun tk => ⟨.bl b, H, I.tok tk, rfl, q⟩
/-- v is read as the data d -/
def Rds (X : Cx) (H : Hp) (v : V) (d : PyData) : Prop := ∀ (pins : List (Addr × Obj)) (σ : St) (s : Shared) (u : Value), Inv X pins σ H s → RelV v u → ∃ as, Reads s.heap u d as ∧ (d.hasDict = true → sysModules ∉ as)
theorem Rds.of {X : Cx} {H : Hp} {v : V} {d : PyData} (h : Dp X.K H v d) (n : d.hasDict = false) : Rds X H v d := fun pins σ s u I r => by
  obtain ⟨as, q⟩ := Dp.reads I d v u h r
  exact ⟨as, q, fun z => by rw [n] at z; cases z⟩
theorem call_repr {X : Cx} (hG : X.A.guards = some []) (hu : X.A.units + 64 < cLine) : CallR X (.builtin "repr") (fun xs H Q => ∃ v d, xs = [v] ∧ Rds X H v d ∧ d.showable = true ∧ d.depth + 1 ≤ 64 ∧ d.shown.length ≤ sizeLine ∧ Q (.str d.shown) H) := by
  intro pins s σ H xs us Q I r h
  obtain ⟨v, d, rfl, hv, sh, dp, sz, q⟩ := h
  obtain ⟨u, rfl, ru⟩ := vals1 r
  obtain ⟨as, rd, nos⟩ := hv pins σ s u I ru
  cases rd with
  | none => exact PySem.P.repr_of_none ⟨.str _, H, I.tok _, ⟨_, rfl⟩, q⟩
  | bool b => exact PySem.P.repr_of_bool ⟨.str _, H, I.tok _, ⟨_, rfl⟩, by cases b <;> exact q⟩
  | int i t => exact PySem.P.repr_of_int (of_decide_eq_true sh) ⟨.str _, H, I.tok _, ⟨_, rfl⟩, q⟩
  | str y t => exact PySem.P.repr_of_str ⟨.str _, H, I.tok _, ⟨_, rfl⟩, q⟩ sz
  | list h1 h2 h3 h4 => exact PySem.repr_of_reads' (.list h1 h2 h3 h4) sh nos hG (by omega) (fun _ _ z => z) (fun h' u tk kk => ⟨.str _, H, I.kept kk, ⟨_, rfl⟩, q⟩) sz
  | tuple h1 h2 h3 h4 => exact PySem.repr_of_reads' (.tuple h1 h2 h3 h4) sh nos hG (by omega) (fun _ _ z => z) (fun h' u tk kk => ⟨.str _, H, I.kept kk, ⟨_, rfl⟩, q⟩) sz
  | dict h1 h2 h3 h4 h5 => exact PySem.repr_of_reads' (.dict h1 h2 h3 h4 h5) sh nos hG (by omega) (fun _ _ z => z) (fun h' u tk kk => ⟨.str _, H, I.kept kk, ⟨_, rfl⟩, q⟩) sz
/-! ### lists that are made anew do not lie where sys.modules lies -/
section
variable {X : Cx}
theorem above {pins : List (Addr × Obj)} {σ : St} {H : Hp} {s : Shared} (I : Inv X pins σ H s) : s.heap.objs.size ≠ sysModules := by
  have h1 : (3 : Nat) < X.base.objs.size := I.ok.mod.glob.lt
  have h2 : X.base.objs.size ≤ X.s_0.heap.objs.size := I.ok.bsz
  have h3 : X.s_0.heap.objs.size ≤ s.heap.objs.size := I.sz
  show s.heap.objs.size ≠ 1
  omega
def rCatS : R2 := fun x y H Q => ∃ l b xs zs, x = .ref l ∧ y = .ref b ∧ H l = some (.lst xs) ∧ H b = some (.lst zs) ∧ xs.length + zs.length ≤ sizeLine ∧ ∀ p, H p = none → p ≠ sysModules → Q (.ref p) (upd H p (.lst (xs ++ zs)))
theorem op_catS : OpR X (binaryOp .Add) rCatS := by
  rintro pins s σ H x y v u Q I rx ry ⟨l, b, xs, zs, rfl, rfl, hl, hb, few, q⟩
  cases rx
  cases ry
  obtain ⟨_, its, n, r, n1, at_l⟩ := I.lstM hl
  obtain ⟨_, jts, m, t, n2, at_b⟩ := I.lstM hb
  refine PySem.P.add_list at_l at_b ?_ (by simp only [List.size_toArray]; omega)
  rw [show its.toArray ++ jts.toArray = (its ++ jts).toArray by simp]
  exact ⟨.ref _, _, I.lnew (t' := s.toks) (r.append t) (by rw [List.length_append]; exact few), rfl, q _ I.fresh (above I)⟩
def rRepS : R2 := fun x y H Q => ∃ l k xs, x = .ref l ∧ y = .int k ∧ H l = some (.lst xs) ∧ -(2 ^ 63) ≤ k ∧ k < 2 ^ 63 ∧ xs.length * k.toNat ≤ sizeLine ∧
  ∀ p, H p = none → p ≠ sysModules → Q (.ref p) (upd H p (.lst (List.replicate k.toNat xs).flatten))
theorem op_repS : OpR X (binaryOp .Mult) rRepS := by
  rintro pins s σ H x y v u Q I rx ry ⟨l, k, xs, rfl, rfl, hl, lo, hi, few, q⟩
  cases rx
  obtain ⟨t, rfl⟩ := ry
  obtain ⟨_, its, n, r, n1, at_l⟩ := I.lstM hl
  have fewI : its.toArray.size * k.toNat ≤ sizeLine := by
    rw [List.size_toArray, ← n1]
    exact few
  have cap : ¬ its.toArray.size * k.toNat > (2 ^ 63 - 1) / 8 := Nat.not_lt.mpr (Nat.le_trans fewI (by decide))
  have fit : ¬ (!Builtin.List.listFitsIndex k) = true := by simp [fitsIndex_both lo hi]
  have long : ¬ Builtin.List.listTooLong (its.toArray.size * k.toNat) = true := by
    rw [notLongL fewI]
    exact Bool.false_ne_true
  have made : List.foldl (fun a b => a ++ b) #[] (List.replicate (if its.toArray.isEmpty = true then 0 else k.toNat) its.toArray) = (List.replicate k.toNat its).flatten.toArray := by
    have all := fun j : Nat => foldl_rep its j []
    simp only [List.nil_append] at all
    cases its with
    | nil => simpa using all 0
    | cons a r2 => exact (by simpa using all k.toNat)
  refine PySem.wpAny_binaryOp_repeat_ref (T := "list") (U := "int") (by decide) ⟨_, at_l, rfl⟩ (fun s' => typeIs_int s' k t) PySem.noFill_list_mul F.fills_int_mul F.slot_int_rmul PySem.repeat_list F.slot_int_index.lookup ?_
  refine PySem.call_meets F.slot_int_rmul (typeIs_int s k t) F.entry_int_rmul (F.args_int_rmul_2 _ _) (PySem.int___rmul___int_list k t l its.toArray n) ⟨at_l, rfl, ⟨_, at_l, rfl⟩, ?_⟩
  refine PySem.call_meets F.slot_list_mul ⟨_, at_l, rfl⟩ F.entry_list_mul (F.args_list_mul_2 _ _) (AutoListH.list___mul___list_int_3 l its.toArray n k t fit cap long) ⟨at_l, ?_⟩
  rw [made]
  exact ⟨.ref _, _, I.lnew (t' := s.toks) (r.rep k.toNat) (by rw [PyProof.Rows.lm_len_rep_flat, Nat.mul_comm]; exact few), rfl, q _ I.fresh (above I)⟩
end
/-! ### data that are read, a dict without pairs among them -/
/-- v is the data d: none, bools, ints, texts, lists, tuples of these, or a dict without pairs -/
inductive De (K : PySem.W.Frag) (H : Hp) : V → PyData → Prop
  | dp {v : V} {d : PyData} (h : Dp K H v d) (n : d.hasDict = false) : De K H v d
  | dic {a : Addr} (h : H a = some (.dK [])) : De K H (.ref a) (.dict [])
theorem De.rds {X : Cx} {H : Hp} {v : V} {d : PyData} (h : De X.K H v d) : Rds X H v d := by
  cases h with
  | dp h n => exact Rds.of h n
  | @dic a h =>
    intro pins σ s u I r
    obtain rfl : u = Value.ref a := r
    obtain ⟨_, low, vs, kv, o, es, ep, at_a, ex, dd, _, pr, _⟩ := (show ObjOk X.prog X.w H s.heap a (.dK []) from I.hok a _ h)
    cases kv
    have e0 : es.toList = [] := by cases e : es.toList with
      | nil => rfl
      | cons z r =>
        rw [e] at pr
        cases pr
    refine ⟨_, .dict (kvs := []) at_a ex.1 dd (by rw [e0]; exact .nil) (by rw [e0]; exact .nil), fun _ m => ?_⟩
    have m2 : sysModules = a := by simpa using m
    rw [← m2] at low
    exact absurd low (by decide)
/-! ### own exception classes whose __init__ stores its parameters -/
/-- an exception of the class C stands at a; its dict holds fs -/
def Ex (H : Hp) (a C : Addr) (fs : List (Str × V)) : Prop := ∃ d, H a = some (exo a C (some d)) ∧ H d = some (exd d fs)
/-- all but a stays -/
abbrev Near (a : Addr) (H H' : Hp) : Prop := ∀ b o, H b = some o → b ≠ a → H' b = some o
def sp1 (f : Str) (C : Addr) : Sp := fun vs H Q _ => ∃ (a : Addr) (v : V), vs = [.ref a, v] ∧ H a = some (exo a C none) ∧ ∀ H', Near a H H' → Ex H' a C [(f, v)] → Q .non H'
def sp2 (f g : Str) (C : Addr) : Sp := fun vs H Q _ => ∃ (a : Addr) (v u : V), vs = [.ref a, v, u] ∧ H a = some (exo a C none) ∧ ∀ H', Near a H H' → Ex H' a C [(g, u), (f, v)] → Q .non H'
def sp0 (C : Addr) : Sp := fun vs H Q _ => ∃ a : Addr, vs = [.ref a] ∧ H a = some (exo a C none) ∧ Q .non H
/-- the class x of the module, at C, is made with n values by place or by the names ks, the last one first -/
def XOk (P : Program) (w : World) (K : PySem.W.Frag) (mg : Str → Option Value) (base : Heap) (x : Str) (C : Addr) (n : Nat) (ps ks : List Str) (sp : Sp) : Prop :=
  ∃ (fI : Addr) (fd : FuncData) (B newId initId : String) (tl : List Value), ExcBaseFacts B newId initId tl ∧ XCls K C fI tl newId ∧ mg x = some (.ref C) ∧ FnOk P w K mg base CX0 1 fI fd ps sp ∧
    KBn K fd ps (n + 1) [] (fun us _ => us) (fun vs _ => vs) ∧ KBn K fd ps 1 ks (fun us ws => us ++ ws.reverse) (fun vs zs => vs ++ zs.reverse)
section
variable {X : Cx} {n : Nat} {C : Addr} {ps ks : List Str} {sp : Sp} {x : Str} {p pos : Pos} {e : Expr} {es : List Expr} {kws : List Keyword} {t tk : TA}
theorem pe_xV (o : XOk X.prog X.w X.K X.mg X.base x C n ps ks sp) (hr : Room 2 X.A) (hg : Gl X x) (ha : PA X (e :: es) t) (hdb : (x == ("__debug__" : Str)) = false := by decide) (he : starEach (e :: es) X.env = (false, eval e X.env) :: starEach es X.env := by rfl)
    (hpl : (backTo pos (starEach es X.env)).any (·.1) = false := by rfl) : PE X (.Call (.Name x p) (e :: es) [] pos) (tXmk C n 0 sp (fun vs _ => vs) t tNil) := by
  obtain ⟨fI, fd, B, newId, initId, tl, FB, T, m, F, b, _⟩ := o
  exact pe_xmk FB T F hr hg m b ha hdb he hpl
theorem pe_xV0 (o : XOk X.prog X.w X.K X.mg X.base x C 0 ps ks sp) (hr : Room 2 X.A) (hg : Gl X x) (hdb : (x == ("__debug__" : Str)) = false := by decide) : PE X (.Call (.Name x p) [] [] pos) (tXmk C 0 0 sp (fun vs _ => vs) tNil tNil) := by
  obtain ⟨fI, fd, B, newId, initId, tl, FB, T, m, F, b, _⟩ := o
  exact pe_xmk0 FB T F hr hg m b hdb
theorem pe_xVK (o : XOk X.prog X.w X.K X.mg X.base x C n ps ks sp) (hr : Room 2 X.A) (hg : Gl X x) (hkw : PK X kws tk) (hall : (backToKw pos (keywordEach kws X.env)).all (·.1.isSome) = true := by rfl) (hks : (backToKw pos (keywordEach kws X.env)).filterMap (·.1) = ks := by rfl)
    (hdb : (x == ("__debug__" : Str)) = false := by decide) (hpl : ((backTo pos (starEach [] X.env)).any (·.1) || (backToKw pos (keywordEach kws X.env)).any (·.1.isNone)) = false := by rfl) :
    PE X (.Call (.Name x p) [] kws pos) (tXmk C 0 ks.length sp (fun vs zs => vs ++ zs.reverse) tNil tk) := by
  obtain ⟨fI, fd, B, newId, initId, tl, FB, T, m, F, _, b⟩ := o
  exact pe_xmkK FB T F hr hg m b hkw hall hks hdb hpl
end
theorem Near.up {a : Addr} {o : HO} {H H' : Hp} (n : H a = none) (h : Near a (upd H a o) H') : Same H H' := fun b u e => h b u (by rw [upd_ne (ne_of_none e n)]; exact e) (ne_of_none e n)
section
variable {H : Hp} {Q : VK} {C : Addr} {f g : Str} {v u : V}
theorem mk1 (z : ∀ a H', H a = none → Same H H' → Ex H' a C [(f, v)] → Q (.ref a) H') : ([v] : List V).length = 1 ∧ ([] : List V).length = 0 ∧ ([v] : List V).length ≤ 1000 ∧ ∀ a, H a = none → sp1 f C ((fun vs _ => vs) (.ref a :: [v]) ([] : List V)) (upd H a (exo a C none)) (fun v H3 => v = .non ∧ Q (.ref a) H3) E0 :=
  ⟨rfl, rfl, by show 1 ≤ 1000; decide, fun a n => ⟨a, v, rfl, upd_same, fun H' k x => ⟨rfl, z a H' n (Near.up n k) x⟩⟩⟩
theorem mk1K (z : ∀ a H', H a = none → Same H H' → Ex H' a C [(f, v)] → Q (.ref a) H') : ([] : List V).length = 0 ∧ ([v] : List V).length = 1 ∧ ([] : List V).length ≤ 1000 ∧ ∀ a, H a = none → sp1 f C ((fun vs zs => vs ++ zs.reverse) (.ref a :: []) ([v] : List V)) (upd H a (exo a C none)) (fun v H3 => v = .non ∧ Q (.ref a) H3) E0 :=
  ⟨rfl, rfl, by decide, fun a n => ⟨a, v, rfl, upd_same, fun H' k x => ⟨rfl, z a H' n (Near.up n k) x⟩⟩⟩
theorem mk2 (z : ∀ a H', H a = none → Same H H' → Ex H' a C [(g, u), (f, v)] → Q (.ref a) H') : ([v, u] : List V).length = 2 ∧ ([] : List V).length = 0 ∧ ([v, u] : List V).length ≤ 1000 ∧ ∀ a, H a = none → sp2 f g C ((fun vs _ => vs) (.ref a :: [v, u]) ([] : List V)) (upd H a (exo a C none)) (fun v H3 => v = .non ∧ Q (.ref a) H3) E0 :=
  ⟨rfl, rfl, by show 2 ≤ 1000; decide, fun a n => ⟨a, v, u, rfl, upd_same, fun H' k x => ⟨rfl, z a H' n (Near.up n k) x⟩⟩⟩
theorem mk2K (z : ∀ a H', H a = none → Same H H' → Ex H' a C [(g, u), (f, v)] → Q (.ref a) H') : ([] : List V).length = 0 ∧ ([u, v] : List V).length = 2 ∧ ([] : List V).length ≤ 1000 ∧ ∀ a, H a = none → sp2 f g C ((fun vs zs => vs ++ zs.reverse) (.ref a :: []) ([u, v] : List V)) (upd H a (exo a C none)) (fun v H3 => v = .non ∧ Q (.ref a) H3) E0 :=
  ⟨rfl, rfl, by decide, fun a n => ⟨a, v, u, rfl, upd_same, fun H' k x => ⟨rfl, z a H' n (Near.up n k) x⟩⟩⟩
theorem mk0 (z : ∀ a H', H a = none → Same H H' → H' a = some (exo a C none) → Q (.ref a) H') : ([] : List V).length = 0 ∧ ([] : List V).length = 0 ∧ ([] : List V).length ≤ 1000 ∧ ∀ a, H a = none → sp0 C ((fun vs _ => vs) (.ref a :: []) ([] : List V)) (upd H a (exo a C none)) (fun v H3 => v = .non ∧ Q (.ref a) H3) E0 :=
  ⟨rfl, rfl, by decide, fun a n => ⟨a, rfl, upd_same, rfl, z a _ n (fun b o e => by rw [upd_ne (ne_of_none e n)]; exact e) upd_same⟩⟩
end
/-- the bodies self.f = f and self.f = f; self.g = g -/
theorem ex_first {H : Hp} {Q : VK} {a C : Addr} {f : Str} {v : V} (ha : H a = some (exo a C none)) (q : ∀ H', Near a H H' → Ex H' a C [(f, v)] → Q .non H') : ∀ dx, H dx = none → dx ≠ a → Q .non (upd (upd H dx (exd dx [(f, v)])) a (exo a C (some dx))) := fun dx n ne =>
  q _ (fun b o e nb => by rw [upd_ne nb, upd_ne (ne_of_none e n)]; exact e) ⟨dx, upd_same, by rw [upd_ne ne, upd_same]⟩
theorem ex_next {H : Hp} {Q : VK} {a C dx : Addr} {f g : Str} {v u : V} (ha : H a = some (exo a C none)) (n : H dx = none) (ne : dx ≠ a) (q : ∀ H', Near a H H' → Ex H' a C [(g, u), (f, v)] → Q .non H') :
    Q .non (upd (upd (upd H dx (exd dx [(f, v)])) a (exo a C (some dx))) dx (exd dx ((g, u) :: [(f, v)]))) :=
  q _ (fun b o e nb => by rw [upd_ne (ne_of_none e n), upd_ne nb, upd_ne (ne_of_none e n)]; exact e) ⟨dx, by rw [upd_ne ne.symm, upd_same], upd_same⟩
/-! ### a list of one value so many times, shown -/
theorem Rds.rep {X : Cx} {H : Hp} {v : V} {d : PyData} {p : Addr} {n : Nat} (h : H p = some (.lst (List.replicate n v))) (np : p ≠ sysModules) (hv : De X.K H v d) : Rds X H (.ref p) (.list (List.replicate n d)) := by
  intro pins σ s u I r
  obtain rfl : u = Value.ref p := r
  obtain ⟨_, its, m, rv, at_p⟩ := (show ObjOk X.prog X.w H s.heap p (.lst (List.replicate n v)) from I.hok p _ h)
  have all : ∀ (n : Nat) (its : List Value), Vals (List.replicate n v) its → ∃ as, ReadsAll s.heap its (List.replicate n d) as ∧ (d.hasDict = true → sysModules ∉ as) := by
    intro n
    induction n with
    | zero =>
      intro its z
      cases z
      exact ⟨[], .nil, fun _ m => nomatch m⟩
    | succ n ih =>
      intro its z
      cases z with
      | cons r1 r2 =>
        obtain ⟨as, q1, n1⟩ := hv.rds pins σ s _ I r1
        obtain ⟨bs, q2, n2⟩ := ih _ r2
        exact ⟨as ++ bs, .cons q1 q2, fun e m => (List.mem_append.mp m).elim (n1 e) (n2 e)⟩
  obtain ⟨as, q, no⟩ := all n its rv
  refine ⟨_, .list at_p rfl rfl (by simpa using q), fun e m => ?_⟩
  rcases List.mem_cons.mp m with z | z
  · exact np z.symm
  · have hd : d.hasDict = true := by
      have key : ∀ k : Nat, PyData.hasDictAll (List.replicate k d) = true → d.hasDict = true := fun k => by
        induction k with
        | zero => intro z; cases z
        | succ k ih =>
          intro z
          rw [List.replicate_succ] at z
          have z2 : (d.hasDict || PyData.hasDictAll (List.replicate k d)) = true := by simpa [PyData.hasDictAll] using z
          rcases Bool.or_eq_true_iff.mp z2 with z2 | z2
          · exact z2
          · exact ih z2
      exact key n (by simpa [PyData.hasDict] using e)
    exact no hd z
theorem rep_show {d : PyData} {n : Nat} (sh : d.showable = true) : (PyData.list (List.replicate n d)).showable = true := by
  have key : ∀ k : Nat, PyData.showableAll (List.replicate k d) = true := fun k => by
    induction k with
    | zero => rfl
    | succ k ih => rw [List.replicate_succ, PyData.showableAll, sh, ih]; rfl
  rw [PyData.showable]
  exact key n
theorem rep_depth {d : PyData} {n k : Nat} (h : d.depth ≤ k) : (PyData.list (List.replicate n d)).depth ≤ k + 1 := by
  have key : ∀ m : Nat, PyData.depthAll (List.replicate m d) ≤ k := fun m => by
    induction m with
    | zero => exact Nat.zero_le _
    | succ m ih =>
      rw [List.replicate_succ, PyData.depthAll]
      exact Nat.max_le.mpr ⟨h, ih⟩
  rw [PyData.depth]
  have := key n
  omega
theorem rep_size {d : PyData} {n k : Nat} (h : d.shown.length ≤ k) : (PyData.list (List.replicate n d)).shown.length ≤ n * (k + 2) + 3 := by
  have all : ∀ m : Nat, PyData.shownAll (List.replicate m d) = List.replicate m d.shown := fun m => by
    induction m with
    | zero => rfl
    | succ m ih => rw [List.replicate_succ, PyData.shownAll, ih, List.replicate_succ]
  have e := listText_len_le (List.replicate n d.shown)
  rw [PyData.shown, all]
  simp only [List.map_replicate, List.sum_replicate_nat, List.length_replicate] at e
  have : n * d.shown.length ≤ n * k := Nat.mul_le_mul_left n h
  rw [Nat.mul_add]
  omega
def top (i : Nat) : Stmt := PySem.Challenge.pw_twodivisions_k30_error_classes.main.body.getD i (.Pass ⟨0, 0, 0, 0⟩)
theorem vals_rev : ∀ {xs : List V} {us : List Value}, Vals xs us → Vals xs.reverse us.reverse
  | _, _, .nil => .nil
  | _, _, .cons r t => by
    rw [List.reverse_cons, List.reverse_cons]
    exact (vals_rev t).append (.cons r .nil)
def tlK : Nat → List Value
  | 0 => [.type "ValueError", .type "Exception", .type "BaseException", .type "object"]
  | 1 => [.type "LookupError", .type "Exception", .type "BaseException", .type "object"]
  | 2 => [.type "ArithmeticError", .type "Exception", .type "BaseException", .type "object"]
  | 3 => [.type "RuntimeError", .type "Exception", .type "BaseException", .type "object"]
  | _ => [.type "OverflowError", .type "ArithmeticError", .type "Exception", .type "BaseException", .type "object"]
def dueL : List Int := List.replicate 20 0 ++ [1, 2, 2] ++ List.replicate 7 3 ++ [4]
/-- the fields of each class -/
def fieldsL : List (List Str) := [["value"], ["value"], ["value"], ["value"], ["number"], ["number"], ["mode", "number"], ["value"], ["value"], ["value"], ["value"], ["value"], ["line"], ["value"], ["value"], ["value"], ["value"], ["value"], ["number"], ["word"], ["value"], ["number"], [], ["number"], ["one", "other"], ["number"], ["condition", "number"], [], [], [], ["most"]]
section
variable {P : Program} {w : World} {K : PySem.W.Frag} {mg : Str → Option Value} {base : Heap}
abbrev si_InvalidRule : Stmt := inClass (top 1) 0
theorem sci_InvalidRule : FnScope ["self", "value"] ["self", "value"] (defScope si_InvalidRule) := ⟨rfl, rfl, rfl, by decide +kernel, rfl, by decide +kernel, by decide +kernel⟩
theorem in_InvalidRule {C fI : Addr} {fd : FuncData} (F : Fun K "__init__" "InvalidRule.__init__" si_InvalidRule fI fd) (T : XCls K C fI [.type "ValueError", .type "Exception", .type "BaseException", .type "object"] "ValueError.__new__") (no0 : PySem.W.findIn K (.ref C) "value" = some none) (m : mg "InvalidRule" = some (.ref C)) : XOk P w K mg base "InvalidRule" C 1 ["self", "value"] ["value"] (sp1 "value" C) := by
  obtain ⟨oc, od, kV, doc, pm, an, cdv, ct, osl, rfl, lk, hcd⟩ := F.ex
  refine ⟨fI, _, "ValueError", "ValueError.__new__", "ValueError.__init__", [.type "ValueError", .type "Exception", .type "BaseException", .type "object"], PySem.F.excBase_ValueError, T, m, F.ok sci_InvalidRule (fun vs H Q E h => ?_) (fun cdv A outer s H vs Q E hr h => ?_),
    ⟨fun s us ws _ l1 l2 => match us, ws, l1, l2 with | [_, _], [], _, _ => .of_eq rfl, fun r _ => r⟩, ⟨fun s us ws _ l1 l2 => match us, ws, l1, l2 with | [_], [_], _, _ => .of_eq rfl, fun r1 r2 => r1.append (vals_rev r2)⟩⟩
  · obtain ⟨a, v, rfl, _⟩ := h
    rfl
  · obtain ⟨a, v, rfl, ea, q⟩ := h
    refine ⟨_, pss_one (ps_xst PySem.F.store_ValueError (newId := "ValueError.__new__") (pv 0) (pv 1)), ?_⟩
    exact ⟨_, rfl, _, rfl, a, C, fI, rfl, T, no0, .inl ⟨ea, ex_first ea q⟩⟩
abbrev si_InvalidNumber : Stmt := inClass (top 2) 0
theorem sci_InvalidNumber : FnScope ["self", "value"] ["self", "value"] (defScope si_InvalidNumber) := ⟨rfl, rfl, rfl, by decide +kernel, rfl, by decide +kernel, by decide +kernel⟩
theorem in_InvalidNumber {C fI : Addr} {fd : FuncData} (F : Fun K "__init__" "InvalidNumber.__init__" si_InvalidNumber fI fd) (T : XCls K C fI [.type "ValueError", .type "Exception", .type "BaseException", .type "object"] "ValueError.__new__") (no0 : PySem.W.findIn K (.ref C) "value" = some none) (m : mg "InvalidNumber" = some (.ref C)) : XOk P w K mg base "InvalidNumber" C 1 ["self", "value"] ["value"] (sp1 "value" C) := by
  obtain ⟨oc, od, kV, doc, pm, an, cdv, ct, osl, rfl, lk, hcd⟩ := F.ex
  refine ⟨fI, _, "ValueError", "ValueError.__new__", "ValueError.__init__", [.type "ValueError", .type "Exception", .type "BaseException", .type "object"], PySem.F.excBase_ValueError, T, m, F.ok sci_InvalidNumber (fun vs H Q E h => ?_) (fun cdv A outer s H vs Q E hr h => ?_),
    ⟨fun s us ws _ l1 l2 => match us, ws, l1, l2 with | [_, _], [], _, _ => .of_eq rfl, fun r _ => r⟩, ⟨fun s us ws _ l1 l2 => match us, ws, l1, l2 with | [_], [_], _, _ => .of_eq rfl, fun r1 r2 => r1.append (vals_rev r2)⟩⟩
  · obtain ⟨a, v, rfl, _⟩ := h
    rfl
  · obtain ⟨a, v, rfl, ea, q⟩ := h
    refine ⟨_, pss_one (ps_xst PySem.F.store_ValueError (newId := "ValueError.__new__") (pv 0) (pv 1)), ?_⟩
    exact ⟨_, rfl, _, rfl, a, C, fI, rfl, T, no0, .inl ⟨ea, ex_first ea q⟩⟩
abbrev si_InvalidBase : Stmt := inClass (top 3) 0
theorem sci_InvalidBase : FnScope ["self", "value"] ["self", "value"] (defScope si_InvalidBase) := ⟨rfl, rfl, rfl, by decide +kernel, rfl, by decide +kernel, by decide +kernel⟩
theorem in_InvalidBase {C fI : Addr} {fd : FuncData} (F : Fun K "__init__" "InvalidBase.__init__" si_InvalidBase fI fd) (T : XCls K C fI [.type "ValueError", .type "Exception", .type "BaseException", .type "object"] "ValueError.__new__") (no0 : PySem.W.findIn K (.ref C) "value" = some none) (m : mg "InvalidBase" = some (.ref C)) : XOk P w K mg base "InvalidBase" C 1 ["self", "value"] ["value"] (sp1 "value" C) := by
  obtain ⟨oc, od, kV, doc, pm, an, cdv, ct, osl, rfl, lk, hcd⟩ := F.ex
  refine ⟨fI, _, "ValueError", "ValueError.__new__", "ValueError.__init__", [.type "ValueError", .type "Exception", .type "BaseException", .type "object"], PySem.F.excBase_ValueError, T, m, F.ok sci_InvalidBase (fun vs H Q E h => ?_) (fun cdv A outer s H vs Q E hr h => ?_),
    ⟨fun s us ws _ l1 l2 => match us, ws, l1, l2 with | [_, _], [], _, _ => .of_eq rfl, fun r _ => r⟩, ⟨fun s us ws _ l1 l2 => match us, ws, l1, l2 with | [_], [_], _, _ => .of_eq rfl, fun r1 r2 => r1.append (vals_rev r2)⟩⟩
  · obtain ⟨a, v, rfl, _⟩ := h
    rfl
  · obtain ⟨a, v, rfl, ea, q⟩ := h
    refine ⟨_, pss_one (ps_xst PySem.F.store_ValueError (newId := "ValueError.__new__") (pv 0) (pv 1)), ?_⟩
    exact ⟨_, rfl, _, rfl, a, C, fI, rfl, T, no0, .inl ⟨ea, ex_first ea q⟩⟩
abbrev si_InvalidName : Stmt := inClass (top 4) 0
theorem sci_InvalidName : FnScope ["self", "value"] ["self", "value"] (defScope si_InvalidName) := ⟨rfl, rfl, rfl, by decide +kernel, rfl, by decide +kernel, by decide +kernel⟩
theorem in_InvalidName {C fI : Addr} {fd : FuncData} (F : Fun K "__init__" "InvalidName.__init__" si_InvalidName fI fd) (T : XCls K C fI [.type "ValueError", .type "Exception", .type "BaseException", .type "object"] "ValueError.__new__") (no0 : PySem.W.findIn K (.ref C) "value" = some none) (m : mg "InvalidName" = some (.ref C)) : XOk P w K mg base "InvalidName" C 1 ["self", "value"] ["value"] (sp1 "value" C) := by
  obtain ⟨oc, od, kV, doc, pm, an, cdv, ct, osl, rfl, lk, hcd⟩ := F.ex
  refine ⟨fI, _, "ValueError", "ValueError.__new__", "ValueError.__init__", [.type "ValueError", .type "Exception", .type "BaseException", .type "object"], PySem.F.excBase_ValueError, T, m, F.ok sci_InvalidName (fun vs H Q E h => ?_) (fun cdv A outer s H vs Q E hr h => ?_),
    ⟨fun s us ws _ l1 l2 => match us, ws, l1, l2 with | [_, _], [], _, _ => .of_eq rfl, fun r _ => r⟩, ⟨fun s us ws _ l1 l2 => match us, ws, l1, l2 with | [_], [_], _, _ => .of_eq rfl, fun r1 r2 => r1.append (vals_rev r2)⟩⟩
  · obtain ⟨a, v, rfl, _⟩ := h
    rfl
  · obtain ⟨a, v, rfl, ea, q⟩ := h
    refine ⟨_, pss_one (ps_xst PySem.F.store_ValueError (newId := "ValueError.__new__") (pv 0) (pv 1)), ?_⟩
    exact ⟨_, rfl, _, rfl, a, C, fI, rfl, T, no0, .inl ⟨ea, ex_first ea q⟩⟩
abbrev si_InvalidRegisters : Stmt := inClass (top 5) 0
theorem sci_InvalidRegisters : FnScope ["self", "number"] ["self", "number"] (defScope si_InvalidRegisters) := ⟨rfl, rfl, rfl, by decide +kernel, rfl, by decide +kernel, by decide +kernel⟩
theorem in_InvalidRegisters {C fI : Addr} {fd : FuncData} (F : Fun K "__init__" "InvalidRegisters.__init__" si_InvalidRegisters fI fd) (T : XCls K C fI [.type "ValueError", .type "Exception", .type "BaseException", .type "object"] "ValueError.__new__") (no0 : PySem.W.findIn K (.ref C) "number" = some none) (m : mg "InvalidRegisters" = some (.ref C)) : XOk P w K mg base "InvalidRegisters" C 1 ["self", "number"] ["number"] (sp1 "number" C) := by
  obtain ⟨oc, od, kV, doc, pm, an, cdv, ct, osl, rfl, lk, hcd⟩ := F.ex
  refine ⟨fI, _, "ValueError", "ValueError.__new__", "ValueError.__init__", [.type "ValueError", .type "Exception", .type "BaseException", .type "object"], PySem.F.excBase_ValueError, T, m, F.ok sci_InvalidRegisters (fun vs H Q E h => ?_) (fun cdv A outer s H vs Q E hr h => ?_),
    ⟨fun s us ws _ l1 l2 => match us, ws, l1, l2 with | [_, _], [], _, _ => .of_eq rfl, fun r _ => r⟩, ⟨fun s us ws _ l1 l2 => match us, ws, l1, l2 with | [_], [_], _, _ => .of_eq rfl, fun r1 r2 => r1.append (vals_rev r2)⟩⟩
  · obtain ⟨a, v, rfl, _⟩ := h
    rfl
  · obtain ⟨a, v, rfl, ea, q⟩ := h
    refine ⟨_, pss_one (ps_xst PySem.F.store_ValueError (newId := "ValueError.__new__") (pv 0) (pv 1)), ?_⟩
    exact ⟨_, rfl, _, rfl, a, C, fI, rfl, T, no0, .inl ⟨ea, ex_first ea q⟩⟩
abbrev si_InvalidModes : Stmt := inClass (top 6) 0
theorem sci_InvalidModes : FnScope ["self", "number"] ["self", "number"] (defScope si_InvalidModes) := ⟨rfl, rfl, rfl, by decide +kernel, rfl, by decide +kernel, by decide +kernel⟩
theorem in_InvalidModes {C fI : Addr} {fd : FuncData} (F : Fun K "__init__" "InvalidModes.__init__" si_InvalidModes fI fd) (T : XCls K C fI [.type "ValueError", .type "Exception", .type "BaseException", .type "object"] "ValueError.__new__") (no0 : PySem.W.findIn K (.ref C) "number" = some none) (m : mg "InvalidModes" = some (.ref C)) : XOk P w K mg base "InvalidModes" C 1 ["self", "number"] ["number"] (sp1 "number" C) := by
  obtain ⟨oc, od, kV, doc, pm, an, cdv, ct, osl, rfl, lk, hcd⟩ := F.ex
  refine ⟨fI, _, "ValueError", "ValueError.__new__", "ValueError.__init__", [.type "ValueError", .type "Exception", .type "BaseException", .type "object"], PySem.F.excBase_ValueError, T, m, F.ok sci_InvalidModes (fun vs H Q E h => ?_) (fun cdv A outer s H vs Q E hr h => ?_),
    ⟨fun s us ws _ l1 l2 => match us, ws, l1, l2 with | [_, _], [], _, _ => .of_eq rfl, fun r _ => r⟩, ⟨fun s us ws _ l1 l2 => match us, ws, l1, l2 with | [_], [_], _, _ => .of_eq rfl, fun r1 r2 => r1.append (vals_rev r2)⟩⟩
  · obtain ⟨a, v, rfl, _⟩ := h
    rfl
  · obtain ⟨a, v, rfl, ea, q⟩ := h
    refine ⟨_, pss_one (ps_xst PySem.F.store_ValueError (newId := "ValueError.__new__") (pv 0) (pv 1)), ?_⟩
    exact ⟨_, rfl, _, rfl, a, C, fI, rfl, T, no0, .inl ⟨ea, ex_first ea q⟩⟩
abbrev si_InvalidRow : Stmt := inClass (top 7) 0
theorem sci_InvalidRow : FnScope ["self", "mode", "number"] ["self", "mode", "number"] (defScope si_InvalidRow) := ⟨rfl, rfl, rfl, by decide +kernel, rfl, by decide +kernel, by decide +kernel⟩
theorem in_InvalidRow {C fI : Addr} {fd : FuncData} (F : Fun K "__init__" "InvalidRow.__init__" si_InvalidRow fI fd) (T : XCls K C fI [.type "ValueError", .type "Exception", .type "BaseException", .type "object"] "ValueError.__new__") (no0 : PySem.W.findIn K (.ref C) "mode" = some none) (no1 : PySem.W.findIn K (.ref C) "number" = some none) (m : mg "InvalidRow" = some (.ref C)) : XOk P w K mg base "InvalidRow" C 2 ["self", "mode", "number"] ["number", "mode"] (sp2 "mode" "number" C) := by
  obtain ⟨oc, od, kV, doc, pm, an, cdv, ct, osl, rfl, lk, hcd⟩ := F.ex
  refine ⟨fI, _, "ValueError", "ValueError.__new__", "ValueError.__init__", [.type "ValueError", .type "Exception", .type "BaseException", .type "object"], PySem.F.excBase_ValueError, T, m, F.ok sci_InvalidRow (fun vs H Q E h => ?_) (fun cdv A outer s H vs Q E hr h => ?_),
    ⟨fun s us ws _ l1 l2 => match us, ws, l1, l2 with | [_, _, _], [], _, _ => .of_eq rfl, fun r _ => r⟩, ⟨fun s us ws _ l1 l2 => match us, ws, l1, l2 with | [_], [_, _], _, _ => .of_eq rfl, fun r1 r2 => r1.append (vals_rev r2)⟩⟩
  · obtain ⟨a, v, u, rfl, _⟩ := h
    rfl
  · obtain ⟨a, v, u, rfl, ea, q⟩ := h
    refine ⟨_, pss_cons (ps_xst PySem.F.store_ValueError (newId := "ValueError.__new__") (pv 0) (pv 1)) (pss_one (ps_xst PySem.F.store_ValueError (newId := "ValueError.__new__") (pv 0) (pv 2))), ?_⟩
    refine ⟨_, rfl, _, rfl, a, C, fI, rfl, T, no0, .inl ⟨ea, fun dx n ne => ?_⟩⟩
    exact ⟨_, rfl, _, rfl, a, C, fI, rfl, T, no1, .inr ⟨dx, _, upd_same, (by rw [upd_ne ne, upd_same]), (by show 1 ≤ 900; decide), ex_next ea n ne q⟩⟩
abbrev si_InvalidEnds : Stmt := inClass (top 8) 0
theorem sci_InvalidEnds : FnScope ["self", "value"] ["self", "value"] (defScope si_InvalidEnds) := ⟨rfl, rfl, rfl, by decide +kernel, rfl, by decide +kernel, by decide +kernel⟩
theorem in_InvalidEnds {C fI : Addr} {fd : FuncData} (F : Fun K "__init__" "InvalidEnds.__init__" si_InvalidEnds fI fd) (T : XCls K C fI [.type "ValueError", .type "Exception", .type "BaseException", .type "object"] "ValueError.__new__") (no0 : PySem.W.findIn K (.ref C) "value" = some none) (m : mg "InvalidEnds" = some (.ref C)) : XOk P w K mg base "InvalidEnds" C 1 ["self", "value"] ["value"] (sp1 "value" C) := by
  obtain ⟨oc, od, kV, doc, pm, an, cdv, ct, osl, rfl, lk, hcd⟩ := F.ex
  refine ⟨fI, _, "ValueError", "ValueError.__new__", "ValueError.__init__", [.type "ValueError", .type "Exception", .type "BaseException", .type "object"], PySem.F.excBase_ValueError, T, m, F.ok sci_InvalidEnds (fun vs H Q E h => ?_) (fun cdv A outer s H vs Q E hr h => ?_),
    ⟨fun s us ws _ l1 l2 => match us, ws, l1, l2 with | [_, _], [], _, _ => .of_eq rfl, fun r _ => r⟩, ⟨fun s us ws _ l1 l2 => match us, ws, l1, l2 with | [_], [_], _, _ => .of_eq rfl, fun r1 r2 => r1.append (vals_rev r2)⟩⟩
  · obtain ⟨a, v, rfl, _⟩ := h
    rfl
  · obtain ⟨a, v, rfl, ea, q⟩ := h
    refine ⟨_, pss_one (ps_xst PySem.F.store_ValueError (newId := "ValueError.__new__") (pv 0) (pv 1)), ?_⟩
    exact ⟨_, rfl, _, rfl, a, C, fI, rfl, T, no0, .inl ⟨ea, ex_first ea q⟩⟩
abbrev si_InvalidResult : Stmt := inClass (top 9) 0
theorem sci_InvalidResult : FnScope ["self", "value"] ["self", "value"] (defScope si_InvalidResult) := ⟨rfl, rfl, rfl, by decide +kernel, rfl, by decide +kernel, by decide +kernel⟩
theorem in_InvalidResult {C fI : Addr} {fd : FuncData} (F : Fun K "__init__" "InvalidResult.__init__" si_InvalidResult fI fd) (T : XCls K C fI [.type "ValueError", .type "Exception", .type "BaseException", .type "object"] "ValueError.__new__") (no0 : PySem.W.findIn K (.ref C) "value" = some none) (m : mg "InvalidResult" = some (.ref C)) : XOk P w K mg base "InvalidResult" C 1 ["self", "value"] ["value"] (sp1 "value" C) := by
  obtain ⟨oc, od, kV, doc, pm, an, cdv, ct, osl, rfl, lk, hcd⟩ := F.ex
  refine ⟨fI, _, "ValueError", "ValueError.__new__", "ValueError.__init__", [.type "ValueError", .type "Exception", .type "BaseException", .type "object"], PySem.F.excBase_ValueError, T, m, F.ok sci_InvalidResult (fun vs H Q E h => ?_) (fun cdv A outer s H vs Q E hr h => ?_),
    ⟨fun s us ws _ l1 l2 => match us, ws, l1, l2 with | [_, _], [], _, _ => .of_eq rfl, fun r _ => r⟩, ⟨fun s us ws _ l1 l2 => match us, ws, l1, l2 with | [_], [_], _, _ => .of_eq rfl, fun r1 r2 => r1.append (vals_rev r2)⟩⟩
  · obtain ⟨a, v, rfl, _⟩ := h
    rfl
  · obtain ⟨a, v, rfl, ea, q⟩ := h
    refine ⟨_, pss_one (ps_xst PySem.F.store_ValueError (newId := "ValueError.__new__") (pv 0) (pv 1)), ?_⟩
    exact ⟨_, rfl, _, rfl, a, C, fI, rfl, T, no0, .inl ⟨ea, ex_first ea q⟩⟩
abbrev si_InvalidProgram : Stmt := inClass (top 10) 0
theorem sci_InvalidProgram : FnScope ["self", "value"] ["self", "value"] (defScope si_InvalidProgram) := ⟨rfl, rfl, rfl, by decide +kernel, rfl, by decide +kernel, by decide +kernel⟩
theorem in_InvalidProgram {C fI : Addr} {fd : FuncData} (F : Fun K "__init__" "InvalidProgram.__init__" si_InvalidProgram fI fd) (T : XCls K C fI [.type "ValueError", .type "Exception", .type "BaseException", .type "object"] "ValueError.__new__") (no0 : PySem.W.findIn K (.ref C) "value" = some none) (m : mg "InvalidProgram" = some (.ref C)) : XOk P w K mg base "InvalidProgram" C 1 ["self", "value"] ["value"] (sp1 "value" C) := by
  obtain ⟨oc, od, kV, doc, pm, an, cdv, ct, osl, rfl, lk, hcd⟩ := F.ex
  refine ⟨fI, _, "ValueError", "ValueError.__new__", "ValueError.__init__", [.type "ValueError", .type "Exception", .type "BaseException", .type "object"], PySem.F.excBase_ValueError, T, m, F.ok sci_InvalidProgram (fun vs H Q E h => ?_) (fun cdv A outer s H vs Q E hr h => ?_),
    ⟨fun s us ws _ l1 l2 => match us, ws, l1, l2 with | [_, _], [], _, _ => .of_eq rfl, fun r _ => r⟩, ⟨fun s us ws _ l1 l2 => match us, ws, l1, l2 with | [_], [_], _, _ => .of_eq rfl, fun r1 r2 => r1.append (vals_rev r2)⟩⟩
  · obtain ⟨a, v, rfl, _⟩ := h
    rfl
  · obtain ⟨a, v, rfl, ea, q⟩ := h
    refine ⟨_, pss_one (ps_xst PySem.F.store_ValueError (newId := "ValueError.__new__") (pv 0) (pv 1)), ?_⟩
    exact ⟨_, rfl, _, rfl, a, C, fI, rfl, T, no0, .inl ⟨ea, ex_first ea q⟩⟩
abbrev si_InvalidFigures : Stmt := inClass (top 11) 0
theorem sci_InvalidFigures : FnScope ["self", "value"] ["self", "value"] (defScope si_InvalidFigures) := ⟨rfl, rfl, rfl, by decide +kernel, rfl, by decide +kernel, by decide +kernel⟩
theorem in_InvalidFigures {C fI : Addr} {fd : FuncData} (F : Fun K "__init__" "InvalidFigures.__init__" si_InvalidFigures fI fd) (T : XCls K C fI [.type "ValueError", .type "Exception", .type "BaseException", .type "object"] "ValueError.__new__") (no0 : PySem.W.findIn K (.ref C) "value" = some none) (m : mg "InvalidFigures" = some (.ref C)) : XOk P w K mg base "InvalidFigures" C 1 ["self", "value"] ["value"] (sp1 "value" C) := by
  obtain ⟨oc, od, kV, doc, pm, an, cdv, ct, osl, rfl, lk, hcd⟩ := F.ex
  refine ⟨fI, _, "ValueError", "ValueError.__new__", "ValueError.__init__", [.type "ValueError", .type "Exception", .type "BaseException", .type "object"], PySem.F.excBase_ValueError, T, m, F.ok sci_InvalidFigures (fun vs H Q E h => ?_) (fun cdv A outer s H vs Q E hr h => ?_),
    ⟨fun s us ws _ l1 l2 => match us, ws, l1, l2 with | [_, _], [], _, _ => .of_eq rfl, fun r _ => r⟩, ⟨fun s us ws _ l1 l2 => match us, ws, l1, l2 with | [_], [_], _, _ => .of_eq rfl, fun r1 r2 => r1.append (vals_rev r2)⟩⟩
  · obtain ⟨a, v, rfl, _⟩ := h
    rfl
  · obtain ⟨a, v, rfl, ea, q⟩ := h
    refine ⟨_, pss_one (ps_xst PySem.F.store_ValueError (newId := "ValueError.__new__") (pv 0) (pv 1)), ?_⟩
    exact ⟨_, rfl, _, rfl, a, C, fI, rfl, T, no0, .inl ⟨ea, ex_first ea q⟩⟩
abbrev si_InvalidState : Stmt := inClass (top 12) 0
theorem sci_InvalidState : FnScope ["self", "value"] ["self", "value"] (defScope si_InvalidState) := ⟨rfl, rfl, rfl, by decide +kernel, rfl, by decide +kernel, by decide +kernel⟩
theorem in_InvalidState {C fI : Addr} {fd : FuncData} (F : Fun K "__init__" "InvalidState.__init__" si_InvalidState fI fd) (T : XCls K C fI [.type "ValueError", .type "Exception", .type "BaseException", .type "object"] "ValueError.__new__") (no0 : PySem.W.findIn K (.ref C) "value" = some none) (m : mg "InvalidState" = some (.ref C)) : XOk P w K mg base "InvalidState" C 1 ["self", "value"] ["value"] (sp1 "value" C) := by
  obtain ⟨oc, od, kV, doc, pm, an, cdv, ct, osl, rfl, lk, hcd⟩ := F.ex
  refine ⟨fI, _, "ValueError", "ValueError.__new__", "ValueError.__init__", [.type "ValueError", .type "Exception", .type "BaseException", .type "object"], PySem.F.excBase_ValueError, T, m, F.ok sci_InvalidState (fun vs H Q E h => ?_) (fun cdv A outer s H vs Q E hr h => ?_),
    ⟨fun s us ws _ l1 l2 => match us, ws, l1, l2 with | [_, _], [], _, _ => .of_eq rfl, fun r _ => r⟩, ⟨fun s us ws _ l1 l2 => match us, ws, l1, l2 with | [_], [_], _, _ => .of_eq rfl, fun r1 r2 => r1.append (vals_rev r2)⟩⟩
  · obtain ⟨a, v, rfl, _⟩ := h
    rfl
  · obtain ⟨a, v, rfl, ea, q⟩ := h
    refine ⟨_, pss_one (ps_xst PySem.F.store_ValueError (newId := "ValueError.__new__") (pv 0) (pv 1)), ?_⟩
    exact ⟨_, rfl, _, rfl, a, C, fI, rfl, T, no0, .inl ⟨ea, ex_first ea q⟩⟩
abbrev si_InvalidText : Stmt := inClass (top 13) 0
theorem sci_InvalidText : FnScope ["self", "line"] ["self", "line"] (defScope si_InvalidText) := ⟨rfl, rfl, rfl, by decide +kernel, rfl, by decide +kernel, by decide +kernel⟩
theorem in_InvalidText {C fI : Addr} {fd : FuncData} (F : Fun K "__init__" "InvalidText.__init__" si_InvalidText fI fd) (T : XCls K C fI [.type "ValueError", .type "Exception", .type "BaseException", .type "object"] "ValueError.__new__") (no0 : PySem.W.findIn K (.ref C) "line" = some none) (m : mg "InvalidText" = some (.ref C)) : XOk P w K mg base "InvalidText" C 1 ["self", "line"] ["line"] (sp1 "line" C) := by
  obtain ⟨oc, od, kV, doc, pm, an, cdv, ct, osl, rfl, lk, hcd⟩ := F.ex
  refine ⟨fI, _, "ValueError", "ValueError.__new__", "ValueError.__init__", [.type "ValueError", .type "Exception", .type "BaseException", .type "object"], PySem.F.excBase_ValueError, T, m, F.ok sci_InvalidText (fun vs H Q E h => ?_) (fun cdv A outer s H vs Q E hr h => ?_),
    ⟨fun s us ws _ l1 l2 => match us, ws, l1, l2 with | [_, _], [], _, _ => .of_eq rfl, fun r _ => r⟩, ⟨fun s us ws _ l1 l2 => match us, ws, l1, l2 with | [_], [_], _, _ => .of_eq rfl, fun r1 r2 => r1.append (vals_rev r2)⟩⟩
  · obtain ⟨a, v, rfl, _⟩ := h
    rfl
  · obtain ⟨a, v, rfl, ea, q⟩ := h
    refine ⟨_, pss_one (ps_xst PySem.F.store_ValueError (newId := "ValueError.__new__") (pv 0) (pv 1)), ?_⟩
    exact ⟨_, rfl, _, rfl, a, C, fI, rfl, T, no0, .inl ⟨ea, ex_first ea q⟩⟩
abbrev si_InvalidRatio : Stmt := inClass (top 14) 0
theorem sci_InvalidRatio : FnScope ["self", "value"] ["self", "value"] (defScope si_InvalidRatio) := ⟨rfl, rfl, rfl, by decide +kernel, rfl, by decide +kernel, by decide +kernel⟩
theorem in_InvalidRatio {C fI : Addr} {fd : FuncData} (F : Fun K "__init__" "InvalidRatio.__init__" si_InvalidRatio fI fd) (T : XCls K C fI [.type "ValueError", .type "Exception", .type "BaseException", .type "object"] "ValueError.__new__") (no0 : PySem.W.findIn K (.ref C) "value" = some none) (m : mg "InvalidRatio" = some (.ref C)) : XOk P w K mg base "InvalidRatio" C 1 ["self", "value"] ["value"] (sp1 "value" C) := by
  obtain ⟨oc, od, kV, doc, pm, an, cdv, ct, osl, rfl, lk, hcd⟩ := F.ex
  refine ⟨fI, _, "ValueError", "ValueError.__new__", "ValueError.__init__", [.type "ValueError", .type "Exception", .type "BaseException", .type "object"], PySem.F.excBase_ValueError, T, m, F.ok sci_InvalidRatio (fun vs H Q E h => ?_) (fun cdv A outer s H vs Q E hr h => ?_),
    ⟨fun s us ws _ l1 l2 => match us, ws, l1, l2 with | [_, _], [], _, _ => .of_eq rfl, fun r _ => r⟩, ⟨fun s us ws _ l1 l2 => match us, ws, l1, l2 with | [_], [_], _, _ => .of_eq rfl, fun r1 r2 => r1.append (vals_rev r2)⟩⟩
  · obtain ⟨a, v, rfl, _⟩ := h
    rfl
  · obtain ⟨a, v, rfl, ea, q⟩ := h
    refine ⟨_, pss_one (ps_xst PySem.F.store_ValueError (newId := "ValueError.__new__") (pv 0) (pv 1)), ?_⟩
    exact ⟨_, rfl, _, rfl, a, C, fI, rfl, T, no0, .inl ⟨ea, ex_first ea q⟩⟩
abbrev si_InvalidRows : Stmt := inClass (top 15) 0
theorem sci_InvalidRows : FnScope ["self", "value"] ["self", "value"] (defScope si_InvalidRows) := ⟨rfl, rfl, rfl, by decide +kernel, rfl, by decide +kernel, by decide +kernel⟩
theorem in_InvalidRows {C fI : Addr} {fd : FuncData} (F : Fun K "__init__" "InvalidRows.__init__" si_InvalidRows fI fd) (T : XCls K C fI [.type "ValueError", .type "Exception", .type "BaseException", .type "object"] "ValueError.__new__") (no0 : PySem.W.findIn K (.ref C) "value" = some none) (m : mg "InvalidRows" = some (.ref C)) : XOk P w K mg base "InvalidRows" C 1 ["self", "value"] ["value"] (sp1 "value" C) := by
  obtain ⟨oc, od, kV, doc, pm, an, cdv, ct, osl, rfl, lk, hcd⟩ := F.ex
  refine ⟨fI, _, "ValueError", "ValueError.__new__", "ValueError.__init__", [.type "ValueError", .type "Exception", .type "BaseException", .type "object"], PySem.F.excBase_ValueError, T, m, F.ok sci_InvalidRows (fun vs H Q E h => ?_) (fun cdv A outer s H vs Q E hr h => ?_),
    ⟨fun s us ws _ l1 l2 => match us, ws, l1, l2 with | [_, _], [], _, _ => .of_eq rfl, fun r _ => r⟩, ⟨fun s us ws _ l1 l2 => match us, ws, l1, l2 with | [_], [_], _, _ => .of_eq rfl, fun r1 r2 => r1.append (vals_rev r2)⟩⟩
  · obtain ⟨a, v, rfl, _⟩ := h
    rfl
  · obtain ⟨a, v, rfl, ea, q⟩ := h
    refine ⟨_, pss_one (ps_xst PySem.F.store_ValueError (newId := "ValueError.__new__") (pv 0) (pv 1)), ?_⟩
    exact ⟨_, rfl, _, rfl, a, C, fI, rfl, T, no0, .inl ⟨ea, ex_first ea q⟩⟩
abbrev si_InvalidForm : Stmt := inClass (top 16) 0
theorem sci_InvalidForm : FnScope ["self", "value"] ["self", "value"] (defScope si_InvalidForm) := ⟨rfl, rfl, rfl, by decide +kernel, rfl, by decide +kernel, by decide +kernel⟩
theorem in_InvalidForm {C fI : Addr} {fd : FuncData} (F : Fun K "__init__" "InvalidForm.__init__" si_InvalidForm fI fd) (T : XCls K C fI [.type "ValueError", .type "Exception", .type "BaseException", .type "object"] "ValueError.__new__") (no0 : PySem.W.findIn K (.ref C) "value" = some none) (m : mg "InvalidForm" = some (.ref C)) : XOk P w K mg base "InvalidForm" C 1 ["self", "value"] ["value"] (sp1 "value" C) := by
  obtain ⟨oc, od, kV, doc, pm, an, cdv, ct, osl, rfl, lk, hcd⟩ := F.ex
  refine ⟨fI, _, "ValueError", "ValueError.__new__", "ValueError.__init__", [.type "ValueError", .type "Exception", .type "BaseException", .type "object"], PySem.F.excBase_ValueError, T, m, F.ok sci_InvalidForm (fun vs H Q E h => ?_) (fun cdv A outer s H vs Q E hr h => ?_),
    ⟨fun s us ws _ l1 l2 => match us, ws, l1, l2 with | [_, _], [], _, _ => .of_eq rfl, fun r _ => r⟩, ⟨fun s us ws _ l1 l2 => match us, ws, l1, l2 with | [_], [_], _, _ => .of_eq rfl, fun r1 r2 => r1.append (vals_rev r2)⟩⟩
  · obtain ⟨a, v, rfl, _⟩ := h
    rfl
  · obtain ⟨a, v, rfl, ea, q⟩ := h
    refine ⟨_, pss_one (ps_xst PySem.F.store_ValueError (newId := "ValueError.__new__") (pv 0) (pv 1)), ?_⟩
    exact ⟨_, rfl, _, rfl, a, C, fI, rfl, T, no0, .inl ⟨ea, ex_first ea q⟩⟩
abbrev si_InvalidSign : Stmt := inClass (top 17) 0
theorem sci_InvalidSign : FnScope ["self", "value"] ["self", "value"] (defScope si_InvalidSign) := ⟨rfl, rfl, rfl, by decide +kernel, rfl, by decide +kernel, by decide +kernel⟩
theorem in_InvalidSign {C fI : Addr} {fd : FuncData} (F : Fun K "__init__" "InvalidSign.__init__" si_InvalidSign fI fd) (T : XCls K C fI [.type "ValueError", .type "Exception", .type "BaseException", .type "object"] "ValueError.__new__") (no0 : PySem.W.findIn K (.ref C) "value" = some none) (m : mg "InvalidSign" = some (.ref C)) : XOk P w K mg base "InvalidSign" C 1 ["self", "value"] ["value"] (sp1 "value" C) := by
  obtain ⟨oc, od, kV, doc, pm, an, cdv, ct, osl, rfl, lk, hcd⟩ := F.ex
  refine ⟨fI, _, "ValueError", "ValueError.__new__", "ValueError.__init__", [.type "ValueError", .type "Exception", .type "BaseException", .type "object"], PySem.F.excBase_ValueError, T, m, F.ok sci_InvalidSign (fun vs H Q E h => ?_) (fun cdv A outer s H vs Q E hr h => ?_),
    ⟨fun s us ws _ l1 l2 => match us, ws, l1, l2 with | [_, _], [], _, _ => .of_eq rfl, fun r _ => r⟩, ⟨fun s us ws _ l1 l2 => match us, ws, l1, l2 with | [_], [_], _, _ => .of_eq rfl, fun r1 r2 => r1.append (vals_rev r2)⟩⟩
  · obtain ⟨a, v, rfl, _⟩ := h
    rfl
  · obtain ⟨a, v, rfl, ea, q⟩ := h
    refine ⟨_, pss_one (ps_xst PySem.F.store_ValueError (newId := "ValueError.__new__") (pv 0) (pv 1)), ?_⟩
    exact ⟨_, rfl, _, rfl, a, C, fI, rfl, T, no0, .inl ⟨ea, ex_first ea q⟩⟩
abbrev si_InvalidMachine : Stmt := inClass (top 18) 0
theorem sci_InvalidMachine : FnScope ["self", "value"] ["self", "value"] (defScope si_InvalidMachine) := ⟨rfl, rfl, rfl, by decide +kernel, rfl, by decide +kernel, by decide +kernel⟩
theorem in_InvalidMachine {C fI : Addr} {fd : FuncData} (F : Fun K "__init__" "InvalidMachine.__init__" si_InvalidMachine fI fd) (T : XCls K C fI [.type "ValueError", .type "Exception", .type "BaseException", .type "object"] "ValueError.__new__") (no0 : PySem.W.findIn K (.ref C) "value" = some none) (m : mg "InvalidMachine" = some (.ref C)) : XOk P w K mg base "InvalidMachine" C 1 ["self", "value"] ["value"] (sp1 "value" C) := by
  obtain ⟨oc, od, kV, doc, pm, an, cdv, ct, osl, rfl, lk, hcd⟩ := F.ex
  refine ⟨fI, _, "ValueError", "ValueError.__new__", "ValueError.__init__", [.type "ValueError", .type "Exception", .type "BaseException", .type "object"], PySem.F.excBase_ValueError, T, m, F.ok sci_InvalidMachine (fun vs H Q E h => ?_) (fun cdv A outer s H vs Q E hr h => ?_),
    ⟨fun s us ws _ l1 l2 => match us, ws, l1, l2 with | [_, _], [], _, _ => .of_eq rfl, fun r _ => r⟩, ⟨fun s us ws _ l1 l2 => match us, ws, l1, l2 with | [_], [_], _, _ => .of_eq rfl, fun r1 r2 => r1.append (vals_rev r2)⟩⟩
  · obtain ⟨a, v, rfl, _⟩ := h
    rfl
  · obtain ⟨a, v, rfl, ea, q⟩ := h
    refine ⟨_, pss_one (ps_xst PySem.F.store_ValueError (newId := "ValueError.__new__") (pv 0) (pv 1)), ?_⟩
    exact ⟨_, rfl, _, rfl, a, C, fI, rfl, T, no0, .inl ⟨ea, ex_first ea q⟩⟩
abbrev si_InvalidPieces : Stmt := inClass (top 19) 0
theorem sci_InvalidPieces : FnScope ["self", "number"] ["self", "number"] (defScope si_InvalidPieces) := ⟨rfl, rfl, rfl, by decide +kernel, rfl, by decide +kernel, by decide +kernel⟩
theorem in_InvalidPieces {C fI : Addr} {fd : FuncData} (F : Fun K "__init__" "InvalidPieces.__init__" si_InvalidPieces fI fd) (T : XCls K C fI [.type "ValueError", .type "Exception", .type "BaseException", .type "object"] "ValueError.__new__") (no0 : PySem.W.findIn K (.ref C) "number" = some none) (m : mg "InvalidPieces" = some (.ref C)) : XOk P w K mg base "InvalidPieces" C 1 ["self", "number"] ["number"] (sp1 "number" C) := by
  obtain ⟨oc, od, kV, doc, pm, an, cdv, ct, osl, rfl, lk, hcd⟩ := F.ex
  refine ⟨fI, _, "ValueError", "ValueError.__new__", "ValueError.__init__", [.type "ValueError", .type "Exception", .type "BaseException", .type "object"], PySem.F.excBase_ValueError, T, m, F.ok sci_InvalidPieces (fun vs H Q E h => ?_) (fun cdv A outer s H vs Q E hr h => ?_),
    ⟨fun s us ws _ l1 l2 => match us, ws, l1, l2 with | [_, _], [], _, _ => .of_eq rfl, fun r _ => r⟩, ⟨fun s us ws _ l1 l2 => match us, ws, l1, l2 with | [_], [_], _, _ => .of_eq rfl, fun r1 r2 => r1.append (vals_rev r2)⟩⟩
  · obtain ⟨a, v, rfl, _⟩ := h
    rfl
  · obtain ⟨a, v, rfl, ea, q⟩ := h
    refine ⟨_, pss_one (ps_xst PySem.F.store_ValueError (newId := "ValueError.__new__") (pv 0) (pv 1)), ?_⟩
    exact ⟨_, rfl, _, rfl, a, C, fI, rfl, T, no0, .inl ⟨ea, ex_first ea q⟩⟩
abbrev si_InvalidCommand : Stmt := inClass (top 20) 0
theorem sci_InvalidCommand : FnScope ["self", "word"] ["self", "word"] (defScope si_InvalidCommand) := ⟨rfl, rfl, rfl, by decide +kernel, rfl, by decide +kernel, by decide +kernel⟩
theorem in_InvalidCommand {C fI : Addr} {fd : FuncData} (F : Fun K "__init__" "InvalidCommand.__init__" si_InvalidCommand fI fd) (T : XCls K C fI [.type "ValueError", .type "Exception", .type "BaseException", .type "object"] "ValueError.__new__") (no0 : PySem.W.findIn K (.ref C) "word" = some none) (m : mg "InvalidCommand" = some (.ref C)) : XOk P w K mg base "InvalidCommand" C 1 ["self", "word"] ["word"] (sp1 "word" C) := by
  obtain ⟨oc, od, kV, doc, pm, an, cdv, ct, osl, rfl, lk, hcd⟩ := F.ex
  refine ⟨fI, _, "ValueError", "ValueError.__new__", "ValueError.__init__", [.type "ValueError", .type "Exception", .type "BaseException", .type "object"], PySem.F.excBase_ValueError, T, m, F.ok sci_InvalidCommand (fun vs H Q E h => ?_) (fun cdv A outer s H vs Q E hr h => ?_),
    ⟨fun s us ws _ l1 l2 => match us, ws, l1, l2 with | [_, _], [], _, _ => .of_eq rfl, fun r _ => r⟩, ⟨fun s us ws _ l1 l2 => match us, ws, l1, l2 with | [_], [_], _, _ => .of_eq rfl, fun r1 r2 => r1.append (vals_rev r2)⟩⟩
  · obtain ⟨a, v, rfl, _⟩ := h
    rfl
  · obtain ⟨a, v, rfl, ea, q⟩ := h
    refine ⟨_, pss_one (ps_xst PySem.F.store_ValueError (newId := "ValueError.__new__") (pv 0) (pv 1)), ?_⟩
    exact ⟨_, rfl, _, rfl, a, C, fI, rfl, T, no0, .inl ⟨ea, ex_first ea q⟩⟩
abbrev si_UnknownName : Stmt := inClass (top 21) 0
theorem sci_UnknownName : FnScope ["self", "value"] ["self", "value"] (defScope si_UnknownName) := ⟨rfl, rfl, rfl, by decide +kernel, rfl, by decide +kernel, by decide +kernel⟩
theorem in_UnknownName {C fI : Addr} {fd : FuncData} (F : Fun K "__init__" "UnknownName.__init__" si_UnknownName fI fd) (T : XCls K C fI [.type "LookupError", .type "Exception", .type "BaseException", .type "object"] "LookupError.__new__") (no0 : PySem.W.findIn K (.ref C) "value" = some none) (m : mg "UnknownName" = some (.ref C)) : XOk P w K mg base "UnknownName" C 1 ["self", "value"] ["value"] (sp1 "value" C) := by
  obtain ⟨oc, od, kV, doc, pm, an, cdv, ct, osl, rfl, lk, hcd⟩ := F.ex
  refine ⟨fI, _, "LookupError", "LookupError.__new__", "LookupError.__init__", [.type "LookupError", .type "Exception", .type "BaseException", .type "object"], PySem.F.excBase_LookupError, T, m, F.ok sci_UnknownName (fun vs H Q E h => ?_) (fun cdv A outer s H vs Q E hr h => ?_),
    ⟨fun s us ws _ l1 l2 => match us, ws, l1, l2 with | [_, _], [], _, _ => .of_eq rfl, fun r _ => r⟩, ⟨fun s us ws _ l1 l2 => match us, ws, l1, l2 with | [_], [_], _, _ => .of_eq rfl, fun r1 r2 => r1.append (vals_rev r2)⟩⟩
  · obtain ⟨a, v, rfl, _⟩ := h
    rfl
  · obtain ⟨a, v, rfl, ea, q⟩ := h
    refine ⟨_, pss_one (ps_xst PySem.F.store_LookupError (newId := "LookupError.__new__") (pv 0) (pv 1)), ?_⟩
    exact ⟨_, rfl, _, rfl, a, C, fI, rfl, T, no0, .inl ⟨ea, ex_first ea q⟩⟩
abbrev si_Endless : Stmt := inClass (top 22) 0
theorem sci_Endless : FnScope ["self", "number"] ["self", "number"] (defScope si_Endless) := ⟨rfl, rfl, rfl, by decide +kernel, rfl, by decide +kernel, by decide +kernel⟩
theorem in_Endless {C fI : Addr} {fd : FuncData} (F : Fun K "__init__" "Endless.__init__" si_Endless fI fd) (T : XCls K C fI [.type "ArithmeticError", .type "Exception", .type "BaseException", .type "object"] "ArithmeticError.__new__") (no0 : PySem.W.findIn K (.ref C) "number" = some none) (m : mg "Endless" = some (.ref C)) : XOk P w K mg base "Endless" C 1 ["self", "number"] ["number"] (sp1 "number" C) := by
  obtain ⟨oc, od, kV, doc, pm, an, cdv, ct, osl, rfl, lk, hcd⟩ := F.ex
  refine ⟨fI, _, "ArithmeticError", "ArithmeticError.__new__", "ArithmeticError.__init__", [.type "ArithmeticError", .type "Exception", .type "BaseException", .type "object"], PySem.F.excBase_ArithmeticError, T, m, F.ok sci_Endless (fun vs H Q E h => ?_) (fun cdv A outer s H vs Q E hr h => ?_),
    ⟨fun s us ws _ l1 l2 => match us, ws, l1, l2 with | [_, _], [], _, _ => .of_eq rfl, fun r _ => r⟩, ⟨fun s us ws _ l1 l2 => match us, ws, l1, l2 with | [_], [_], _, _ => .of_eq rfl, fun r1 r2 => r1.append (vals_rev r2)⟩⟩
  · obtain ⟨a, v, rfl, _⟩ := h
    rfl
  · obtain ⟨a, v, rfl, ea, q⟩ := h
    refine ⟨_, pss_one (ps_xst PySem.F.store_ArithmeticError (newId := "ArithmeticError.__new__") (pv 0) (pv 1)), ?_⟩
    exact ⟨_, rfl, _, rfl, a, C, fI, rfl, T, no0, .inl ⟨ea, ex_first ea q⟩⟩
abbrev si_DivisionByZero : Stmt := inClass (top 23) 0
theorem sci_DivisionByZero : FnScope ["self"] ["self"] (defScope si_DivisionByZero) := ⟨rfl, rfl, rfl, by decide +kernel, rfl, by decide +kernel, by decide +kernel⟩
theorem in_DivisionByZero {C fI : Addr} {fd : FuncData} (F : Fun K "__init__" "DivisionByZero.__init__" si_DivisionByZero fI fd) (T : XCls K C fI [.type "ArithmeticError", .type "Exception", .type "BaseException", .type "object"] "ArithmeticError.__new__")  (m : mg "DivisionByZero" = some (.ref C)) : XOk P w K mg base "DivisionByZero" C 0 ["self"] [] (sp0 C) := by
  obtain ⟨oc, od, kV, doc, pm, an, cdv, ct, osl, rfl, lk, hcd⟩ := F.ex
  refine ⟨fI, _, "ArithmeticError", "ArithmeticError.__new__", "ArithmeticError.__init__", [.type "ArithmeticError", .type "Exception", .type "BaseException", .type "object"], PySem.F.excBase_ArithmeticError, T, m, F.ok sci_DivisionByZero (fun vs H Q E h => ?_) (fun cdv A outer s H vs Q E hr h => ?_),
    ⟨fun s us ws _ l1 l2 => match us, ws, l1, l2 with | [_], [], _, _ => .of_eq rfl, fun r _ => r⟩, ⟨fun s us ws _ l1 l2 => match us, ws, l1, l2 with | [_], [], _, _ => .of_eq rfl, fun r1 r2 => r1.append (vals_rev r2)⟩⟩
  · obtain ⟨a, rfl, _⟩ := h
    rfl
  · obtain ⟨a, rfl, ea, q⟩ := h
    exact ⟨_, pss_one ps_pass, q⟩
abbrev si_Parted : Stmt := inClass (top 24) 0
theorem sci_Parted : FnScope ["self", "number"] ["self", "number"] (defScope si_Parted) := ⟨rfl, rfl, rfl, by decide +kernel, rfl, by decide +kernel, by decide +kernel⟩
theorem in_Parted {C fI : Addr} {fd : FuncData} (F : Fun K "__init__" "Parted.__init__" si_Parted fI fd) (T : XCls K C fI [.type "RuntimeError", .type "Exception", .type "BaseException", .type "object"] "RuntimeError.__new__") (no0 : PySem.W.findIn K (.ref C) "number" = some none) (m : mg "Parted" = some (.ref C)) : XOk P w K mg base "Parted" C 1 ["self", "number"] ["number"] (sp1 "number" C) := by
  obtain ⟨oc, od, kV, doc, pm, an, cdv, ct, osl, rfl, lk, hcd⟩ := F.ex
  refine ⟨fI, _, "RuntimeError", "RuntimeError.__new__", "RuntimeError.__init__", [.type "RuntimeError", .type "Exception", .type "BaseException", .type "object"], PySem.F.excBase_RuntimeError, T, m, F.ok sci_Parted (fun vs H Q E h => ?_) (fun cdv A outer s H vs Q E hr h => ?_),
    ⟨fun s us ws _ l1 l2 => match us, ws, l1, l2 with | [_, _], [], _, _ => .of_eq rfl, fun r _ => r⟩, ⟨fun s us ws _ l1 l2 => match us, ws, l1, l2 with | [_], [_], _, _ => .of_eq rfl, fun r1 r2 => r1.append (vals_rev r2)⟩⟩
  · obtain ⟨a, v, rfl, _⟩ := h
    rfl
  · obtain ⟨a, v, rfl, ea, q⟩ := h
    refine ⟨_, pss_one (ps_xst PySem.F.store_RuntimeError (newId := "RuntimeError.__new__") (pv 0) (pv 1)), ?_⟩
    exact ⟨_, rfl, _, rfl, a, C, fI, rfl, T, no0, .inl ⟨ea, ex_first ea q⟩⟩
abbrev si_Unlike : Stmt := inClass (top 25) 0
theorem sci_Unlike : FnScope ["self", "one", "other"] ["self", "one", "other"] (defScope si_Unlike) := ⟨rfl, rfl, rfl, by decide +kernel, rfl, by decide +kernel, by decide +kernel⟩
theorem in_Unlike {C fI : Addr} {fd : FuncData} (F : Fun K "__init__" "Unlike.__init__" si_Unlike fI fd) (T : XCls K C fI [.type "RuntimeError", .type "Exception", .type "BaseException", .type "object"] "RuntimeError.__new__") (no0 : PySem.W.findIn K (.ref C) "one" = some none) (no1 : PySem.W.findIn K (.ref C) "other" = some none) (m : mg "Unlike" = some (.ref C)) : XOk P w K mg base "Unlike" C 2 ["self", "one", "other"] ["other", "one"] (sp2 "one" "other" C) := by
  obtain ⟨oc, od, kV, doc, pm, an, cdv, ct, osl, rfl, lk, hcd⟩ := F.ex
  refine ⟨fI, _, "RuntimeError", "RuntimeError.__new__", "RuntimeError.__init__", [.type "RuntimeError", .type "Exception", .type "BaseException", .type "object"], PySem.F.excBase_RuntimeError, T, m, F.ok sci_Unlike (fun vs H Q E h => ?_) (fun cdv A outer s H vs Q E hr h => ?_),
    ⟨fun s us ws _ l1 l2 => match us, ws, l1, l2 with | [_, _, _], [], _, _ => .of_eq rfl, fun r _ => r⟩, ⟨fun s us ws _ l1 l2 => match us, ws, l1, l2 with | [_], [_, _], _, _ => .of_eq rfl, fun r1 r2 => r1.append (vals_rev r2)⟩⟩
  · obtain ⟨a, v, u, rfl, _⟩ := h
    rfl
  · obtain ⟨a, v, u, rfl, ea, q⟩ := h
    refine ⟨_, pss_cons (ps_xst PySem.F.store_RuntimeError (newId := "RuntimeError.__new__") (pv 0) (pv 1)) (pss_one (ps_xst PySem.F.store_RuntimeError (newId := "RuntimeError.__new__") (pv 0) (pv 2))), ?_⟩
    refine ⟨_, rfl, _, rfl, a, C, fI, rfl, T, no0, .inl ⟨ea, fun dx n ne => ?_⟩⟩
    exact ⟨_, rfl, _, rfl, a, C, fI, rfl, T, no1, .inr ⟨dx, _, upd_same, (by rw [upd_ne ne, upd_same]), (by show 1 ≤ 900; decide), ex_next ea n ne q⟩⟩
abbrev si_Broken : Stmt := inClass (top 26) 0
theorem sci_Broken : FnScope ["self", "number"] ["self", "number"] (defScope si_Broken) := ⟨rfl, rfl, rfl, by decide +kernel, rfl, by decide +kernel, by decide +kernel⟩
theorem in_Broken {C fI : Addr} {fd : FuncData} (F : Fun K "__init__" "Broken.__init__" si_Broken fI fd) (T : XCls K C fI [.type "RuntimeError", .type "Exception", .type "BaseException", .type "object"] "RuntimeError.__new__") (no0 : PySem.W.findIn K (.ref C) "number" = some none) (m : mg "Broken" = some (.ref C)) : XOk P w K mg base "Broken" C 1 ["self", "number"] ["number"] (sp1 "number" C) := by
  obtain ⟨oc, od, kV, doc, pm, an, cdv, ct, osl, rfl, lk, hcd⟩ := F.ex
  refine ⟨fI, _, "RuntimeError", "RuntimeError.__new__", "RuntimeError.__init__", [.type "RuntimeError", .type "Exception", .type "BaseException", .type "object"], PySem.F.excBase_RuntimeError, T, m, F.ok sci_Broken (fun vs H Q E h => ?_) (fun cdv A outer s H vs Q E hr h => ?_),
    ⟨fun s us ws _ l1 l2 => match us, ws, l1, l2 with | [_, _], [], _, _ => .of_eq rfl, fun r _ => r⟩, ⟨fun s us ws _ l1 l2 => match us, ws, l1, l2 with | [_], [_], _, _ => .of_eq rfl, fun r1 r2 => r1.append (vals_rev r2)⟩⟩
  · obtain ⟨a, v, rfl, _⟩ := h
    rfl
  · obtain ⟨a, v, rfl, ea, q⟩ := h
    refine ⟨_, pss_one (ps_xst PySem.F.store_RuntimeError (newId := "RuntimeError.__new__") (pv 0) (pv 1)), ?_⟩
    exact ⟨_, rfl, _, rfl, a, C, fI, rfl, T, no0, .inl ⟨ea, ex_first ea q⟩⟩
abbrev si_Guarded : Stmt := inClass (top 27) 0
theorem sci_Guarded : FnScope ["self", "condition", "number"] ["self", "condition", "number"] (defScope si_Guarded) := ⟨rfl, rfl, rfl, by decide +kernel, rfl, by decide +kernel, by decide +kernel⟩
theorem in_Guarded {C fI : Addr} {fd : FuncData} (F : Fun K "__init__" "Guarded.__init__" si_Guarded fI fd) (T : XCls K C fI [.type "RuntimeError", .type "Exception", .type "BaseException", .type "object"] "RuntimeError.__new__") (no0 : PySem.W.findIn K (.ref C) "condition" = some none) (no1 : PySem.W.findIn K (.ref C) "number" = some none) (m : mg "Guarded" = some (.ref C)) : XOk P w K mg base "Guarded" C 2 ["self", "condition", "number"] ["number", "condition"] (sp2 "condition" "number" C) := by
  obtain ⟨oc, od, kV, doc, pm, an, cdv, ct, osl, rfl, lk, hcd⟩ := F.ex
  refine ⟨fI, _, "RuntimeError", "RuntimeError.__new__", "RuntimeError.__init__", [.type "RuntimeError", .type "Exception", .type "BaseException", .type "object"], PySem.F.excBase_RuntimeError, T, m, F.ok sci_Guarded (fun vs H Q E h => ?_) (fun cdv A outer s H vs Q E hr h => ?_),
    ⟨fun s us ws _ l1 l2 => match us, ws, l1, l2 with | [_, _, _], [], _, _ => .of_eq rfl, fun r _ => r⟩, ⟨fun s us ws _ l1 l2 => match us, ws, l1, l2 with | [_], [_, _], _, _ => .of_eq rfl, fun r1 r2 => r1.append (vals_rev r2)⟩⟩
  · obtain ⟨a, v, u, rfl, _⟩ := h
    rfl
  · obtain ⟨a, v, u, rfl, ea, q⟩ := h
    refine ⟨_, pss_cons (ps_xst PySem.F.store_RuntimeError (newId := "RuntimeError.__new__") (pv 0) (pv 1)) (pss_one (ps_xst PySem.F.store_RuntimeError (newId := "RuntimeError.__new__") (pv 0) (pv 2))), ?_⟩
    refine ⟨_, rfl, _, rfl, a, C, fI, rfl, T, no0, .inl ⟨ea, fun dx n ne => ?_⟩⟩
    exact ⟨_, rfl, _, rfl, a, C, fI, rfl, T, no1, .inr ⟨dx, _, upd_same, (by rw [upd_ne ne, upd_same]), (by show 1 ≤ 900; decide), ex_next ea n ne q⟩⟩
abbrev si_NothingToUndo : Stmt := inClass (top 28) 0
theorem sci_NothingToUndo : FnScope ["self"] ["self"] (defScope si_NothingToUndo) := ⟨rfl, rfl, rfl, by decide +kernel, rfl, by decide +kernel, by decide +kernel⟩
theorem in_NothingToUndo {C fI : Addr} {fd : FuncData} (F : Fun K "__init__" "NothingToUndo.__init__" si_NothingToUndo fI fd) (T : XCls K C fI [.type "RuntimeError", .type "Exception", .type "BaseException", .type "object"] "RuntimeError.__new__")  (m : mg "NothingToUndo" = some (.ref C)) : XOk P w K mg base "NothingToUndo" C 0 ["self"] [] (sp0 C) := by
  obtain ⟨oc, od, kV, doc, pm, an, cdv, ct, osl, rfl, lk, hcd⟩ := F.ex
  refine ⟨fI, _, "RuntimeError", "RuntimeError.__new__", "RuntimeError.__init__", [.type "RuntimeError", .type "Exception", .type "BaseException", .type "object"], PySem.F.excBase_RuntimeError, T, m, F.ok sci_NothingToUndo (fun vs H Q E h => ?_) (fun cdv A outer s H vs Q E hr h => ?_),
    ⟨fun s us ws _ l1 l2 => match us, ws, l1, l2 with | [_], [], _, _ => .of_eq rfl, fun r _ => r⟩, ⟨fun s us ws _ l1 l2 => match us, ws, l1, l2 with | [_], [], _, _ => .of_eq rfl, fun r1 r2 => r1.append (vals_rev r2)⟩⟩
  · obtain ⟨a, rfl, _⟩ := h
    rfl
  · obtain ⟨a, rfl, ea, q⟩ := h
    exact ⟨_, pss_one ps_pass, q⟩
abbrev si_NothingToRedo : Stmt := inClass (top 29) 0
theorem sci_NothingToRedo : FnScope ["self"] ["self"] (defScope si_NothingToRedo) := ⟨rfl, rfl, rfl, by decide +kernel, rfl, by decide +kernel, by decide +kernel⟩
theorem in_NothingToRedo {C fI : Addr} {fd : FuncData} (F : Fun K "__init__" "NothingToRedo.__init__" si_NothingToRedo fI fd) (T : XCls K C fI [.type "RuntimeError", .type "Exception", .type "BaseException", .type "object"] "RuntimeError.__new__")  (m : mg "NothingToRedo" = some (.ref C)) : XOk P w K mg base "NothingToRedo" C 0 ["self"] [] (sp0 C) := by
  obtain ⟨oc, od, kV, doc, pm, an, cdv, ct, osl, rfl, lk, hcd⟩ := F.ex
  refine ⟨fI, _, "RuntimeError", "RuntimeError.__new__", "RuntimeError.__init__", [.type "RuntimeError", .type "Exception", .type "BaseException", .type "object"], PySem.F.excBase_RuntimeError, T, m, F.ok sci_NothingToRedo (fun vs H Q E h => ?_) (fun cdv A outer s H vs Q E hr h => ?_),
    ⟨fun s us ws _ l1 l2 => match us, ws, l1, l2 with | [_], [], _, _ => .of_eq rfl, fun r _ => r⟩, ⟨fun s us ws _ l1 l2 => match us, ws, l1, l2 with | [_], [], _, _ => .of_eq rfl, fun r1 r2 => r1.append (vals_rev r2)⟩⟩
  · obtain ⟨a, rfl, _⟩ := h
    rfl
  · obtain ⟨a, rfl, ea, q⟩ := h
    exact ⟨_, pss_one ps_pass, q⟩
abbrev si_NoTrial : Stmt := inClass (top 30) 0
theorem sci_NoTrial : FnScope ["self"] ["self"] (defScope si_NoTrial) := ⟨rfl, rfl, rfl, by decide +kernel, rfl, by decide +kernel, by decide +kernel⟩
theorem in_NoTrial {C fI : Addr} {fd : FuncData} (F : Fun K "__init__" "NoTrial.__init__" si_NoTrial fI fd) (T : XCls K C fI [.type "RuntimeError", .type "Exception", .type "BaseException", .type "object"] "RuntimeError.__new__")  (m : mg "NoTrial" = some (.ref C)) : XOk P w K mg base "NoTrial" C 0 ["self"] [] (sp0 C) := by
  obtain ⟨oc, od, kV, doc, pm, an, cdv, ct, osl, rfl, lk, hcd⟩ := F.ex
  refine ⟨fI, _, "RuntimeError", "RuntimeError.__new__", "RuntimeError.__init__", [.type "RuntimeError", .type "Exception", .type "BaseException", .type "object"], PySem.F.excBase_RuntimeError, T, m, F.ok sci_NoTrial (fun vs H Q E h => ?_) (fun cdv A outer s H vs Q E hr h => ?_),
    ⟨fun s us ws _ l1 l2 => match us, ws, l1, l2 with | [_], [], _, _ => .of_eq rfl, fun r _ => r⟩, ⟨fun s us ws _ l1 l2 => match us, ws, l1, l2 with | [_], [], _, _ => .of_eq rfl, fun r1 r2 => r1.append (vals_rev r2)⟩⟩
  · obtain ⟨a, rfl, _⟩ := h
    rfl
  · obtain ⟨a, rfl, ea, q⟩ := h
    exact ⟨_, pss_one ps_pass, q⟩
abbrev si_LimitExceeded : Stmt := inClass (top 31) 0
theorem sci_LimitExceeded : FnScope ["self", "most"] ["self", "most"] (defScope si_LimitExceeded) := ⟨rfl, rfl, rfl, by decide +kernel, rfl, by decide +kernel, by decide +kernel⟩
theorem in_LimitExceeded {C fI : Addr} {fd : FuncData} (F : Fun K "__init__" "LimitExceeded.__init__" si_LimitExceeded fI fd) (T : XCls K C fI [.type "OverflowError", .type "ArithmeticError", .type "Exception", .type "BaseException", .type "object"] "OverflowError.__new__") (no0 : PySem.W.findIn K (.ref C) "most" = some none) (m : mg "LimitExceeded" = some (.ref C)) : XOk P w K mg base "LimitExceeded" C 1 ["self", "most"] ["most"] (sp1 "most" C) := by
  obtain ⟨oc, od, kV, doc, pm, an, cdv, ct, osl, rfl, lk, hcd⟩ := F.ex
  refine ⟨fI, _, "OverflowError", "OverflowError.__new__", "OverflowError.__init__", [.type "OverflowError", .type "ArithmeticError", .type "Exception", .type "BaseException", .type "object"], PySem.F.excBase_OverflowError, T, m, F.ok sci_LimitExceeded (fun vs H Q E h => ?_) (fun cdv A outer s H vs Q E hr h => ?_),
    ⟨fun s us ws _ l1 l2 => match us, ws, l1, l2 with | [_, _], [], _, _ => .of_eq rfl, fun r _ => r⟩, ⟨fun s us ws _ l1 l2 => match us, ws, l1, l2 with | [_], [_], _, _ => .of_eq rfl, fun r1 r2 => r1.append (vals_rev r2)⟩⟩
  · obtain ⟨a, v, rfl, _⟩ := h
    rfl
  · obtain ⟨a, v, rfl, ea, q⟩ := h
    refine ⟨_, pss_one (ps_xst PySem.F.store_OverflowError (newId := "OverflowError.__new__") (pv 0) (pv 1)), ?_⟩
    exact ⟨_, rfl, _, rfl, a, C, fI, rfl, T, no0, .inl ⟨ea, ex_first ea q⟩⟩
end
/-! ### own words: a def by its name, its promise by its name -/
/-- the def x of the text stands in the module -/
def Has (K : PySem.W.Frag) (mg : Str → Option Value) (x : Str) (st : Stmt) (ps : List Str) : Prop :=
  ∃ f fd, mg x = some (.ref f) ∧ Binds K fd ps [] ∧ Fun K x x st f fd
/-- the def x keeps the promise sp -/
def Ok (P : Program) (w : World) (K : PySem.W.Frag) (mg : Str → Option Value) (base : Heap) (k : Nat) (x : Str) (ps : List Str) (sp : Sp) : Prop :=
  ∃ f fd, mg x = some (.ref f) ∧ PySem.W.keepIn K (.ref f) = true ∧ Binds K fd ps [] ∧ FnOk P w K mg base CX0 k f fd ps sp
theorem pe_cO {X : Cx} {k : Nat} {x : Str} {ps : List Str} {sp : Sp} {p pos : Pos} {e : Expr} {es : List Expr} {t : TA} {E : XK} (o : Ok X.prog X.w X.K X.mg X.base k x ps sp) (hr : Room k X.A) (hx : Passes CX0 X E) (hg : Gl X x)
    (ha : PA X (e :: es) t) (hdb : (x == ("__debug__" : Str)) = false := by decide) (he : starEach (e :: es) X.env = (false, eval e X.env) :: starEach es X.env := by rfl) (hpl : (backTo pos (starEach es X.env)).any (·.1) = false := by rfl) :
    PE X (.Call (.Name x p) (e :: es) [] pos) (tCall sp [] E t) := by
  obtain ⟨f, fd, g, kp, b, G⟩ := o
  exact pe_call G hr hg g kp b .nil hx ha hdb he hpl
theorem pe_cO0 {X : Cx} {k : Nat} {x : Str} {ps : List Str} {sp : Sp} {p pos : Pos} {E : XK} (o : Ok X.prog X.w X.K X.mg X.base k x ps sp) (hr : Room k X.A) (hx : Passes CX0 X E) (hg : Gl X x) (hdb : (x == ("__debug__" : Str)) = false := by decide) :
    PE X (.Call (.Name x p) [] [] pos) (tCall sp [] E tNil) := by
  obtain ⟨f, fd, g, kp, b, G⟩ := o
  exact pe_call0 G hr hg g kp b .nil hx hdb
/-! ### numbers of a fair size -/
def Sm (i : Int) : Prop := -(2 ^ 250) < i ∧ i < 2 ^ 250
theorem Sm.nat {i : Int} (h : Sm i) : i.natAbs < 2 ^ 250 := by
  obtain ⟨h1, h2⟩ := h
  omega
section
variable {X : Cx}
theorem op_mulS : OpR X (binaryOp .Mult) (rI (fun i j => Sm i ∧ Sm j) fun i j => .int (i * j)) := by
  intro pins s σ H x y v u Q I rx ry h
  obtain ⟨i, j, rfl, rfl, ⟨h1, h2⟩, q⟩ := h
  exact op_mulW pins s σ H _ _ v u Q I rx ry ⟨i, j, rfl, rfl, wide_mul h1.nat h2.nat (by decide) (by decide) (by decide), q⟩
theorem op_divS : OpR X (binaryOp .FloorDiv) (rI (fun _ j => j ≠ 0 ∧ Sm j) fun i j => .int (i.fdiv j)) := opI fun i j _ _ _ _ _ hc q =>
  PyProof.Rows.floordiv_int hc.1 q (.inl (PyProof.noPylong_of_log2 (Nat.lt_of_lt_of_le (PySem.Flt.log2_lt_of (by decide : 0 < 250) hc.2.nat) (by decide))))
end
/-! ### heaps: all but the pool stays -/
def Keep (pp : Addr) (H H' : Hp) : Prop := ∀ b o, H b = some o → b ≠ pp → H' b = some o
theorem Keep.refl {pp : Addr} {H : Hp} : Keep pp H H := fun _ _ h _ => h
theorem Keep.trans {pp : Addr} {H H1 H2 : Hp} (a : Keep pp H H1) (b : Keep pp H1 H2) : Keep pp H H2 := fun c o h n => b c o (a c o h n) n
theorem Same.keep {pp : Addr} {H H' : Hp} (a : Same H H') : Keep pp H H' := fun b o h _ => a b o h
theorem Keep.seq {pp a : Addr} {K : PySem.W.Frag} {H H' : Hp} {xs : List V} (e : Keep pp H H') (n : a ≠ pp) (h : SqL K H a xs) : SqL K H' a xs := by
  rcases h with (h | ⟨o, h⟩) | h
  · exact .inl (.inl (e _ _ h n))
  · exact .inl (.inr ⟨o, e _ _ h n⟩)
  · exact .inr h
theorem Same.new {H : Hp} {p : Addr} {o : HO} (n : H p = none) : Same H (upd H p o) := fun b u h => by
  rw [upd_ne (ne_of_none h n)]
  exact h
/-- a pool of draws stands at pp -/
def PoolAt (H : Hp) (pp : Addr) : Prop := ∃ c s : Int, 0 ≤ s ∧ s < 2147483647 ∧ H pp = some (.lst [.int c, .int s])
theorem PoolAt.keep {H H' : Hp} {pp p : Addr} (h : PoolAt H p) (e : Keep pp H H') (n : p ≠ pp) : PoolAt H' p := by
  obtain ⟨c, s, h0, h1, h2⟩ := h
  exact ⟨c, s, h0, h1, e _ _ h2 n⟩
theorem PoolAt.same {H H' : Hp} {p : Addr} (h : PoolAt H p) (e : Same H H') : PoolAt H' p := by
  obtain ⟨c, s, h0, h1, h2⟩ := h
  exact ⟨c, s, h0, h1, e _ _ h2⟩
theorem PoolAt.ne {H : Hp} {p q : Addr} (h : PoolAt H p) (n : H q = none) : q ≠ p := by
  obtain ⟨c, s, h0, h1, h2⟩ := h
  exact (ne_of_none h2 n).symm
theorem Keep.free {pp l : Addr} {H H' : Hp} (e : Keep pp H H') (h : PoolAt H' pp) (n : H' l = none) : H l = none := by
  cases q : H l with
  | none => rfl
  | some o =>
    rw [e l o q (h.ne n)] at n
    cases n
theorem atI0 {α : Type} {x : α} {xs : List α} : atI (x :: xs) 0 = some x := atI_nat (j := 0) rfl
theorem atI1 {α : Type} {x y : α} {xs : List α} : atI (x :: y :: xs) 1 = some y := atI_nat (j := 1) rfl
theorem kIntInt {K : PySem.W.Frag} : PySem.W.kitOne K (.type "int") (.type "int") = some true := kit_ty (show kitB "int" "int" = some true by decide +kernel)
theorem kIntBool {K : PySem.W.Frag} : PySem.W.kitOne K (.type "int") (.type "bool") = some false := kit_ty (show kitB "int" "bool" = some false by decide +kernel)
theorem kStrStr {K : PySem.W.Frag} : PySem.W.kitOne K (.type "str") (.type "str") = some true := kit_ty (show kitB "str" "str" = some true by decide +kernel)
theorem n29 : (2147483629 : Int) ≠ 0 := by decide
theorem n47 : (2147483647 : Int) ≠ 0 := by decide
/-- the exception of the i-th class, made with held -/
def XAt (C : Nat → Addr) (H : Hp) (held : V) (i : Nat) (a : Addr) : Prop := match fieldsL.getD i [] with
  | [] => H a = some (exo a (C i) none)
  | [f] => Ex H a (C i) [(f, held)]
  | [f, g] => Ex H a (C i) [(g, .str "second"), (f, held)]
  | _ => False
theorem Ex.same {H H' : Hp} {a C : Addr} {fs : List (Str × V)} (x : Ex H a C fs) (s : Same H H') : Ex H' a C fs := by
  obtain ⟨d, h1, h2⟩ := x
  exact ⟨d, s _ _ h1, s _ _ h2⟩
theorem XAt.same {C : Nat → Addr} {H H' : Hp} {held : V} {i : Nat} {a : Addr} (x : XAt C H held i a) (s : Same H H') : XAt C H' held i a := by
  unfold XAt at x ⊢
  split
  · rename_i e
    rw [e] at x
    exact s _ _ x
  · rename_i e
    rw [e] at x
    exact Ex.same x s
  · rename_i e
    rw [e] at x
    exact Ex.same x s
  · rename_i n0 n1 n2
    split at x
    · rename_i e
      exact absurd e n0
    · rename_i f e
      exact absurd e (n1 f)
    · rename_i f g e
      exact absurd e (n2 f g)
    · exact x
def AllAt (P : Nat → Addr → Prop) : Nat → List Addr → Prop
  | _, [] => True
  | k, a :: r => P k a ∧ AllAt P (k + 1) r
theorem AllAt.get {P : Nat → Addr → Prop} : ∀ {k : Nat} {as : List Addr}, AllAt P k as → ∀ i a, as[i]? = some a → P (k + i) a
  | _, [], _, i, a, h => by simp at h
  | k, b :: r, z, 0, a, h => by
    have e : b = a := by simpa using h
    subst e
    exact z.1
  | k, b :: r, z, i + 1, a, h => by
    have q := AllAt.get (k := k + 1) z.2 i a (by simpa using h)
    rw [show k + 1 + i = k + (i + 1) by omega] at q
    exact q
/-- the list at l holds the exceptions of all classes, made with held -/
def MadeAt (C : Nat → Addr) (H : Hp) (l : Addr) (held : V) : Prop := ∃ as : List Addr, as.length = 31 ∧ H l = some (.lst (as.map V.ref)) ∧ ∀ i a, as[i]? = some a → XAt C H held (0 + i) a
theorem MadeAt.same {C : Nat → Addr} {H H' : Hp} {l : Addr} {held : V} (x : MadeAt C H l held) (s : Same H H') : MadeAt C H' l held := by
  obtain ⟨as, h1, h2, h3⟩ := x
  exact ⟨as, h1, s _ _ h2, fun i a e => (h3 i a e).same s⟩
def spMade (C : Nat → Addr) : Sp := fun vs H Q _ => ∃ held : V, vs = [held] ∧ ∀ p H', Same H H' → MadeAt C H' p held → Q (.ref p) H'
section
variable {P : Program} {w : World} {K : PySem.W.Frag} {mg : Str → Option Value} {base : Heap}
abbrev s__law_made : Stmt := top 36
theorem sc__law_made : FnScope ["_law_held", "_law_found"] ["_law_held"] (defScope s__law_made) := ⟨rfl, rfl, rfl, by decide +kernel, rfl, by decide +kernel, by decide +kernel⟩
theorem ok__law_made {C : Nat → Addr} (h : Has K mg "_law_made" s__law_made ["_law_held"])
    (o0 : XOk P w K mg base "InvalidRule" (C 0) 1 ["self", "value"] ["value"] (sp1 "value" (C 0)))
    (o1 : XOk P w K mg base "InvalidNumber" (C 1) 1 ["self", "value"] ["value"] (sp1 "value" (C 1)))
    (o2 : XOk P w K mg base "InvalidBase" (C 2) 1 ["self", "value"] ["value"] (sp1 "value" (C 2)))
    (o3 : XOk P w K mg base "InvalidName" (C 3) 1 ["self", "value"] ["value"] (sp1 "value" (C 3)))
    (o4 : XOk P w K mg base "InvalidRegisters" (C 4) 1 ["self", "number"] ["number"] (sp1 "number" (C 4)))
    (o5 : XOk P w K mg base "InvalidModes" (C 5) 1 ["self", "number"] ["number"] (sp1 "number" (C 5)))
    (o6 : XOk P w K mg base "InvalidRow" (C 6) 2 ["self", "mode", "number"] ["number", "mode"] (sp2 "mode" "number" (C 6)))
    (o7 : XOk P w K mg base "InvalidEnds" (C 7) 1 ["self", "value"] ["value"] (sp1 "value" (C 7)))
    (o8 : XOk P w K mg base "InvalidResult" (C 8) 1 ["self", "value"] ["value"] (sp1 "value" (C 8)))
    (o9 : XOk P w K mg base "InvalidProgram" (C 9) 1 ["self", "value"] ["value"] (sp1 "value" (C 9)))
    (o10 : XOk P w K mg base "InvalidFigures" (C 10) 1 ["self", "value"] ["value"] (sp1 "value" (C 10)))
    (o11 : XOk P w K mg base "InvalidState" (C 11) 1 ["self", "value"] ["value"] (sp1 "value" (C 11)))
    (o12 : XOk P w K mg base "InvalidText" (C 12) 1 ["self", "line"] ["line"] (sp1 "line" (C 12)))
    (o13 : XOk P w K mg base "InvalidRatio" (C 13) 1 ["self", "value"] ["value"] (sp1 "value" (C 13)))
    (o14 : XOk P w K mg base "InvalidRows" (C 14) 1 ["self", "value"] ["value"] (sp1 "value" (C 14)))
    (o15 : XOk P w K mg base "InvalidForm" (C 15) 1 ["self", "value"] ["value"] (sp1 "value" (C 15)))
    (o16 : XOk P w K mg base "InvalidSign" (C 16) 1 ["self", "value"] ["value"] (sp1 "value" (C 16)))
    (o17 : XOk P w K mg base "InvalidMachine" (C 17) 1 ["self", "value"] ["value"] (sp1 "value" (C 17)))
    (o18 : XOk P w K mg base "InvalidPieces" (C 18) 1 ["self", "number"] ["number"] (sp1 "number" (C 18)))
    (o19 : XOk P w K mg base "InvalidCommand" (C 19) 1 ["self", "word"] ["word"] (sp1 "word" (C 19)))
    (o20 : XOk P w K mg base "UnknownName" (C 20) 1 ["self", "value"] ["value"] (sp1 "value" (C 20)))
    (o21 : XOk P w K mg base "Endless" (C 21) 1 ["self", "number"] ["number"] (sp1 "number" (C 21)))
    (o22 : XOk P w K mg base "DivisionByZero" (C 22) 0 ["self"] [] (sp0 (C 22)))
    (o23 : XOk P w K mg base "Parted" (C 23) 1 ["self", "number"] ["number"] (sp1 "number" (C 23)))
    (o24 : XOk P w K mg base "Unlike" (C 24) 2 ["self", "one", "other"] ["other", "one"] (sp2 "one" "other" (C 24)))
    (o25 : XOk P w K mg base "Broken" (C 25) 1 ["self", "number"] ["number"] (sp1 "number" (C 25)))
    (o26 : XOk P w K mg base "Guarded" (C 26) 2 ["self", "condition", "number"] ["number", "condition"] (sp2 "condition" "number" (C 26)))
    (o27 : XOk P w K mg base "NothingToUndo" (C 27) 0 ["self"] [] (sp0 (C 27)))
    (o28 : XOk P w K mg base "NothingToRedo" (C 28) 0 ["self"] [] (sp0 (C 28)))
    (o29 : XOk P w K mg base "NoTrial" (C 29) 0 ["self"] [] (sp0 (C 29)))
    (o30 : XOk P w K mg base "LimitExceeded" (C 30) 1 ["self", "most"] ["most"] (sp1 "most" (C 30)))
    : Ok P w K mg base 3 "_law_made" ["_law_held"] (spMade C) := by
  obtain ⟨f, fd, g, b, F⟩ := h
  refine ⟨f, fd, g, F.kp, b, F.ok sc__law_made (fun vs H Q E h => ?_) (fun cdv A outer s H0 vs Q E hr h => ?_)⟩
  · obtain ⟨v, rfl, _⟩ := h
    rfl
  · obtain ⟨held, rfl, q⟩ := h
    refine ⟨_, (pss_cons (ps_set (i := 1) sc__law_made.nd rfl (Or.inl rfl) (pe_lst (pa_cons (pe_xV o0 (hr.mono (by decide)) rfl (pa_cons (pv 0) pa_nil)) (pa_cons (pe_xV o1 (hr.mono (by decide)) rfl (pa_cons (pv 0) pa_nil)) (pa_cons (pe_xV o2 (hr.mono (by decide)) rfl (pa_cons (pv 0) pa_nil)) (pa_cons (pe_xV o3 (hr.mono (by decide)) rfl (pa_cons (pv 0) pa_nil)) (pa_cons (pe_xV o4 (hr.mono (by decide)) rfl (pa_cons (pv 0) pa_nil)) pa_nil)))))))
      (pss_cons (ps_set (i := 1) sc__law_made.nd rfl (Or.inl rfl) (pe_op op_catS (pv 1) (pe_lst (pa_cons (pe_xV o5 (hr.mono (by decide)) rfl (pa_cons (pv 0) pa_nil)) (pa_cons (pe_xV o6 (hr.mono (by decide)) rfl (pa_cons (pv 0) (pa_cons pe_str pa_nil))) (pa_cons (pe_xV o7 (hr.mono (by decide)) rfl (pa_cons (pv 0) pa_nil)) (pa_cons (pe_xV o8 (hr.mono (by decide)) rfl (pa_cons (pv 0) pa_nil)) pa_nil)))))))
      (pss_cons (ps_set (i := 1) sc__law_made.nd rfl (Or.inl rfl) (pe_op op_catS (pv 1) (pe_lst (pa_cons (pe_xV o9 (hr.mono (by decide)) rfl (pa_cons (pv 0) pa_nil)) (pa_cons (pe_xV o10 (hr.mono (by decide)) rfl (pa_cons (pv 0) pa_nil)) (pa_cons (pe_xV o11 (hr.mono (by decide)) rfl (pa_cons (pv 0) pa_nil)) (pa_cons (pe_xV o12 (hr.mono (by decide)) rfl (pa_cons (pv 0) pa_nil)) pa_nil)))))))
      (pss_cons (ps_set (i := 1) sc__law_made.nd rfl (Or.inl rfl) (pe_op op_catS (pv 1) (pe_lst (pa_cons (pe_xV o13 (hr.mono (by decide)) rfl (pa_cons (pv 0) pa_nil)) (pa_cons (pe_xV o14 (hr.mono (by decide)) rfl (pa_cons (pv 0) pa_nil)) (pa_cons (pe_xV o15 (hr.mono (by decide)) rfl (pa_cons (pv 0) pa_nil)) (pa_cons (pe_xV o16 (hr.mono (by decide)) rfl (pa_cons (pv 0) pa_nil)) pa_nil)))))))
      (pss_cons (ps_set (i := 1) sc__law_made.nd rfl (Or.inl rfl) (pe_op op_catS (pv 1) (pe_lst (pa_cons (pe_xV o17 (hr.mono (by decide)) rfl (pa_cons (pv 0) pa_nil)) (pa_cons (pe_xV o18 (hr.mono (by decide)) rfl (pa_cons (pv 0) pa_nil)) (pa_cons (pe_xV o19 (hr.mono (by decide)) rfl (pa_cons (pv 0) pa_nil)) (pa_cons (pe_xV o20 (hr.mono (by decide)) rfl (pa_cons (pv 0) pa_nil)) pa_nil)))))))
      (pss_cons (ps_set (i := 1) sc__law_made.nd rfl (Or.inl rfl) (pe_op op_catS (pv 1) (pe_lst (pa_cons (pe_xV o21 (hr.mono (by decide)) rfl (pa_cons (pv 0) pa_nil)) (pa_cons (pe_xV0 o22 (hr.mono (by decide)) rfl) (pa_cons (pe_xV o23 (hr.mono (by decide)) rfl (pa_cons (pv 0) pa_nil)) (pa_cons (pe_xV o24 (hr.mono (by decide)) rfl (pa_cons (pv 0) (pa_cons pe_str pa_nil))) (pa_cons (pe_xV o25 (hr.mono (by decide)) rfl (pa_cons (pv 0) pa_nil)) pa_nil))))))))
      (pss_one (ps_ret (pe_op op_catS (pv 1) (pe_lst (pa_cons (pe_xV o26 (hr.mono (by decide)) rfl (pa_cons (pv 0) (pa_cons pe_str pa_nil))) (pa_cons (pe_xV0 o27 (hr.mono (by decide)) rfl) (pa_cons (pe_xV0 o28 (hr.mono (by decide)) rfl) (pa_cons (pe_xV0 o29 (hr.mono (by decide)) rfl) (pa_cons (pe_xV o30 (hr.mono (by decide)) rfl (pa_cons (pv 0) pa_nil)) pa_nil))))))))))))))), ?_⟩
    refine ⟨_, rfl, rfl, rfl, by show 1 ≤ 1000; decide, fun a0 n0 => ⟨a0, _, rfl, upd_same, fun H1 k0 x0 => ⟨rfl, ?_⟩⟩⟩
    have S0 := Near.up n0 k0
    refine ⟨_, rfl, rfl, rfl, by show 1 ≤ 1000; decide, fun a1 n1 => ⟨a1, _, rfl, upd_same, fun H2 k1 x1 => ⟨rfl, ?_⟩⟩⟩
    have S1 := Near.up n1 k1
    refine ⟨_, rfl, rfl, rfl, by show 1 ≤ 1000; decide, fun a2 n2 => ⟨a2, _, rfl, upd_same, fun H3 k2 x2 => ⟨rfl, ?_⟩⟩⟩
    have S2 := Near.up n2 k2
    refine ⟨_, rfl, rfl, rfl, by show 1 ≤ 1000; decide, fun a3 n3 => ⟨a3, _, rfl, upd_same, fun H4 k3 x3 => ⟨rfl, ?_⟩⟩⟩
    have S3 := Near.up n3 k3
    refine ⟨_, rfl, rfl, rfl, by show 1 ≤ 1000; decide, fun a4 n4 => ⟨a4, _, rfl, upd_same, fun H5 k4 x4 => ⟨rfl, ?_⟩⟩⟩
    have S4 := Near.up n4 k4
    refine ⟨by show 5 ≤ sizeLine; decide, fun l0 m0 => ?_⟩
    have S5 := Same.new (o := .lst [.ref a0, .ref a1, .ref a2, .ref a3, .ref a4]) m0
    obtain ⟨H6, e6⟩ : ∃ H', H' = upd H5 l0 (.lst [.ref a0, .ref a1, .ref a2, .ref a3, .ref a4]) := ⟨_, rfl⟩
    rw [← e6] at S5 ⊢
    have hn : H6 l0 = some (.lst [.ref a0, .ref a1, .ref a2, .ref a3, .ref a4]) := by
      rw [e6]
      exact upd_same
    clear e6
    have hf := hn
    refine ⟨_, rfl, _, rfl, rfl, rfl, by show 1 ≤ 1000; decide, fun a5 n5 => ⟨a5, _, rfl, upd_same, fun H7 k5 x5 => ⟨rfl, ?_⟩⟩⟩
    have S6 := Near.up n5 k5
    have hf := S6 _ _ hf
    refine ⟨_, rfl, rfl, rfl, by show 2 ≤ 1000; decide, fun a6 n6 => ⟨a6, _, _, rfl, upd_same, fun H8 k6 x6 => ⟨rfl, ?_⟩⟩⟩
    have S7 := Near.up n6 k6
    have hf := S7 _ _ hf
    refine ⟨_, rfl, rfl, rfl, by show 1 ≤ 1000; decide, fun a7 n7 => ⟨a7, _, rfl, upd_same, fun H9 k7 x7 => ⟨rfl, ?_⟩⟩⟩
    have S8 := Near.up n7 k7
    have hf := S8 _ _ hf
    refine ⟨_, rfl, rfl, rfl, by show 1 ≤ 1000; decide, fun a8 n8 => ⟨a8, _, rfl, upd_same, fun H10 k8 x8 => ⟨rfl, ?_⟩⟩⟩
    have S9 := Near.up n8 k8
    have hf := S9 _ _ hf
    refine ⟨by show 4 ≤ sizeLine; decide, fun l1 m1 => ?_⟩
    have S10 := Same.new (o := .lst [.ref a5, .ref a6, .ref a7, .ref a8]) m1
    obtain ⟨H11, e11⟩ : ∃ H', H' = upd H10 l1 (.lst [.ref a5, .ref a6, .ref a7, .ref a8]) := ⟨_, rfl⟩
    rw [← e11] at S10 ⊢
    have hn : H11 l1 = some (.lst [.ref a5, .ref a6, .ref a7, .ref a8]) := by
      rw [e11]
      exact upd_same
    clear e11
    have hf := S10 _ _ hf
    refine ⟨l0, l1, _, _, rfl, rfl, hf, hn, (by show 9 ≤ sizeLine; decide), fun p1 mp1 ms1 => ?_⟩
    have S11 := Same.new (o := .lst [.ref a0, .ref a1, .ref a2, .ref a3, .ref a4, .ref a5, .ref a6, .ref a7, .ref a8]) mp1
    obtain ⟨H12, e12⟩ : ∃ H', H' = upd H11 p1 (.lst [.ref a0, .ref a1, .ref a2, .ref a3, .ref a4, .ref a5, .ref a6, .ref a7, .ref a8]) := ⟨_, rfl⟩
    rw [← e12] at S11
    have hf : H12 p1 = some (.lst [.ref a0, .ref a1, .ref a2, .ref a3, .ref a4, .ref a5, .ref a6, .ref a7, .ref a8]) := by
      rw [e12]
      exact upd_same
    have eq : upd H11 p1 (.lst ([V.ref a0, V.ref a1, V.ref a2, V.ref a3, V.ref a4] ++ [V.ref a5, V.ref a6, V.ref a7, V.ref a8])) = H12 := e12.symm
    rw [eq]
    clear eq e12
    refine ⟨_, rfl, _, rfl, rfl, rfl, by show 1 ≤ 1000; decide, fun a9 n9 => ⟨a9, _, rfl, upd_same, fun H13 k9 x9 => ⟨rfl, ?_⟩⟩⟩
    have S12 := Near.up n9 k9
    have hf := S12 _ _ hf
    refine ⟨_, rfl, rfl, rfl, by show 1 ≤ 1000; decide, fun a10 n10 => ⟨a10, _, rfl, upd_same, fun H14 k10 x10 => ⟨rfl, ?_⟩⟩⟩
    have S13 := Near.up n10 k10
    have hf := S13 _ _ hf
    refine ⟨_, rfl, rfl, rfl, by show 1 ≤ 1000; decide, fun a11 n11 => ⟨a11, _, rfl, upd_same, fun H15 k11 x11 => ⟨rfl, ?_⟩⟩⟩
    have S14 := Near.up n11 k11
    have hf := S14 _ _ hf
    refine ⟨_, rfl, rfl, rfl, by show 1 ≤ 1000; decide, fun a12 n12 => ⟨a12, _, rfl, upd_same, fun H16 k12 x12 => ⟨rfl, ?_⟩⟩⟩
    have S15 := Near.up n12 k12
    have hf := S15 _ _ hf
    refine ⟨by show 4 ≤ sizeLine; decide, fun l2 m2 => ?_⟩
    have S16 := Same.new (o := .lst [.ref a9, .ref a10, .ref a11, .ref a12]) m2
    obtain ⟨H17, e17⟩ : ∃ H', H' = upd H16 l2 (.lst [.ref a9, .ref a10, .ref a11, .ref a12]) := ⟨_, rfl⟩
    rw [← e17] at S16 ⊢
    have hn : H17 l2 = some (.lst [.ref a9, .ref a10, .ref a11, .ref a12]) := by
      rw [e17]
      exact upd_same
    clear e17
    have hf := S16 _ _ hf
    refine ⟨p1, l2, _, _, rfl, rfl, hf, hn, (by show 13 ≤ sizeLine; decide), fun p2 mp2 ms2 => ?_⟩
    have S17 := Same.new (o := .lst [.ref a0, .ref a1, .ref a2, .ref a3, .ref a4, .ref a5, .ref a6, .ref a7, .ref a8, .ref a9, .ref a10, .ref a11, .ref a12]) mp2
    obtain ⟨H18, e18⟩ : ∃ H', H' = upd H17 p2 (.lst [.ref a0, .ref a1, .ref a2, .ref a3, .ref a4, .ref a5, .ref a6, .ref a7, .ref a8, .ref a9, .ref a10, .ref a11, .ref a12]) := ⟨_, rfl⟩
    rw [← e18] at S17
    have hf : H18 p2 = some (.lst [.ref a0, .ref a1, .ref a2, .ref a3, .ref a4, .ref a5, .ref a6, .ref a7, .ref a8, .ref a9, .ref a10, .ref a11, .ref a12]) := by
      rw [e18]
      exact upd_same
    have eq : upd H17 p2 (.lst ([V.ref a0, V.ref a1, V.ref a2, V.ref a3, V.ref a4, V.ref a5, V.ref a6, V.ref a7, V.ref a8] ++ [V.ref a9, V.ref a10, V.ref a11, V.ref a12])) = H18 := e18.symm
    rw [eq]
    clear eq e18
    refine ⟨_, rfl, _, rfl, rfl, rfl, by show 1 ≤ 1000; decide, fun a13 n13 => ⟨a13, _, rfl, upd_same, fun H19 k13 x13 => ⟨rfl, ?_⟩⟩⟩
    have S18 := Near.up n13 k13
    have hf := S18 _ _ hf
    refine ⟨_, rfl, rfl, rfl, by show 1 ≤ 1000; decide, fun a14 n14 => ⟨a14, _, rfl, upd_same, fun H20 k14 x14 => ⟨rfl, ?_⟩⟩⟩
    have S19 := Near.up n14 k14
    have hf := S19 _ _ hf
    refine ⟨_, rfl, rfl, rfl, by show 1 ≤ 1000; decide, fun a15 n15 => ⟨a15, _, rfl, upd_same, fun H21 k15 x15 => ⟨rfl, ?_⟩⟩⟩
    have S20 := Near.up n15 k15
    have hf := S20 _ _ hf
    refine ⟨_, rfl, rfl, rfl, by show 1 ≤ 1000; decide, fun a16 n16 => ⟨a16, _, rfl, upd_same, fun H22 k16 x16 => ⟨rfl, ?_⟩⟩⟩
    have S21 := Near.up n16 k16
    have hf := S21 _ _ hf
    refine ⟨by show 4 ≤ sizeLine; decide, fun l3 m3 => ?_⟩
    have S22 := Same.new (o := .lst [.ref a13, .ref a14, .ref a15, .ref a16]) m3
    obtain ⟨H23, e23⟩ : ∃ H', H' = upd H22 l3 (.lst [.ref a13, .ref a14, .ref a15, .ref a16]) := ⟨_, rfl⟩
    rw [← e23] at S22 ⊢
    have hn : H23 l3 = some (.lst [.ref a13, .ref a14, .ref a15, .ref a16]) := by
      rw [e23]
      exact upd_same
    clear e23
    have hf := S22 _ _ hf
    refine ⟨p2, l3, _, _, rfl, rfl, hf, hn, (by show 17 ≤ sizeLine; decide), fun p3 mp3 ms3 => ?_⟩
    have S23 := Same.new (o := .lst [.ref a0, .ref a1, .ref a2, .ref a3, .ref a4, .ref a5, .ref a6, .ref a7, .ref a8, .ref a9, .ref a10, .ref a11, .ref a12, .ref a13, .ref a14, .ref a15, .ref a16]) mp3
    obtain ⟨H24, e24⟩ : ∃ H', H' = upd H23 p3 (.lst [.ref a0, .ref a1, .ref a2, .ref a3, .ref a4, .ref a5, .ref a6, .ref a7, .ref a8, .ref a9, .ref a10, .ref a11, .ref a12, .ref a13, .ref a14, .ref a15, .ref a16]) := ⟨_, rfl⟩
    rw [← e24] at S23
    have hf : H24 p3 = some (.lst [.ref a0, .ref a1, .ref a2, .ref a3, .ref a4, .ref a5, .ref a6, .ref a7, .ref a8, .ref a9, .ref a10, .ref a11, .ref a12, .ref a13, .ref a14, .ref a15, .ref a16]) := by
      rw [e24]
      exact upd_same
    have eq : upd H23 p3 (.lst ([V.ref a0, V.ref a1, V.ref a2, V.ref a3, V.ref a4, V.ref a5, V.ref a6, V.ref a7, V.ref a8, V.ref a9, V.ref a10, V.ref a11, V.ref a12] ++ [V.ref a13, V.ref a14, V.ref a15, V.ref a16])) = H24 := e24.symm
    rw [eq]
    clear eq e24
    refine ⟨_, rfl, _, rfl, rfl, rfl, by show 1 ≤ 1000; decide, fun a17 n17 => ⟨a17, _, rfl, upd_same, fun H25 k17 x17 => ⟨rfl, ?_⟩⟩⟩
    have S24 := Near.up n17 k17
    have hf := S24 _ _ hf
    refine ⟨_, rfl, rfl, rfl, by show 1 ≤ 1000; decide, fun a18 n18 => ⟨a18, _, rfl, upd_same, fun H26 k18 x18 => ⟨rfl, ?_⟩⟩⟩
    have S25 := Near.up n18 k18
    have hf := S25 _ _ hf
    refine ⟨_, rfl, rfl, rfl, by show 1 ≤ 1000; decide, fun a19 n19 => ⟨a19, _, rfl, upd_same, fun H27 k19 x19 => ⟨rfl, ?_⟩⟩⟩
    have S26 := Near.up n19 k19
    have hf := S26 _ _ hf
    refine ⟨_, rfl, rfl, rfl, by show 1 ≤ 1000; decide, fun a20 n20 => ⟨a20, _, rfl, upd_same, fun H28 k20 x20 => ⟨rfl, ?_⟩⟩⟩
    have S27 := Near.up n20 k20
    have hf := S27 _ _ hf
    refine ⟨by show 4 ≤ sizeLine; decide, fun l4 m4 => ?_⟩
    have S28 := Same.new (o := .lst [.ref a17, .ref a18, .ref a19, .ref a20]) m4
    obtain ⟨H29, e29⟩ : ∃ H', H' = upd H28 l4 (.lst [.ref a17, .ref a18, .ref a19, .ref a20]) := ⟨_, rfl⟩
    rw [← e29] at S28 ⊢
    have hn : H29 l4 = some (.lst [.ref a17, .ref a18, .ref a19, .ref a20]) := by
      rw [e29]
      exact upd_same
    clear e29
    have hf := S28 _ _ hf
    refine ⟨p3, l4, _, _, rfl, rfl, hf, hn, (by show 21 ≤ sizeLine; decide), fun p4 mp4 ms4 => ?_⟩
    have S29 := Same.new (o := .lst [.ref a0, .ref a1, .ref a2, .ref a3, .ref a4, .ref a5, .ref a6, .ref a7, .ref a8, .ref a9, .ref a10, .ref a11, .ref a12, .ref a13, .ref a14, .ref a15, .ref a16, .ref a17, .ref a18, .ref a19, .ref a20]) mp4
    obtain ⟨H30, e30⟩ : ∃ H', H' = upd H29 p4 (.lst [.ref a0, .ref a1, .ref a2, .ref a3, .ref a4, .ref a5, .ref a6, .ref a7, .ref a8, .ref a9, .ref a10, .ref a11, .ref a12, .ref a13, .ref a14, .ref a15, .ref a16, .ref a17, .ref a18, .ref a19, .ref a20]) := ⟨_, rfl⟩
    rw [← e30] at S29
    have hf : H30 p4 = some (.lst [.ref a0, .ref a1, .ref a2, .ref a3, .ref a4, .ref a5, .ref a6, .ref a7, .ref a8, .ref a9, .ref a10, .ref a11, .ref a12, .ref a13, .ref a14, .ref a15, .ref a16, .ref a17, .ref a18, .ref a19, .ref a20]) := by
      rw [e30]
      exact upd_same
    have eq : upd H29 p4 (.lst ([V.ref a0, V.ref a1, V.ref a2, V.ref a3, V.ref a4, V.ref a5, V.ref a6, V.ref a7, V.ref a8, V.ref a9, V.ref a10, V.ref a11, V.ref a12, V.ref a13, V.ref a14, V.ref a15, V.ref a16] ++ [V.ref a17, V.ref a18, V.ref a19, V.ref a20])) = H30 := e30.symm
    rw [eq]
    clear eq e30
    refine ⟨_, rfl, _, rfl, rfl, rfl, by show 1 ≤ 1000; decide, fun a21 n21 => ⟨a21, _, rfl, upd_same, fun H31 k21 x21 => ⟨rfl, ?_⟩⟩⟩
    have S30 := Near.up n21 k21
    have hf := S30 _ _ hf
    refine ⟨rfl, rfl, by show 0 ≤ 1000; decide, fun a22 n22 => ⟨a22, rfl, upd_same, rfl, ?_⟩⟩
    have S31 : Same H31 (upd H31 a22 (exo a22 (C 22) none)) := Same.new n22
    have x22 : (upd H31 a22 (exo a22 (C 22) none)) a22 = some (exo a22 (C 22) none) := upd_same
    generalize upd H31 a22 (exo a22 (C 22) none) = H32 at S31 x22 ⊢
    have hf := S31 _ _ hf
    refine ⟨_, rfl, rfl, rfl, by show 1 ≤ 1000; decide, fun a23 n23 => ⟨a23, _, rfl, upd_same, fun H33 k23 x23 => ⟨rfl, ?_⟩⟩⟩
    have S32 := Near.up n23 k23
    have hf := S32 _ _ hf
    refine ⟨_, rfl, rfl, rfl, by show 2 ≤ 1000; decide, fun a24 n24 => ⟨a24, _, _, rfl, upd_same, fun H34 k24 x24 => ⟨rfl, ?_⟩⟩⟩
    have S33 := Near.up n24 k24
    have hf := S33 _ _ hf
    refine ⟨_, rfl, rfl, rfl, by show 1 ≤ 1000; decide, fun a25 n25 => ⟨a25, _, rfl, upd_same, fun H35 k25 x25 => ⟨rfl, ?_⟩⟩⟩
    have S34 := Near.up n25 k25
    have hf := S34 _ _ hf
    refine ⟨by show 5 ≤ sizeLine; decide, fun l5 m5 => ?_⟩
    have S35 := Same.new (o := .lst [.ref a21, .ref a22, .ref a23, .ref a24, .ref a25]) m5
    obtain ⟨H36, e36⟩ : ∃ H', H' = upd H35 l5 (.lst [.ref a21, .ref a22, .ref a23, .ref a24, .ref a25]) := ⟨_, rfl⟩
    rw [← e36] at S35 ⊢
    have hn : H36 l5 = some (.lst [.ref a21, .ref a22, .ref a23, .ref a24, .ref a25]) := by
      rw [e36]
      exact upd_same
    clear e36
    have hf := S35 _ _ hf
    refine ⟨p4, l5, _, _, rfl, rfl, hf, hn, (by show 26 ≤ sizeLine; decide), fun p5 mp5 ms5 => ?_⟩
    have S36 := Same.new (o := .lst [.ref a0, .ref a1, .ref a2, .ref a3, .ref a4, .ref a5, .ref a6, .ref a7, .ref a8, .ref a9, .ref a10, .ref a11, .ref a12, .ref a13, .ref a14, .ref a15, .ref a16, .ref a17, .ref a18, .ref a19, .ref a20, .ref a21, .ref a22, .ref a23, .ref a24, .ref a25]) mp5
    obtain ⟨H37, e37⟩ : ∃ H', H' = upd H36 p5 (.lst [.ref a0, .ref a1, .ref a2, .ref a3, .ref a4, .ref a5, .ref a6, .ref a7, .ref a8, .ref a9, .ref a10, .ref a11, .ref a12, .ref a13, .ref a14, .ref a15, .ref a16, .ref a17, .ref a18, .ref a19, .ref a20, .ref a21, .ref a22, .ref a23, .ref a24, .ref a25]) := ⟨_, rfl⟩
    rw [← e37] at S36
    have hf : H37 p5 = some (.lst [.ref a0, .ref a1, .ref a2, .ref a3, .ref a4, .ref a5, .ref a6, .ref a7, .ref a8, .ref a9, .ref a10, .ref a11, .ref a12, .ref a13, .ref a14, .ref a15, .ref a16, .ref a17, .ref a18, .ref a19, .ref a20, .ref a21, .ref a22, .ref a23, .ref a24, .ref a25]) := by
      rw [e37]
      exact upd_same
    have eq : upd H36 p5 (.lst ([V.ref a0, V.ref a1, V.ref a2, V.ref a3, V.ref a4, V.ref a5, V.ref a6, V.ref a7, V.ref a8, V.ref a9, V.ref a10, V.ref a11, V.ref a12, V.ref a13, V.ref a14, V.ref a15, V.ref a16, V.ref a17, V.ref a18, V.ref a19, V.ref a20] ++ [V.ref a21, V.ref a22, V.ref a23, V.ref a24, V.ref a25])) = H37 := e37.symm
    rw [eq]
    clear eq e37
    refine ⟨_, rfl, _, rfl, rfl, rfl, by show 2 ≤ 1000; decide, fun a26 n26 => ⟨a26, _, _, rfl, upd_same, fun H38 k26 x26 => ⟨rfl, ?_⟩⟩⟩
    have S37 := Near.up n26 k26
    have hf := S37 _ _ hf
    refine ⟨rfl, rfl, by show 0 ≤ 1000; decide, fun a27 n27 => ⟨a27, rfl, upd_same, rfl, ?_⟩⟩
    have S38 : Same H38 (upd H38 a27 (exo a27 (C 27) none)) := Same.new n27
    have x27 : (upd H38 a27 (exo a27 (C 27) none)) a27 = some (exo a27 (C 27) none) := upd_same
    generalize upd H38 a27 (exo a27 (C 27) none) = H39 at S38 x27 ⊢
    have hf := S38 _ _ hf
    refine ⟨rfl, rfl, by show 0 ≤ 1000; decide, fun a28 n28 => ⟨a28, rfl, upd_same, rfl, ?_⟩⟩
    have S39 : Same H39 (upd H39 a28 (exo a28 (C 28) none)) := Same.new n28
    have x28 : (upd H39 a28 (exo a28 (C 28) none)) a28 = some (exo a28 (C 28) none) := upd_same
    generalize upd H39 a28 (exo a28 (C 28) none) = H40 at S39 x28 ⊢
    have hf := S39 _ _ hf
    refine ⟨rfl, rfl, by show 0 ≤ 1000; decide, fun a29 n29 => ⟨a29, rfl, upd_same, rfl, ?_⟩⟩
    have S40 : Same H40 (upd H40 a29 (exo a29 (C 29) none)) := Same.new n29
    have x29 : (upd H40 a29 (exo a29 (C 29) none)) a29 = some (exo a29 (C 29) none) := upd_same
    generalize upd H40 a29 (exo a29 (C 29) none) = H41 at S40 x29 ⊢
    have hf := S40 _ _ hf
    refine ⟨_, rfl, rfl, rfl, by show 1 ≤ 1000; decide, fun a30 n30 => ⟨a30, _, rfl, upd_same, fun H42 k30 x30 => ⟨rfl, ?_⟩⟩⟩
    have S41 := Near.up n30 k30
    have hf := S41 _ _ hf
    refine ⟨by show 5 ≤ sizeLine; decide, fun l6 m6 => ?_⟩
    have S42 := Same.new (o := .lst [.ref a26, .ref a27, .ref a28, .ref a29, .ref a30]) m6
    obtain ⟨H43, e43⟩ : ∃ H', H' = upd H42 l6 (.lst [.ref a26, .ref a27, .ref a28, .ref a29, .ref a30]) := ⟨_, rfl⟩
    rw [← e43] at S42 ⊢
    have hn : H43 l6 = some (.lst [.ref a26, .ref a27, .ref a28, .ref a29, .ref a30]) := by
      rw [e43]
      exact upd_same
    clear e43
    have hf := S42 _ _ hf
    refine ⟨p5, l6, _, _, rfl, rfl, hf, hn, (by show 31 ≤ sizeLine; decide), fun p6 mp6 ms6 => ?_⟩
    have T43 := Same.new (o := .lst ([a0, a1, a2, a3, a4, a5, a6, a7, a8, a9, a10, a11, a12, a13, a14, a15, a16, a17, a18, a19, a20, a21, a22, a23, a24, a25, a26, a27, a28, a29, a30].map V.ref)) mp6
    have T42 := S42.trans T43
    have T41 := S41.trans T42
    have T40 := S40.trans T41
    have T39 := S39.trans T40
    have T38 := S38.trans T39
    have T37 := S37.trans T38
    have T36 := S36.trans T37
    have T35 := S35.trans T36
    have T34 := S34.trans T35
    have T33 := S33.trans T34
    have T32 := S32.trans T33
    have T31 := S31.trans T32
    have T30 := S30.trans T31
    have T29 := S29.trans T30
    have T28 := S28.trans T29
    have T27 := S27.trans T28
    have T26 := S26.trans T27
    have T25 := S25.trans T26
    have T24 := S24.trans T25
    have T23 := S23.trans T24
    have T22 := S22.trans T23
    have T21 := S21.trans T22
    have T20 := S20.trans T21
    have T19 := S19.trans T20
    have T18 := S18.trans T19
    have T17 := S17.trans T18
    have T16 := S16.trans T17
    have T15 := S15.trans T16
    have T14 := S14.trans T15
    have T13 := S13.trans T14
    have T12 := S12.trans T13
    have T11 := S11.trans T12
    have T10 := S10.trans T11
    have T9 := S9.trans T10
    have T8 := S8.trans T9
    have T7 := S7.trans T8
    have T6 := S6.trans T7
    have T5 := S5.trans T6
    have T4 := S4.trans T5
    have T3 := S3.trans T4
    have T2 := S2.trans T3
    have T1 := S1.trans T2
    have T0 := S0.trans T1
    refine q p6 _ T0 ⟨[a0, a1, a2, a3, a4, a5, a6, a7, a8, a9, a10, a11, a12, a13, a14, a15, a16, a17, a18, a19, a20, a21, a22, a23, a24, a25, a26, a27, a28, a29, a30], rfl, upd_same, AllAt.get (k := 0) ⟨Ex.same x0 T1, Ex.same x1 T2, Ex.same x2 T3, Ex.same x3 T4, Ex.same x4 T5, Ex.same x5 T7, Ex.same x6 T8, Ex.same x7 T9, Ex.same x8 T10, Ex.same x9 T13, Ex.same x10 T14, Ex.same x11 T15, Ex.same x12 T16, Ex.same x13 T19, Ex.same x14 T20, Ex.same x15 T21, Ex.same x16 T22, Ex.same x17 T25, Ex.same x18 T26, Ex.same x19 T27, Ex.same x20 T28, Ex.same x21 T31, T32 _ _ x22, Ex.same x23 T33, Ex.same x24 T34, Ex.same x25 T35, Ex.same x26 T38, T39 _ _ x27, T40 _ _ x28, T41 _ _ x29, Ex.same x30 T42, trivial⟩⟩
abbrev s__law_named : Stmt := top 37
theorem sc__law_named : FnScope ["_law_held", "_law_found"] ["_law_held"] (defScope s__law_named) := ⟨rfl, rfl, rfl, by decide +kernel, rfl, by decide +kernel, by decide +kernel⟩
theorem ok__law_named {C : Nat → Addr} (h : Has K mg "_law_named" s__law_named ["_law_held"])
    (o0 : XOk P w K mg base "InvalidRule" (C 0) 1 ["self", "value"] ["value"] (sp1 "value" (C 0)))
    (o1 : XOk P w K mg base "InvalidNumber" (C 1) 1 ["self", "value"] ["value"] (sp1 "value" (C 1)))
    (o2 : XOk P w K mg base "InvalidBase" (C 2) 1 ["self", "value"] ["value"] (sp1 "value" (C 2)))
    (o3 : XOk P w K mg base "InvalidName" (C 3) 1 ["self", "value"] ["value"] (sp1 "value" (C 3)))
    (o4 : XOk P w K mg base "InvalidRegisters" (C 4) 1 ["self", "number"] ["number"] (sp1 "number" (C 4)))
    (o5 : XOk P w K mg base "InvalidModes" (C 5) 1 ["self", "number"] ["number"] (sp1 "number" (C 5)))
    (o6 : XOk P w K mg base "InvalidRow" (C 6) 2 ["self", "mode", "number"] ["number", "mode"] (sp2 "mode" "number" (C 6)))
    (o7 : XOk P w K mg base "InvalidEnds" (C 7) 1 ["self", "value"] ["value"] (sp1 "value" (C 7)))
    (o8 : XOk P w K mg base "InvalidResult" (C 8) 1 ["self", "value"] ["value"] (sp1 "value" (C 8)))
    (o9 : XOk P w K mg base "InvalidProgram" (C 9) 1 ["self", "value"] ["value"] (sp1 "value" (C 9)))
    (o10 : XOk P w K mg base "InvalidFigures" (C 10) 1 ["self", "value"] ["value"] (sp1 "value" (C 10)))
    (o11 : XOk P w K mg base "InvalidState" (C 11) 1 ["self", "value"] ["value"] (sp1 "value" (C 11)))
    (o12 : XOk P w K mg base "InvalidText" (C 12) 1 ["self", "line"] ["line"] (sp1 "line" (C 12)))
    (o13 : XOk P w K mg base "InvalidRatio" (C 13) 1 ["self", "value"] ["value"] (sp1 "value" (C 13)))
    (o14 : XOk P w K mg base "InvalidRows" (C 14) 1 ["self", "value"] ["value"] (sp1 "value" (C 14)))
    (o15 : XOk P w K mg base "InvalidForm" (C 15) 1 ["self", "value"] ["value"] (sp1 "value" (C 15)))
    (o16 : XOk P w K mg base "InvalidSign" (C 16) 1 ["self", "value"] ["value"] (sp1 "value" (C 16)))
    (o17 : XOk P w K mg base "InvalidMachine" (C 17) 1 ["self", "value"] ["value"] (sp1 "value" (C 17)))
    (o18 : XOk P w K mg base "InvalidPieces" (C 18) 1 ["self", "number"] ["number"] (sp1 "number" (C 18)))
    (o19 : XOk P w K mg base "InvalidCommand" (C 19) 1 ["self", "word"] ["word"] (sp1 "word" (C 19)))
    (o20 : XOk P w K mg base "UnknownName" (C 20) 1 ["self", "value"] ["value"] (sp1 "value" (C 20)))
    (o21 : XOk P w K mg base "Endless" (C 21) 1 ["self", "number"] ["number"] (sp1 "number" (C 21)))
    (o22 : XOk P w K mg base "DivisionByZero" (C 22) 0 ["self"] [] (sp0 (C 22)))
    (o23 : XOk P w K mg base "Parted" (C 23) 1 ["self", "number"] ["number"] (sp1 "number" (C 23)))
    (o24 : XOk P w K mg base "Unlike" (C 24) 2 ["self", "one", "other"] ["other", "one"] (sp2 "one" "other" (C 24)))
    (o25 : XOk P w K mg base "Broken" (C 25) 1 ["self", "number"] ["number"] (sp1 "number" (C 25)))
    (o26 : XOk P w K mg base "Guarded" (C 26) 2 ["self", "condition", "number"] ["number", "condition"] (sp2 "condition" "number" (C 26)))
    (o27 : XOk P w K mg base "NothingToUndo" (C 27) 0 ["self"] [] (sp0 (C 27)))
    (o28 : XOk P w K mg base "NothingToRedo" (C 28) 0 ["self"] [] (sp0 (C 28)))
    (o29 : XOk P w K mg base "NoTrial" (C 29) 0 ["self"] [] (sp0 (C 29)))
    (o30 : XOk P w K mg base "LimitExceeded" (C 30) 1 ["self", "most"] ["most"] (sp1 "most" (C 30)))
    : Ok P w K mg base 3 "_law_named" ["_law_held"] (spMade C) := by
  obtain ⟨f, fd, g, b, F⟩ := h
  refine ⟨f, fd, g, F.kp, b, F.ok sc__law_named (fun vs H Q E h => ?_) (fun cdv A outer s H0 vs Q E hr h => ?_)⟩
  · obtain ⟨v, rfl, _⟩ := h
    rfl
  · obtain ⟨held, rfl, q⟩ := h
    refine ⟨_, (pss_cons (ps_set (i := 1) sc__law_named.nd rfl (Or.inl rfl) (pe_lst (pa_cons (pe_xVK o0 (hr.mono (by decide)) rfl (pk_cons (pv 0) pk_nil)) (pa_cons (pe_xVK o1 (hr.mono (by decide)) rfl (pk_cons (pv 0) pk_nil)) (pa_cons (pe_xVK o2 (hr.mono (by decide)) rfl (pk_cons (pv 0) pk_nil)) (pa_cons (pe_xVK o3 (hr.mono (by decide)) rfl (pk_cons (pv 0) pk_nil)) pa_nil))))))
      (pss_cons (ps_set (i := 1) sc__law_named.nd rfl (Or.inl rfl) (pe_op op_catS (pv 1) (pe_lst (pa_cons (pe_xVK o4 (hr.mono (by decide)) rfl (pk_cons (pv 0) pk_nil)) (pa_cons (pe_xVK o5 (hr.mono (by decide)) rfl (pk_cons (pv 0) pk_nil)) (pa_cons (pe_xVK o6 (hr.mono (by decide)) rfl (pk_cons pe_str (pk_cons (pv 0) pk_nil))) pa_nil))))))
      (pss_cons (ps_set (i := 1) sc__law_named.nd rfl (Or.inl rfl) (pe_op op_catS (pv 1) (pe_lst (pa_cons (pe_xVK o7 (hr.mono (by decide)) rfl (pk_cons (pv 0) pk_nil)) (pa_cons (pe_xVK o8 (hr.mono (by decide)) rfl (pk_cons (pv 0) pk_nil)) (pa_cons (pe_xVK o9 (hr.mono (by decide)) rfl (pk_cons (pv 0) pk_nil)) pa_nil))))))
      (pss_cons (ps_set (i := 1) sc__law_named.nd rfl (Or.inl rfl) (pe_op op_catS (pv 1) (pe_lst (pa_cons (pe_xVK o10 (hr.mono (by decide)) rfl (pk_cons (pv 0) pk_nil)) (pa_cons (pe_xVK o11 (hr.mono (by decide)) rfl (pk_cons (pv 0) pk_nil)) (pa_cons (pe_xVK o12 (hr.mono (by decide)) rfl (pk_cons (pv 0) pk_nil)) pa_nil))))))
      (pss_cons (ps_set (i := 1) sc__law_named.nd rfl (Or.inl rfl) (pe_op op_catS (pv 1) (pe_lst (pa_cons (pe_xVK o13 (hr.mono (by decide)) rfl (pk_cons (pv 0) pk_nil)) (pa_cons (pe_xVK o14 (hr.mono (by decide)) rfl (pk_cons (pv 0) pk_nil)) (pa_cons (pe_xVK o15 (hr.mono (by decide)) rfl (pk_cons (pv 0) pk_nil)) pa_nil))))))
      (pss_cons (ps_set (i := 1) sc__law_named.nd rfl (Or.inl rfl) (pe_op op_catS (pv 1) (pe_lst (pa_cons (pe_xVK o16 (hr.mono (by decide)) rfl (pk_cons (pv 0) pk_nil)) (pa_cons (pe_xVK o17 (hr.mono (by decide)) rfl (pk_cons (pv 0) pk_nil)) (pa_cons (pe_xVK o18 (hr.mono (by decide)) rfl (pk_cons (pv 0) pk_nil)) pa_nil))))))
      (pss_cons (ps_set (i := 1) sc__law_named.nd rfl (Or.inl rfl) (pe_op op_catS (pv 1) (pe_lst (pa_cons (pe_xVK o19 (hr.mono (by decide)) rfl (pk_cons (pv 0) pk_nil)) (pa_cons (pe_xVK o20 (hr.mono (by decide)) rfl (pk_cons (pv 0) pk_nil)) (pa_cons (pe_xVK o21 (hr.mono (by decide)) rfl (pk_cons (pv 0) pk_nil)) (pa_cons (pe_xV0 o22 (hr.mono (by decide)) rfl) pa_nil)))))))
      (pss_cons (ps_set (i := 1) sc__law_named.nd rfl (Or.inl rfl) (pe_op op_catS (pv 1) (pe_lst (pa_cons (pe_xVK o23 (hr.mono (by decide)) rfl (pk_cons (pv 0) pk_nil)) (pa_cons (pe_xVK o24 (hr.mono (by decide)) rfl (pk_cons pe_str (pk_cons (pv 0) pk_nil))) (pa_cons (pe_xVK o25 (hr.mono (by decide)) rfl (pk_cons (pv 0) pk_nil)) pa_nil))))))
      (pss_cons (ps_set (i := 1) sc__law_named.nd rfl (Or.inl rfl) (pe_op op_catS (pv 1) (pe_lst (pa_cons (pe_xVK o26 (hr.mono (by decide)) rfl (pk_cons pe_str (pk_cons (pv 0) pk_nil))) (pa_cons (pe_xV0 o27 (hr.mono (by decide)) rfl) (pa_cons (pe_xV0 o28 (hr.mono (by decide)) rfl) (pa_cons (pe_xV0 o29 (hr.mono (by decide)) rfl) pa_nil)))))))
      (pss_one (ps_ret (pe_op op_catS (pv 1) (pe_lst (pa_cons (pe_xVK o30 (hr.mono (by decide)) rfl (pk_cons (pv 0) pk_nil)) pa_nil)))))))))))))), ?_⟩
    refine ⟨_, rfl, rfl, rfl, by show 0 ≤ 1000; decide, fun a0 n0 => ⟨a0, _, rfl, upd_same, fun H1 k0 x0 => ⟨rfl, ?_⟩⟩⟩
    have S0 := Near.up n0 k0
    refine ⟨_, rfl, rfl, rfl, by show 0 ≤ 1000; decide, fun a1 n1 => ⟨a1, _, rfl, upd_same, fun H2 k1 x1 => ⟨rfl, ?_⟩⟩⟩
    have S1 := Near.up n1 k1
    refine ⟨_, rfl, rfl, rfl, by show 0 ≤ 1000; decide, fun a2 n2 => ⟨a2, _, rfl, upd_same, fun H3 k2 x2 => ⟨rfl, ?_⟩⟩⟩
    have S2 := Near.up n2 k2
    refine ⟨_, rfl, rfl, rfl, by show 0 ≤ 1000; decide, fun a3 n3 => ⟨a3, _, rfl, upd_same, fun H4 k3 x3 => ⟨rfl, ?_⟩⟩⟩
    have S3 := Near.up n3 k3
    refine ⟨by show 4 ≤ sizeLine; decide, fun l0 m0 => ?_⟩
    have S4 := Same.new (o := .lst [.ref a0, .ref a1, .ref a2, .ref a3]) m0
    obtain ⟨H5, e5⟩ : ∃ H', H' = upd H4 l0 (.lst [.ref a0, .ref a1, .ref a2, .ref a3]) := ⟨_, rfl⟩
    rw [← e5] at S4 ⊢
    have hn : H5 l0 = some (.lst [.ref a0, .ref a1, .ref a2, .ref a3]) := by
      rw [e5]
      exact upd_same
    clear e5
    have hf := hn
    refine ⟨_, rfl, _, rfl, rfl, rfl, by show 0 ≤ 1000; decide, fun a4 n4 => ⟨a4, _, rfl, upd_same, fun H6 k4 x4 => ⟨rfl, ?_⟩⟩⟩
    have S5 := Near.up n4 k4
    have hf := S5 _ _ hf
    refine ⟨_, rfl, rfl, rfl, by show 0 ≤ 1000; decide, fun a5 n5 => ⟨a5, _, rfl, upd_same, fun H7 k5 x5 => ⟨rfl, ?_⟩⟩⟩
    have S6 := Near.up n5 k5
    have hf := S6 _ _ hf
    refine ⟨_, rfl, rfl, rfl, by show 0 ≤ 1000; decide, fun a6 n6 => ⟨a6, _, _, rfl, upd_same, fun H8 k6 x6 => ⟨rfl, ?_⟩⟩⟩
    have S7 := Near.up n6 k6
    have hf := S7 _ _ hf
    refine ⟨by show 3 ≤ sizeLine; decide, fun l1 m1 => ?_⟩
    have S8 := Same.new (o := .lst [.ref a4, .ref a5, .ref a6]) m1
    obtain ⟨H9, e9⟩ : ∃ H', H' = upd H8 l1 (.lst [.ref a4, .ref a5, .ref a6]) := ⟨_, rfl⟩
    rw [← e9] at S8 ⊢
    have hn : H9 l1 = some (.lst [.ref a4, .ref a5, .ref a6]) := by
      rw [e9]
      exact upd_same
    clear e9
    have hf := S8 _ _ hf
    refine ⟨l0, l1, _, _, rfl, rfl, hf, hn, (by show 7 ≤ sizeLine; decide), fun p1 mp1 ms1 => ?_⟩
    have S9 := Same.new (o := .lst [.ref a0, .ref a1, .ref a2, .ref a3, .ref a4, .ref a5, .ref a6]) mp1
    obtain ⟨H10, e10⟩ : ∃ H', H' = upd H9 p1 (.lst [.ref a0, .ref a1, .ref a2, .ref a3, .ref a4, .ref a5, .ref a6]) := ⟨_, rfl⟩
    rw [← e10] at S9
    have hf : H10 p1 = some (.lst [.ref a0, .ref a1, .ref a2, .ref a3, .ref a4, .ref a5, .ref a6]) := by
      rw [e10]
      exact upd_same
    have eq : upd H9 p1 (.lst ([V.ref a0, V.ref a1, V.ref a2, V.ref a3] ++ [V.ref a4, V.ref a5, V.ref a6])) = H10 := e10.symm
    rw [eq]
    clear eq e10
    refine ⟨_, rfl, _, rfl, rfl, rfl, by show 0 ≤ 1000; decide, fun a7 n7 => ⟨a7, _, rfl, upd_same, fun H11 k7 x7 => ⟨rfl, ?_⟩⟩⟩
    have S10 := Near.up n7 k7
    have hf := S10 _ _ hf
    refine ⟨_, rfl, rfl, rfl, by show 0 ≤ 1000; decide, fun a8 n8 => ⟨a8, _, rfl, upd_same, fun H12 k8 x8 => ⟨rfl, ?_⟩⟩⟩
    have S11 := Near.up n8 k8
    have hf := S11 _ _ hf
    refine ⟨_, rfl, rfl, rfl, by show 0 ≤ 1000; decide, fun a9 n9 => ⟨a9, _, rfl, upd_same, fun H13 k9 x9 => ⟨rfl, ?_⟩⟩⟩
    have S12 := Near.up n9 k9
    have hf := S12 _ _ hf
    refine ⟨by show 3 ≤ sizeLine; decide, fun l2 m2 => ?_⟩
    have S13 := Same.new (o := .lst [.ref a7, .ref a8, .ref a9]) m2
    obtain ⟨H14, e14⟩ : ∃ H', H' = upd H13 l2 (.lst [.ref a7, .ref a8, .ref a9]) := ⟨_, rfl⟩
    rw [← e14] at S13 ⊢
    have hn : H14 l2 = some (.lst [.ref a7, .ref a8, .ref a9]) := by
      rw [e14]
      exact upd_same
    clear e14
    have hf := S13 _ _ hf
    refine ⟨p1, l2, _, _, rfl, rfl, hf, hn, (by show 10 ≤ sizeLine; decide), fun p2 mp2 ms2 => ?_⟩
    have S14 := Same.new (o := .lst [.ref a0, .ref a1, .ref a2, .ref a3, .ref a4, .ref a5, .ref a6, .ref a7, .ref a8, .ref a9]) mp2
    obtain ⟨H15, e15⟩ : ∃ H', H' = upd H14 p2 (.lst [.ref a0, .ref a1, .ref a2, .ref a3, .ref a4, .ref a5, .ref a6, .ref a7, .ref a8, .ref a9]) := ⟨_, rfl⟩
    rw [← e15] at S14
    have hf : H15 p2 = some (.lst [.ref a0, .ref a1, .ref a2, .ref a3, .ref a4, .ref a5, .ref a6, .ref a7, .ref a8, .ref a9]) := by
      rw [e15]
      exact upd_same
    have eq : upd H14 p2 (.lst ([V.ref a0, V.ref a1, V.ref a2, V.ref a3, V.ref a4, V.ref a5, V.ref a6] ++ [V.ref a7, V.ref a8, V.ref a9])) = H15 := e15.symm
    rw [eq]
    clear eq e15
    refine ⟨_, rfl, _, rfl, rfl, rfl, by show 0 ≤ 1000; decide, fun a10 n10 => ⟨a10, _, rfl, upd_same, fun H16 k10 x10 => ⟨rfl, ?_⟩⟩⟩
    have S15 := Near.up n10 k10
    have hf := S15 _ _ hf
    refine ⟨_, rfl, rfl, rfl, by show 0 ≤ 1000; decide, fun a11 n11 => ⟨a11, _, rfl, upd_same, fun H17 k11 x11 => ⟨rfl, ?_⟩⟩⟩
    have S16 := Near.up n11 k11
    have hf := S16 _ _ hf
    refine ⟨_, rfl, rfl, rfl, by show 0 ≤ 1000; decide, fun a12 n12 => ⟨a12, _, rfl, upd_same, fun H18 k12 x12 => ⟨rfl, ?_⟩⟩⟩
    have S17 := Near.up n12 k12
    have hf := S17 _ _ hf
    refine ⟨by show 3 ≤ sizeLine; decide, fun l3 m3 => ?_⟩
    have S18 := Same.new (o := .lst [.ref a10, .ref a11, .ref a12]) m3
    obtain ⟨H19, e19⟩ : ∃ H', H' = upd H18 l3 (.lst [.ref a10, .ref a11, .ref a12]) := ⟨_, rfl⟩
    rw [← e19] at S18 ⊢
    have hn : H19 l3 = some (.lst [.ref a10, .ref a11, .ref a12]) := by
      rw [e19]
      exact upd_same
    clear e19
    have hf := S18 _ _ hf
    refine ⟨p2, l3, _, _, rfl, rfl, hf, hn, (by show 13 ≤ sizeLine; decide), fun p3 mp3 ms3 => ?_⟩
    have S19 := Same.new (o := .lst [.ref a0, .ref a1, .ref a2, .ref a3, .ref a4, .ref a5, .ref a6, .ref a7, .ref a8, .ref a9, .ref a10, .ref a11, .ref a12]) mp3
    obtain ⟨H20, e20⟩ : ∃ H', H' = upd H19 p3 (.lst [.ref a0, .ref a1, .ref a2, .ref a3, .ref a4, .ref a5, .ref a6, .ref a7, .ref a8, .ref a9, .ref a10, .ref a11, .ref a12]) := ⟨_, rfl⟩
    rw [← e20] at S19
    have hf : H20 p3 = some (.lst [.ref a0, .ref a1, .ref a2, .ref a3, .ref a4, .ref a5, .ref a6, .ref a7, .ref a8, .ref a9, .ref a10, .ref a11, .ref a12]) := by
      rw [e20]
      exact upd_same
    have eq : upd H19 p3 (.lst ([V.ref a0, V.ref a1, V.ref a2, V.ref a3, V.ref a4, V.ref a5, V.ref a6, V.ref a7, V.ref a8, V.ref a9] ++ [V.ref a10, V.ref a11, V.ref a12])) = H20 := e20.symm
    rw [eq]
    clear eq e20
    refine ⟨_, rfl, _, rfl, rfl, rfl, by show 0 ≤ 1000; decide, fun a13 n13 => ⟨a13, _, rfl, upd_same, fun H21 k13 x13 => ⟨rfl, ?_⟩⟩⟩
    have S20 := Near.up n13 k13
    have hf := S20 _ _ hf
    refine ⟨_, rfl, rfl, rfl, by show 0 ≤ 1000; decide, fun a14 n14 => ⟨a14, _, rfl, upd_same, fun H22 k14 x14 => ⟨rfl, ?_⟩⟩⟩
    have S21 := Near.up n14 k14
    have hf := S21 _ _ hf
    refine ⟨_, rfl, rfl, rfl, by show 0 ≤ 1000; decide, fun a15 n15 => ⟨a15, _, rfl, upd_same, fun H23 k15 x15 => ⟨rfl, ?_⟩⟩⟩
    have S22 := Near.up n15 k15
    have hf := S22 _ _ hf
    refine ⟨by show 3 ≤ sizeLine; decide, fun l4 m4 => ?_⟩
    have S23 := Same.new (o := .lst [.ref a13, .ref a14, .ref a15]) m4
    obtain ⟨H24, e24⟩ : ∃ H', H' = upd H23 l4 (.lst [.ref a13, .ref a14, .ref a15]) := ⟨_, rfl⟩
    rw [← e24] at S23 ⊢
    have hn : H24 l4 = some (.lst [.ref a13, .ref a14, .ref a15]) := by
      rw [e24]
      exact upd_same
    clear e24
    have hf := S23 _ _ hf
    refine ⟨p3, l4, _, _, rfl, rfl, hf, hn, (by show 16 ≤ sizeLine; decide), fun p4 mp4 ms4 => ?_⟩
    have S24 := Same.new (o := .lst [.ref a0, .ref a1, .ref a2, .ref a3, .ref a4, .ref a5, .ref a6, .ref a7, .ref a8, .ref a9, .ref a10, .ref a11, .ref a12, .ref a13, .ref a14, .ref a15]) mp4
    obtain ⟨H25, e25⟩ : ∃ H', H' = upd H24 p4 (.lst [.ref a0, .ref a1, .ref a2, .ref a3, .ref a4, .ref a5, .ref a6, .ref a7, .ref a8, .ref a9, .ref a10, .ref a11, .ref a12, .ref a13, .ref a14, .ref a15]) := ⟨_, rfl⟩
    rw [← e25] at S24
    have hf : H25 p4 = some (.lst [.ref a0, .ref a1, .ref a2, .ref a3, .ref a4, .ref a5, .ref a6, .ref a7, .ref a8, .ref a9, .ref a10, .ref a11, .ref a12, .ref a13, .ref a14, .ref a15]) := by
      rw [e25]
      exact upd_same
    have eq : upd H24 p4 (.lst ([V.ref a0, V.ref a1, V.ref a2, V.ref a3, V.ref a4, V.ref a5, V.ref a6, V.ref a7, V.ref a8, V.ref a9, V.ref a10, V.ref a11, V.ref a12] ++ [V.ref a13, V.ref a14, V.ref a15])) = H25 := e25.symm
    rw [eq]
    clear eq e25
    refine ⟨_, rfl, _, rfl, rfl, rfl, by show 0 ≤ 1000; decide, fun a16 n16 => ⟨a16, _, rfl, upd_same, fun H26 k16 x16 => ⟨rfl, ?_⟩⟩⟩
    have S25 := Near.up n16 k16
    have hf := S25 _ _ hf
    refine ⟨_, rfl, rfl, rfl, by show 0 ≤ 1000; decide, fun a17 n17 => ⟨a17, _, rfl, upd_same, fun H27 k17 x17 => ⟨rfl, ?_⟩⟩⟩
    have S26 := Near.up n17 k17
    have hf := S26 _ _ hf
    refine ⟨_, rfl, rfl, rfl, by show 0 ≤ 1000; decide, fun a18 n18 => ⟨a18, _, rfl, upd_same, fun H28 k18 x18 => ⟨rfl, ?_⟩⟩⟩
    have S27 := Near.up n18 k18
    have hf := S27 _ _ hf
    refine ⟨by show 3 ≤ sizeLine; decide, fun l5 m5 => ?_⟩
    have S28 := Same.new (o := .lst [.ref a16, .ref a17, .ref a18]) m5
    obtain ⟨H29, e29⟩ : ∃ H', H' = upd H28 l5 (.lst [.ref a16, .ref a17, .ref a18]) := ⟨_, rfl⟩
    rw [← e29] at S28 ⊢
    have hn : H29 l5 = some (.lst [.ref a16, .ref a17, .ref a18]) := by
      rw [e29]
      exact upd_same
    clear e29
    have hf := S28 _ _ hf
    refine ⟨p4, l5, _, _, rfl, rfl, hf, hn, (by show 19 ≤ sizeLine; decide), fun p5 mp5 ms5 => ?_⟩
    have S29 := Same.new (o := .lst [.ref a0, .ref a1, .ref a2, .ref a3, .ref a4, .ref a5, .ref a6, .ref a7, .ref a8, .ref a9, .ref a10, .ref a11, .ref a12, .ref a13, .ref a14, .ref a15, .ref a16, .ref a17, .ref a18]) mp5
    obtain ⟨H30, e30⟩ : ∃ H', H' = upd H29 p5 (.lst [.ref a0, .ref a1, .ref a2, .ref a3, .ref a4, .ref a5, .ref a6, .ref a7, .ref a8, .ref a9, .ref a10, .ref a11, .ref a12, .ref a13, .ref a14, .ref a15, .ref a16, .ref a17, .ref a18]) := ⟨_, rfl⟩
    rw [← e30] at S29
    have hf : H30 p5 = some (.lst [.ref a0, .ref a1, .ref a2, .ref a3, .ref a4, .ref a5, .ref a6, .ref a7, .ref a8, .ref a9, .ref a10, .ref a11, .ref a12, .ref a13, .ref a14, .ref a15, .ref a16, .ref a17, .ref a18]) := by
      rw [e30]
      exact upd_same
    have eq : upd H29 p5 (.lst ([V.ref a0, V.ref a1, V.ref a2, V.ref a3, V.ref a4, V.ref a5, V.ref a6, V.ref a7, V.ref a8, V.ref a9, V.ref a10, V.ref a11, V.ref a12, V.ref a13, V.ref a14, V.ref a15] ++ [V.ref a16, V.ref a17, V.ref a18])) = H30 := e30.symm
    rw [eq]
    clear eq e30
    refine ⟨_, rfl, _, rfl, rfl, rfl, by show 0 ≤ 1000; decide, fun a19 n19 => ⟨a19, _, rfl, upd_same, fun H31 k19 x19 => ⟨rfl, ?_⟩⟩⟩
    have S30 := Near.up n19 k19
    have hf := S30 _ _ hf
    refine ⟨_, rfl, rfl, rfl, by show 0 ≤ 1000; decide, fun a20 n20 => ⟨a20, _, rfl, upd_same, fun H32 k20 x20 => ⟨rfl, ?_⟩⟩⟩
    have S31 := Near.up n20 k20
    have hf := S31 _ _ hf
    refine ⟨_, rfl, rfl, rfl, by show 0 ≤ 1000; decide, fun a21 n21 => ⟨a21, _, rfl, upd_same, fun H33 k21 x21 => ⟨rfl, ?_⟩⟩⟩
    have S32 := Near.up n21 k21
    have hf := S32 _ _ hf
    refine ⟨rfl, rfl, by show 0 ≤ 1000; decide, fun a22 n22 => ⟨a22, rfl, upd_same, rfl, ?_⟩⟩
    have S33 : Same H33 (upd H33 a22 (exo a22 (C 22) none)) := Same.new n22
    have x22 : (upd H33 a22 (exo a22 (C 22) none)) a22 = some (exo a22 (C 22) none) := upd_same
    generalize upd H33 a22 (exo a22 (C 22) none) = H34 at S33 x22 ⊢
    have hf := S33 _ _ hf
    refine ⟨by show 4 ≤ sizeLine; decide, fun l6 m6 => ?_⟩
    have S34 := Same.new (o := .lst [.ref a19, .ref a20, .ref a21, .ref a22]) m6
    obtain ⟨H35, e35⟩ : ∃ H', H' = upd H34 l6 (.lst [.ref a19, .ref a20, .ref a21, .ref a22]) := ⟨_, rfl⟩
    rw [← e35] at S34 ⊢
    have hn : H35 l6 = some (.lst [.ref a19, .ref a20, .ref a21, .ref a22]) := by
      rw [e35]
      exact upd_same
    clear e35
    have hf := S34 _ _ hf
    refine ⟨p5, l6, _, _, rfl, rfl, hf, hn, (by show 23 ≤ sizeLine; decide), fun p6 mp6 ms6 => ?_⟩
    have S35 := Same.new (o := .lst [.ref a0, .ref a1, .ref a2, .ref a3, .ref a4, .ref a5, .ref a6, .ref a7, .ref a8, .ref a9, .ref a10, .ref a11, .ref a12, .ref a13, .ref a14, .ref a15, .ref a16, .ref a17, .ref a18, .ref a19, .ref a20, .ref a21, .ref a22]) mp6
    obtain ⟨H36, e36⟩ : ∃ H', H' = upd H35 p6 (.lst [.ref a0, .ref a1, .ref a2, .ref a3, .ref a4, .ref a5, .ref a6, .ref a7, .ref a8, .ref a9, .ref a10, .ref a11, .ref a12, .ref a13, .ref a14, .ref a15, .ref a16, .ref a17, .ref a18, .ref a19, .ref a20, .ref a21, .ref a22]) := ⟨_, rfl⟩
    rw [← e36] at S35
    have hf : H36 p6 = some (.lst [.ref a0, .ref a1, .ref a2, .ref a3, .ref a4, .ref a5, .ref a6, .ref a7, .ref a8, .ref a9, .ref a10, .ref a11, .ref a12, .ref a13, .ref a14, .ref a15, .ref a16, .ref a17, .ref a18, .ref a19, .ref a20, .ref a21, .ref a22]) := by
      rw [e36]
      exact upd_same
    have eq : upd H35 p6 (.lst ([V.ref a0, V.ref a1, V.ref a2, V.ref a3, V.ref a4, V.ref a5, V.ref a6, V.ref a7, V.ref a8, V.ref a9, V.ref a10, V.ref a11, V.ref a12, V.ref a13, V.ref a14, V.ref a15, V.ref a16, V.ref a17, V.ref a18] ++ [V.ref a19, V.ref a20, V.ref a21, V.ref a22])) = H36 := e36.symm
    rw [eq]
    clear eq e36
    refine ⟨_, rfl, _, rfl, rfl, rfl, by show 0 ≤ 1000; decide, fun a23 n23 => ⟨a23, _, rfl, upd_same, fun H37 k23 x23 => ⟨rfl, ?_⟩⟩⟩
    have S36 := Near.up n23 k23
    have hf := S36 _ _ hf
    refine ⟨_, rfl, rfl, rfl, by show 0 ≤ 1000; decide, fun a24 n24 => ⟨a24, _, _, rfl, upd_same, fun H38 k24 x24 => ⟨rfl, ?_⟩⟩⟩
    have S37 := Near.up n24 k24
    have hf := S37 _ _ hf
    refine ⟨_, rfl, rfl, rfl, by show 0 ≤ 1000; decide, fun a25 n25 => ⟨a25, _, rfl, upd_same, fun H39 k25 x25 => ⟨rfl, ?_⟩⟩⟩
    have S38 := Near.up n25 k25
    have hf := S38 _ _ hf
    refine ⟨by show 3 ≤ sizeLine; decide, fun l7 m7 => ?_⟩
    have S39 := Same.new (o := .lst [.ref a23, .ref a24, .ref a25]) m7
    obtain ⟨H40, e40⟩ : ∃ H', H' = upd H39 l7 (.lst [.ref a23, .ref a24, .ref a25]) := ⟨_, rfl⟩
    rw [← e40] at S39 ⊢
    have hn : H40 l7 = some (.lst [.ref a23, .ref a24, .ref a25]) := by
      rw [e40]
      exact upd_same
    clear e40
    have hf := S39 _ _ hf
    refine ⟨p6, l7, _, _, rfl, rfl, hf, hn, (by show 26 ≤ sizeLine; decide), fun p7 mp7 ms7 => ?_⟩
    have S40 := Same.new (o := .lst [.ref a0, .ref a1, .ref a2, .ref a3, .ref a4, .ref a5, .ref a6, .ref a7, .ref a8, .ref a9, .ref a10, .ref a11, .ref a12, .ref a13, .ref a14, .ref a15, .ref a16, .ref a17, .ref a18, .ref a19, .ref a20, .ref a21, .ref a22, .ref a23, .ref a24, .ref a25]) mp7
    obtain ⟨H41, e41⟩ : ∃ H', H' = upd H40 p7 (.lst [.ref a0, .ref a1, .ref a2, .ref a3, .ref a4, .ref a5, .ref a6, .ref a7, .ref a8, .ref a9, .ref a10, .ref a11, .ref a12, .ref a13, .ref a14, .ref a15, .ref a16, .ref a17, .ref a18, .ref a19, .ref a20, .ref a21, .ref a22, .ref a23, .ref a24, .ref a25]) := ⟨_, rfl⟩
    rw [← e41] at S40
    have hf : H41 p7 = some (.lst [.ref a0, .ref a1, .ref a2, .ref a3, .ref a4, .ref a5, .ref a6, .ref a7, .ref a8, .ref a9, .ref a10, .ref a11, .ref a12, .ref a13, .ref a14, .ref a15, .ref a16, .ref a17, .ref a18, .ref a19, .ref a20, .ref a21, .ref a22, .ref a23, .ref a24, .ref a25]) := by
      rw [e41]
      exact upd_same
    have eq : upd H40 p7 (.lst ([V.ref a0, V.ref a1, V.ref a2, V.ref a3, V.ref a4, V.ref a5, V.ref a6, V.ref a7, V.ref a8, V.ref a9, V.ref a10, V.ref a11, V.ref a12, V.ref a13, V.ref a14, V.ref a15, V.ref a16, V.ref a17, V.ref a18, V.ref a19, V.ref a20, V.ref a21, V.ref a22] ++ [V.ref a23, V.ref a24, V.ref a25])) = H41 := e41.symm
    rw [eq]
    clear eq e41
    refine ⟨_, rfl, _, rfl, rfl, rfl, by show 0 ≤ 1000; decide, fun a26 n26 => ⟨a26, _, _, rfl, upd_same, fun H42 k26 x26 => ⟨rfl, ?_⟩⟩⟩
    have S41 := Near.up n26 k26
    have hf := S41 _ _ hf
    refine ⟨rfl, rfl, by show 0 ≤ 1000; decide, fun a27 n27 => ⟨a27, rfl, upd_same, rfl, ?_⟩⟩
    have S42 : Same H42 (upd H42 a27 (exo a27 (C 27) none)) := Same.new n27
    have x27 : (upd H42 a27 (exo a27 (C 27) none)) a27 = some (exo a27 (C 27) none) := upd_same
    generalize upd H42 a27 (exo a27 (C 27) none) = H43 at S42 x27 ⊢
    have hf := S42 _ _ hf
    refine ⟨rfl, rfl, by show 0 ≤ 1000; decide, fun a28 n28 => ⟨a28, rfl, upd_same, rfl, ?_⟩⟩
    have S43 : Same H43 (upd H43 a28 (exo a28 (C 28) none)) := Same.new n28
    have x28 : (upd H43 a28 (exo a28 (C 28) none)) a28 = some (exo a28 (C 28) none) := upd_same
    generalize upd H43 a28 (exo a28 (C 28) none) = H44 at S43 x28 ⊢
    have hf := S43 _ _ hf
    refine ⟨rfl, rfl, by show 0 ≤ 1000; decide, fun a29 n29 => ⟨a29, rfl, upd_same, rfl, ?_⟩⟩
    have S44 : Same H44 (upd H44 a29 (exo a29 (C 29) none)) := Same.new n29
    have x29 : (upd H44 a29 (exo a29 (C 29) none)) a29 = some (exo a29 (C 29) none) := upd_same
    generalize upd H44 a29 (exo a29 (C 29) none) = H45 at S44 x29 ⊢
    have hf := S44 _ _ hf
    refine ⟨by show 4 ≤ sizeLine; decide, fun l8 m8 => ?_⟩
    have S45 := Same.new (o := .lst [.ref a26, .ref a27, .ref a28, .ref a29]) m8
    obtain ⟨H46, e46⟩ : ∃ H', H' = upd H45 l8 (.lst [.ref a26, .ref a27, .ref a28, .ref a29]) := ⟨_, rfl⟩
    rw [← e46] at S45 ⊢
    have hn : H46 l8 = some (.lst [.ref a26, .ref a27, .ref a28, .ref a29]) := by
      rw [e46]
      exact upd_same
    clear e46
    have hf := S45 _ _ hf
    refine ⟨p7, l8, _, _, rfl, rfl, hf, hn, (by show 30 ≤ sizeLine; decide), fun p8 mp8 ms8 => ?_⟩
    have S46 := Same.new (o := .lst [.ref a0, .ref a1, .ref a2, .ref a3, .ref a4, .ref a5, .ref a6, .ref a7, .ref a8, .ref a9, .ref a10, .ref a11, .ref a12, .ref a13, .ref a14, .ref a15, .ref a16, .ref a17, .ref a18, .ref a19, .ref a20, .ref a21, .ref a22, .ref a23, .ref a24, .ref a25, .ref a26, .ref a27, .ref a28, .ref a29]) mp8
    obtain ⟨H47, e47⟩ : ∃ H', H' = upd H46 p8 (.lst [.ref a0, .ref a1, .ref a2, .ref a3, .ref a4, .ref a5, .ref a6, .ref a7, .ref a8, .ref a9, .ref a10, .ref a11, .ref a12, .ref a13, .ref a14, .ref a15, .ref a16, .ref a17, .ref a18, .ref a19, .ref a20, .ref a21, .ref a22, .ref a23, .ref a24, .ref a25, .ref a26, .ref a27, .ref a28, .ref a29]) := ⟨_, rfl⟩
    rw [← e47] at S46
    have hf : H47 p8 = some (.lst [.ref a0, .ref a1, .ref a2, .ref a3, .ref a4, .ref a5, .ref a6, .ref a7, .ref a8, .ref a9, .ref a10, .ref a11, .ref a12, .ref a13, .ref a14, .ref a15, .ref a16, .ref a17, .ref a18, .ref a19, .ref a20, .ref a21, .ref a22, .ref a23, .ref a24, .ref a25, .ref a26, .ref a27, .ref a28, .ref a29]) := by
      rw [e47]
      exact upd_same
    have eq : upd H46 p8 (.lst ([V.ref a0, V.ref a1, V.ref a2, V.ref a3, V.ref a4, V.ref a5, V.ref a6, V.ref a7, V.ref a8, V.ref a9, V.ref a10, V.ref a11, V.ref a12, V.ref a13, V.ref a14, V.ref a15, V.ref a16, V.ref a17, V.ref a18, V.ref a19, V.ref a20, V.ref a21, V.ref a22, V.ref a23, V.ref a24, V.ref a25] ++ [V.ref a26, V.ref a27, V.ref a28, V.ref a29])) = H47 := e47.symm
    rw [eq]
    clear eq e47
    refine ⟨_, rfl, _, rfl, rfl, rfl, by show 0 ≤ 1000; decide, fun a30 n30 => ⟨a30, _, rfl, upd_same, fun H48 k30 x30 => ⟨rfl, ?_⟩⟩⟩
    have S47 := Near.up n30 k30
    have hf := S47 _ _ hf
    refine ⟨by show 1 ≤ sizeLine; decide, fun l9 m9 => ?_⟩
    have S48 := Same.new (o := .lst [.ref a30]) m9
    obtain ⟨H49, e49⟩ : ∃ H', H' = upd H48 l9 (.lst [.ref a30]) := ⟨_, rfl⟩
    rw [← e49] at S48 ⊢
    have hn : H49 l9 = some (.lst [.ref a30]) := by
      rw [e49]
      exact upd_same
    clear e49
    have hf := S48 _ _ hf
    refine ⟨p8, l9, _, _, rfl, rfl, hf, hn, (by show 31 ≤ sizeLine; decide), fun p9 mp9 ms9 => ?_⟩
    have T49 := Same.new (o := .lst ([a0, a1, a2, a3, a4, a5, a6, a7, a8, a9, a10, a11, a12, a13, a14, a15, a16, a17, a18, a19, a20, a21, a22, a23, a24, a25, a26, a27, a28, a29, a30].map V.ref)) mp9
    have T48 := S48.trans T49
    have T47 := S47.trans T48
    have T46 := S46.trans T47
    have T45 := S45.trans T46
    have T44 := S44.trans T45
    have T43 := S43.trans T44
    have T42 := S42.trans T43
    have T41 := S41.trans T42
    have T40 := S40.trans T41
    have T39 := S39.trans T40
    have T38 := S38.trans T39
    have T37 := S37.trans T38
    have T36 := S36.trans T37
    have T35 := S35.trans T36
    have T34 := S34.trans T35
    have T33 := S33.trans T34
    have T32 := S32.trans T33
    have T31 := S31.trans T32
    have T30 := S30.trans T31
    have T29 := S29.trans T30
    have T28 := S28.trans T29
    have T27 := S27.trans T28
    have T26 := S26.trans T27
    have T25 := S25.trans T26
    have T24 := S24.trans T25
    have T23 := S23.trans T24
    have T22 := S22.trans T23
    have T21 := S21.trans T22
    have T20 := S20.trans T21
    have T19 := S19.trans T20
    have T18 := S18.trans T19
    have T17 := S17.trans T18
    have T16 := S16.trans T17
    have T15 := S15.trans T16
    have T14 := S14.trans T15
    have T13 := S13.trans T14
    have T12 := S12.trans T13
    have T11 := S11.trans T12
    have T10 := S10.trans T11
    have T9 := S9.trans T10
    have T8 := S8.trans T9
    have T7 := S7.trans T8
    have T6 := S6.trans T7
    have T5 := S5.trans T6
    have T4 := S4.trans T5
    have T3 := S3.trans T4
    have T2 := S2.trans T3
    have T1 := S1.trans T2
    have T0 := S0.trans T1
    refine q p9 _ T0 ⟨[a0, a1, a2, a3, a4, a5, a6, a7, a8, a9, a10, a11, a12, a13, a14, a15, a16, a17, a18, a19, a20, a21, a22, a23, a24, a25, a26, a27, a28, a29, a30], rfl, upd_same, AllAt.get (k := 0) ⟨Ex.same x0 T1, Ex.same x1 T2, Ex.same x2 T3, Ex.same x3 T4, Ex.same x4 T6, Ex.same x5 T7, Ex.same x6 T8, Ex.same x7 T11, Ex.same x8 T12, Ex.same x9 T13, Ex.same x10 T16, Ex.same x11 T17, Ex.same x12 T18, Ex.same x13 T21, Ex.same x14 T22, Ex.same x15 T23, Ex.same x16 T26, Ex.same x17 T27, Ex.same x18 T28, Ex.same x19 T31, Ex.same x20 T32, Ex.same x21 T33, T34 _ _ x22, Ex.same x23 T37, Ex.same x24 T38, Ex.same x25 T39, Ex.same x26 T42, T43 _ _ x27, T44 _ _ x28, T45 _ _ x29, Ex.same x30 T48, trivial⟩⟩
end
section
variable {P : Program} {w : World} {K : PySem.W.Frag} {mg : Str → Option Value} {base : Heap}
/-- what the written part says of the classes at C 0 .. C 30, for reading their instances -/
structure Looks30 (K : PySem.W.Frag) (C : Nat → Addr) : Prop where
  look : ∀ i, i < 31 → XLook K (C i)
  no : ∀ i, i < 31 → ∀ f ∈ fieldsL.getD i [], PySem.W.findIn K (.ref (C i)) f = some none
theorem xat1 {C : Nat → Addr} {H : Hp} {held : V} {i : Nat} {a : Addr} {f : Str} (e : fieldsL.getD i [] = [f]) (x : XAt C H held i a) : ∃ d, H a = some (exo a (C i) (some d)) ∧ H d = some (exd d [(f, held)]) := by
  unfold XAt at x
  rw [e] at x
  exact x
theorem xat2 {C : Nat → Addr} {H : Hp} {held : V} {i : Nat} {a : Addr} {f g : Str} (e : fieldsL.getD i [] = [f, g]) (x : XAt C H held i a) : ∃ d, H a = some (exo a (C i) (some d)) ∧ H d = some (exd d [(g, .str "second"), (f, held)]) := by
  unfold XAt at x
  rw [e] at x
  exact x
theorem look1 {f : Str} {v : V} : List.lookup f [(f, v)] = some v := by simp [List.lookup]
theorem look2 {f g : Str} {u v : V} (h : f ≠ g) : List.lookup f [(g, u), (f, v)] = some v := by
  have : (f == g) = false := by simp [h]
  simp [List.lookup, this]
theorem look3 {f g : Str} {u v : V} : List.lookup g [(g, u), (f, v)] = some u := by simp [List.lookup]
theorem rep_snoc {v : V} {j : Nat} : List.replicate j v ++ [v] = List.replicate (j + 1) v := by rw [List.replicate_succ']
theorem vals0 : ∀ j, j < 4 → fieldsL.getD (0 + j) [] = [("value" : Str)] := by decide +kernel
theorem vals7 : ∀ j, j < 5 → fieldsL.getD (7 + j) [] = [("value" : Str)] := by decide +kernel
theorem vals13 : ∀ j, j < 5 → fieldsL.getD (13 + j) [] = [("value" : Str)] := by decide +kernel
theorem cut_at {as : List Addr} {o n : Nat} {lo hi : Option Int} (e : cutV (as.map V.ref) lo hi = ((as.map V.ref).drop o).take n) {j : Nat} {x : V} (h : (cutV (as.map V.ref) lo hi)[j]? = some x) : j < n ∧ ∃ a, as[o + j]? = some a ∧ x = .ref a := by
  rw [e, List.getElem?_take] at h
  by_cases hj : j < n
  · rw [if_pos hj, List.getElem?_drop, List.getElem?_map] at h
    cases q : as[o + j]? with
    | none =>
      rw [q] at h
      cases h
    | some a =>
      rw [q] at h
      exact ⟨hj, a, rfl, (Option.some.inj h).symm⟩
  · rw [if_neg hj] at h
    cases h
def spFields (C : Nat → Addr) : Sp := fun vs H Q _ => ∃ (l : Addr) (held : V), vs = [.ref l] ∧ MadeAt C H l held ∧ ∀ p H', Same H H' → p ≠ sysModules → H' p = some (.lst (List.replicate 27 held)) → Q (.ref p) H'
abbrev s__law_fields : Stmt := top 38
theorem sc__law_fields : FnScope ["_law_made_here", "_law_found", "_law_thing"] ["_law_made_here"] (defScope s__law_fields) := ⟨rfl, rfl, rfl, by decide +kernel, rfl, by decide +kernel, by decide +kernel⟩
theorem ok__law_fields {C : Nat → Addr} (h : Has K mg "_law_fields" s__law_fields ["_law_made_here"]) (L : Looks30 K C) : Ok P w K mg base 1 "_law_fields" ["_law_made_here"] (spFields C) := by
  obtain ⟨f, fd, g, b, F⟩ := h
  refine ⟨f, fd, g, F.kp, b, F.ok sc__law_fields (fun vs H Q E h => ?_) (fun cdv A outer s H0 vs Q E hr h => ?_)⟩
  · obtain ⟨l, held, rfl, _⟩ := h
    rfl
  · obtain ⟨l, held, rfl, ⟨as, many, at_l, xs⟩, q⟩ := h
    refine ⟨_, (pss_cons (ps_set (i := 1) sc__law_fields.nd rfl (Or.inl rfl) (pe_op op_catS (pe_lc (own := [("_law_thing", 2)]) (g := gName 2) (tt := tYes) (te := tXfd K "value" (tVar 2)) rfl sc__law_fields.nd (pi_list (pe_slice sl_list (pv 0) po_none (po_some pe_int))) (blkOk_by (N := ["_law_made_here", "_law_found", "_law_thing"]) (sc := defScope s__law_fields) (by decide +kernel)) (fun _ _ _ _ _ => pg_name (i := 2) sc__law_fields.nd rfl (Or.inl rfl)) (fun _ _ _ _ _ => pts_nil) (fun _ _ _ _ _ => pe_xfd (pv 2))) (pe_lst (pa_cons (pe_xfd (pe_ix ix_list (pv 0) pe_int (fun _ _ => rfl))) (pa_cons (pe_xfd (pe_ix ix_list (pv 0) pe_int (fun _ _ => rfl))) (pa_cons (pe_xfd (pe_ix ix_list (pv 0) pe_int (fun _ _ => rfl))) pa_nil))))))
      (pss_cons (ps_set (i := 1) sc__law_fields.nd rfl (Or.inl rfl) (pe_op op_catS (pe_op op_catS (pv 1) (pe_lc (own := [("_law_thing", 2)]) (g := gName 2) (tt := tYes) (te := tXfd K "value" (tVar 2)) rfl sc__law_fields.nd (pi_list (pe_slice sl_list (pv 0) (po_some pe_int) (po_some pe_int))) (blkOk_by (N := ["_law_made_here", "_law_found", "_law_thing"]) (sc := defScope s__law_fields) (by decide +kernel)) (fun _ _ _ _ _ => pg_name (i := 2) sc__law_fields.nd rfl (Or.inl rfl)) (fun _ _ _ _ _ => pts_nil) (fun _ _ _ _ _ => pe_xfd (pv 2)))) (pe_lst (pa_cons (pe_xfd (pe_ix ix_list (pv 0) pe_int (fun _ _ => rfl))) pa_nil))))
      (pss_cons (ps_set (i := 1) sc__law_fields.nd rfl (Or.inl rfl) (pe_op op_catS (pe_op op_catS (pv 1) (pe_lc (own := [("_law_thing", 2)]) (g := gName 2) (tt := tYes) (te := tXfd K "value" (tVar 2)) rfl sc__law_fields.nd (pi_list (pe_slice sl_list (pv 0) (po_some pe_int) (po_some pe_int))) (blkOk_by (N := ["_law_made_here", "_law_found", "_law_thing"]) (sc := defScope s__law_fields) (by decide +kernel)) (fun _ _ _ _ _ => pg_name (i := 2) sc__law_fields.nd rfl (Or.inl rfl)) (fun _ _ _ _ _ => pts_nil) (fun _ _ _ _ _ => pe_xfd (pv 2)))) (pe_lst (pa_cons (pe_xfd (pe_ix ix_list (pv 0) pe_int (fun _ _ => rfl))) (pa_cons (pe_xfd (pe_ix ix_list (pv 0) pe_int (fun _ _ => rfl))) (pa_cons (pe_xfd (pe_ix ix_list (pv 0) pe_int (fun _ _ => rfl))) pa_nil))))))
      (pss_cons (ps_set (i := 1) sc__law_fields.nd rfl (Or.inl rfl) (pe_op op_catS (pv 1) (pe_lst (pa_cons (pe_xfd (pe_ix ix_list (pv 0) pe_int (fun _ _ => rfl))) (pa_cons (pe_xfd (pe_ix ix_list (pv 0) pe_int (fun _ _ => rfl))) (pa_cons (pe_xfd (pe_ix ix_list (pv 0) pe_int (fun _ _ => rfl))) (pa_cons (pe_xfd (pe_ix ix_list (pv 0) pe_int (fun _ _ => rfl))) (pa_cons (pe_xfd (pe_ix ix_list (pv 0) pe_int (fun _ _ => rfl))) pa_nil))))))))
      (pss_one (ps_ret (pe_op op_catS (pv 1) (pe_lst (pa_cons (pe_xfd (pe_ix ix_list (pv 0) pe_int (fun _ _ => rfl))) pa_nil))))))))), ?_⟩
    obtain ⟨a0, e0⟩ : ∃ a, as[0]? = some a := ⟨_, List.getElem?_eq_getElem (by omega)⟩
    obtain ⟨a1, e1⟩ : ∃ a, as[1]? = some a := ⟨_, List.getElem?_eq_getElem (by omega)⟩
    obtain ⟨a2, e2⟩ : ∃ a, as[2]? = some a := ⟨_, List.getElem?_eq_getElem (by omega)⟩
    obtain ⟨a3, e3⟩ : ∃ a, as[3]? = some a := ⟨_, List.getElem?_eq_getElem (by omega)⟩
    obtain ⟨a4, e4⟩ : ∃ a, as[4]? = some a := ⟨_, List.getElem?_eq_getElem (by omega)⟩
    obtain ⟨a5, e5⟩ : ∃ a, as[5]? = some a := ⟨_, List.getElem?_eq_getElem (by omega)⟩
    obtain ⟨a6, e6⟩ : ∃ a, as[6]? = some a := ⟨_, List.getElem?_eq_getElem (by omega)⟩
    obtain ⟨a7, e7⟩ : ∃ a, as[7]? = some a := ⟨_, List.getElem?_eq_getElem (by omega)⟩
    obtain ⟨a8, e8⟩ : ∃ a, as[8]? = some a := ⟨_, List.getElem?_eq_getElem (by omega)⟩
    obtain ⟨a9, e9⟩ : ∃ a, as[9]? = some a := ⟨_, List.getElem?_eq_getElem (by omega)⟩
    obtain ⟨a10, e10⟩ : ∃ a, as[10]? = some a := ⟨_, List.getElem?_eq_getElem (by omega)⟩
    obtain ⟨a11, e11⟩ : ∃ a, as[11]? = some a := ⟨_, List.getElem?_eq_getElem (by omega)⟩
    obtain ⟨a12, e12⟩ : ∃ a, as[12]? = some a := ⟨_, List.getElem?_eq_getElem (by omega)⟩
    obtain ⟨a13, e13⟩ : ∃ a, as[13]? = some a := ⟨_, List.getElem?_eq_getElem (by omega)⟩
    obtain ⟨a14, e14⟩ : ∃ a, as[14]? = some a := ⟨_, List.getElem?_eq_getElem (by omega)⟩
    obtain ⟨a15, e15⟩ : ∃ a, as[15]? = some a := ⟨_, List.getElem?_eq_getElem (by omega)⟩
    obtain ⟨a16, e16⟩ : ∃ a, as[16]? = some a := ⟨_, List.getElem?_eq_getElem (by omega)⟩
    obtain ⟨a17, e17⟩ : ∃ a, as[17]? = some a := ⟨_, List.getElem?_eq_getElem (by omega)⟩
    obtain ⟨a18, e18⟩ : ∃ a, as[18]? = some a := ⟨_, List.getElem?_eq_getElem (by omega)⟩
    obtain ⟨a19, e19⟩ : ∃ a, as[19]? = some a := ⟨_, List.getElem?_eq_getElem (by omega)⟩
    obtain ⟨a20, e20⟩ : ∃ a, as[20]? = some a := ⟨_, List.getElem?_eq_getElem (by omega)⟩
    obtain ⟨a21, e21⟩ : ∃ a, as[21]? = some a := ⟨_, List.getElem?_eq_getElem (by omega)⟩
    obtain ⟨a22, e22⟩ : ∃ a, as[22]? = some a := ⟨_, List.getElem?_eq_getElem (by omega)⟩
    obtain ⟨a23, e23⟩ : ∃ a, as[23]? = some a := ⟨_, List.getElem?_eq_getElem (by omega)⟩
    obtain ⟨a24, e24⟩ : ∃ a, as[24]? = some a := ⟨_, List.getElem?_eq_getElem (by omega)⟩
    obtain ⟨a25, e25⟩ : ∃ a, as[25]? = some a := ⟨_, List.getElem?_eq_getElem (by omega)⟩
    obtain ⟨a26, e26⟩ : ∃ a, as[26]? = some a := ⟨_, List.getElem?_eq_getElem (by omega)⟩
    obtain ⟨a27, e27⟩ : ∃ a, as[27]? = some a := ⟨_, List.getElem?_eq_getElem (by omega)⟩
    obtain ⟨a28, e28⟩ : ∃ a, as[28]? = some a := ⟨_, List.getElem?_eq_getElem (by omega)⟩
    obtain ⟨a29, e29⟩ : ∃ a, as[29]? = some a := ⟨_, List.getElem?_eq_getElem (by omega)⟩
    obtain ⟨a30, e30⟩ : ∃ a, as[30]? = some a := ⟨_, List.getElem?_eq_getElem (by omega)⟩
    have Z0 : Same H0 H0 := Same.refl H0
    refine ⟨_, rfl, ?_⟩
    refine ⟨_, rfl, l, _, rfl, SqL.of (Z0 _ _ at_l), fun s1 v1 => ?_⟩
    have ec1 : cutV (as.map V.ref) none (some 4) = ((as.map V.ref).drop 0).take 4 := by
      unfold cutV
      rw [List.length_map, many]
      rfl
    have S0 : Same H0 (upd H0 s1 (.lst (cutV (as.map V.ref) none (some 4)))) := Same.new v1
    have hn : (upd H0 s1 (.lst (cutV (as.map V.ref) none (some 4)))) s1 = some (.lst (cutV (as.map V.ref) none (some 4))) := upd_same
    generalize upd H0 s1 (.lst (cutV (as.map V.ref) none (some 4))) = H1 at S0 hn ⊢
    have Z1 := Z0.trans S0
    have hs1 := hn
    refine ⟨s1, rfl, ⟨_, SqL.of hs1⟩, fun D1 u1 => ?_⟩
    refine lc_list (K := K) (a := s1) (xs := cutV (as.map V.ref) none (some 4)) (fun j H' => Same H1 H' ∧ H' D1 = some (.lst (List.replicate j held))) ⟨Same.new u1, upd_same⟩ (fun _ _ _ z => SqL.of (z.1 _ _ hs1)) ?_ ?_
    · rintro j x H' hx ⟨sj, hj⟩
      obtain ⟨jn, a, ea, rfl⟩ := cut_at ec1 hx
      obtain ⟨d, y, z⟩ := xat1 (f := "value") (by rw [Nat.zero_add]; exact vals0 j jn) ((xs _ a ea).same (Z1.trans sj))
      rw [Nat.zero_add] at y
      refine ⟨rfl, ?_⟩
      unfold tYes
      dsimp only
      rw [if_pos rfl]
      refine ⟨_, rfl, a, C (0 + j), d, _, held, rfl, L.look _ (by omega), L.no _ (by omega) _ (by rw [vals0 j jn]; exact List.mem_cons_self), y, z, look1, ?_⟩
      refine ⟨_, hj, by rw [List.length_replicate]; exact Nat.lt_of_lt_of_le jn (by decide), ?_, ?_⟩
      · exact fun b o e => by
          rw [upd_ne (ne_of_none e u1)]
          exact sj b o e
      · rw [rep_snoc]
        exact upd_same
    intro H2 ⟨S1, hn⟩
    have Z2 := Z1.trans S1
    have lenc : (cutV (as.map V.ref) none (some 4)).length = 4 := by
      rw [ec1, List.length_take, List.length_drop, List.length_map, many]
      rfl
    rw [lenc] at hn
    have f2 := hn
    obtain ⟨d4, y4, z4⟩ := xat1 (f := "number") (by decide +kernel) ((xs 4 a4 e4).same Z2)
    rw [Nat.zero_add] at y4
    refine ⟨_, rfl, l, _, _, .ref a4, rfl, rfl, SqL.of (Z2 _ _ at_l), atI_nat (j := 4) (by rw [List.getElem?_map, e4]; rfl), a4, C 4, d4, _, held, rfl, L.look 4 (by decide), L.no 4 (by decide) _ (by decide +kernel), y4, z4, look1, ?_⟩
    obtain ⟨d5, y5, z5⟩ := xat1 (f := "number") (by decide +kernel) ((xs 5 a5 e5).same Z2)
    rw [Nat.zero_add] at y5
    refine ⟨_, rfl, l, _, _, .ref a5, rfl, rfl, SqL.of (Z2 _ _ at_l), atI_nat (j := 5) (by rw [List.getElem?_map, e5]; rfl), a5, C 5, d5, _, held, rfl, L.look 5 (by decide), L.no 5 (by decide) _ (by decide +kernel), y5, z5, look1, ?_⟩
    obtain ⟨d6, y6, z6⟩ := xat2 (f := "mode") (g := "number") (by decide +kernel) ((xs 6 a6 e6).same Z2)
    rw [Nat.zero_add] at y6
    refine ⟨_, rfl, l, _, _, .ref a6, rfl, rfl, SqL.of (Z2 _ _ at_l), atI_nat (j := 6) (by rw [List.getElem?_map, e6]; rfl), a6, C 6, d6, _, held, rfl, L.look 6 (by decide), L.no 6 (by decide) _ (by decide +kernel), y6, z6, (look2 (by decide +kernel)), ?_⟩
    refine ⟨by show 3 ≤ sizeLine; decide, fun n3 m3 => ?_⟩
    have S2 : Same H2 (upd H2 n3 (.lst [held, held, held])) := Same.new m3
    have hn : (upd H2 n3 (.lst [held, held, held])) n3 = some (.lst [held, held, held]) := upd_same
    generalize upd H2 n3 (.lst [held, held, held]) = H3 at S2 hn ⊢
    have Z3 := Z2.trans S2
    have f4 := hn
    refine ⟨D1, n3, _, _, rfl, rfl, (S2 _ _ f2), f4, (by simp only [List.length_replicate, List.length_cons, List.length_nil]; decide), fun p5 g5 j5 => ?_⟩
    have ea5 : (List.replicate 4 held ++ [held, held, held] : List V) = List.replicate 7 held := rfl
    have S3 : Same H3 (upd H3 p5 (.lst (List.replicate 4 held ++ [held, held, held]))) := Same.new g5
    have hn : (upd H3 p5 (.lst (List.replicate 4 held ++ [held, held, held]))) p5 = some (.lst (List.replicate 7 held)) := by
      rw [upd_same]
      rfl
    generalize upd H3 p5 (.lst (List.replicate 4 held ++ [held, held, held])) = H4 at S3 hn ⊢
    have Z4 := Z3.trans S3
    have f6 := hn
    refine ⟨_, rfl, ?_⟩
    refine ⟨_, rfl, ?_⟩
    refine ⟨_, rfl, _, rfl, l, _, rfl, SqL.of (Z4 _ _ at_l), fun s7 v7 => ?_⟩
    have ec7 : cutV (as.map V.ref) (some 7) (some 12) = ((as.map V.ref).drop 7).take 5 := by
      unfold cutV
      rw [List.length_map, many]
      rfl
    have S4 : Same H4 (upd H4 s7 (.lst (cutV (as.map V.ref) (some 7) (some 12)))) := Same.new v7
    have hn : (upd H4 s7 (.lst (cutV (as.map V.ref) (some 7) (some 12)))) s7 = some (.lst (cutV (as.map V.ref) (some 7) (some 12))) := upd_same
    generalize upd H4 s7 (.lst (cutV (as.map V.ref) (some 7) (some 12))) = H5 at S4 hn ⊢
    have Z5 := Z4.trans S4
    have hs7 := hn
    refine ⟨s7, rfl, ⟨_, SqL.of hs7⟩, fun D7 u7 => ?_⟩
    refine lc_list (K := K) (a := s7) (xs := cutV (as.map V.ref) (some 7) (some 12)) (fun j H' => Same H5 H' ∧ H' D7 = some (.lst (List.replicate j held))) ⟨Same.new u7, upd_same⟩ (fun _ _ _ z => SqL.of (z.1 _ _ hs7)) ?_ ?_
    · rintro j x H' hx ⟨sj, hj⟩
      obtain ⟨jn, a, ea, rfl⟩ := cut_at ec7 hx
      obtain ⟨d, y, z⟩ := xat1 (f := "value") (by rw [Nat.zero_add]; exact vals7 j jn) ((xs _ a ea).same (Z5.trans sj))
      rw [Nat.zero_add] at y
      refine ⟨rfl, ?_⟩
      unfold tYes
      dsimp only
      rw [if_pos rfl]
      refine ⟨_, rfl, a, C (7 + j), d, _, held, rfl, L.look _ (by omega), L.no _ (by omega) _ (by rw [vals7 j jn]; exact List.mem_cons_self), y, z, look1, ?_⟩
      refine ⟨_, hj, by rw [List.length_replicate]; exact Nat.lt_of_lt_of_le jn (by decide), ?_, ?_⟩
      · exact fun b o e => by
          rw [upd_ne (ne_of_none e u7)]
          exact sj b o e
      · rw [rep_snoc]
        exact upd_same
    intro H6 ⟨S5, hn⟩
    have Z6 := Z5.trans S5
    have lenc : (cutV (as.map V.ref) (some 7) (some 12)).length = 5 := by
      rw [ec7, List.length_take, List.length_drop, List.length_map, many]
      rfl
    rw [lenc] at hn
    have f8 := hn
    refine ⟨p5, D7, _, _, rfl, rfl, (S5 _ _ (S4 _ _ f6)), f8, (by simp only [List.length_replicate, List.length_cons, List.length_nil]; decide), fun p9 g9 j9 => ?_⟩
    have ea9 : (List.replicate 7 held ++ List.replicate 5 held : List V) = List.replicate 12 held := rfl
    have S6 : Same H6 (upd H6 p9 (.lst (List.replicate 7 held ++ List.replicate 5 held))) := Same.new g9
    have hn : (upd H6 p9 (.lst (List.replicate 7 held ++ List.replicate 5 held))) p9 = some (.lst (List.replicate 12 held)) := by
      rw [upd_same]
      rfl
    generalize upd H6 p9 (.lst (List.replicate 7 held ++ List.replicate 5 held)) = H7 at S6 hn ⊢
    have Z7 := Z6.trans S6
    have f10 := hn
    obtain ⟨d12, y12, z12⟩ := xat1 (f := "line") (by decide +kernel) ((xs 12 a12 e12).same Z7)
    rw [Nat.zero_add] at y12
    refine ⟨_, rfl, l, _, _, .ref a12, rfl, rfl, SqL.of (Z7 _ _ at_l), atI_nat (j := 12) (by rw [List.getElem?_map, e12]; rfl), a12, C 12, d12, _, held, rfl, L.look 12 (by decide), L.no 12 (by decide) _ (by decide +kernel), y12, z12, look1, ?_⟩
    refine ⟨by show 1 ≤ sizeLine; decide, fun n11 m11 => ?_⟩
    have S7 : Same H7 (upd H7 n11 (.lst [held])) := Same.new m11
    have hn : (upd H7 n11 (.lst [held])) n11 = some (.lst [held]) := upd_same
    generalize upd H7 n11 (.lst [held]) = H8 at S7 hn ⊢
    have Z8 := Z7.trans S7
    have f12 := hn
    refine ⟨p9, n11, _, _, rfl, rfl, (S7 _ _ f10), f12, (by simp only [List.length_replicate, List.length_cons, List.length_nil]; decide), fun p13 g13 j13 => ?_⟩
    have ea13 : (List.replicate 12 held ++ [held] : List V) = List.replicate 13 held := rfl
    have S8 : Same H8 (upd H8 p13 (.lst (List.replicate 12 held ++ [held]))) := Same.new g13
    have hn : (upd H8 p13 (.lst (List.replicate 12 held ++ [held]))) p13 = some (.lst (List.replicate 13 held)) := by
      rw [upd_same]
      rfl
    generalize upd H8 p13 (.lst (List.replicate 12 held ++ [held])) = H9 at S8 hn ⊢
    have Z9 := Z8.trans S8
    have f14 := hn
    refine ⟨_, rfl, ?_⟩
    refine ⟨_, rfl, ?_⟩
    refine ⟨_, rfl, _, rfl, l, _, rfl, SqL.of (Z9 _ _ at_l), fun s15 v15 => ?_⟩
    have ec15 : cutV (as.map V.ref) (some 13) (some 18) = ((as.map V.ref).drop 13).take 5 := by
      unfold cutV
      rw [List.length_map, many]
      rfl
    have S9 : Same H9 (upd H9 s15 (.lst (cutV (as.map V.ref) (some 13) (some 18)))) := Same.new v15
    have hn : (upd H9 s15 (.lst (cutV (as.map V.ref) (some 13) (some 18)))) s15 = some (.lst (cutV (as.map V.ref) (some 13) (some 18))) := upd_same
    generalize upd H9 s15 (.lst (cutV (as.map V.ref) (some 13) (some 18))) = H10 at S9 hn ⊢
    have Z10 := Z9.trans S9
    have hs15 := hn
    refine ⟨s15, rfl, ⟨_, SqL.of hs15⟩, fun D15 u15 => ?_⟩
    refine lc_list (K := K) (a := s15) (xs := cutV (as.map V.ref) (some 13) (some 18)) (fun j H' => Same H10 H' ∧ H' D15 = some (.lst (List.replicate j held))) ⟨Same.new u15, upd_same⟩ (fun _ _ _ z => SqL.of (z.1 _ _ hs15)) ?_ ?_
    · rintro j x H' hx ⟨sj, hj⟩
      obtain ⟨jn, a, ea, rfl⟩ := cut_at ec15 hx
      obtain ⟨d, y, z⟩ := xat1 (f := "value") (by rw [Nat.zero_add]; exact vals13 j jn) ((xs _ a ea).same (Z10.trans sj))
      rw [Nat.zero_add] at y
      refine ⟨rfl, ?_⟩
      unfold tYes
      dsimp only
      rw [if_pos rfl]
      refine ⟨_, rfl, a, C (13 + j), d, _, held, rfl, L.look _ (by omega), L.no _ (by omega) _ (by rw [vals13 j jn]; exact List.mem_cons_self), y, z, look1, ?_⟩
      refine ⟨_, hj, by rw [List.length_replicate]; exact Nat.lt_of_lt_of_le jn (by decide), ?_, ?_⟩
      · exact fun b o e => by
          rw [upd_ne (ne_of_none e u15)]
          exact sj b o e
      · rw [rep_snoc]
        exact upd_same
    intro H11 ⟨S10, hn⟩
    have Z11 := Z10.trans S10
    have lenc : (cutV (as.map V.ref) (some 13) (some 18)).length = 5 := by
      rw [ec15, List.length_take, List.length_drop, List.length_map, many]
      rfl
    rw [lenc] at hn
    have f16 := hn
    refine ⟨p13, D15, _, _, rfl, rfl, (S10 _ _ (S9 _ _ f14)), f16, (by simp only [List.length_replicate, List.length_cons, List.length_nil]; decide), fun p17 g17 j17 => ?_⟩
    have ea17 : (List.replicate 13 held ++ List.replicate 5 held : List V) = List.replicate 18 held := rfl
    have S11 : Same H11 (upd H11 p17 (.lst (List.replicate 13 held ++ List.replicate 5 held))) := Same.new g17
    have hn : (upd H11 p17 (.lst (List.replicate 13 held ++ List.replicate 5 held))) p17 = some (.lst (List.replicate 18 held)) := by
      rw [upd_same]
      rfl
    generalize upd H11 p17 (.lst (List.replicate 13 held ++ List.replicate 5 held)) = H12 at S11 hn ⊢
    have Z12 := Z11.trans S11
    have f18 := hn
    obtain ⟨d18, y18, z18⟩ := xat1 (f := "number") (by decide +kernel) ((xs 18 a18 e18).same Z12)
    rw [Nat.zero_add] at y18
    refine ⟨_, rfl, l, _, _, .ref a18, rfl, rfl, SqL.of (Z12 _ _ at_l), atI_nat (j := 18) (by rw [List.getElem?_map, e18]; rfl), a18, C 18, d18, _, held, rfl, L.look 18 (by decide), L.no 18 (by decide) _ (by decide +kernel), y18, z18, look1, ?_⟩
    obtain ⟨d19, y19, z19⟩ := xat1 (f := "word") (by decide +kernel) ((xs 19 a19 e19).same Z12)
    rw [Nat.zero_add] at y19
    refine ⟨_, rfl, l, _, _, .ref a19, rfl, rfl, SqL.of (Z12 _ _ at_l), atI_nat (j := 19) (by rw [List.getElem?_map, e19]; rfl), a19, C 19, d19, _, held, rfl, L.look 19 (by decide), L.no 19 (by decide) _ (by decide +kernel), y19, z19, look1, ?_⟩
    obtain ⟨d20, y20, z20⟩ := xat1 (f := "value") (by decide +kernel) ((xs 20 a20 e20).same Z12)
    rw [Nat.zero_add] at y20
    refine ⟨_, rfl, l, _, _, .ref a20, rfl, rfl, SqL.of (Z12 _ _ at_l), atI_nat (j := 20) (by rw [List.getElem?_map, e20]; rfl), a20, C 20, d20, _, held, rfl, L.look 20 (by decide), L.no 20 (by decide) _ (by decide +kernel), y20, z20, look1, ?_⟩
    refine ⟨by show 3 ≤ sizeLine; decide, fun n19 m19 => ?_⟩
    have S12 : Same H12 (upd H12 n19 (.lst [held, held, held])) := Same.new m19
    have hn : (upd H12 n19 (.lst [held, held, held])) n19 = some (.lst [held, held, held]) := upd_same
    generalize upd H12 n19 (.lst [held, held, held]) = H13 at S12 hn ⊢
    have Z13 := Z12.trans S12
    have f20 := hn
    refine ⟨p17, n19, _, _, rfl, rfl, (S12 _ _ f18), f20, (by simp only [List.length_replicate, List.length_cons, List.length_nil]; decide), fun p21 g21 j21 => ?_⟩
    have ea21 : (List.replicate 18 held ++ [held, held, held] : List V) = List.replicate 21 held := rfl
    have S13 : Same H13 (upd H13 p21 (.lst (List.replicate 18 held ++ [held, held, held]))) := Same.new g21
    have hn : (upd H13 p21 (.lst (List.replicate 18 held ++ [held, held, held]))) p21 = some (.lst (List.replicate 21 held)) := by
      rw [upd_same]
      rfl
    generalize upd H13 p21 (.lst (List.replicate 18 held ++ [held, held, held])) = H14 at S13 hn ⊢
    have Z14 := Z13.trans S13
    have f22 := hn
    refine ⟨_, rfl, ?_⟩
    obtain ⟨d21, y21, z21⟩ := xat1 (f := "number") (by decide +kernel) ((xs 21 a21 e21).same Z14)
    rw [Nat.zero_add] at y21
    refine ⟨_, rfl, l, _, _, .ref a21, rfl, rfl, SqL.of (Z14 _ _ at_l), atI_nat (j := 21) (by rw [List.getElem?_map, e21]; rfl), a21, C 21, d21, _, held, rfl, L.look 21 (by decide), L.no 21 (by decide) _ (by decide +kernel), y21, z21, look1, ?_⟩
    obtain ⟨d23, y23, z23⟩ := xat1 (f := "number") (by decide +kernel) ((xs 23 a23 e23).same Z14)
    rw [Nat.zero_add] at y23
    refine ⟨_, rfl, l, _, _, .ref a23, rfl, rfl, SqL.of (Z14 _ _ at_l), atI_nat (j := 23) (by rw [List.getElem?_map, e23]; rfl), a23, C 23, d23, _, held, rfl, L.look 23 (by decide), L.no 23 (by decide) _ (by decide +kernel), y23, z23, look1, ?_⟩
    obtain ⟨d24, y24, z24⟩ := xat2 (f := "one") (g := "other") (by decide +kernel) ((xs 24 a24 e24).same Z14)
    rw [Nat.zero_add] at y24
    refine ⟨_, rfl, l, _, _, .ref a24, rfl, rfl, SqL.of (Z14 _ _ at_l), atI_nat (j := 24) (by rw [List.getElem?_map, e24]; rfl), a24, C 24, d24, _, held, rfl, L.look 24 (by decide), L.no 24 (by decide) _ (by decide +kernel), y24, z24, (look2 (by decide +kernel)), ?_⟩
    obtain ⟨d25, y25, z25⟩ := xat1 (f := "number") (by decide +kernel) ((xs 25 a25 e25).same Z14)
    rw [Nat.zero_add] at y25
    refine ⟨_, rfl, l, _, _, .ref a25, rfl, rfl, SqL.of (Z14 _ _ at_l), atI_nat (j := 25) (by rw [List.getElem?_map, e25]; rfl), a25, C 25, d25, _, held, rfl, L.look 25 (by decide), L.no 25 (by decide) _ (by decide +kernel), y25, z25, look1, ?_⟩
    obtain ⟨d26, y26, z26⟩ := xat2 (f := "condition") (g := "number") (by decide +kernel) ((xs 26 a26 e26).same Z14)
    rw [Nat.zero_add] at y26
    refine ⟨_, rfl, l, _, _, .ref a26, rfl, rfl, SqL.of (Z14 _ _ at_l), atI_nat (j := 26) (by rw [List.getElem?_map, e26]; rfl), a26, C 26, d26, _, held, rfl, L.look 26 (by decide), L.no 26 (by decide) _ (by decide +kernel), y26, z26, (look2 (by decide +kernel)), ?_⟩
    refine ⟨by show 5 ≤ sizeLine; decide, fun n23 m23 => ?_⟩
    have S14 : Same H14 (upd H14 n23 (.lst [held, held, held, held, held])) := Same.new m23
    have hn : (upd H14 n23 (.lst [held, held, held, held, held])) n23 = some (.lst [held, held, held, held, held]) := upd_same
    generalize upd H14 n23 (.lst [held, held, held, held, held]) = H15 at S14 hn ⊢
    have Z15 := Z14.trans S14
    have f24 := hn
    refine ⟨p21, n23, _, _, rfl, rfl, (S14 _ _ f22), f24, (by simp only [List.length_replicate, List.length_cons, List.length_nil]; decide), fun p25 g25 j25 => ?_⟩
    have ea25 : (List.replicate 21 held ++ [held, held, held, held, held] : List V) = List.replicate 26 held := rfl
    have S15 : Same H15 (upd H15 p25 (.lst (List.replicate 21 held ++ [held, held, held, held, held]))) := Same.new g25
    have hn : (upd H15 p25 (.lst (List.replicate 21 held ++ [held, held, held, held, held]))) p25 = some (.lst (List.replicate 26 held)) := by
      rw [upd_same]
      rfl
    generalize upd H15 p25 (.lst (List.replicate 21 held ++ [held, held, held, held, held])) = H16 at S15 hn ⊢
    have Z16 := Z15.trans S15
    have f26 := hn
    refine ⟨_, rfl, ?_⟩
    obtain ⟨d30, y30, z30⟩ := xat1 (f := "most") (by decide +kernel) ((xs 30 a30 e30).same Z16)
    rw [Nat.zero_add] at y30
    refine ⟨_, rfl, l, _, _, .ref a30, rfl, rfl, SqL.of (Z16 _ _ at_l), atI_nat (j := 30) (by rw [List.getElem?_map, e30]; rfl), a30, C 30, d30, _, held, rfl, L.look 30 (by decide), L.no 30 (by decide) _ (by decide +kernel), y30, z30, look1, ?_⟩
    refine ⟨by show 1 ≤ sizeLine; decide, fun n27 m27 => ?_⟩
    have S16 : Same H16 (upd H16 n27 (.lst [held])) := Same.new m27
    have hn : (upd H16 n27 (.lst [held])) n27 = some (.lst [held]) := upd_same
    generalize upd H16 n27 (.lst [held]) = H17 at S16 hn ⊢
    have Z17 := Z16.trans S16
    have f28 := hn
    refine ⟨p25, n27, _, _, rfl, rfl, (S16 _ _ f26), f28, (by simp only [List.length_replicate, List.length_cons, List.length_nil]; decide), fun p29 g29 j29 => ?_⟩
    have ea29 : (List.replicate 26 held ++ [held] : List V) = List.replicate 27 held := rfl
    exact q p29 _ (Z17.trans (Same.new g29)) j29 (by rw [upd_same]; rfl)
end
section
variable {P : Program} {w : World} {K : PySem.W.Frag} {mg : Str → Option Value} {base : Heap}
def isB (i k : Nat) : Bool := decide ((k : Int) = dueL.getD i 0) || (decide (k = 2) && decide (dueL.getD i 0 = 4))
def baseName (k : Nat) : String := ["ValueError", "LookupError", "ArithmeticError", "RuntimeError", "OverflowError"].getD k ""
/-- isinstance's answers -/
structure Kit30 (K : PySem.W.Frag) (C : Nat → Addr) : Prop where
  ex : ∀ i, i < 31 → ExcC K (C i)
  own : ∀ i j, i < 31 → j < 31 → PySem.W.kitOne K (.ref (C i)) (.ref (C j)) = some (decide (j = i))
  built : ∀ i k, i < 31 → k < 5 → PySem.W.kitOne K (.ref (C i)) (.type (baseName k)) = some (isB i k)
theorem xat_any {C : Nat → Addr} {H : Hp} {held : V} {i : Nat} {a : Addr} (x : XAt C H held i a) : ∃ d, H a = some (exo a (C i) d) ∧ ∀ dd, d = some dd → ∃ fs, H dd = some (exd dd fs) := by
  unfold XAt at x
  split at x
  · exact ⟨none, x, fun _ e => nomatch e⟩
  · obtain ⟨d, h1, h2⟩ := x
    exact ⟨some d, h1, fun dd e => by cases e; exact ⟨_, h2⟩⟩
  · obtain ⟨d, h1, h2⟩ := x
    exact ⟨some d, h1, fun dd e => by cases e; exact ⟨_, h2⟩⟩
  · exact x.elim
def spKinds (C : Nat → Addr) : Sp := fun vs H Q _ => ∃ (a : Addr) (i : Nat) (held : V), vs = [.ref a] ∧ i < 31 ∧ XAt C H held i a ∧ ∀ p H', Same H H' → H' p = some (.lst ((List.range 31).map fun j => V.bl (decide (j = i)))) → Q (.ref p) H'
def spBases (C : Nat → Addr) : Sp := fun vs H Q _ => ∃ (a : Addr) (i : Nat) (held : V), vs = [.ref a] ∧ i < 31 ∧ XAt C H held i a ∧ ∀ p H', Same H H' → H' p = some (.lst ((List.range 5).map fun k => V.bl (isB i k))) → Q (.ref p) H'
structure Txt30 (mg : Str → Option Value) : Prop where
  isinstance : mg "isinstance" = none
  int : mg "int" = none
  len : mg "len" = none
  range : mg "range" = none
  max : mg "max" = none
  min : mg "min" = none
  repr : mg "repr" = none
  ValueError : mg "ValueError" = none
  LookupError : mg "LookupError" = none
  ArithmeticError : mg "ArithmeticError" = none
  RuntimeError : mg "RuntimeError" = none
  OverflowError : mg "OverflowError" = none
abbrev s__law_kinds : Stmt := top 39
theorem sc__law_kinds : FnScope ["_law_e", "_law_found"] ["_law_e"] (defScope s__law_kinds) := ⟨rfl, rfl, rfl, by decide +kernel, rfl, by decide +kernel, by decide +kernel⟩
theorem ok__law_kinds {C : Nat → Addr} (h : Has K mg "_law_kinds" s__law_kinds ["_law_e"]) (T : Txt30 mg) (N : Kit30 K C) (g0 : mg "InvalidRule" = some (.ref (C 0))) (g1 : mg "InvalidNumber" = some (.ref (C 1))) (g2 : mg "InvalidBase" = some (.ref (C 2))) (g3 : mg "InvalidName" = some (.ref (C 3))) (g4 : mg "InvalidRegisters" = some (.ref (C 4))) (g5 : mg "InvalidModes" = some (.ref (C 5))) (g6 : mg "InvalidRow" = some (.ref (C 6))) (g7 : mg "InvalidEnds" = some (.ref (C 7))) (g8 : mg "InvalidResult" = some (.ref (C 8))) (g9 : mg "InvalidProgram" = some (.ref (C 9))) (g10 : mg "InvalidFigures" = some (.ref (C 10))) (g11 : mg "InvalidState" = some (.ref (C 11))) (g12 : mg "InvalidText" = some (.ref (C 12))) (g13 : mg "InvalidRatio" = some (.ref (C 13))) (g14 : mg "InvalidRows" = some (.ref (C 14))) (g15 : mg "InvalidForm" = some (.ref (C 15))) (g16 : mg "InvalidSign" = some (.ref (C 16))) (g17 : mg "InvalidMachine" = some (.ref (C 17))) (g18 : mg "InvalidPieces" = some (.ref (C 18))) (g19 : mg "InvalidCommand" = some (.ref (C 19))) (g20 : mg "UnknownName" = some (.ref (C 20))) (g21 : mg "Endless" = some (.ref (C 21))) (g22 : mg "DivisionByZero" = some (.ref (C 22))) (g23 : mg "Parted" = some (.ref (C 23))) (g24 : mg "Unlike" = some (.ref (C 24))) (g25 : mg "Broken" = some (.ref (C 25))) (g26 : mg "Guarded" = some (.ref (C 26))) (g27 : mg "NothingToUndo" = some (.ref (C 27))) (g28 : mg "NothingToRedo" = some (.ref (C 28))) (g29 : mg "NoTrial" = some (.ref (C 29))) (g30 : mg "LimitExceeded" = some (.ref (C 30))) : Ok P w K mg base 1 "_law_kinds" ["_law_e"] (spKinds C) := by
  obtain ⟨f, fd, g, b, F⟩ := h
  refine ⟨f, fd, g, F.kp, b, F.ok sc__law_kinds (fun vs H Q E h => ?_) (fun cdv A outer s H0 vs Q E hr h => ?_)⟩
  · obtain ⟨a, i, held, rfl, _⟩ := h
    rfl
  · obtain ⟨a, i, held, rfl, hi, x, q⟩ := h
    obtain ⟨d, y, z⟩ := xat_any x
    refine ⟨_, (pss_cons (ps_set (i := 1) sc__law_kinds.nd rfl (Or.inl rfl) (pe_lst (pa_cons (pe_callB call_isX (by rfl) T.isinstance (by decide +kernel) (pa_cons (pv 0) (pa_cons (pe_glob (v := .ref (C 0)) rfl g0 rfl) pa_nil))) (pa_cons (pe_callB call_isX (by rfl) T.isinstance (by decide +kernel) (pa_cons (pv 0) (pa_cons (pe_glob (v := .ref (C 1)) rfl g1 rfl) pa_nil))) (pa_cons (pe_callB call_isX (by rfl) T.isinstance (by decide +kernel) (pa_cons (pv 0) (pa_cons (pe_glob (v := .ref (C 2)) rfl g2 rfl) pa_nil))) pa_nil)))))
      (pss_cons (ps_set (i := 1) sc__law_kinds.nd rfl (Or.inl rfl) (pe_op op_catS (pv 1) (pe_lst (pa_cons (pe_callB call_isX (by rfl) T.isinstance (by decide +kernel) (pa_cons (pv 0) (pa_cons (pe_glob (v := .ref (C 3)) rfl g3 rfl) pa_nil))) (pa_cons (pe_callB call_isX (by rfl) T.isinstance (by decide +kernel) (pa_cons (pv 0) (pa_cons (pe_glob (v := .ref (C 4)) rfl g4 rfl) pa_nil))) (pa_cons (pe_callB call_isX (by rfl) T.isinstance (by decide +kernel) (pa_cons (pv 0) (pa_cons (pe_glob (v := .ref (C 5)) rfl g5 rfl) pa_nil))) pa_nil))))))
      (pss_cons (ps_set (i := 1) sc__law_kinds.nd rfl (Or.inl rfl) (pe_op op_catS (pv 1) (pe_lst (pa_cons (pe_callB call_isX (by rfl) T.isinstance (by decide +kernel) (pa_cons (pv 0) (pa_cons (pe_glob (v := .ref (C 6)) rfl g6 rfl) pa_nil))) (pa_cons (pe_callB call_isX (by rfl) T.isinstance (by decide +kernel) (pa_cons (pv 0) (pa_cons (pe_glob (v := .ref (C 7)) rfl g7 rfl) pa_nil))) (pa_cons (pe_callB call_isX (by rfl) T.isinstance (by decide +kernel) (pa_cons (pv 0) (pa_cons (pe_glob (v := .ref (C 8)) rfl g8 rfl) pa_nil))) pa_nil))))))
      (pss_cons (ps_set (i := 1) sc__law_kinds.nd rfl (Or.inl rfl) (pe_op op_catS (pv 1) (pe_lst (pa_cons (pe_callB call_isX (by rfl) T.isinstance (by decide +kernel) (pa_cons (pv 0) (pa_cons (pe_glob (v := .ref (C 9)) rfl g9 rfl) pa_nil))) (pa_cons (pe_callB call_isX (by rfl) T.isinstance (by decide +kernel) (pa_cons (pv 0) (pa_cons (pe_glob (v := .ref (C 10)) rfl g10 rfl) pa_nil))) (pa_cons (pe_callB call_isX (by rfl) T.isinstance (by decide +kernel) (pa_cons (pv 0) (pa_cons (pe_glob (v := .ref (C 11)) rfl g11 rfl) pa_nil))) pa_nil))))))
      (pss_cons (ps_set (i := 1) sc__law_kinds.nd rfl (Or.inl rfl) (pe_op op_catS (pv 1) (pe_lst (pa_cons (pe_callB call_isX (by rfl) T.isinstance (by decide +kernel) (pa_cons (pv 0) (pa_cons (pe_glob (v := .ref (C 12)) rfl g12 rfl) pa_nil))) (pa_cons (pe_callB call_isX (by rfl) T.isinstance (by decide +kernel) (pa_cons (pv 0) (pa_cons (pe_glob (v := .ref (C 13)) rfl g13 rfl) pa_nil))) (pa_cons (pe_callB call_isX (by rfl) T.isinstance (by decide +kernel) (pa_cons (pv 0) (pa_cons (pe_glob (v := .ref (C 14)) rfl g14 rfl) pa_nil))) pa_nil))))))
      (pss_cons (ps_set (i := 1) sc__law_kinds.nd rfl (Or.inl rfl) (pe_op op_catS (pv 1) (pe_lst (pa_cons (pe_callB call_isX (by rfl) T.isinstance (by decide +kernel) (pa_cons (pv 0) (pa_cons (pe_glob (v := .ref (C 15)) rfl g15 rfl) pa_nil))) (pa_cons (pe_callB call_isX (by rfl) T.isinstance (by decide +kernel) (pa_cons (pv 0) (pa_cons (pe_glob (v := .ref (C 16)) rfl g16 rfl) pa_nil))) (pa_cons (pe_callB call_isX (by rfl) T.isinstance (by decide +kernel) (pa_cons (pv 0) (pa_cons (pe_glob (v := .ref (C 17)) rfl g17 rfl) pa_nil))) pa_nil))))))
      (pss_cons (ps_set (i := 1) sc__law_kinds.nd rfl (Or.inl rfl) (pe_op op_catS (pv 1) (pe_lst (pa_cons (pe_callB call_isX (by rfl) T.isinstance (by decide +kernel) (pa_cons (pv 0) (pa_cons (pe_glob (v := .ref (C 18)) rfl g18 rfl) pa_nil))) (pa_cons (pe_callB call_isX (by rfl) T.isinstance (by decide +kernel) (pa_cons (pv 0) (pa_cons (pe_glob (v := .ref (C 19)) rfl g19 rfl) pa_nil))) (pa_cons (pe_callB call_isX (by rfl) T.isinstance (by decide +kernel) (pa_cons (pv 0) (pa_cons (pe_glob (v := .ref (C 20)) rfl g20 rfl) pa_nil))) pa_nil))))))
      (pss_cons (ps_set (i := 1) sc__law_kinds.nd rfl (Or.inl rfl) (pe_op op_catS (pv 1) (pe_lst (pa_cons (pe_callB call_isX (by rfl) T.isinstance (by decide +kernel) (pa_cons (pv 0) (pa_cons (pe_glob (v := .ref (C 21)) rfl g21 rfl) pa_nil))) (pa_cons (pe_callB call_isX (by rfl) T.isinstance (by decide +kernel) (pa_cons (pv 0) (pa_cons (pe_glob (v := .ref (C 22)) rfl g22 rfl) pa_nil))) (pa_cons (pe_callB call_isX (by rfl) T.isinstance (by decide +kernel) (pa_cons (pv 0) (pa_cons (pe_glob (v := .ref (C 23)) rfl g23 rfl) pa_nil))) pa_nil))))))
      (pss_cons (ps_set (i := 1) sc__law_kinds.nd rfl (Or.inl rfl) (pe_op op_catS (pv 1) (pe_lst (pa_cons (pe_callB call_isX (by rfl) T.isinstance (by decide +kernel) (pa_cons (pv 0) (pa_cons (pe_glob (v := .ref (C 24)) rfl g24 rfl) pa_nil))) (pa_cons (pe_callB call_isX (by rfl) T.isinstance (by decide +kernel) (pa_cons (pv 0) (pa_cons (pe_glob (v := .ref (C 25)) rfl g25 rfl) pa_nil))) (pa_cons (pe_callB call_isX (by rfl) T.isinstance (by decide +kernel) (pa_cons (pv 0) (pa_cons (pe_glob (v := .ref (C 26)) rfl g26 rfl) pa_nil))) pa_nil))))))
      (pss_cons (ps_set (i := 1) sc__law_kinds.nd rfl (Or.inl rfl) (pe_op op_catS (pv 1) (pe_lst (pa_cons (pe_callB call_isX (by rfl) T.isinstance (by decide +kernel) (pa_cons (pv 0) (pa_cons (pe_glob (v := .ref (C 27)) rfl g27 rfl) pa_nil))) (pa_cons (pe_callB call_isX (by rfl) T.isinstance (by decide +kernel) (pa_cons (pv 0) (pa_cons (pe_glob (v := .ref (C 28)) rfl g28 rfl) pa_nil))) (pa_cons (pe_callB call_isX (by rfl) T.isinstance (by decide +kernel) (pa_cons (pv 0) (pa_cons (pe_glob (v := .ref (C 29)) rfl g29 rfl) pa_nil))) pa_nil))))))
      (pss_one (ps_ret (pe_op op_catS (pv 1) (pe_lst (pa_cons (pe_callB call_isX (by rfl) T.isinstance (by decide +kernel) (pa_cons (pv 0) (pa_cons (pe_glob (v := .ref (C 30)) rfl g30 rfl) pa_nil))) pa_nil))))))))))))))), ?_⟩
    have Z0 : Same H0 H0 := Same.refl H0
    refine ⟨_, rfl, a, C i, d, .ref (C 0), _, _, rfl, N.ex i hi, ⟨Z0 _ _ y, fun dd e => ⟨(z dd e).choose, Z0 _ _ (z dd e).choose_spec⟩⟩, .own _, N.own i 0 hi (by decide), ?_⟩
    refine ⟨_, rfl, a, C i, d, .ref (C 1), _, _, rfl, N.ex i hi, ⟨Z0 _ _ y, fun dd e => ⟨(z dd e).choose, Z0 _ _ (z dd e).choose_spec⟩⟩, .own _, N.own i 1 hi (by decide), ?_⟩
    refine ⟨_, rfl, a, C i, d, .ref (C 2), _, _, rfl, N.ex i hi, ⟨Z0 _ _ y, fun dd e => ⟨(z dd e).choose, Z0 _ _ (z dd e).choose_spec⟩⟩, .own _, N.own i 2 hi (by decide), ?_⟩
    refine ⟨by show 3 ≤ sizeLine; decide, fun l0 m0 => ?_⟩
    have S0 : Same H0 (upd H0 l0 (.lst [.bl (decide (0 = i)), .bl (decide (1 = i)), .bl (decide (2 = i))])) := Same.new m0
    have hn : (upd H0 l0 (.lst [.bl (decide (0 = i)), .bl (decide (1 = i)), .bl (decide (2 = i))])) l0 = some (.lst [.bl (decide (0 = i)), .bl (decide (1 = i)), .bl (decide (2 = i))]) := upd_same
    generalize upd H0 l0 (.lst [.bl (decide (0 = i)), .bl (decide (1 = i)), .bl (decide (2 = i))]) = H1 at S0 hn ⊢
    have Z1 := Z0.trans S0
    have hf := hn
    refine ⟨_, rfl, _, rfl, a, C i, d, .ref (C 3), _, _, rfl, N.ex i hi, ⟨Z1 _ _ y, fun dd e => ⟨(z dd e).choose, Z1 _ _ (z dd e).choose_spec⟩⟩, .own _, N.own i 3 hi (by decide), ?_⟩
    refine ⟨_, rfl, a, C i, d, .ref (C 4), _, _, rfl, N.ex i hi, ⟨Z1 _ _ y, fun dd e => ⟨(z dd e).choose, Z1 _ _ (z dd e).choose_spec⟩⟩, .own _, N.own i 4 hi (by decide), ?_⟩
    refine ⟨_, rfl, a, C i, d, .ref (C 5), _, _, rfl, N.ex i hi, ⟨Z1 _ _ y, fun dd e => ⟨(z dd e).choose, Z1 _ _ (z dd e).choose_spec⟩⟩, .own _, N.own i 5 hi (by decide), ?_⟩
    refine ⟨by show 3 ≤ sizeLine; decide, fun l1 m1 => ?_⟩
    have S1 : Same H1 (upd H1 l1 (.lst [.bl (decide (3 = i)), .bl (decide (4 = i)), .bl (decide (5 = i))])) := Same.new m1
    have hn : (upd H1 l1 (.lst [.bl (decide (3 = i)), .bl (decide (4 = i)), .bl (decide (5 = i))])) l1 = some (.lst [.bl (decide (3 = i)), .bl (decide (4 = i)), .bl (decide (5 = i))]) := upd_same
    generalize upd H1 l1 (.lst [.bl (decide (3 = i)), .bl (decide (4 = i)), .bl (decide (5 = i))]) = H2 at S1 hn ⊢
    have Z2 := Z1.trans S1
    have hf := S1 _ _ hf
    refine ⟨l0, l1, _, _, rfl, rfl, hf, hn, (by show 6 ≤ sizeLine; decide), fun p1 g1 _ => ?_⟩
    have S2 : Same H2 (upd H2 p1 (.lst ([.bl (decide (0 = i)), .bl (decide (1 = i)), .bl (decide (2 = i))] ++ [.bl (decide (3 = i)), .bl (decide (4 = i)), .bl (decide (5 = i))]))) := Same.new g1
    have hf : (upd H2 p1 (.lst ([.bl (decide (0 = i)), .bl (decide (1 = i)), .bl (decide (2 = i))] ++ [.bl (decide (3 = i)), .bl (decide (4 = i)), .bl (decide (5 = i))]))) p1 = some (.lst [.bl (decide (0 = i)), .bl (decide (1 = i)), .bl (decide (2 = i)), .bl (decide (3 = i)), .bl (decide (4 = i)), .bl (decide (5 = i))]) := by
      rw [upd_same]
      rfl
    generalize upd H2 p1 (.lst ([.bl (decide (0 = i)), .bl (decide (1 = i)), .bl (decide (2 = i))] ++ [.bl (decide (3 = i)), .bl (decide (4 = i)), .bl (decide (5 = i))])) = H3 at S2 hf ⊢
    have Z3 := Z2.trans S2
    refine ⟨_, rfl, _, rfl, a, C i, d, .ref (C 6), _, _, rfl, N.ex i hi, ⟨Z3 _ _ y, fun dd e => ⟨(z dd e).choose, Z3 _ _ (z dd e).choose_spec⟩⟩, .own _, N.own i 6 hi (by decide), ?_⟩
    refine ⟨_, rfl, a, C i, d, .ref (C 7), _, _, rfl, N.ex i hi, ⟨Z3 _ _ y, fun dd e => ⟨(z dd e).choose, Z3 _ _ (z dd e).choose_spec⟩⟩, .own _, N.own i 7 hi (by decide), ?_⟩
    refine ⟨_, rfl, a, C i, d, .ref (C 8), _, _, rfl, N.ex i hi, ⟨Z3 _ _ y, fun dd e => ⟨(z dd e).choose, Z3 _ _ (z dd e).choose_spec⟩⟩, .own _, N.own i 8 hi (by decide), ?_⟩
    refine ⟨by show 3 ≤ sizeLine; decide, fun l2 m2 => ?_⟩
    have S3 : Same H3 (upd H3 l2 (.lst [.bl (decide (6 = i)), .bl (decide (7 = i)), .bl (decide (8 = i))])) := Same.new m2
    have hn : (upd H3 l2 (.lst [.bl (decide (6 = i)), .bl (decide (7 = i)), .bl (decide (8 = i))])) l2 = some (.lst [.bl (decide (6 = i)), .bl (decide (7 = i)), .bl (decide (8 = i))]) := upd_same
    generalize upd H3 l2 (.lst [.bl (decide (6 = i)), .bl (decide (7 = i)), .bl (decide (8 = i))]) = H4 at S3 hn ⊢
    have Z4 := Z3.trans S3
    have hf := S3 _ _ hf
    refine ⟨p1, l2, _, _, rfl, rfl, hf, hn, (by show 9 ≤ sizeLine; decide), fun p2 g2 _ => ?_⟩
    have S4 : Same H4 (upd H4 p2 (.lst ([.bl (decide (0 = i)), .bl (decide (1 = i)), .bl (decide (2 = i)), .bl (decide (3 = i)), .bl (decide (4 = i)), .bl (decide (5 = i))] ++ [.bl (decide (6 = i)), .bl (decide (7 = i)), .bl (decide (8 = i))]))) := Same.new g2
    have hf : (upd H4 p2 (.lst ([.bl (decide (0 = i)), .bl (decide (1 = i)), .bl (decide (2 = i)), .bl (decide (3 = i)), .bl (decide (4 = i)), .bl (decide (5 = i))] ++ [.bl (decide (6 = i)), .bl (decide (7 = i)), .bl (decide (8 = i))]))) p2 = some (.lst [.bl (decide (0 = i)), .bl (decide (1 = i)), .bl (decide (2 = i)), .bl (decide (3 = i)), .bl (decide (4 = i)), .bl (decide (5 = i)), .bl (decide (6 = i)), .bl (decide (7 = i)), .bl (decide (8 = i))]) := by
      rw [upd_same]
      rfl
    generalize upd H4 p2 (.lst ([.bl (decide (0 = i)), .bl (decide (1 = i)), .bl (decide (2 = i)), .bl (decide (3 = i)), .bl (decide (4 = i)), .bl (decide (5 = i))] ++ [.bl (decide (6 = i)), .bl (decide (7 = i)), .bl (decide (8 = i))])) = H5 at S4 hf ⊢
    have Z5 := Z4.trans S4
    refine ⟨_, rfl, _, rfl, a, C i, d, .ref (C 9), _, _, rfl, N.ex i hi, ⟨Z5 _ _ y, fun dd e => ⟨(z dd e).choose, Z5 _ _ (z dd e).choose_spec⟩⟩, .own _, N.own i 9 hi (by decide), ?_⟩
    refine ⟨_, rfl, a, C i, d, .ref (C 10), _, _, rfl, N.ex i hi, ⟨Z5 _ _ y, fun dd e => ⟨(z dd e).choose, Z5 _ _ (z dd e).choose_spec⟩⟩, .own _, N.own i 10 hi (by decide), ?_⟩
    refine ⟨_, rfl, a, C i, d, .ref (C 11), _, _, rfl, N.ex i hi, ⟨Z5 _ _ y, fun dd e => ⟨(z dd e).choose, Z5 _ _ (z dd e).choose_spec⟩⟩, .own _, N.own i 11 hi (by decide), ?_⟩
    refine ⟨by show 3 ≤ sizeLine; decide, fun l3 m3 => ?_⟩
    have S5 : Same H5 (upd H5 l3 (.lst [.bl (decide (9 = i)), .bl (decide (10 = i)), .bl (decide (11 = i))])) := Same.new m3
    have hn : (upd H5 l3 (.lst [.bl (decide (9 = i)), .bl (decide (10 = i)), .bl (decide (11 = i))])) l3 = some (.lst [.bl (decide (9 = i)), .bl (decide (10 = i)), .bl (decide (11 = i))]) := upd_same
    generalize upd H5 l3 (.lst [.bl (decide (9 = i)), .bl (decide (10 = i)), .bl (decide (11 = i))]) = H6 at S5 hn ⊢
    have Z6 := Z5.trans S5
    have hf := S5 _ _ hf
    refine ⟨p2, l3, _, _, rfl, rfl, hf, hn, (by show 12 ≤ sizeLine; decide), fun p3 g3 _ => ?_⟩
    have S6 : Same H6 (upd H6 p3 (.lst ([.bl (decide (0 = i)), .bl (decide (1 = i)), .bl (decide (2 = i)), .bl (decide (3 = i)), .bl (decide (4 = i)), .bl (decide (5 = i)), .bl (decide (6 = i)), .bl (decide (7 = i)), .bl (decide (8 = i))] ++ [.bl (decide (9 = i)), .bl (decide (10 = i)), .bl (decide (11 = i))]))) := Same.new g3
    have hf : (upd H6 p3 (.lst ([.bl (decide (0 = i)), .bl (decide (1 = i)), .bl (decide (2 = i)), .bl (decide (3 = i)), .bl (decide (4 = i)), .bl (decide (5 = i)), .bl (decide (6 = i)), .bl (decide (7 = i)), .bl (decide (8 = i))] ++ [.bl (decide (9 = i)), .bl (decide (10 = i)), .bl (decide (11 = i))]))) p3 = some (.lst [.bl (decide (0 = i)), .bl (decide (1 = i)), .bl (decide (2 = i)), .bl (decide (3 = i)), .bl (decide (4 = i)), .bl (decide (5 = i)), .bl (decide (6 = i)), .bl (decide (7 = i)), .bl (decide (8 = i)), .bl (decide (9 = i)), .bl (decide (10 = i)), .bl (decide (11 = i))]) := by
      rw [upd_same]
      rfl
    generalize upd H6 p3 (.lst ([.bl (decide (0 = i)), .bl (decide (1 = i)), .bl (decide (2 = i)), .bl (decide (3 = i)), .bl (decide (4 = i)), .bl (decide (5 = i)), .bl (decide (6 = i)), .bl (decide (7 = i)), .bl (decide (8 = i))] ++ [.bl (decide (9 = i)), .bl (decide (10 = i)), .bl (decide (11 = i))])) = H7 at S6 hf ⊢
    have Z7 := Z6.trans S6
    refine ⟨_, rfl, _, rfl, a, C i, d, .ref (C 12), _, _, rfl, N.ex i hi, ⟨Z7 _ _ y, fun dd e => ⟨(z dd e).choose, Z7 _ _ (z dd e).choose_spec⟩⟩, .own _, N.own i 12 hi (by decide), ?_⟩
    refine ⟨_, rfl, a, C i, d, .ref (C 13), _, _, rfl, N.ex i hi, ⟨Z7 _ _ y, fun dd e => ⟨(z dd e).choose, Z7 _ _ (z dd e).choose_spec⟩⟩, .own _, N.own i 13 hi (by decide), ?_⟩
    refine ⟨_, rfl, a, C i, d, .ref (C 14), _, _, rfl, N.ex i hi, ⟨Z7 _ _ y, fun dd e => ⟨(z dd e).choose, Z7 _ _ (z dd e).choose_spec⟩⟩, .own _, N.own i 14 hi (by decide), ?_⟩
    refine ⟨by show 3 ≤ sizeLine; decide, fun l4 m4 => ?_⟩
    have S7 : Same H7 (upd H7 l4 (.lst [.bl (decide (12 = i)), .bl (decide (13 = i)), .bl (decide (14 = i))])) := Same.new m4
    have hn : (upd H7 l4 (.lst [.bl (decide (12 = i)), .bl (decide (13 = i)), .bl (decide (14 = i))])) l4 = some (.lst [.bl (decide (12 = i)), .bl (decide (13 = i)), .bl (decide (14 = i))]) := upd_same
    generalize upd H7 l4 (.lst [.bl (decide (12 = i)), .bl (decide (13 = i)), .bl (decide (14 = i))]) = H8 at S7 hn ⊢
    have Z8 := Z7.trans S7
    have hf := S7 _ _ hf
    refine ⟨p3, l4, _, _, rfl, rfl, hf, hn, (by show 15 ≤ sizeLine; decide), fun p4 g4 _ => ?_⟩
    have S8 : Same H8 (upd H8 p4 (.lst ([.bl (decide (0 = i)), .bl (decide (1 = i)), .bl (decide (2 = i)), .bl (decide (3 = i)), .bl (decide (4 = i)), .bl (decide (5 = i)), .bl (decide (6 = i)), .bl (decide (7 = i)), .bl (decide (8 = i)), .bl (decide (9 = i)), .bl (decide (10 = i)), .bl (decide (11 = i))] ++ [.bl (decide (12 = i)), .bl (decide (13 = i)), .bl (decide (14 = i))]))) := Same.new g4
    have hf : (upd H8 p4 (.lst ([.bl (decide (0 = i)), .bl (decide (1 = i)), .bl (decide (2 = i)), .bl (decide (3 = i)), .bl (decide (4 = i)), .bl (decide (5 = i)), .bl (decide (6 = i)), .bl (decide (7 = i)), .bl (decide (8 = i)), .bl (decide (9 = i)), .bl (decide (10 = i)), .bl (decide (11 = i))] ++ [.bl (decide (12 = i)), .bl (decide (13 = i)), .bl (decide (14 = i))]))) p4 = some (.lst [.bl (decide (0 = i)), .bl (decide (1 = i)), .bl (decide (2 = i)), .bl (decide (3 = i)), .bl (decide (4 = i)), .bl (decide (5 = i)), .bl (decide (6 = i)), .bl (decide (7 = i)), .bl (decide (8 = i)), .bl (decide (9 = i)), .bl (decide (10 = i)), .bl (decide (11 = i)), .bl (decide (12 = i)), .bl (decide (13 = i)), .bl (decide (14 = i))]) := by
      rw [upd_same]
      rfl
    generalize upd H8 p4 (.lst ([.bl (decide (0 = i)), .bl (decide (1 = i)), .bl (decide (2 = i)), .bl (decide (3 = i)), .bl (decide (4 = i)), .bl (decide (5 = i)), .bl (decide (6 = i)), .bl (decide (7 = i)), .bl (decide (8 = i)), .bl (decide (9 = i)), .bl (decide (10 = i)), .bl (decide (11 = i))] ++ [.bl (decide (12 = i)), .bl (decide (13 = i)), .bl (decide (14 = i))])) = H9 at S8 hf ⊢
    have Z9 := Z8.trans S8
    refine ⟨_, rfl, _, rfl, a, C i, d, .ref (C 15), _, _, rfl, N.ex i hi, ⟨Z9 _ _ y, fun dd e => ⟨(z dd e).choose, Z9 _ _ (z dd e).choose_spec⟩⟩, .own _, N.own i 15 hi (by decide), ?_⟩
    refine ⟨_, rfl, a, C i, d, .ref (C 16), _, _, rfl, N.ex i hi, ⟨Z9 _ _ y, fun dd e => ⟨(z dd e).choose, Z9 _ _ (z dd e).choose_spec⟩⟩, .own _, N.own i 16 hi (by decide), ?_⟩
    refine ⟨_, rfl, a, C i, d, .ref (C 17), _, _, rfl, N.ex i hi, ⟨Z9 _ _ y, fun dd e => ⟨(z dd e).choose, Z9 _ _ (z dd e).choose_spec⟩⟩, .own _, N.own i 17 hi (by decide), ?_⟩
    refine ⟨by show 3 ≤ sizeLine; decide, fun l5 m5 => ?_⟩
    have S9 : Same H9 (upd H9 l5 (.lst [.bl (decide (15 = i)), .bl (decide (16 = i)), .bl (decide (17 = i))])) := Same.new m5
    have hn : (upd H9 l5 (.lst [.bl (decide (15 = i)), .bl (decide (16 = i)), .bl (decide (17 = i))])) l5 = some (.lst [.bl (decide (15 = i)), .bl (decide (16 = i)), .bl (decide (17 = i))]) := upd_same
    generalize upd H9 l5 (.lst [.bl (decide (15 = i)), .bl (decide (16 = i)), .bl (decide (17 = i))]) = H10 at S9 hn ⊢
    have Z10 := Z9.trans S9
    have hf := S9 _ _ hf
    refine ⟨p4, l5, _, _, rfl, rfl, hf, hn, (by show 18 ≤ sizeLine; decide), fun p5 g5 _ => ?_⟩
    have S10 : Same H10 (upd H10 p5 (.lst ([.bl (decide (0 = i)), .bl (decide (1 = i)), .bl (decide (2 = i)), .bl (decide (3 = i)), .bl (decide (4 = i)), .bl (decide (5 = i)), .bl (decide (6 = i)), .bl (decide (7 = i)), .bl (decide (8 = i)), .bl (decide (9 = i)), .bl (decide (10 = i)), .bl (decide (11 = i)), .bl (decide (12 = i)), .bl (decide (13 = i)), .bl (decide (14 = i))] ++ [.bl (decide (15 = i)), .bl (decide (16 = i)), .bl (decide (17 = i))]))) := Same.new g5
    have hf : (upd H10 p5 (.lst ([.bl (decide (0 = i)), .bl (decide (1 = i)), .bl (decide (2 = i)), .bl (decide (3 = i)), .bl (decide (4 = i)), .bl (decide (5 = i)), .bl (decide (6 = i)), .bl (decide (7 = i)), .bl (decide (8 = i)), .bl (decide (9 = i)), .bl (decide (10 = i)), .bl (decide (11 = i)), .bl (decide (12 = i)), .bl (decide (13 = i)), .bl (decide (14 = i))] ++ [.bl (decide (15 = i)), .bl (decide (16 = i)), .bl (decide (17 = i))]))) p5 = some (.lst [.bl (decide (0 = i)), .bl (decide (1 = i)), .bl (decide (2 = i)), .bl (decide (3 = i)), .bl (decide (4 = i)), .bl (decide (5 = i)), .bl (decide (6 = i)), .bl (decide (7 = i)), .bl (decide (8 = i)), .bl (decide (9 = i)), .bl (decide (10 = i)), .bl (decide (11 = i)), .bl (decide (12 = i)), .bl (decide (13 = i)), .bl (decide (14 = i)), .bl (decide (15 = i)), .bl (decide (16 = i)), .bl (decide (17 = i))]) := by
      rw [upd_same]
      rfl
    generalize upd H10 p5 (.lst ([.bl (decide (0 = i)), .bl (decide (1 = i)), .bl (decide (2 = i)), .bl (decide (3 = i)), .bl (decide (4 = i)), .bl (decide (5 = i)), .bl (decide (6 = i)), .bl (decide (7 = i)), .bl (decide (8 = i)), .bl (decide (9 = i)), .bl (decide (10 = i)), .bl (decide (11 = i)), .bl (decide (12 = i)), .bl (decide (13 = i)), .bl (decide (14 = i))] ++ [.bl (decide (15 = i)), .bl (decide (16 = i)), .bl (decide (17 = i))])) = H11 at S10 hf ⊢
    have Z11 := Z10.trans S10
    refine ⟨_, rfl, _, rfl, a, C i, d, .ref (C 18), _, _, rfl, N.ex i hi, ⟨Z11 _ _ y, fun dd e => ⟨(z dd e).choose, Z11 _ _ (z dd e).choose_spec⟩⟩, .own _, N.own i 18 hi (by decide), ?_⟩
    refine ⟨_, rfl, a, C i, d, .ref (C 19), _, _, rfl, N.ex i hi, ⟨Z11 _ _ y, fun dd e => ⟨(z dd e).choose, Z11 _ _ (z dd e).choose_spec⟩⟩, .own _, N.own i 19 hi (by decide), ?_⟩
    refine ⟨_, rfl, a, C i, d, .ref (C 20), _, _, rfl, N.ex i hi, ⟨Z11 _ _ y, fun dd e => ⟨(z dd e).choose, Z11 _ _ (z dd e).choose_spec⟩⟩, .own _, N.own i 20 hi (by decide), ?_⟩
    refine ⟨by show 3 ≤ sizeLine; decide, fun l6 m6 => ?_⟩
    have S11 : Same H11 (upd H11 l6 (.lst [.bl (decide (18 = i)), .bl (decide (19 = i)), .bl (decide (20 = i))])) := Same.new m6
    have hn : (upd H11 l6 (.lst [.bl (decide (18 = i)), .bl (decide (19 = i)), .bl (decide (20 = i))])) l6 = some (.lst [.bl (decide (18 = i)), .bl (decide (19 = i)), .bl (decide (20 = i))]) := upd_same
    generalize upd H11 l6 (.lst [.bl (decide (18 = i)), .bl (decide (19 = i)), .bl (decide (20 = i))]) = H12 at S11 hn ⊢
    have Z12 := Z11.trans S11
    have hf := S11 _ _ hf
    refine ⟨p5, l6, _, _, rfl, rfl, hf, hn, (by show 21 ≤ sizeLine; decide), fun p6 g6 _ => ?_⟩
    have S12 : Same H12 (upd H12 p6 (.lst ([.bl (decide (0 = i)), .bl (decide (1 = i)), .bl (decide (2 = i)), .bl (decide (3 = i)), .bl (decide (4 = i)), .bl (decide (5 = i)), .bl (decide (6 = i)), .bl (decide (7 = i)), .bl (decide (8 = i)), .bl (decide (9 = i)), .bl (decide (10 = i)), .bl (decide (11 = i)), .bl (decide (12 = i)), .bl (decide (13 = i)), .bl (decide (14 = i)), .bl (decide (15 = i)), .bl (decide (16 = i)), .bl (decide (17 = i))] ++ [.bl (decide (18 = i)), .bl (decide (19 = i)), .bl (decide (20 = i))]))) := Same.new g6
    have hf : (upd H12 p6 (.lst ([.bl (decide (0 = i)), .bl (decide (1 = i)), .bl (decide (2 = i)), .bl (decide (3 = i)), .bl (decide (4 = i)), .bl (decide (5 = i)), .bl (decide (6 = i)), .bl (decide (7 = i)), .bl (decide (8 = i)), .bl (decide (9 = i)), .bl (decide (10 = i)), .bl (decide (11 = i)), .bl (decide (12 = i)), .bl (decide (13 = i)), .bl (decide (14 = i)), .bl (decide (15 = i)), .bl (decide (16 = i)), .bl (decide (17 = i))] ++ [.bl (decide (18 = i)), .bl (decide (19 = i)), .bl (decide (20 = i))]))) p6 = some (.lst [.bl (decide (0 = i)), .bl (decide (1 = i)), .bl (decide (2 = i)), .bl (decide (3 = i)), .bl (decide (4 = i)), .bl (decide (5 = i)), .bl (decide (6 = i)), .bl (decide (7 = i)), .bl (decide (8 = i)), .bl (decide (9 = i)), .bl (decide (10 = i)), .bl (decide (11 = i)), .bl (decide (12 = i)), .bl (decide (13 = i)), .bl (decide (14 = i)), .bl (decide (15 = i)), .bl (decide (16 = i)), .bl (decide (17 = i)), .bl (decide (18 = i)), .bl (decide (19 = i)), .bl (decide (20 = i))]) := by
      rw [upd_same]
      rfl
    generalize upd H12 p6 (.lst ([.bl (decide (0 = i)), .bl (decide (1 = i)), .bl (decide (2 = i)), .bl (decide (3 = i)), .bl (decide (4 = i)), .bl (decide (5 = i)), .bl (decide (6 = i)), .bl (decide (7 = i)), .bl (decide (8 = i)), .bl (decide (9 = i)), .bl (decide (10 = i)), .bl (decide (11 = i)), .bl (decide (12 = i)), .bl (decide (13 = i)), .bl (decide (14 = i)), .bl (decide (15 = i)), .bl (decide (16 = i)), .bl (decide (17 = i))] ++ [.bl (decide (18 = i)), .bl (decide (19 = i)), .bl (decide (20 = i))])) = H13 at S12 hf ⊢
    have Z13 := Z12.trans S12
    refine ⟨_, rfl, _, rfl, a, C i, d, .ref (C 21), _, _, rfl, N.ex i hi, ⟨Z13 _ _ y, fun dd e => ⟨(z dd e).choose, Z13 _ _ (z dd e).choose_spec⟩⟩, .own _, N.own i 21 hi (by decide), ?_⟩
    refine ⟨_, rfl, a, C i, d, .ref (C 22), _, _, rfl, N.ex i hi, ⟨Z13 _ _ y, fun dd e => ⟨(z dd e).choose, Z13 _ _ (z dd e).choose_spec⟩⟩, .own _, N.own i 22 hi (by decide), ?_⟩
    refine ⟨_, rfl, a, C i, d, .ref (C 23), _, _, rfl, N.ex i hi, ⟨Z13 _ _ y, fun dd e => ⟨(z dd e).choose, Z13 _ _ (z dd e).choose_spec⟩⟩, .own _, N.own i 23 hi (by decide), ?_⟩
    refine ⟨by show 3 ≤ sizeLine; decide, fun l7 m7 => ?_⟩
    have S13 : Same H13 (upd H13 l7 (.lst [.bl (decide (21 = i)), .bl (decide (22 = i)), .bl (decide (23 = i))])) := Same.new m7
    have hn : (upd H13 l7 (.lst [.bl (decide (21 = i)), .bl (decide (22 = i)), .bl (decide (23 = i))])) l7 = some (.lst [.bl (decide (21 = i)), .bl (decide (22 = i)), .bl (decide (23 = i))]) := upd_same
    generalize upd H13 l7 (.lst [.bl (decide (21 = i)), .bl (decide (22 = i)), .bl (decide (23 = i))]) = H14 at S13 hn ⊢
    have Z14 := Z13.trans S13
    have hf := S13 _ _ hf
    refine ⟨p6, l7, _, _, rfl, rfl, hf, hn, (by show 24 ≤ sizeLine; decide), fun p7 g7 _ => ?_⟩
    have S14 : Same H14 (upd H14 p7 (.lst ([.bl (decide (0 = i)), .bl (decide (1 = i)), .bl (decide (2 = i)), .bl (decide (3 = i)), .bl (decide (4 = i)), .bl (decide (5 = i)), .bl (decide (6 = i)), .bl (decide (7 = i)), .bl (decide (8 = i)), .bl (decide (9 = i)), .bl (decide (10 = i)), .bl (decide (11 = i)), .bl (decide (12 = i)), .bl (decide (13 = i)), .bl (decide (14 = i)), .bl (decide (15 = i)), .bl (decide (16 = i)), .bl (decide (17 = i)), .bl (decide (18 = i)), .bl (decide (19 = i)), .bl (decide (20 = i))] ++ [.bl (decide (21 = i)), .bl (decide (22 = i)), .bl (decide (23 = i))]))) := Same.new g7
    have hf : (upd H14 p7 (.lst ([.bl (decide (0 = i)), .bl (decide (1 = i)), .bl (decide (2 = i)), .bl (decide (3 = i)), .bl (decide (4 = i)), .bl (decide (5 = i)), .bl (decide (6 = i)), .bl (decide (7 = i)), .bl (decide (8 = i)), .bl (decide (9 = i)), .bl (decide (10 = i)), .bl (decide (11 = i)), .bl (decide (12 = i)), .bl (decide (13 = i)), .bl (decide (14 = i)), .bl (decide (15 = i)), .bl (decide (16 = i)), .bl (decide (17 = i)), .bl (decide (18 = i)), .bl (decide (19 = i)), .bl (decide (20 = i))] ++ [.bl (decide (21 = i)), .bl (decide (22 = i)), .bl (decide (23 = i))]))) p7 = some (.lst [.bl (decide (0 = i)), .bl (decide (1 = i)), .bl (decide (2 = i)), .bl (decide (3 = i)), .bl (decide (4 = i)), .bl (decide (5 = i)), .bl (decide (6 = i)), .bl (decide (7 = i)), .bl (decide (8 = i)), .bl (decide (9 = i)), .bl (decide (10 = i)), .bl (decide (11 = i)), .bl (decide (12 = i)), .bl (decide (13 = i)), .bl (decide (14 = i)), .bl (decide (15 = i)), .bl (decide (16 = i)), .bl (decide (17 = i)), .bl (decide (18 = i)), .bl (decide (19 = i)), .bl (decide (20 = i)), .bl (decide (21 = i)), .bl (decide (22 = i)), .bl (decide (23 = i))]) := by
      rw [upd_same]
      rfl
    generalize upd H14 p7 (.lst ([.bl (decide (0 = i)), .bl (decide (1 = i)), .bl (decide (2 = i)), .bl (decide (3 = i)), .bl (decide (4 = i)), .bl (decide (5 = i)), .bl (decide (6 = i)), .bl (decide (7 = i)), .bl (decide (8 = i)), .bl (decide (9 = i)), .bl (decide (10 = i)), .bl (decide (11 = i)), .bl (decide (12 = i)), .bl (decide (13 = i)), .bl (decide (14 = i)), .bl (decide (15 = i)), .bl (decide (16 = i)), .bl (decide (17 = i)), .bl (decide (18 = i)), .bl (decide (19 = i)), .bl (decide (20 = i))] ++ [.bl (decide (21 = i)), .bl (decide (22 = i)), .bl (decide (23 = i))])) = H15 at S14 hf ⊢
    have Z15 := Z14.trans S14
    refine ⟨_, rfl, _, rfl, a, C i, d, .ref (C 24), _, _, rfl, N.ex i hi, ⟨Z15 _ _ y, fun dd e => ⟨(z dd e).choose, Z15 _ _ (z dd e).choose_spec⟩⟩, .own _, N.own i 24 hi (by decide), ?_⟩
    refine ⟨_, rfl, a, C i, d, .ref (C 25), _, _, rfl, N.ex i hi, ⟨Z15 _ _ y, fun dd e => ⟨(z dd e).choose, Z15 _ _ (z dd e).choose_spec⟩⟩, .own _, N.own i 25 hi (by decide), ?_⟩
    refine ⟨_, rfl, a, C i, d, .ref (C 26), _, _, rfl, N.ex i hi, ⟨Z15 _ _ y, fun dd e => ⟨(z dd e).choose, Z15 _ _ (z dd e).choose_spec⟩⟩, .own _, N.own i 26 hi (by decide), ?_⟩
    refine ⟨by show 3 ≤ sizeLine; decide, fun l8 m8 => ?_⟩
    have S15 : Same H15 (upd H15 l8 (.lst [.bl (decide (24 = i)), .bl (decide (25 = i)), .bl (decide (26 = i))])) := Same.new m8
    have hn : (upd H15 l8 (.lst [.bl (decide (24 = i)), .bl (decide (25 = i)), .bl (decide (26 = i))])) l8 = some (.lst [.bl (decide (24 = i)), .bl (decide (25 = i)), .bl (decide (26 = i))]) := upd_same
    generalize upd H15 l8 (.lst [.bl (decide (24 = i)), .bl (decide (25 = i)), .bl (decide (26 = i))]) = H16 at S15 hn ⊢
    have Z16 := Z15.trans S15
    have hf := S15 _ _ hf
    refine ⟨p7, l8, _, _, rfl, rfl, hf, hn, (by show 27 ≤ sizeLine; decide), fun p8 g8 _ => ?_⟩
    have S16 : Same H16 (upd H16 p8 (.lst ([.bl (decide (0 = i)), .bl (decide (1 = i)), .bl (decide (2 = i)), .bl (decide (3 = i)), .bl (decide (4 = i)), .bl (decide (5 = i)), .bl (decide (6 = i)), .bl (decide (7 = i)), .bl (decide (8 = i)), .bl (decide (9 = i)), .bl (decide (10 = i)), .bl (decide (11 = i)), .bl (decide (12 = i)), .bl (decide (13 = i)), .bl (decide (14 = i)), .bl (decide (15 = i)), .bl (decide (16 = i)), .bl (decide (17 = i)), .bl (decide (18 = i)), .bl (decide (19 = i)), .bl (decide (20 = i)), .bl (decide (21 = i)), .bl (decide (22 = i)), .bl (decide (23 = i))] ++ [.bl (decide (24 = i)), .bl (decide (25 = i)), .bl (decide (26 = i))]))) := Same.new g8
    have hf : (upd H16 p8 (.lst ([.bl (decide (0 = i)), .bl (decide (1 = i)), .bl (decide (2 = i)), .bl (decide (3 = i)), .bl (decide (4 = i)), .bl (decide (5 = i)), .bl (decide (6 = i)), .bl (decide (7 = i)), .bl (decide (8 = i)), .bl (decide (9 = i)), .bl (decide (10 = i)), .bl (decide (11 = i)), .bl (decide (12 = i)), .bl (decide (13 = i)), .bl (decide (14 = i)), .bl (decide (15 = i)), .bl (decide (16 = i)), .bl (decide (17 = i)), .bl (decide (18 = i)), .bl (decide (19 = i)), .bl (decide (20 = i)), .bl (decide (21 = i)), .bl (decide (22 = i)), .bl (decide (23 = i))] ++ [.bl (decide (24 = i)), .bl (decide (25 = i)), .bl (decide (26 = i))]))) p8 = some (.lst [.bl (decide (0 = i)), .bl (decide (1 = i)), .bl (decide (2 = i)), .bl (decide (3 = i)), .bl (decide (4 = i)), .bl (decide (5 = i)), .bl (decide (6 = i)), .bl (decide (7 = i)), .bl (decide (8 = i)), .bl (decide (9 = i)), .bl (decide (10 = i)), .bl (decide (11 = i)), .bl (decide (12 = i)), .bl (decide (13 = i)), .bl (decide (14 = i)), .bl (decide (15 = i)), .bl (decide (16 = i)), .bl (decide (17 = i)), .bl (decide (18 = i)), .bl (decide (19 = i)), .bl (decide (20 = i)), .bl (decide (21 = i)), .bl (decide (22 = i)), .bl (decide (23 = i)), .bl (decide (24 = i)), .bl (decide (25 = i)), .bl (decide (26 = i))]) := by
      rw [upd_same]
      rfl
    generalize upd H16 p8 (.lst ([.bl (decide (0 = i)), .bl (decide (1 = i)), .bl (decide (2 = i)), .bl (decide (3 = i)), .bl (decide (4 = i)), .bl (decide (5 = i)), .bl (decide (6 = i)), .bl (decide (7 = i)), .bl (decide (8 = i)), .bl (decide (9 = i)), .bl (decide (10 = i)), .bl (decide (11 = i)), .bl (decide (12 = i)), .bl (decide (13 = i)), .bl (decide (14 = i)), .bl (decide (15 = i)), .bl (decide (16 = i)), .bl (decide (17 = i)), .bl (decide (18 = i)), .bl (decide (19 = i)), .bl (decide (20 = i)), .bl (decide (21 = i)), .bl (decide (22 = i)), .bl (decide (23 = i))] ++ [.bl (decide (24 = i)), .bl (decide (25 = i)), .bl (decide (26 = i))])) = H17 at S16 hf ⊢
    have Z17 := Z16.trans S16
    refine ⟨_, rfl, _, rfl, a, C i, d, .ref (C 27), _, _, rfl, N.ex i hi, ⟨Z17 _ _ y, fun dd e => ⟨(z dd e).choose, Z17 _ _ (z dd e).choose_spec⟩⟩, .own _, N.own i 27 hi (by decide), ?_⟩
    refine ⟨_, rfl, a, C i, d, .ref (C 28), _, _, rfl, N.ex i hi, ⟨Z17 _ _ y, fun dd e => ⟨(z dd e).choose, Z17 _ _ (z dd e).choose_spec⟩⟩, .own _, N.own i 28 hi (by decide), ?_⟩
    refine ⟨_, rfl, a, C i, d, .ref (C 29), _, _, rfl, N.ex i hi, ⟨Z17 _ _ y, fun dd e => ⟨(z dd e).choose, Z17 _ _ (z dd e).choose_spec⟩⟩, .own _, N.own i 29 hi (by decide), ?_⟩
    refine ⟨by show 3 ≤ sizeLine; decide, fun l9 m9 => ?_⟩
    have S17 : Same H17 (upd H17 l9 (.lst [.bl (decide (27 = i)), .bl (decide (28 = i)), .bl (decide (29 = i))])) := Same.new m9
    have hn : (upd H17 l9 (.lst [.bl (decide (27 = i)), .bl (decide (28 = i)), .bl (decide (29 = i))])) l9 = some (.lst [.bl (decide (27 = i)), .bl (decide (28 = i)), .bl (decide (29 = i))]) := upd_same
    generalize upd H17 l9 (.lst [.bl (decide (27 = i)), .bl (decide (28 = i)), .bl (decide (29 = i))]) = H18 at S17 hn ⊢
    have Z18 := Z17.trans S17
    have hf := S17 _ _ hf
    refine ⟨p8, l9, _, _, rfl, rfl, hf, hn, (by show 30 ≤ sizeLine; decide), fun p9 g9 _ => ?_⟩
    have S18 : Same H18 (upd H18 p9 (.lst ([.bl (decide (0 = i)), .bl (decide (1 = i)), .bl (decide (2 = i)), .bl (decide (3 = i)), .bl (decide (4 = i)), .bl (decide (5 = i)), .bl (decide (6 = i)), .bl (decide (7 = i)), .bl (decide (8 = i)), .bl (decide (9 = i)), .bl (decide (10 = i)), .bl (decide (11 = i)), .bl (decide (12 = i)), .bl (decide (13 = i)), .bl (decide (14 = i)), .bl (decide (15 = i)), .bl (decide (16 = i)), .bl (decide (17 = i)), .bl (decide (18 = i)), .bl (decide (19 = i)), .bl (decide (20 = i)), .bl (decide (21 = i)), .bl (decide (22 = i)), .bl (decide (23 = i)), .bl (decide (24 = i)), .bl (decide (25 = i)), .bl (decide (26 = i))] ++ [.bl (decide (27 = i)), .bl (decide (28 = i)), .bl (decide (29 = i))]))) := Same.new g9
    have hf : (upd H18 p9 (.lst ([.bl (decide (0 = i)), .bl (decide (1 = i)), .bl (decide (2 = i)), .bl (decide (3 = i)), .bl (decide (4 = i)), .bl (decide (5 = i)), .bl (decide (6 = i)), .bl (decide (7 = i)), .bl (decide (8 = i)), .bl (decide (9 = i)), .bl (decide (10 = i)), .bl (decide (11 = i)), .bl (decide (12 = i)), .bl (decide (13 = i)), .bl (decide (14 = i)), .bl (decide (15 = i)), .bl (decide (16 = i)), .bl (decide (17 = i)), .bl (decide (18 = i)), .bl (decide (19 = i)), .bl (decide (20 = i)), .bl (decide (21 = i)), .bl (decide (22 = i)), .bl (decide (23 = i)), .bl (decide (24 = i)), .bl (decide (25 = i)), .bl (decide (26 = i))] ++ [.bl (decide (27 = i)), .bl (decide (28 = i)), .bl (decide (29 = i))]))) p9 = some (.lst [.bl (decide (0 = i)), .bl (decide (1 = i)), .bl (decide (2 = i)), .bl (decide (3 = i)), .bl (decide (4 = i)), .bl (decide (5 = i)), .bl (decide (6 = i)), .bl (decide (7 = i)), .bl (decide (8 = i)), .bl (decide (9 = i)), .bl (decide (10 = i)), .bl (decide (11 = i)), .bl (decide (12 = i)), .bl (decide (13 = i)), .bl (decide (14 = i)), .bl (decide (15 = i)), .bl (decide (16 = i)), .bl (decide (17 = i)), .bl (decide (18 = i)), .bl (decide (19 = i)), .bl (decide (20 = i)), .bl (decide (21 = i)), .bl (decide (22 = i)), .bl (decide (23 = i)), .bl (decide (24 = i)), .bl (decide (25 = i)), .bl (decide (26 = i)), .bl (decide (27 = i)), .bl (decide (28 = i)), .bl (decide (29 = i))]) := by
      rw [upd_same]
      rfl
    generalize upd H18 p9 (.lst ([.bl (decide (0 = i)), .bl (decide (1 = i)), .bl (decide (2 = i)), .bl (decide (3 = i)), .bl (decide (4 = i)), .bl (decide (5 = i)), .bl (decide (6 = i)), .bl (decide (7 = i)), .bl (decide (8 = i)), .bl (decide (9 = i)), .bl (decide (10 = i)), .bl (decide (11 = i)), .bl (decide (12 = i)), .bl (decide (13 = i)), .bl (decide (14 = i)), .bl (decide (15 = i)), .bl (decide (16 = i)), .bl (decide (17 = i)), .bl (decide (18 = i)), .bl (decide (19 = i)), .bl (decide (20 = i)), .bl (decide (21 = i)), .bl (decide (22 = i)), .bl (decide (23 = i)), .bl (decide (24 = i)), .bl (decide (25 = i)), .bl (decide (26 = i))] ++ [.bl (decide (27 = i)), .bl (decide (28 = i)), .bl (decide (29 = i))])) = H19 at S18 hf ⊢
    have Z19 := Z18.trans S18
    refine ⟨_, rfl, _, rfl, a, C i, d, .ref (C 30), _, _, rfl, N.ex i hi, ⟨Z19 _ _ y, fun dd e => ⟨(z dd e).choose, Z19 _ _ (z dd e).choose_spec⟩⟩, .own _, N.own i 30 hi (by decide), ?_⟩
    refine ⟨by show 1 ≤ sizeLine; decide, fun l10 m10 => ?_⟩
    have S19 : Same H19 (upd H19 l10 (.lst [.bl (decide (30 = i))])) := Same.new m10
    have hn : (upd H19 l10 (.lst [.bl (decide (30 = i))])) l10 = some (.lst [.bl (decide (30 = i))]) := upd_same
    generalize upd H19 l10 (.lst [.bl (decide (30 = i))]) = H20 at S19 hn ⊢
    have Z20 := Z19.trans S19
    have hf := S19 _ _ hf
    refine ⟨p9, l10, _, _, rfl, rfl, hf, hn, (by show 31 ≤ sizeLine; decide), fun p10 g10 _ => ?_⟩
    exact q p10 _ (Z20.trans (Same.new g10)) (by rw [upd_same]; rfl)
abbrev s__law_bases : Stmt := top 40
theorem sc__law_bases : FnScope ["_law_thing", "_law_found"] ["_law_thing"] (defScope s__law_bases) := ⟨rfl, rfl, rfl, by decide +kernel, rfl, by decide +kernel, by decide +kernel⟩
theorem ok__law_bases {C : Nat → Addr} (h : Has K mg "_law_bases" s__law_bases ["_law_thing"]) (T : Txt30 mg) (N : Kit30 K C) : Ok P w K mg base 1 "_law_bases" ["_law_thing"] (spBases C) := by
  obtain ⟨f, fd, g, b, F⟩ := h
  refine ⟨f, fd, g, F.kp, b, F.ok sc__law_bases (fun vs H Q E h => ?_) (fun cdv A outer s H0 vs Q E hr h => ?_)⟩
  · obtain ⟨a, i, held, rfl, _⟩ := h
    rfl
  · obtain ⟨a, i, held, rfl, hi, x, q⟩ := h
    obtain ⟨d, y, z⟩ := xat_any x
    refine ⟨_, (pss_cons (ps_set (i := 1) sc__law_bases.nd rfl (Or.inl rfl) (pe_lst (pa_cons (pe_callB call_isX (by rfl) T.isinstance (by decide +kernel) (pa_cons (pv 0) (pa_cons (pe_bltn (v := .ty "ValueError") (by rfl) T.ValueError (by decide +kernel) rfl) pa_nil))) (pa_cons (pe_callB call_isX (by rfl) T.isinstance (by decide +kernel) (pa_cons (pv 0) (pa_cons (pe_bltn (v := .ty "LookupError") (by rfl) T.LookupError (by decide +kernel) rfl) pa_nil))) (pa_cons (pe_callB call_isX (by rfl) T.isinstance (by decide +kernel) (pa_cons (pv 0) (pa_cons (pe_bltn (v := .ty "ArithmeticError") (by rfl) T.ArithmeticError (by decide +kernel) rfl) pa_nil))) pa_nil)))))
      (pss_one (ps_ret (pe_op op_catS (pv 1) (pe_lst (pa_cons (pe_callB call_isX (by rfl) T.isinstance (by decide +kernel) (pa_cons (pv 0) (pa_cons (pe_bltn (v := .ty "RuntimeError") (by rfl) T.RuntimeError (by decide +kernel) rfl) pa_nil))) (pa_cons (pe_callB call_isX (by rfl) T.isinstance (by decide +kernel) (pa_cons (pv 0) (pa_cons (pe_bltn (v := .ty "OverflowError") (by rfl) T.OverflowError (by decide +kernel) rfl) pa_nil))) pa_nil))))))), ?_⟩
    have Z0 : Same H0 H0 := Same.refl H0
    refine ⟨_, rfl, a, C i, d, .ty "ValueError", _, _, rfl, N.ex i hi, ⟨Z0 _ _ y, fun dd e => ⟨(z dd e).choose, Z0 _ _ (z dd e).choose_spec⟩⟩, .ty _, N.built i 0 hi (by decide), ?_⟩
    refine ⟨_, rfl, a, C i, d, .ty "LookupError", _, _, rfl, N.ex i hi, ⟨Z0 _ _ y, fun dd e => ⟨(z dd e).choose, Z0 _ _ (z dd e).choose_spec⟩⟩, .ty _, N.built i 1 hi (by decide), ?_⟩
    refine ⟨_, rfl, a, C i, d, .ty "ArithmeticError", _, _, rfl, N.ex i hi, ⟨Z0 _ _ y, fun dd e => ⟨(z dd e).choose, Z0 _ _ (z dd e).choose_spec⟩⟩, .ty _, N.built i 2 hi (by decide), ?_⟩
    refine ⟨by show 3 ≤ sizeLine; decide, fun l0 m0 => ?_⟩
    have S0 : Same H0 (upd H0 l0 (.lst [.bl (isB i 0), .bl (isB i 1), .bl (isB i 2)])) := Same.new m0
    have hn : (upd H0 l0 (.lst [.bl (isB i 0), .bl (isB i 1), .bl (isB i 2)])) l0 = some (.lst [.bl (isB i 0), .bl (isB i 1), .bl (isB i 2)]) := upd_same
    generalize upd H0 l0 (.lst [.bl (isB i 0), .bl (isB i 1), .bl (isB i 2)]) = H1 at S0 hn ⊢
    have Z1 := Z0.trans S0
    have hf := hn
    refine ⟨_, rfl, _, rfl, a, C i, d, .ty "RuntimeError", _, _, rfl, N.ex i hi, ⟨Z1 _ _ y, fun dd e => ⟨(z dd e).choose, Z1 _ _ (z dd e).choose_spec⟩⟩, .ty _, N.built i 3 hi (by decide), ?_⟩
    refine ⟨_, rfl, a, C i, d, .ty "OverflowError", _, _, rfl, N.ex i hi, ⟨Z1 _ _ y, fun dd e => ⟨(z dd e).choose, Z1 _ _ (z dd e).choose_spec⟩⟩, .ty _, N.built i 4 hi (by decide), ?_⟩
    refine ⟨by show 2 ≤ sizeLine; decide, fun l1 m1 => ?_⟩
    have S1 : Same H1 (upd H1 l1 (.lst [.bl (isB i 3), .bl (isB i 4)])) := Same.new m1
    have hn : (upd H1 l1 (.lst [.bl (isB i 3), .bl (isB i 4)])) l1 = some (.lst [.bl (isB i 3), .bl (isB i 4)]) := upd_same
    generalize upd H1 l1 (.lst [.bl (isB i 3), .bl (isB i 4)]) = H2 at S1 hn ⊢
    have Z2 := Z1.trans S1
    have hf := S1 _ _ hf
    refine ⟨l0, l1, _, _, rfl, rfl, hf, hn, (by show 5 ≤ sizeLine; decide), fun p1 g1 _ => ?_⟩
    exact q p1 _ (Z2.trans (Same.new g1)) (by rw [upd_same]; rfl)
end
theorem vne {i j : Int} (h : i ≠ j) : ¬ decide (V.int i = V.int j) = true := fun z => h (by injection of_decide_eq_true z)
theorem veq {i j : Int} (h : i = j) : decide (V.int i = V.int j) = true := decide_eq_true (by rw [h])
theorem sne {i j : Str} (h : i ≠ j) : ¬ decide (V.str i = V.str j) = true := fun z => h (by injection of_decide_eq_true z)
theorem of_veq {i j : Int} (h : decide (V.int i = V.int j) = true) : i = j := by injection of_decide_eq_true h
theorem of_seq {i j : Str} (h : decide (V.str i = V.str j) = true) : i = j := by injection of_decide_eq_true h
theorem of_vne {i j : Int} (h : ¬ decide (V.int i = V.int j) = true) : i ≠ j := fun z => h (by rw [z]; exact decide_eq_true rfl)
theorem of_sne {i j : Str} (h : ¬ decide (V.str i = V.str j) = true) : i ≠ j := fun z => h (by rw [z]; exact decide_eq_true rfl)
theorem iteN {c A B : Prop} [Decidable c] (h : ¬ c) (q : B) : if c then A else B := by
  rw [if_neg h]
  exact q
theorem iteP {c A B : Prop} [Decidable c] (h : c) (q : A) : if c then A else B := by
  rw [if_pos h]
  exact q
theorem bnot_dec {c : Prop} [Decidable c] (h : (!decide c) = true) : ¬ c := fun z => by
  rw [decide_eq_true z] at h
  cases h
theorem bnot_dec' {c : Prop} [Decidable c] (h : ¬ (!decide c) = true) : c := by
  by_cases z : c
  · exact z
  · exact absurd (by rw [decide_eq_false z]; rfl) h
abbrev Txt (K : PySem.W.Frag) (mg : Str → Option Value) (aR : Addr) : Prop := Txt30 mg
section
variable {P : Program} {w : World} {K : PySem.W.Frag} {mg : Str → Option Value} {base : Heap} {aR : Addr}
abbrev s__law_pool : Stmt := top 33
theorem sc__law_pool : FnScope ["_law_script", "_law_k", "_law_cell", "_law_seed"] ["_law_script", "_law_k"] (defScope s__law_pool) := ⟨rfl, rfl, rfl, by decide +kernel, rfl, by decide +kernel, by decide +kernel⟩
def spPool (K : PySem.W.Frag) : Sp := fun vs H Q _ => ∃ (a : Addr) (ns : List Int) (k : Nat), vs = [.ref a, .int k] ∧ SqL K H a (ns.map V.int) ∧ k < 64 ∧ ∀ pp H', Same H H' → H pp = none → PoolAt H' pp → Q (.ref pp) H'
theorem seed_ok (c : Int) (k : Nat) (hk : k < 64) : Sm (7919 * (k : Int)) ∧ (c.fmod 2147483629 + 7919 * (k : Int) * (k : Int) + 31).natAbs < 2 ^ 64 := by
  have h1 := Int.fmod_nonneg_of_pos c (show (0 : Int) < 2147483629 by decide)
  have h2 := Int.fmod_lt_of_pos c (show (0 : Int) < 2147483629 by decide)
  have h3 : 0 ≤ 7919 * (k : Int) * (k : Int) := Int.mul_nonneg (by omega) (by omega)
  have h4 : 7919 * (k : Int) * (k : Int) ≤ 7919 * (k : Int) * 64 := Int.mul_le_mul_of_nonneg_left (by omega) (by omega)
  exact ⟨⟨by omega, by omega⟩, by omega⟩
theorem ok__law_pool (h : Has K mg "_law_pool" s__law_pool ["_law_script", "_law_k"]) (T : Txt K mg aR) : Ok P w K mg base 1 "_law_pool" ["_law_script", "_law_k"] (spPool K) := by
  obtain ⟨f, fd, g, b, F⟩ := h
  refine ⟨f, fd, g, F.kp, b, F.ok sc__law_pool (fun vs H Q E h => ?_) (fun cdv A outer s H vs Q E hr h => ?_)⟩
  · obtain ⟨a, ns, k, rfl, _⟩ := h
    rfl
  · obtain ⟨a, ns, k, rfl, hS, hk, q⟩ := h
    refine ⟨_, (pss_cons (ps_set (i := 2) sc__law_pool.nd rfl (Or.inl rfl) pe_int)
    (pss_cons (ps_if (pt_cmpR op_lt (pv 1) (pe_callB call_len_seq (by rfl) T.len (by decide +kernel) (pa_cons (pv 0) pa_nil)) (nomark _))
      (pss_one (ps_set (i := 2) sc__law_pool.nd rfl (Or.inl rfl) (pe_ix ix_list (pv 0) (pv 1) (fun _ _ => rfl))))
      pss_nil)
    (pss_cons (ps_set (i := 3) sc__law_pool.nd rfl (Or.inl rfl) (pe_op op_modN (pe_op op_pow (pe_op op_add (pe_op op_add (pe_op op_modN (pe_callTy call_int1 (by rfl) T.int (by decide +kernel) (pa_cons (pv 2) pa_nil)) pe_int) (pe_op op_mulS (pe_op op_mulS pe_int (pv 1)) (pv 1))) pe_int) pe_int) pe_int))
    (pss_cons (ps_if (pt_cmpR op_lt (pv 2) (pe_op op_pow pe_int pe_int) (nomark _))
      (pss_one (ps_set (i := 2) sc__law_pool.nd rfl (Or.inl rfl) pe_int))
      pss_nil)
    (pss_one (ps_ret (pe_lst (pa_cons (pv 2) (pa_cons (pv 3) pa_nil))))))))), ?_⟩
    have z0 : ∀ c : Int, 0 ≤ ((c.fmod 2147483629 + 7919 * (k : Int) * (k : Int) + 31) ^ (3 : Int).toNat).fmod 2147483647 := fun c => Int.fmod_nonneg_of_pos _ (by decide)
    have z1 : ∀ c : Int, ((c.fmod 2147483629 + 7919 * (k : Int) * (k : Int) + 31) ^ (3 : Int).toNat).fmod 2147483647 < 2147483647 := fun c => Int.fmod_lt_of_pos _ (by decide)
    refine ⟨_, rfl, _, rfl, _, _, rfl, .inl hS, _, _, rfl, rfl, _, rfl, ?_⟩
    refine ite2 (fun c1 => ?_) (fun c1 => ?_)
    · have hlt : k < ns.length := by
        have := of_decide_eq_true c1
        rw [List.length_map] at this
        omega
      refine ⟨_, rfl, _, rfl, a, _, _, .int ns[k], rfl, rfl, hS, atI_nat (by rw [List.getElem?_map, List.getElem?_eq_getElem hlt]; rfl), ?_⟩
      obtain ⟨k1, k2⟩ := seed_ok ns[k] k hk
      refine ⟨_, rfl, .inl ⟨_, rfl, _, _, rfl, rfl, n29, _, rfl, _, _, rfl, rfl, ⟨⟨by decide, by decide⟩, ⟨by omega, by omega⟩⟩, _, rfl, _, _, rfl, rfl, ⟨k1, ⟨by omega, by omega⟩⟩, _, _, rfl, rfl, _, _, rfl, rfl, _, _, rfl, rfl, ⟨by decide, by decide, k2⟩, _, _, rfl, rfl, n47, ?_⟩⟩
      refine ⟨_, rfl, _, _, rfl, rfl, ⟨by decide, by decide, by decide⟩, _, _, rfl, rfl, _, rfl, ?_⟩
      refine ite2 (fun c2 => ?_) (fun c2 => ?_)
      · refine ⟨_, rfl, _, rfl, (by show 2 ≤ sizeLine; decide), fun p hp => ?_⟩
        exact q p _ (Same.new hp) hp ⟨_, _, z0 ns[k], z1 ns[k], upd_same⟩
      · refine ⟨_, rfl, _, rfl, (by show 2 ≤ sizeLine; decide), fun p hp => ?_⟩
        exact q p _ (Same.new hp) hp ⟨_, _, z0 ns[k], z1 ns[k], upd_same⟩
    · obtain ⟨k1, k2⟩ := seed_ok 0 k hk
      refine ⟨_, rfl, .inl ⟨_, rfl, _, _, rfl, rfl, n29, _, rfl, _, _, rfl, rfl, ⟨⟨by decide, by decide⟩, ⟨by omega, by omega⟩⟩, _, rfl, _, _, rfl, rfl, ⟨k1, ⟨by omega, by omega⟩⟩, _, _, rfl, rfl, _, _, rfl, rfl, _, _, rfl, rfl, ⟨by decide, by decide, k2⟩, _, _, rfl, rfl, n47, ?_⟩⟩
      refine ⟨_, rfl, _, _, rfl, rfl, ⟨by decide, by decide, by decide⟩, _, _, rfl, rfl, _, rfl, ?_⟩
      refine ite2 (fun c2 => ?_) (fun c2 => ?_)
      · refine ⟨_, rfl, _, rfl, (by show 2 ≤ sizeLine; decide), fun p hp => ?_⟩
        exact q p _ (Same.new hp) hp ⟨_, _, z0 0, z1 0, upd_same⟩
      · refine ⟨_, rfl, _, rfl, (by show 2 ≤ sizeLine; decide), fun p hp => ?_⟩
        exact q p _ (Same.new hp) hp ⟨_, _, z0 0, z1 0, upd_same⟩
abbrev s__law_draw : Stmt := top 34
theorem sc__law_draw : FnScope ["_law_pool_here", "_law_many", "_law_digit"] ["_law_pool_here", "_law_many"] (defScope s__law_draw) := ⟨rfl, rfl, rfl, by decide +kernel, rfl, by decide +kernel, by decide +kernel⟩
def spDraw : Sp := fun vs H Q _ => ∃ (pp : Addr) (n : Int), vs = [.ref pp, .int n] ∧ 0 < n ∧ Sm n ∧ PoolAt H pp ∧ ∀ d H', 0 ≤ d → d < n → PoolAt H' pp → Keep pp H H' → Q (.int d) H'
theorem ok__law_draw (h : Has K mg "_law_draw" s__law_draw ["_law_pool_here", "_law_many"]) (T : Txt K mg aR) : Ok P w K mg base 1 "_law_draw" ["_law_pool_here", "_law_many"] spDraw := by
  obtain ⟨f, fd, g, b, F⟩ := h
  refine ⟨f, fd, g, F.kp, b, F.ok sc__law_draw (fun vs H Q E h => ?_) (fun cdv A outer s H vs Q E hr h => ?_)⟩
  · obtain ⟨pp, n, rfl, _⟩ := h
    rfl
  · obtain ⟨pp, n, rfl, hn, sn, ⟨c, z, z0, z1, hp⟩, q⟩ := h
    have hn0 : n ≠ 0 := by omega
    refine ⟨_, (pss_cons (ps_if (pt_cmpR op_gt (pe_ix ix_list (pv 0) pe_int (fun _ _ => rfl)) pe_int (nomark _))
      (pss_cons (ps_set (i := 2) sc__law_draw.nd rfl (Or.inl rfl) (pe_op op_modN (pe_callTy call_int1 (by rfl) T.int (by decide +kernel) (pa_cons (pe_ix ix_list (pv 0) pe_int (fun _ _ => rfl)) pa_nil)) (pv 1)))
      (pss_cons (ps_asg (pe_op op_divS (pe_ix ix_list (pv 0) pe_int (fun _ _ => rfl)) (pv 1)) (pg_sub (pv 0) pe_int set_list))
      (pss_one (ps_ret (pv 2)))))
      pss_nil)
    (pss_cons (ps_asg (pe_op op_modN (pe_callTy call_int1 (by rfl) T.int (by decide +kernel) (pa_cons (pe_op op_add (pe_op op_mulS (pe_ix ix_list (pv 0) pe_int (fun _ _ => rfl)) pe_int) pe_int) pa_nil)) pe_int) (pg_sub (pv 0) pe_int set_list))
    (pss_one (ps_ret (pe_op op_modN (pe_op op_divS (pe_op op_modN (pe_callTy call_int1 (by rfl) T.int (by decide +kernel) (pa_cons (pe_op op_mulS (pe_ix ix_list (pv 0) pe_int (fun _ _ => rfl)) (pe_ix ix_list (pv 0) pe_int (fun _ _ => rfl))) pa_nil)) pe_int) pe_int) (pv 1)))))), ?_⟩
    refine ⟨_, rfl, pp, _, _, _, rfl, rfl, SqL.of hp, atI0, _, _, rfl, rfl, _, rfl, ?_⟩
    refine ite2 (fun c1 => ?_) (fun c1 => ?_)
    · refine ⟨_, rfl, pp, _, _, _, rfl, rfl, SqL.of hp, atI0, .inl ⟨_, rfl, _, rfl, _, _, rfl, rfl, hn0, ?_⟩⟩
      refine ⟨_, rfl, pp, _, _, _, rfl, rfl, SqL.of hp, atI0, _, rfl, _, _, rfl, rfl, ⟨hn0, sn⟩, _, rfl, pp, _, _, 0, rfl, rfl, hp, rfl, ?_⟩
      refine ⟨_, rfl, ?_⟩
      exact q _ _ (Int.fmod_nonneg_of_pos _ hn) (Int.fmod_lt_of_pos _ hn) ⟨_, z, z0, z1, upd_same⟩ fun b o e nb => by
        rw [upd_ne nb]
        exact e
    · have s0 : 0 ≤ (z * 48271 + 11).fmod 2147483647 := Int.fmod_nonneg_of_pos _ (by decide)
      have s1 : (z * 48271 + 11).fmod 2147483647 < 2147483647 := Int.fmod_lt_of_pos _ (by decide)
      refine ⟨_, rfl, pp, _, _, _, rfl, rfl, SqL.of hp, atI1, _, _, rfl, rfl, ⟨⟨by omega, by omega⟩, ⟨by decide, by decide⟩⟩, _, _, rfl, rfl, .inl ⟨_, rfl, _, _, rfl, rfl, n47, _, rfl, pp, _, _, 1, rfl, rfl, hp, rfl, ?_⟩⟩
      have e2 : (upd H pp (.lst ([V.int c, V.int z].set 1 (.int ((z * 48271 + 11).fmod 2147483647))))) pp = some (.lst [V.int c, V.int ((z * 48271 + 11).fmod 2147483647)]) := upd_same
      refine ⟨_, rfl, pp, _, _, _, rfl, rfl, SqL.of e2, atI1, _, rfl, pp, _, _, _, rfl, rfl, SqL.of e2, atI1, _, _, rfl, rfl, ⟨⟨by omega, by omega⟩, ⟨by omega, by omega⟩⟩, .inl ⟨_, rfl, _, _, rfl, rfl, n29, _, _, rfl, rfl, ⟨by decide, ⟨by decide, by decide⟩⟩, _, rfl, _, _, rfl, rfl, hn0, ?_⟩⟩
      exact q _ _ (Int.fmod_nonneg_of_pos _ hn) (Int.fmod_lt_of_pos _ hn) ⟨_, _, s0, s1, e2⟩ fun b o e nb => by
        rw [upd_ne nb]
        exact e
abbrev s__law_choose : Stmt := top 35
theorem sc__law_choose : FnScope ["_law_pool_here", "_law_items"] ["_law_pool_here", "_law_items"] (defScope s__law_choose) := ⟨rfl, rfl, rfl, by decide +kernel, rfl, by decide +kernel, by decide +kernel⟩
def spChoose (K : PySem.W.Frag) : Sp := fun vs H Q _ => ∃ (pp l : Addr) (xs : List V), vs = [.ref pp, .ref l] ∧ SqL K H l xs ∧ l ≠ pp ∧ 0 < xs.length ∧ xs.length < 1000000 ∧ PoolAt H pp ∧ ∀ v H', v ∈ xs → PoolAt H' pp → Keep pp H H' → Q v H'
theorem ok__law_choose (h : Has K mg "_law_choose" s__law_choose ["_law_pool_here", "_law_items"]) (T : Txt K mg aR) (O__law_draw : Ok P w K mg base 1 "_law_draw" ["_law_pool_here", "_law_many"] spDraw) : Ok P w K mg base 2 "_law_choose" ["_law_pool_here", "_law_items"] (spChoose K) := by
  obtain ⟨f, fd, g, b, F⟩ := h
  refine ⟨f, fd, g, F.kp, b, F.ok sc__law_choose (fun vs H Q E h => ?_) (fun cdv A outer s H vs Q E hr h => ?_)⟩
  · obtain ⟨pp, l, xs, rfl, _⟩ := h
    rfl
  · obtain ⟨pp, l, xs, rfl, hS, hne, hl0, hl1, hP, q⟩ := h
    refine ⟨_, (pss_one (ps_ret (pe_ix ix_list (pv 1) (pe_cO O__law_draw (hr.mono (by decide)) pass0 rfl (pa_cons (pv 0) (pa_cons (pe_callB call_len_seq (by rfl) T.len (by decide +kernel) (pa_cons (pv 1) pa_nil)) pa_nil))) (fun _ _ => rfl)))), ?_⟩
    refine ⟨_, rfl, _, rfl, _, rfl, l, xs, rfl, .inl hS, pp, _, rfl, by omega, ⟨by omega, by omega⟩, hP, fun d H' d0 d1 P' k' => ?_⟩
    have hj : d.toNat < xs.length := by omega
    refine ⟨l, xs, d, xs[d.toNat], rfl, rfl, k'.seq hne hS, ?_, q _ H' (List.getElem_mem hj) P' k'⟩
    exact at_of (j := d.toNat) (by omega) (List.getElem?_eq_getElem hj)
end
/-! ### what is held -/
/-- one of the nine values that the law hands over -/
def HeldAt (H : Hp) (v : V) : Prop := v = .non ∨ (∃ i : Int, v = .int i ∧ i.natAbs < 2 ^ 100) ∨ v = .str "x" ∨ v = .bl true ∨ (∃ t, v = .ref t ∧ H t = some (.tup [.int 0, .int 1])) ∨ (∃ t, v = .ref t ∧ H t = some (.lst [.int 3])) ∨ ∃ t, v = .ref t ∧ H t = some (.dK [])
theorem HeldAt.same {H H' : Hp} {v : V} (h : HeldAt H v) (s : Same H H') : HeldAt H' v := by
  rcases h with h | h | h | h | ⟨t, h, z⟩ | ⟨t, h, z⟩ | ⟨t, h, z⟩
  · exact .inl h
  · exact .inr (.inl h)
  · exact .inr (.inr (.inl h))
  · exact .inr (.inr (.inr (.inl h)))
  · exact .inr (.inr (.inr (.inr (.inl ⟨t, h, s _ _ z⟩))))
  · exact .inr (.inr (.inr (.inr (.inr (.inl ⟨t, h, s _ _ z⟩)))))
  · exact .inr (.inr (.inr (.inr (.inr (.inr ⟨t, h, s _ _ z⟩)))))
theorem HeldAt.keep {pp : Addr} {H H' : Hp} {v : V} (h : HeldAt H v) (P : PoolAt H pp) (s : Keep pp H H') : HeldAt H' v := by
  obtain ⟨c, z, _, _, p⟩ := P
  have no : ∀ {t : Addr} {o : HO}, H t = some o → (∀ c z : Int, o ≠ .lst [.int c, .int z]) → t ≠ pp := fun e n r => n c z (by rw [r, p] at e; exact (Option.some.inj e).symm)
  rcases h with h | h | h | h | ⟨t, h, e⟩ | ⟨t, h, e⟩ | ⟨t, h, e⟩
  · exact .inl h
  · exact .inr (.inl h)
  · exact .inr (.inr (.inl h))
  · exact .inr (.inr (.inr (.inl h)))
  · exact .inr (.inr (.inr (.inr (.inl ⟨t, h, s _ _ e (no e fun _ _ z => nomatch z)⟩))))
  · exact .inr (.inr (.inr (.inr (.inr (.inl ⟨t, h, s _ _ e (no e fun _ _ z => nomatch z)⟩)))))
  · exact .inr (.inr (.inr (.inr (.inr (.inr ⟨t, h, s _ _ e (no e fun _ _ z => nomatch z)⟩)))))
/-- its data, and that they can be shown -/
theorem HeldAt.data {K : PySem.W.Frag} {H : Hp} {v : V} (h : HeldAt H v) : ∃ d : PyData, d.showable = true ∧ d.depth ≤ 3 ∧ d.shown.length ≤ 200 ∧ ∀ H', Same H H' → De K H' v d := by
  rcases h with rfl | ⟨i, rfl, hi⟩ | rfl | rfl | ⟨t, rfl, z⟩ | ⟨t, rfl, z⟩ | ⟨t, rfl, z⟩
  · exact ⟨.none, rfl, by decide, by decide +kernel, fun H' s => .dp .non rfl⟩
  · have lg : i.natAbs.log2 < 100 := PySem.Flt.log2_lt_of (by decide) hi
    refine ⟨.int i, decide_eq_true (Nat.lt_of_lt_of_le lg (by decide)), by simp [PyData.depth], ?_, fun H' s => .dp (.int i) rfl⟩
    have e := PySem.int_text_length_le (a := i) (k := 100) (by decide) lg
    show (Str.ofString (toString i)).length ≤ 200
    rw [PySem.ofString_length]
    omega
  · exact ⟨.str "x", rfl, by decide, by decide +kernel, fun H' s => .dp (.str _) rfl⟩
  · exact ⟨.bool true, rfl, by decide, by decide +kernel, fun H' s => .dp (.bl _) rfl⟩
  · exact ⟨.tuple [.int 0, .int 1], by decide +kernel, by decide +kernel, by decide +kernel, fun H' s => .dp (.tup (SqT.of (s _ _ z)) (.cons (.int _) (.cons (.int _) .nil))) rfl⟩
  · exact ⟨.list [.int 3], by decide +kernel, by decide +kernel, by decide +kernel, fun H' s => .dp (.lst (SqL.of (s _ _ z)) (.cons (.int _) .nil)) rfl⟩
  · exact ⟨.dict [], rfl, by decide +kernel, by decide +kernel, fun H' s => .dic (s _ _ z)⟩
/-! ### lists of truth values and texts, compared -/
section
variable {P : Program} {w : World} {K : PySem.W.Frag} {mg : Str → Option Value} {base : Heap}
theorem dpBools {H : Hp} : ∀ xs : List Bool, DpAll K H (xs.map V.bl) (xs.map PyData.bool)
  | [] => .nil
  | x :: xs => .cons (.bl x) (dpBools xs)
theorem layBools : ∀ xs : List Bool, PyData.canLayAll0 (xs.map PyData.bool) = true
  | [] => rfl
  | x :: xs => by
    rw [List.map_cons, PyData.canLayAll0, layBools xs]
    rfl
theorem depthBools : ∀ xs : List Bool, PyData.depthAll (xs.map PyData.bool) ≤ 1
  | [] => Nat.zero_le _
  | x :: xs => by
    rw [List.map_cons, PyData.depthAll]
    exact Nat.max_le.mpr ⟨by simp [PyData.depth], depthBools xs⟩
theorem shapedBools (xs : List Bool) : SeqAt.shaped (.list (xs.map PyData.bool)) = true := by
  have h := depthBools xs
  unfold SeqAt.shaped
  rw [PyData.canLay0, layBools xs, PyData.depth, Bool.true_and]
  exact decide_eq_true (by omega)
theorem eqvBools (xs : List Bool) : PyData.eqv (.list (xs.map PyData.bool)) (.list (xs.map PyData.bool)) = true := PySem.SeqAt.eqv_refl _ (by rw [PyData.canLay0, layBools xs])
theorem snocB {m : Nat} {f : Nat → Bool} : ((List.range m).map fun k => V.bl (f k)) ++ [V.bl (f m)] = (List.range (m + 1)).map fun k => V.bl (f k) := by
  rw [List.range_succ, List.map_append]
  rfl
theorem lcTurn {H0 H' : Hp} {D : Addr} {m : Nat} {f : Nat → Bool} {b : Bool} (u : H0 D = none) (s : Same H0 H') (h : H' D = some (.lst ((List.range m).map fun k => V.bl (f k)))) (hm : m < 1000) (e : b = f m) :
    ∃ acc, H' D = some (.lst acc) ∧ acc.length < sizeLine ∧ (Same H0 (upd H' D (.lst (acc ++ [.bl b]))) ∧ (upd H' D (.lst (acc ++ [.bl b]))) D = some (.lst ((List.range (m + 1)).map fun k => V.bl (f k)))) := by
  refine ⟨_, h, by rw [List.length_map, List.length_range]; exact Nat.lt_trans hm (by decide), fun b' o e' => ?_, ?_⟩
  · rw [upd_ne (ne_of_none e' u)]
    exact s b' o e'
  · rw [upd_same, e, snocB]
theorem dueAt {j : Nat} (hj : j < 31) : atI (dueL.map V.int) (j : Int) = some (.int (dueL.getD j 0)) := atI_nat (by
  rw [List.getElem?_map, List.getD_eq_getElem?_getD, List.getElem?_eq_getElem (show j < dueL.length from hj)]
  rfl)
theorem decInt {i j : Int} : decide (V.int i = V.int j) = decide (i = j) := by
  by_cases h : i = j
  · rw [decide_eq_true h, decide_eq_true (by rw [h])]
  · rw [decide_eq_false h, decide_eq_false fun z => h (by injection z)]
theorem decNat {i j : Nat} : decide (V.int (i : Int) = V.int (j : Int)) = decide (i = j) := by
  rw [decInt]
  by_cases h : i = j
  · rw [decide_eq_true h, decide_eq_true (by rw [h])]
  · rw [decide_eq_false h, decide_eq_false fun z => h (by omega)]
theorem dpB {H : Hp} {p : Addr} {n : Nat} {f : Nat → Bool} (h : H p = some (.lst ((List.range n).map fun k => V.bl (f k)))) : Dp K H (.ref p) (.list (((List.range n).map f).map PyData.bool)) :=
  .lst (SqL.of (by rw [h]; rw [List.map_map]; rfl)) (dpBools _)
def spLaw (K : PySem.W.Frag) : Sp := fun vs H Q _ => ∃ (a : Addr) (ns : List Int), vs = [.ref a] ∧ SqL K H a (ns.map V.int) ∧ ns.length ≤ 63 ∧ ∀ H', Q (.bl true) H'
theorem Keep.same_of {pp : Addr} {H H1 H2 : Hp} (k : Keep pp H1 H2) (s : Same H H1) (n : H pp = none) : Same H H2 := fun b o e => k b o (s b o e) (ne_of_none e n)
abbrev s_law : Stmt := top 41
abbrev NL : List Str := ["_law_script", "_law_due", "_law_k", "_law_pool_here", "_law_held", "_law_made_here", "_law_at", "_law_bases_here", "_law_spot"]
theorem sc_law : FnScope NL ["_law_script"] (defScope s_law) := ⟨rfl, rfl, rfl, by decide +kernel, rfl, by decide +kernel, by decide +kernel⟩
abbrev teB (K : PySem.W.Frag) : TE := tOrV (tOp rEq (tVar 8) (tOp (rIxL K) (tVar 1) (tVar 6))) (tAndV (tOp rEq (tVar 8) (tC (.int 2))) (tOp rEq (tOp (rIxL K) (tVar 1) (tVar 6)) (tC (.int 4))))
abbrev teK : TE := tOp rEq (tVar 8) (tVar 6)
theorem okG_law {C : Nat → Addr} {f : Addr} {fd : FuncData} (F : Fun K "law" "law" s_law f fd) (T : Txt30 mg) (L : Looks30 K C)
    (O__law_pool : Ok P w K mg base 1 "_law_pool" ["_law_script", "_law_k"] (spPool K)) (O__law_draw : Ok P w K mg base 1 "_law_draw" ["_law_pool_here", "_law_many"] spDraw) (O__law_choose : Ok P w K mg base 2 "_law_choose" ["_law_pool_here", "_law_items"] (spChoose K))
    (O__law_made : Ok P w K mg base 3 "_law_made" ["_law_held"] (spMade C)) (O__law_named : Ok P w K mg base 3 "_law_named" ["_law_held"] (spMade C)) (O__law_fields : Ok P w K mg base 1 "_law_fields" ["_law_made_here"] (spFields C))
    (O__law_kinds : Ok P w K mg base 1 "_law_kinds" ["_law_e"] (spKinds C)) (O__law_bases : Ok P w K mg base 1 "_law_bases" ["_law_thing"] (spBases C)) : FnG P w K mg base CX0 6 f fd ["_law_script"] (spLaw K) := by
  refine Fun.okG F sc_law (fun vs H Q E h => ?_) (fun cdv A outer s H vs Q E hG hr h => ?_)
  · obtain ⟨a, ns, rfl, _⟩ := h
    rfl
  · obtain ⟨a, ns, rfl, hS, hlen, q⟩ := h
    refine ⟨_, pss_cons (ps_set (i := 1) sc_law.nd rfl (Or.inr rfl) (pe_op op_catS (pe_op op_catS (pe_op op_catS (pe_op op_repS (pe_lst (pa_cons pe_int pa_nil)) pe_int) (pe_lst (pa_cons pe_int (pa_cons pe_int (pa_cons pe_int pa_nil))))) (pe_op op_repS (pe_lst (pa_cons pe_int pa_nil)) pe_int)) (pe_lst (pa_cons pe_int pa_nil))))
      (pss_cons (ps_for PassesOwn.never rfl (pi_range1 rfl T.range (pa_cons (pe_callB (call_max2 rfl) (by rfl) T.max (by decide +kernel) (pa_cons pe_int (pa_cons (pe_callB (call_min2 rfl) (by rfl) T.min (by decide +kernel) (pa_cons (pe_callB call_len_seq (by rfl) T.len (by decide +kernel) (pa_cons (pv 0) pa_nil)) (pa_cons pe_int pa_nil))) pa_nil))) pa_nil)) (pg_name (i := 2) sc_law.nd rfl (.inl rfl))
        (pss_cons (ps_set (i := 3) sc_law.nd rfl (Or.inl rfl) (pe_cO O__law_pool (hr.mono (by decide)) pass0 rfl (pa_cons (pv 0) (pa_cons (pv 2) pa_nil))))
        (pss_cons (ps_set (i := 4) sc_law.nd rfl (Or.inl rfl) (pe_cO O__law_choose (hr.mono (by decide)) pass0 rfl (pa_cons (pv 3) (pa_cons (pe_lst (pa_cons pe_non (pa_cons pe_int (pa_cons (pe_un un_neg pe_int) (pa_cons pe_str (pa_cons (pe_tup (pa_cons pe_int (pa_cons pe_int pa_nil))) (pa_cons (pe_lst (pa_cons pe_int pa_nil)) (pa_cons pe_dnewK (pa_cons pe_bl (pa_cons (pe_cO O__law_draw (hr.mono (by decide)) pass0 rfl (pa_cons (pv 3) (pa_cons (pe_op op_pow pe_int pe_int) pa_nil))) pa_nil)))))))))) pa_nil))))
        (pss_one (ps_for PassesOwn.never rfl (pi_list (pe_lst (pa_cons (pe_cO O__law_made (hr.mono (by decide)) pass0 rfl (pa_cons (pv 4) pa_nil)) (pa_cons (pe_cO O__law_named (hr.mono (by decide)) pass0 rfl (pa_cons (pv 4) pa_nil)) pa_nil)))) (pg_name (i := 5) sc_law.nd rfl (.inl rfl))
          (pss_cons (ps_if (pt_cmpR op_ne (pe_callB (call_repr hG hr.units) (by rfl) T.repr (by decide +kernel) (pa_cons (pe_cO O__law_fields (hr.mono (by decide)) pass0 rfl (pa_cons (pv 5) pa_nil)) pa_nil)) (pe_callB (call_repr hG hr.units) (by rfl) T.repr (by decide +kernel) (pa_cons (pe_op op_repS (pe_lst (pa_cons (pv 4) pa_nil)) pe_int) pa_nil)) (nomark _)) (pss_one (ps_ret pe_bl)) pss_nil)
          (pss_cons (ps_if (pt_cmpR (op_neD hr.units) (pe_lst (pa_cons (pe_xfd (pe_ix ix_list (pv 5) pe_int (fun _ _ => rfl))) (pa_cons (pe_xfd (pe_ix ix_list (pv 5) pe_int (fun _ _ => rfl))) (pa_cons (pe_xfd (pe_ix ix_list (pv 5) pe_int (fun _ _ => rfl))) pa_nil)))) (pe_op op_repS (pe_lst (pa_cons pe_str pa_nil)) pe_int) (nomark _)) (pss_one (ps_ret pe_bl)) pss_nil)
          (pss_one (ps_for PassesOwn.never rfl (pi_range1 rfl T.range (pa_cons pe_int pa_nil)) (pg_name (i := 6) sc_law.nd rfl (.inr rfl))
            (pss_cons (ps_setLc (i := 7) (own := [("_law_spot", 8)]) (g := gName 8) (tt := tYes) (te := teB K) rfl sc_law.nd rfl rfl (sw_true rfl rfl rfl (by decide +kernel)) (pi_range1 rfl T.range (pa_cons pe_int pa_nil)) (blkOk_by (N := NL) (sc := defScope s_law) (by decide +kernel)) (fun _ _ _ _ _ => pg_name (i := 8) sc_law.nd rfl (Or.inl rfl)) (fun _ _ _ _ _ => pts_nil)
              (fun _ _ _ _ _ => pe_or (pe_cmpR op_eq (pv 8) (pe_ix ix_list (pv 1) (pv 6) (fun _ _ => rfl)) (nomark _)) (pe_one (pe_and (pe_cmpR op_eq (pv 8) pe_int (nomark _)) (pe_one (pe_cmpR op_eq (pe_ix ix_list (pv 1) (pv 6) (fun _ _ => rfl)) pe_int (nomark _)))))))
            (pss_one (ps_if (PW.pt (pw_or (pt_cmpR (op_neD hr.units) (pe_cO O__law_kinds (hr.mono (by decide)) pass0 rfl (pa_cons (pe_ix ix_list (pv 5) (pv 6) (fun _ _ => rfl)) pa_nil))
                (pe_lc (own := [("_law_spot", 8)]) (g := gName 8) (tt := tYes) (te := teK) rfl sc_law.nd (pi_range1 rfl T.range (pa_cons pe_int pa_nil)) (blkOk_by (N := NL) (sc := defScope s_law) (by decide +kernel)) (fun _ _ _ _ _ => pg_name (i := 8) sc_law.nd rfl (Or.inl rfl)) (fun _ _ _ _ _ => pts_nil) (fun _ _ _ _ _ => pe_cmpR op_eq (pv 8) (pv 6) (nomark _))) (nomark _))
                (pw_or1 (pt_cmpR (op_neD hr.units) (pe_cO O__law_bases (hr.mono (by decide)) pass0 rfl (pa_cons (pe_ix ix_list (pv 5) (pv 6) (fun _ _ => rfl)) pa_nil)) (pv 7) (nomark _))))) (pss_one (ps_ret pe_bl)) pss_nil))))))))))))
      (pss_one (ps_ret pe_bl))), ?_⟩
    -- due
    refine ⟨by show 1 ≤ sizeLine; decide, fun l0 m0 => ?_⟩
    refine ⟨l0, _, _, rfl, rfl, upd_same, by decide, by decide, by decide, fun p0 g0 _ => ?_⟩
    have S0 : Same H (upd (upd H l0 (.lst [.int 0])) p0 (.lst (List.replicate (20 : Int).toNat [V.int 0]).flatten)) := (Same.new m0).trans (Same.new g0)
    have f0 : (upd (upd H l0 (.lst [.int 0])) p0 (.lst (List.replicate (20 : Int).toNat [V.int 0]).flatten)) p0 = some (.lst (List.replicate (20 : Int).toNat [V.int 0]).flatten) := upd_same
    generalize upd (upd H l0 (.lst [.int 0])) p0 (.lst (List.replicate (20 : Int).toNat [V.int 0]).flatten) = H1 at S0 f0 ⊢
    refine ⟨by show 3 ≤ sizeLine; decide, fun l1 m1 => ?_⟩
    refine ⟨p0, l1, _, _, rfl, rfl, (Same.new m1) _ _ f0, upd_same, by decide, fun p1 g1 _ => ?_⟩
    have S1 : Same H (upd (upd H1 l1 (.lst [.int 1, .int 2, .int 2])) p1 (.lst ((List.replicate (20 : Int).toNat [V.int 0]).flatten ++ [.int 1, .int 2, .int 2]))) := (S0.trans (Same.new m1)).trans (Same.new g1)
    have f1 : (upd (upd H1 l1 (.lst [.int 1, .int 2, .int 2])) p1 (.lst ((List.replicate (20 : Int).toNat [V.int 0]).flatten ++ [.int 1, .int 2, .int 2]))) p1 = some (.lst ((List.replicate (20 : Int).toNat [V.int 0]).flatten ++ [.int 1, .int 2, .int 2])) := upd_same
    generalize upd (upd H1 l1 (.lst [.int 1, .int 2, .int 2])) p1 (.lst ((List.replicate (20 : Int).toNat [V.int 0]).flatten ++ [.int 1, .int 2, .int 2])) = H2 at S1 f1 ⊢
    refine ⟨by show 1 ≤ sizeLine; decide, fun l2 m2 => ?_⟩
    refine ⟨l2, _, _, rfl, rfl, upd_same, by decide, by decide, by decide, fun p2 g2 _ => ?_⟩
    have S2 : Same H2 (upd (upd H2 l2 (.lst [.int 3])) p2 (.lst (List.replicate (7 : Int).toNat [V.int 3]).flatten)) := (Same.new m2).trans (Same.new g2)
    have f2 : (upd (upd H2 l2 (.lst [.int 3])) p2 (.lst (List.replicate (7 : Int).toNat [V.int 3]).flatten)) p2 = some (.lst (List.replicate (7 : Int).toNat [V.int 3]).flatten) := upd_same
    generalize upd (upd H2 l2 (.lst [.int 3])) p2 (.lst (List.replicate (7 : Int).toNat [V.int 3]).flatten) = H3 at S2 f2 ⊢
    refine ⟨p1, p2, _, _, rfl, rfl, S2 _ _ f1, f2, by decide, fun p3 g3 _ => ?_⟩
    refine ⟨by show 1 ≤ sizeLine; decide, fun l3 m3 => ?_⟩
    refine ⟨p3, l3, _, _, rfl, rfl, (Same.new m3) _ _ upd_same, upd_same, by decide, fun du g4 _ => ?_⟩
    have S5 := ((Same.new (o := .lst (((List.replicate (20 : Int).toNat [V.int 0]).flatten ++ [.int 1, .int 2, .int 2]) ++ (List.replicate (7 : Int).toNat [V.int 3]).flatten)) g3).trans (Same.new m3)).trans (Same.new (o := .lst ((((List.replicate (20 : Int).toNat [V.int 0]).flatten ++ [.int 1, .int 2, .int 2]) ++ (List.replicate (7 : Int).toNat [V.int 3]).flatten) ++ [.int 4])) g4)
    have f5 : ∀ G : Hp, (upd G du (.lst ((((List.replicate (20 : Int).toNat [V.int 0]).flatten ++ [.int 1, .int 2, .int 2]) ++ (List.replicate (7 : Int).toNat [V.int 3]).flatten) ++ [.int 4]))) du = some (.lst (dueL.map V.int)) := fun G => upd_same
    have f5 := f5 (upd (upd H3 p3 (.lst (((List.replicate (20 : Int).toNat [V.int 0]).flatten ++ [.int 1, .int 2, .int 2]) ++ (List.replicate (7 : Int).toNat [V.int 3]).flatten))) l3 (.lst [.int 4]))
    generalize upd (upd (upd H3 p3 (.lst (((List.replicate (20 : Int).toNat [V.int 0]).flatten ++ [.int 1, .int 2, .int 2]) ++ (List.replicate (7 : Int).toNat [V.int 3]).flatten))) l3 (.lst [.int 4])) du (.lst ((((List.replicate (20 : Int).toNat [V.int 0]).flatten ++ [.int 1, .int 2, .int 2]) ++ (List.replicate (7 : Int).toNat [V.int 3]).flatten) ++ [.int 4])) = H5 at S5 f5 ⊢
    have s5 : Same H H5 := (S1.trans S2).trans S5
    -- the runs over k
    refine ⟨_, rfl, a, _, rfl, .inl (s5.seq hS), _, _, rfl, _, _, rfl, ?_⟩
    rw [List.length_map]
    have hn : ∃ n : Int, n = (if (if (4 : Int) < (ns.length : Int) then (4 : Int) else (ns.length : Int)) > 1 then (if (4 : Int) < (ns.length : Int) then (4 : Int) else (ns.length : Int)) else 1) ∧ 0 ≤ n ∧ n ≤ 4 := by
      refine ⟨_, rfl, ?_, ?_⟩ <;> split <;> split <;> omega
    obtain ⟨n, en, n0, n1⟩ := hn
    rw [← en]
    refine ⟨n, rfl, by omega, by omega, for_range (n := n.toNat) (fun i σ H' => Same H5 H' ∧ ∃ v2 v3 v4 v5 v6 v7 v8 : Option V, σ = [some (.ref a), some (.ref du), v2, v3, v4, v5, v6, v7, v8])
      ⟨Same.refl H5, none, none, none, none, none, none, none, rfl⟩ ?_ ?_⟩
    · clear S5 S1 S2 f2 f1 f0 S0 m0 m1 m2 m3 g0 g1 g2 g3 g4
      rintro i σ H6 hi ⟨s6, v2, v3, v4, v5, v6, v7, v8, rfl⟩
      refine ⟨_, rfl, _, rfl, a, ns, i, by rw [Int.zero_add]; rfl, (s5.trans s6).seq hS, by omega, fun pp H7 s7 hpp P7 => ?_⟩
      refine ⟨_, rfl, _, rfl, ?_⟩
      refine ⟨by show 2 ≤ sizeLine; decide, fun t1 u1 => ?_⟩
      have k1 : Same H7 (upd H7 t1 (.tup [.int 0, .int 1])) := Same.new u1
      have d1 : (upd H7 t1 (.tup [.int 0, .int 1])) t1 = some (.tup [.int 0, .int 1]) := upd_same
      generalize upd H7 t1 (.tup [.int 0, .int 1]) = H8 at k1 d1 ⊢
      refine ⟨by show 1 ≤ sizeLine; decide, fun t2 u2 => ?_⟩
      have k2 : Same H8 (upd H8 t2 (.lst [.int 3])) := Same.new u2
      have d2 : (upd H8 t2 (.lst [.int 3])) t2 = some (.lst [.int 3]) := upd_same
      generalize upd H8 t2 (.lst [.int 3]) = H9 at k2 d2 ⊢
      intro t3 u3
      have k3 : Same H9 (upd H9 t3 (.dK [])) := Same.new u3
      have d3 : (upd H9 t3 (.dK [])) t3 = some (.dK []) := upd_same
      generalize upd H9 t3 (.dK []) = H10 at k3 d3 ⊢
      refine ⟨_, rfl, _, _, rfl, rfl, ⟨by decide, by decide, by decide⟩, pp, _, rfl, by decide, ⟨by decide, by decide⟩, ((P7.same k1).same k2).same k3, fun x H11 x0 x1 P11 k4 => ?_⟩
      have K10 := ((((Same.keep k1).trans (Same.keep k2)).trans (Same.keep k3)).trans k4 : Keep pp H7 H11)
      have e1 : H11 t1 = some (.tup [.int 0, .int 1]) := k4 _ _ (k3 _ _ (k2 _ _ d1)) (P7.ne u1)
      have e2 : H11 t2 = some (.lst [.int 3]) := k4 _ _ (k3 _ _ d2) ((P7.same k1).ne u2)
      have e3 : H11 t3 = some (.dK []) := k4 _ _ d3 (((P7.same k1).same k2).ne u3)
      refine ⟨by show 9 ≤ sizeLine; decide, fun l hl => ?_⟩
      have k5 : Same H11 (upd H11 l (.lst [.non, .int 0, .int (-1), .str "x", .ref t1, .ref t2, .ref t3, .bl true, .int x])) := Same.new hl
      have d5 : (upd H11 l (.lst [.non, .int 0, .int (-1), .str "x", .ref t1, .ref t2, .ref t3, .bl true, .int x])) l = some (.lst [.non, .int 0, .int (-1), .str "x", .ref t1, .ref t2, .ref t3, .bl true, .int x]) := upd_same
      generalize upd H11 l (.lst [.non, .int 0, .int (-1), .str "x", .ref t1, .ref t2, .ref t3, .bl true, .int x]) = H12 at k5 d5 ⊢
      refine ⟨pp, l, _, rfl, SqL.of d5, P11.ne hl, (by show 0 < 9; decide), (by show 9 < 1000000; decide), P11.same k5, fun v H13 hv P13 k6 => ?_⟩
      have hH : HeldAt H12 v := by
        simp only [List.mem_cons, List.not_mem_nil, or_false] at hv
        rcases hv with rfl | rfl | rfl | rfl | rfl | rfl | rfl | rfl | rfl
        · exact .inl rfl
        · exact .inr (.inl ⟨_, rfl, by decide⟩)
        · exact .inr (.inl ⟨_, rfl, by decide⟩)
        · exact .inr (.inr (.inl rfl))
        · exact .inr (.inr (.inr (.inr (.inl ⟨_, rfl, k5 _ _ e1⟩))))
        · exact .inr (.inr (.inr (.inr (.inr (.inl ⟨_, rfl, k5 _ _ e2⟩)))))
        · exact .inr (.inr (.inr (.inr (.inr (.inr ⟨_, rfl, k5 _ _ e3⟩)))))
        · exact .inr (.inr (.inr (.inl rfl)))
        · refine .inr (.inl ⟨_, rfl, ?_⟩)
          have : x < 10 ^ 30 := x1
          omega
      have hH : HeldAt H13 v := hH.keep (P11.same k5) k6
      have s13 : Same H5 H13 := Keep.same_of ((K10.trans (Same.keep k5)).trans k6) (s6.trans s7) (s6.free hpp)
      clear hv K10 e1 e2 e3 d1 d2 d3 d5 k1 k2 k3 k4 k5 k6 u1 u2 u3 P7 P11 hl s7
      refine ⟨_, rfl, v, rfl, fun p1 H14 s14 M1 => ?_⟩
      refine ⟨_, rfl, v, rfl, fun p2 H15 s15 M2 => ?_⟩
      refine ⟨by show 2 ≤ sizeLine; decide, fun l hl => ?_⟩
      have s16 : Same H15 (upd H15 l (.lst [.ref p1, .ref p2])) := Same.new hl
      have d16 : (upd H15 l (.lst [.ref p1, .ref p2])) l = some (.lst [.ref p1, .ref p2]) := upd_same
      generalize upd H15 l (.lst [.ref p1, .ref p2]) = H16 at s16 d16 ⊢
      have S16 : Same H5 H16 := ((s13.trans s14).trans s15).trans s16
      have hH : HeldAt H16 v := ((hH.same s14).same s15).same s16
      have M1 : MadeAt C H16 p1 v := (M1.same s15).same s16
      have M2 : MadeAt C H16 p2 v := M2.same s16
      clear s14 s15 s16 hl s13
      refine ⟨l, rfl, ⟨_, SqL.of d16⟩, for_list (K := K) (a := l) (xs := [.ref p1, .ref p2]) (fun j σ H' => Same H16 H' ∧ ∃ v5 v6 v7 v8 : Option V, σ = [some (.ref a), some (.ref du), some (.int (0 + (i : Int))), some (.ref pp), some v, v5, v6, v7, v8])
        ⟨Same.refl H16, v5, v6, v7, v8, rfl⟩ (fun j σ H' _ z => SqL.of (z.1 _ _ d16)) ?_ ?_⟩
      · clear v5 v6 v7 v8
        rintro j x σ H17 hx ⟨s17, v5, v6, v7, v8, rfl⟩
        obtain ⟨p, rfl, M⟩ : ∃ p, x = .ref p ∧ MadeAt C H17 p v := by
          match j, hx with
          | 0, hx => exact ⟨p1, (Option.some.inj hx).symm, M1.same s17⟩
          | 1, hx => exact ⟨p2, (Option.some.inj hx).symm, M2.same s17⟩
        have hH := hH.same s17
        obtain ⟨d, sd, dd, ld, De⟩ := hH.data (K := K)
        refine ⟨_, rfl, p, v, rfl, M, fun q1 H18 s18 nq hq => ?_⟩
        have b1 := rep_depth (n := 27) dd
        have b2 := rep_size (n := 27) ld
        refine ⟨_, _, rfl, Rds.rep hq nq (De _ s18), rep_show sd, by omega, Nat.le_trans b2 (show 27 * (200 + 2) + 3 ≤ sizeLine by decide), ?_⟩
        refine ⟨_, rfl, by show 1 ≤ sizeLine; decide, fun l1 m1 => ?_⟩
        refine ⟨l1, _, _, rfl, rfl, upd_same, by decide, by decide, by show 1 * 27 ≤ sizeLine; decide, fun l2 m2 n2 => ?_⟩
        have s19 : Same H18 (upd (upd H18 l1 (.lst [v])) l2 (.lst (List.replicate (27 : Int).toNat [v]).flatten)) := (Same.new m1).trans (Same.new m2)
        have d19 : (upd (upd H18 l1 (.lst [v])) l2 (.lst (List.replicate (27 : Int).toNat [v]).flatten)) l2 = some (.lst (List.replicate 27 v)) := upd_same
        generalize upd (upd H18 l1 (.lst [v])) l2 (.lst (List.replicate (27 : Int).toNat [v]).flatten) = H19 at s19 d19 ⊢
        refine ⟨_, _, rfl, Rds.rep d19 n2 (De _ (s18.trans s19)), rep_show sd, by omega, Nat.le_trans b2 (show 27 * (200 + 2) + 3 ≤ sizeLine by decide), ?_⟩
        refine ⟨rfl, _, rfl, iteN (by simp) ?_⟩
        -- the second fields
        have S19 : Same H17 H19 := s18.trans s19
        obtain ⟨as, many, at_p, xs⟩ := M.same S19
        have at_j : ∀ j : Nat, j < 31 → ∃ aj, as[j]? = some aj ∧ atI (as.map V.ref) (j : Int) = some (.ref aj) := fun j hj => ⟨as[j], List.getElem?_eq_getElem (by omega), atI_nat (by rw [List.getElem?_map, List.getElem?_eq_getElem (by omega)]; rfl)⟩
        obtain ⟨a6, e6, i6⟩ := at_j 6 (by decide)
        obtain ⟨a24, e24, i24⟩ := at_j 24 (by decide)
        obtain ⟨a26, e26, i26⟩ := at_j 26 (by decide)
        obtain ⟨d6, y6, z6⟩ := xat2 (f := "mode") (g := "number") (by decide +kernel) (xs 6 a6 e6)
        obtain ⟨d24, y24, z24⟩ := xat2 (f := "one") (g := "other") (by decide +kernel) (xs 24 a24 e24)
        obtain ⟨d26, y26, z26⟩ := xat2 (f := "condition") (g := "number") (by decide +kernel) (xs 26 a26 e26)
        refine ⟨_, rfl, p, _, 6, .ref a6, rfl, rfl, SqL.of at_p, i6, a6, _, d6, _, .str "second", rfl, L.look 6 (by decide), L.no 6 (by decide) _ (by decide +kernel), y6, z6, look3, ?_⟩
        refine ⟨_, rfl, p, _, 24, .ref a24, rfl, rfl, SqL.of at_p, i24, a24, _, d24, _, .str "second", rfl, L.look 24 (by decide), L.no 24 (by decide) _ (by decide +kernel), y24, z24, look3, ?_⟩
        refine ⟨_, rfl, p, _, 26, .ref a26, rfl, rfl, SqL.of at_p, i26, a26, _, d26, _, .str "second", rfl, L.look 26 (by decide), L.no 26 (by decide) _ (by decide +kernel), y26, z26, look3, ?_⟩
        refine ⟨by show 3 ≤ sizeLine; decide, fun l3 m3 => ?_⟩
        have s20 : Same H19 (upd H19 l3 (.lst [.str "second", .str "second", .str "second"])) := Same.new m3
        have d20 : (upd H19 l3 (.lst [.str "second", .str "second", .str "second"])) l3 = some (.lst [.str "second", .str "second", .str "second"]) := upd_same
        generalize upd H19 l3 (.lst [.str "second", .str "second", .str "second"]) = H20 at s20 d20 ⊢
        refine ⟨by show 1 ≤ sizeLine; decide, fun l4 m4 => ?_⟩
        refine ⟨l4, _, _, rfl, rfl, upd_same, by decide, by decide, by decide, fun l5 m5 _ => ?_⟩
        have s21 : Same H20 (upd (upd H20 l4 (.lst [.str "second"])) l5 (.lst (List.replicate (3 : Int).toNat [V.str "second"]).flatten)) := (Same.new m4).trans (Same.new m5)
        have d21 : (upd (upd H20 l4 (.lst [.str "second"])) l5 (.lst (List.replicate (3 : Int).toNat [V.str "second"]).flatten)) l5 = some (.lst [.str "second", .str "second", .str "second"]) := upd_same
        generalize upd (upd H20 l4 (.lst [.str "second"])) l5 (.lst (List.replicate (3 : Int).toNat [V.str "second"]).flatten) = H21 at s21 d21 ⊢
        refine ⟨.list [.str "second", .str "second", .str "second"], .list [.str "second", .str "second", .str "second"], .lst (SqL.of (s21 _ _ d20)) (.cons (.str _) (.cons (.str _) (.cons (.str _) .nil))), .lst (SqL.of d21) (.cons (.str _) (.cons (.str _) (.cons (.str _) .nil))), by decide +kernel, by decide +kernel, _, rfl, iteN (by decide +kernel) ?_⟩
        have S21 : Same H17 H21 := (S19.trans s20).trans s21
        have at_p : H21 p = some (.lst (as.map V.ref)) := s21 _ _ (s20 _ _ at_p)
        have xs : ∀ i a, as[i]? = some a → XAt C H21 v (0 + i) a := fun i a e => (xs i a e).same (s20.trans s21)
        have f21 : H21 du = some (.lst (dueL.map V.int)) := S21 _ _ (s17 _ _ (S16 _ _ f5))
        clear y6 z6 y24 z24 y26 z26 s20 s21 d20 d21 m3 m4 m5 s19 d19 m1 m2 s18 hq S19
        refine ⟨31, rfl, by decide, by decide, for_range (n := 31) (fun j σ H' => Same H21 H' ∧ ∃ v6 v7 v8 : Option V, σ = [some (.ref a), some (.ref du), some (.int (0 + (i : Int))), some (.ref pp), some v, some (.ref p), v6, v7, v8])
          ⟨Same.refl H21, v6, v7, v8, rfl⟩ ?_ ?_⟩
        · clear v6 v7 v8 v5
          rintro j σ H22 hj ⟨s22, v6, v7, v8, rfl⟩
          rw [Int.zero_add]
          refine ⟨5, rfl, by decide, by decide, fun D u => lc_range (n := 5) (fun m H' => Same H22 H' ∧ H' D = some (.lst ((List.range m).map fun k => V.bl (isB j k)))) ⟨Same.new u, upd_same⟩ ?_ ?_⟩
          · rintro m H' hm ⟨s, h⟩
            rw [Int.zero_add]
            refine ⟨rfl, ?_⟩
            unfold tYes
            dsimp only
            rw [if_pos rfl]
            have q1 : H' du = some (.lst (dueL.map V.int)) := s _ _ (s22 _ _ f21)
            refine ⟨_, rfl, _, rfl, _, rfl, du, _, _, _, rfl, rfl, SqL.of q1, dueAt hj, rfl, _, rfl, ite2 (fun c1 => ?_) (fun c1 => ?_)⟩
            · exact lcTurn u s h (by omega) (by rw [isB, decide_eq_true (of_veq c1), Bool.true_or])
            · refine ⟨_, rfl, rfl, _, rfl, ite2 (fun c2 => ?_) (fun c2 => ?_)⟩
              · refine ⟨_, rfl, _, rfl, du, _, _, _, rfl, rfl, SqL.of q1, dueAt hj, rfl, ?_⟩
                refine lcTurn u s h (by omega) ?_
                have e2 : m = 2 := by
                  have := of_veq c2
                  omega
                rw [isB, decide_eq_false (of_vne c1), Bool.false_or, decide_eq_true e2, Bool.true_and, decInt]
              · refine lcTurn u s h (by omega) ?_
                have e2 : ¬ m = 2 := fun z => of_vne c2 (by omega)
                rw [isB, decide_eq_false (of_vne c1), Bool.false_or, decide_eq_false e2, Bool.false_and]
          · rintro H23 ⟨s23, d23⟩
            obtain ⟨aj, ej, ij⟩ := at_j j hj
            have q1 : H23 p = some (.lst (as.map V.ref)) := s23 _ _ (s22 _ _ at_p)
            have x1 := (xs j aj ej).same (s22.trans s23)
            rw [Nat.zero_add] at x1
            refine ⟨_, rfl, _, rfl, p, _, _, _, rfl, rfl, SqL.of q1, ij, aj, j, v, rfl, hj, x1, fun k1 H24 s24 hk1 => ?_⟩
            refine ⟨31, rfl, by decide, by decide, fun D2 u2 => lc_range (n := 31) (fun m H' => Same H24 H' ∧ H' D2 = some (.lst ((List.range m).map fun k => V.bl (decide (k = j))))) ⟨Same.new u2, upd_same⟩ ?_ ?_⟩
            · rintro m H' hm ⟨s, h⟩
              rw [Int.zero_add]
              refine ⟨rfl, ?_⟩
              unfold tYes
              dsimp only
              rw [if_pos rfl]
              exact ⟨_, rfl, _, rfl, rfl, lcTurn u2 s h (by omega) decNat⟩
            · rintro H25 ⟨s25, d25⟩
              refine ⟨.list (((List.range 31).map fun k => decide (k = j)).map PyData.bool), .list (((List.range 31).map fun k => decide (k = j)).map PyData.bool), dpB (s25 _ _ hk1), dpB d25, shapedBools _, shapedBools _, _, rfl, ?_⟩
              rw [eqvBools]
              refine iteF ?_
              refine ⟨_, rfl, _, rfl, p, _, _, _, rfl, rfl, SqL.of (s25 _ _ (s24 _ _ q1)), ij, aj, j, v, rfl, hj, x1.same (s24.trans s25), fun k2 H26 s26 hk2 => ?_⟩
              refine ⟨_, rfl, .list (((List.range 5).map (isB j)).map PyData.bool), .list (((List.range 5).map (isB j)).map PyData.bool), dpB hk2, dpB (s26 _ _ (s25 _ _ (s24 _ _ d23))), shapedBools _, shapedBools _, _, rfl, ?_⟩
              rw [eqvBools]
              refine iteF ?_
              exact ⟨(((s22.trans s23).trans s24).trans s25).trans s26, _, _, _, rfl⟩
        · rintro σ H22 ⟨s22, v6, v7, v8, rfl⟩
          exact ⟨(s17.trans S21).trans s22, _, _, _, _, rfl⟩
      · rintro σ H17 ⟨s17, v5, v6, v7, v8, rfl⟩
        exact ⟨S16.trans s17, _, _, _, _, _, _, _, rfl⟩
    · rintro σ H6 ⟨s6, v2, v3, v4, v5, v6, v7, v8, rfl⟩
      exact q H6
end
/-! ### what the written part says of one own exception class -/
structure Cl (K : PySem.W.Frag) (C fI : Addr) (tl : List Value) (newId : String) (fs : List Str) : Prop where
  T : XCls K C fI tl newId
  look : XLook K C
  no : ∀ f ∈ fs, PySem.W.findIn K (.ref C) f = some none
  mro : (PySem.W.clsIn K C).map (·.mro) = some (.ref C :: tl)
  ty : PySem.W.typeIn K (.ref C) = some (.type "type")
theorem cl_of {K : PySem.W.Frag} {C fI : Addr} {tl : List Value} {newId : String} {fs : List Str} (g1 : PySem.W.specialIn K (.builtin "object.__class__") "__get__" = some (some (.builtin "getset_descriptor.__get__"))) (g2 : PySem.W.takesIn K (.builtin "object.__class__") = some true)
    (b : PySem.W.findIn K (.ref C) "__init__" = some (some (.ref fI)))
    (t : (PySem.W.excInitIn K C tl newId, PySem.W.excOver K C tl, PySem.W.hasDictIn K C, PySem.W.isFn K (.ref fI), PySem.W.keepIn K (.ref C)) = (true, true, true, true, true))
    (u : (PySem.W.findIn K (.ref C) "__setattr__", PySem.W.findIn K (.ref C) "__getattribute__", PySem.W.findIn K (.ref C) "__getattr__", PySem.W.findIn K (.ref C) "__class__") =
      (some (some (.builtin "object.__setattr__")), some (some (.builtin "BaseException.__getattribute__")), some none, some (some (.builtin "object.__class__"))))
    (v : (PySem.W.subIn K (.ref C) (.type "BaseException"), PySem.W.mroIn K C (.type "object"), (PySem.W.clsIn K C).map (·.mro), PySem.W.typeIn K (.ref C)) = (some true, some true, some (.ref C :: tl), some (.type "type")))
    (f : fs.map (fun f => PySem.W.findIn K (.ref C) f) = fs.map fun _ => some none) : Cl K C fI tl newId fs := by
  simp only [Prod.mk.injEq] at t u v
  obtain ⟨t1, t2, t3, t4, t5⟩ := t
  obtain ⟨u1, u2, u3, u4⟩ := u
  obtain ⟨v1, v2, v3, v4⟩ := v
  exact ⟨⟨t1, t2, t3, u1, b, t4, t5⟩, ⟨⟨u2, u3, v1, t3⟩, ⟨u2, u3, v1, t3, u4, g1, g2, v2⟩⟩, List.map_inj_left.mp f, v3, v4⟩
theorem sub_mro {K : PySem.W.Frag} {D : Addr} {tl : List Value} {c : Value} (m : (PySem.W.clsIn K D).map (·.mro) = some (.ref D :: tl)) : PySem.W.subIn K (.ref D) c = some ((Value.ref D :: tl).contains c) := by
  obtain ⟨cd, h1, h2⟩ := Option.map_eq_some_iff.mp m
  show PySem.W.mroIn K D c = _
  unfold PySem.W.mroIn
  rw [h1]
  show (if cd.mro.isEmpty then none else some (cd.mro.contains c)) = _
  rw [h2]
  rfl
theorem kit_own {K : PySem.W.Frag} {D C fI fJ : Addr} {tl tl' : List Value} {n n' : String} {fs fs' : List Str} (c : Cl K D fI tl n fs) (c' : Cl K C fJ tl' n' fs') (noRef : ∀ a, tl.contains (.ref a) = false) : PySem.W.kitOne K (.ref D) (.ref C) = some (decide (C = D)) := by
  unfold PySem.W.kitOne
  by_cases e : C = D
  · subst e
    rw [if_pos (beq_self_eq_true _), decide_eq_true rfl]
  · have e1 : ¬ (Value.ref D == Value.ref C) = true := fun h => e (by injection (beq_iff_eq.mp h) with h; exact h.symm)
    have e2 : (Value.ref C == Value.ref D) = false := Bool.eq_false_iff.mpr fun h => e (by injection (beq_iff_eq.mp h))
    obtain ⟨cd, h1, h2⟩ := Option.map_eq_some_iff.mp c'.mro
    rw [if_neg e1]
    show (if ((PySem.W.clsIn K C).isSome && PySem.W.typeIn K (.ref C) == some (.type "type")) = true then PySem.W.subIn K (.ref D) (.ref C) else none) = _
    rw [if_pos (by rw [h1, c'.ty, beq_self_eq_true]; rfl), sub_mro c.mro, List.contains_cons, e2, noRef, decide_eq_false e]
    rfl
theorem kit_built {K : PySem.W.Frag} {D fI : Addr} {tl : List Value} {n : String} {fs : List Str} {T : String} (c : Cl K D fI tl n fs) (km : PySem.W.kitMeta T = true) : PySem.W.kitOne K (.ref D) (.type T) = some (tl.contains (.type T)) := by
  unfold PySem.W.kitOne
  have e1 : (Value.ref D == Value.type T) = false := Bool.eq_false_iff.mpr fun h => nomatch beq_iff_eq.mp h
  have e2 : (Value.type T == Value.ref D) = false := Bool.eq_false_iff.mpr fun h => nomatch beq_iff_eq.mp h
  rw [e1, if_neg Bool.false_ne_true]
  show (if PySem.W.kitMeta T = true then PySem.W.subIn K (.ref D) (.type T) else none) = _
  rw [if_pos km, sub_mro c.mro, List.contains_cons, e2, Bool.false_or]
def tlOf (i : Nat) : List Value := tlK (dueL.getD i 0).toNat
theorem tl_noRef (k : Nat) (a : Addr) : (tlK k).contains (.ref a) = false := by
  have h : ∀ T : String, (Value.ref a == Value.type T) = false := fun T => Bool.eq_false_iff.mpr fun h => nomatch beq_iff_eq.mp h
  match k with
  | 0 => simp only [tlK, List.contains_cons, h]; rfl
  | 1 => simp only [tlK, List.contains_cons, h]; rfl
  | 2 => simp only [tlK, List.contains_cons, h]; rfl
  | 3 => simp only [tlK, List.contains_cons, h]; rfl
  | n + 4 => simp only [tlK, List.contains_cons, h]; rfl
theorem tl_isB : ∀ i, i < 31 → ∀ k, k < 5 → (tlOf i).contains (.type (baseName k)) = isB i k := by decide +kernel
theorem meta30 : ∀ k, k < 5 → PySem.W.kitMeta (baseName k) = true := by decide +kernel
theorem looks30_of {K : PySem.W.Frag} {C : Nat → Addr} (h : ∀ i, i < 31 → ∃ fI n, Cl K (C i) fI (tlOf i) n (fieldsL.getD i [])) : Looks30 K C :=
  ⟨fun i hi => (h i hi).choose_spec.choose_spec.look, fun i hi => (h i hi).choose_spec.choose_spec.no⟩
theorem kit30_of {K : PySem.W.Frag} {C : Nat → Addr} (h : ∀ i, i < 31 → ∃ fI n, Cl K (C i) fI (tlOf i) n (fieldsL.getD i [])) (nd : ∀ i, i < 31 → ∀ j, j < 31 → C i = C j → i = j) : Kit30 K C := by
  refine ⟨fun i hi => (h i hi).choose_spec.choose_spec.look.ex, fun i j hi hj => ?_, fun i k hi hk => ?_⟩
  · rw [kit_own (h i hi).choose_spec.choose_spec (h j hj).choose_spec.choose_spec (tl_noRef _)]
    by_cases e : j = i
    · rw [decide_eq_true e, decide_eq_true (by rw [e])]
    · rw [decide_eq_false e, decide_eq_false fun z => e (nd j hj i hi z)]
  · rw [kit_built (h i hi).choose_spec.choose_spec (meta30 k hk), tl_isB i hi k hk]
/-! ### what the top has written, class by class -/
/-- the class x stands at C, its __init__ is st -/
def CIn (K : PySem.W.Frag) (x q : Str) (st : Stmt) (C : Addr) (tl : List Value) (nw : String) (fs : List Str) : Prop :=
  ∃ fI fd, PySem.W.nsIn K mainGlobals x = some (some (.ref C)) ∧ Fun K "__init__" q st fI fd ∧ Cl K C fI tl nw fs
theorem cin_mk {K : PySem.W.Frag} {x q : Str} {st : Stmt} {C fI : Addr} {tl : List Value} {nw : String} {fs : List Str} {oc : Value} {od an : Option Addr} {osl : Array (Option Value)} {kV doc pm cdv ct : Value}
    (a : PySem.W.nsIn K mainGlobals x = some (some (.ref C))) (b : PySem.W.findIn K (.ref C) "__init__" = some (some (.ref fI)))
    (l : K.lookup fI = some ⟨oc, od, .func (PySem.W.fnOf "__init__" q (defArgs st) (defBody st) (defScope st) .none kV doc pm an cdv ct), osl⟩) (c : PySem.W.codeIn K cdv q = true) (k : PySem.W.keepIn K (.ref fI) = true)
    (g1 : PySem.W.specialIn K (.builtin "object.__class__") "__get__" = some (some (.builtin "getset_descriptor.__get__"))) (g2 : PySem.W.takesIn K (.builtin "object.__class__") = some true)
    (t : (PySem.W.excInitIn K C tl nw, PySem.W.excOver K C tl, PySem.W.hasDictIn K C, PySem.W.isFn K (.ref fI), PySem.W.keepIn K (.ref C)) = (true, true, true, true, true))
    (u : (PySem.W.findIn K (.ref C) "__setattr__", PySem.W.findIn K (.ref C) "__getattribute__", PySem.W.findIn K (.ref C) "__getattr__", PySem.W.findIn K (.ref C) "__class__") =
      (some (some (.builtin "object.__setattr__")), some (some (.builtin "BaseException.__getattribute__")), some none, some (some (.builtin "object.__class__"))))
    (v : (PySem.W.subIn K (.ref C) (.type "BaseException"), PySem.W.mroIn K C (.type "object"), (PySem.W.clsIn K C).map (·.mro), PySem.W.typeIn K (.ref C)) = (some true, some true, some (.ref C :: tl), some (.type "type")))
    (f : fs.map (fun f => PySem.W.findIn K (.ref C) f) = fs.map fun _ => some none) : CIn K x q st C tl nw fs := ⟨fI, _, a, fun_mk l c k, cl_of g1 g2 b t u v f⟩
theorem has_mk {K : PySem.W.Frag} {h : Heap} {mg : Str → Option Value} {x : Str} {st : Stmt} {ps : List Str} {f : Addr} {oc : Value} {od an : Option Addr} {osl : Array (Option Value)} {kV doc pm cdv ct : Value} (X : K.In h) (G : h.Ns mainGlobals mg)
    (b : ∀ (kV doc pm : Value) (an : Option Addr) (cdv ct : Value) (us : List Value), us.length = ps.length → bindArgs (PySem.W.fnOf x x (defArgs st) (defBody st) (defScope st) .none kV doc pm an cdv ct) ⟨us, []⟩ = pure (ps.zip us))
    (a : PySem.W.nsIn K mainGlobals x = some (some (.ref f))) (l : K.lookup f = some ⟨oc, od, .func (PySem.W.fnOf x x (defArgs st) (defBody st) (defScope st) .none kV doc pm an cdv ct), osl⟩) (c : PySem.W.codeIn K cdv x = true) (k : PySem.W.keepIn K (.ref f) = true) : Has K mg x st ps :=
  ⟨f, _, PySem.W.mg_of X G a, (fun_mk (st := st) l c k).binds (ps := ps) b, fun_mk (st := st) l c k⟩
theorem tl_0 : tlOf 0 = [.type "ValueError", .type "Exception", .type "BaseException", .type "object"] := by decide +kernel
theorem fl_0 : fieldsL.getD 0 [] = (["value"] : List Str) := rfl
theorem tl_1 : tlOf 1 = [.type "ValueError", .type "Exception", .type "BaseException", .type "object"] := by decide +kernel
theorem fl_1 : fieldsL.getD 1 [] = (["value"] : List Str) := rfl
theorem tl_2 : tlOf 2 = [.type "ValueError", .type "Exception", .type "BaseException", .type "object"] := by decide +kernel
theorem fl_2 : fieldsL.getD 2 [] = (["value"] : List Str) := rfl
theorem tl_3 : tlOf 3 = [.type "ValueError", .type "Exception", .type "BaseException", .type "object"] := by decide +kernel
theorem fl_3 : fieldsL.getD 3 [] = (["value"] : List Str) := rfl
theorem tl_4 : tlOf 4 = [.type "ValueError", .type "Exception", .type "BaseException", .type "object"] := by decide +kernel
theorem fl_4 : fieldsL.getD 4 [] = (["number"] : List Str) := rfl
theorem tl_5 : tlOf 5 = [.type "ValueError", .type "Exception", .type "BaseException", .type "object"] := by decide +kernel
theorem fl_5 : fieldsL.getD 5 [] = (["number"] : List Str) := rfl
theorem tl_6 : tlOf 6 = [.type "ValueError", .type "Exception", .type "BaseException", .type "object"] := by decide +kernel
theorem fl_6 : fieldsL.getD 6 [] = (["mode", "number"] : List Str) := rfl
theorem tl_7 : tlOf 7 = [.type "ValueError", .type "Exception", .type "BaseException", .type "object"] := by decide +kernel
theorem fl_7 : fieldsL.getD 7 [] = (["value"] : List Str) := rfl
theorem tl_8 : tlOf 8 = [.type "ValueError", .type "Exception", .type "BaseException", .type "object"] := by decide +kernel
theorem fl_8 : fieldsL.getD 8 [] = (["value"] : List Str) := rfl
theorem tl_9 : tlOf 9 = [.type "ValueError", .type "Exception", .type "BaseException", .type "object"] := by decide +kernel
theorem fl_9 : fieldsL.getD 9 [] = (["value"] : List Str) := rfl
theorem tl_10 : tlOf 10 = [.type "ValueError", .type "Exception", .type "BaseException", .type "object"] := by decide +kernel
theorem fl_10 : fieldsL.getD 10 [] = (["value"] : List Str) := rfl
theorem tl_11 : tlOf 11 = [.type "ValueError", .type "Exception", .type "BaseException", .type "object"] := by decide +kernel
theorem fl_11 : fieldsL.getD 11 [] = (["value"] : List Str) := rfl
theorem tl_12 : tlOf 12 = [.type "ValueError", .type "Exception", .type "BaseException", .type "object"] := by decide +kernel
theorem fl_12 : fieldsL.getD 12 [] = (["line"] : List Str) := rfl
theorem tl_13 : tlOf 13 = [.type "ValueError", .type "Exception", .type "BaseException", .type "object"] := by decide +kernel
theorem fl_13 : fieldsL.getD 13 [] = (["value"] : List Str) := rfl
theorem tl_14 : tlOf 14 = [.type "ValueError", .type "Exception", .type "BaseException", .type "object"] := by decide +kernel
theorem fl_14 : fieldsL.getD 14 [] = (["value"] : List Str) := rfl
theorem tl_15 : tlOf 15 = [.type "ValueError", .type "Exception", .type "BaseException", .type "object"] := by decide +kernel
theorem fl_15 : fieldsL.getD 15 [] = (["value"] : List Str) := rfl
theorem tl_16 : tlOf 16 = [.type "ValueError", .type "Exception", .type "BaseException", .type "object"] := by decide +kernel
theorem fl_16 : fieldsL.getD 16 [] = (["value"] : List Str) := rfl
theorem tl_17 : tlOf 17 = [.type "ValueError", .type "Exception", .type "BaseException", .type "object"] := by decide +kernel
theorem fl_17 : fieldsL.getD 17 [] = (["value"] : List Str) := rfl
theorem tl_18 : tlOf 18 = [.type "ValueError", .type "Exception", .type "BaseException", .type "object"] := by decide +kernel
theorem fl_18 : fieldsL.getD 18 [] = (["number"] : List Str) := rfl
theorem tl_19 : tlOf 19 = [.type "ValueError", .type "Exception", .type "BaseException", .type "object"] := by decide +kernel
theorem fl_19 : fieldsL.getD 19 [] = (["word"] : List Str) := rfl
theorem tl_20 : tlOf 20 = [.type "LookupError", .type "Exception", .type "BaseException", .type "object"] := by decide +kernel
theorem fl_20 : fieldsL.getD 20 [] = (["value"] : List Str) := rfl
theorem tl_21 : tlOf 21 = [.type "ArithmeticError", .type "Exception", .type "BaseException", .type "object"] := by decide +kernel
theorem fl_21 : fieldsL.getD 21 [] = (["number"] : List Str) := rfl
theorem tl_22 : tlOf 22 = [.type "ArithmeticError", .type "Exception", .type "BaseException", .type "object"] := by decide +kernel
theorem fl_22 : fieldsL.getD 22 [] = ([] : List Str) := rfl
theorem tl_23 : tlOf 23 = [.type "RuntimeError", .type "Exception", .type "BaseException", .type "object"] := by decide +kernel
theorem fl_23 : fieldsL.getD 23 [] = (["number"] : List Str) := rfl
theorem tl_24 : tlOf 24 = [.type "RuntimeError", .type "Exception", .type "BaseException", .type "object"] := by decide +kernel
theorem fl_24 : fieldsL.getD 24 [] = (["one", "other"] : List Str) := rfl
theorem tl_25 : tlOf 25 = [.type "RuntimeError", .type "Exception", .type "BaseException", .type "object"] := by decide +kernel
theorem fl_25 : fieldsL.getD 25 [] = (["number"] : List Str) := rfl
theorem tl_26 : tlOf 26 = [.type "RuntimeError", .type "Exception", .type "BaseException", .type "object"] := by decide +kernel
theorem fl_26 : fieldsL.getD 26 [] = (["condition", "number"] : List Str) := rfl
theorem tl_27 : tlOf 27 = [.type "RuntimeError", .type "Exception", .type "BaseException", .type "object"] := by decide +kernel
theorem fl_27 : fieldsL.getD 27 [] = ([] : List Str) := rfl
theorem tl_28 : tlOf 28 = [.type "RuntimeError", .type "Exception", .type "BaseException", .type "object"] := by decide +kernel
theorem fl_28 : fieldsL.getD 28 [] = ([] : List Str) := rfl
theorem tl_29 : tlOf 29 = [.type "RuntimeError", .type "Exception", .type "BaseException", .type "object"] := by decide +kernel
theorem fl_29 : fieldsL.getD 29 [] = ([] : List Str) := rfl
theorem tl_30 : tlOf 30 = [.type "OverflowError", .type "ArithmeticError", .type "Exception", .type "BaseException", .type "object"] := by decide +kernel
theorem fl_30 : fieldsL.getD 30 [] = (["most"] : List Str) := rfl
theorem cin_0 {P : Program} {w : World} {K : PySem.W.Frag} {h : Heap} {mg : Str → Option Value} {C : Addr} (X : K.In h) (G : h.Ns mainGlobals mg) (N : CIn K "InvalidRule" "InvalidRule.__init__" si_InvalidRule C [.type "ValueError", .type "Exception", .type "BaseException", .type "object"] "ValueError.__new__" ["value"]) :
    mg "InvalidRule" = some (.ref C) ∧ (∀ base : Heap, XOk P w K mg base "InvalidRule" C 1 ["self", "value"] ["value"] (sp1 "value" C)) ∧ ∃ fI n, Cl K C fI (tlOf 0) n (fieldsL.getD 0 []) := by
  obtain ⟨fI, fd, a, F, c⟩ := N
  refine ⟨PySem.W.mg_of X G a, fun base => in_InvalidRule (P := P) (w := w) (base := base) F c.T (c.no _ List.mem_cons_self) (PySem.W.mg_of X G a), fI, "ValueError.__new__", ?_⟩
  rw [tl_0, fl_0]
  exact c
theorem cin_1 {P : Program} {w : World} {K : PySem.W.Frag} {h : Heap} {mg : Str → Option Value} {C : Addr} (X : K.In h) (G : h.Ns mainGlobals mg) (N : CIn K "InvalidNumber" "InvalidNumber.__init__" si_InvalidNumber C [.type "ValueError", .type "Exception", .type "BaseException", .type "object"] "ValueError.__new__" ["value"]) :
    mg "InvalidNumber" = some (.ref C) ∧ (∀ base : Heap, XOk P w K mg base "InvalidNumber" C 1 ["self", "value"] ["value"] (sp1 "value" C)) ∧ ∃ fI n, Cl K C fI (tlOf 1) n (fieldsL.getD 1 []) := by
  obtain ⟨fI, fd, a, F, c⟩ := N
  refine ⟨PySem.W.mg_of X G a, fun base => in_InvalidNumber (P := P) (w := w) (base := base) F c.T (c.no _ List.mem_cons_self) (PySem.W.mg_of X G a), fI, "ValueError.__new__", ?_⟩
  rw [tl_1, fl_1]
  exact c
theorem cin_2 {P : Program} {w : World} {K : PySem.W.Frag} {h : Heap} {mg : Str → Option Value} {C : Addr} (X : K.In h) (G : h.Ns mainGlobals mg) (N : CIn K "InvalidBase" "InvalidBase.__init__" si_InvalidBase C [.type "ValueError", .type "Exception", .type "BaseException", .type "object"] "ValueError.__new__" ["value"]) :
    mg "InvalidBase" = some (.ref C) ∧ (∀ base : Heap, XOk P w K mg base "InvalidBase" C 1 ["self", "value"] ["value"] (sp1 "value" C)) ∧ ∃ fI n, Cl K C fI (tlOf 2) n (fieldsL.getD 2 []) := by
  obtain ⟨fI, fd, a, F, c⟩ := N
  refine ⟨PySem.W.mg_of X G a, fun base => in_InvalidBase (P := P) (w := w) (base := base) F c.T (c.no _ List.mem_cons_self) (PySem.W.mg_of X G a), fI, "ValueError.__new__", ?_⟩
  rw [tl_2, fl_2]
  exact c
theorem cin_3 {P : Program} {w : World} {K : PySem.W.Frag} {h : Heap} {mg : Str → Option Value} {C : Addr} (X : K.In h) (G : h.Ns mainGlobals mg) (N : CIn K "InvalidName" "InvalidName.__init__" si_InvalidName C [.type "ValueError", .type "Exception", .type "BaseException", .type "object"] "ValueError.__new__" ["value"]) :
    mg "InvalidName" = some (.ref C) ∧ (∀ base : Heap, XOk P w K mg base "InvalidName" C 1 ["self", "value"] ["value"] (sp1 "value" C)) ∧ ∃ fI n, Cl K C fI (tlOf 3) n (fieldsL.getD 3 []) := by
  obtain ⟨fI, fd, a, F, c⟩ := N
  refine ⟨PySem.W.mg_of X G a, fun base => in_InvalidName (P := P) (w := w) (base := base) F c.T (c.no _ List.mem_cons_self) (PySem.W.mg_of X G a), fI, "ValueError.__new__", ?_⟩
  rw [tl_3, fl_3]
  exact c
theorem cin_4 {P : Program} {w : World} {K : PySem.W.Frag} {h : Heap} {mg : Str → Option Value} {C : Addr} (X : K.In h) (G : h.Ns mainGlobals mg) (N : CIn K "InvalidRegisters" "InvalidRegisters.__init__" si_InvalidRegisters C [.type "ValueError", .type "Exception", .type "BaseException", .type "object"] "ValueError.__new__" ["number"]) :
    mg "InvalidRegisters" = some (.ref C) ∧ (∀ base : Heap, XOk P w K mg base "InvalidRegisters" C 1 ["self", "number"] ["number"] (sp1 "number" C)) ∧ ∃ fI n, Cl K C fI (tlOf 4) n (fieldsL.getD 4 []) := by
  obtain ⟨fI, fd, a, F, c⟩ := N
  refine ⟨PySem.W.mg_of X G a, fun base => in_InvalidRegisters (P := P) (w := w) (base := base) F c.T (c.no _ List.mem_cons_self) (PySem.W.mg_of X G a), fI, "ValueError.__new__", ?_⟩
  rw [tl_4, fl_4]
  exact c
theorem cin_5 {P : Program} {w : World} {K : PySem.W.Frag} {h : Heap} {mg : Str → Option Value} {C : Addr} (X : K.In h) (G : h.Ns mainGlobals mg) (N : CIn K "InvalidModes" "InvalidModes.__init__" si_InvalidModes C [.type "ValueError", .type "Exception", .type "BaseException", .type "object"] "ValueError.__new__" ["number"]) :
    mg "InvalidModes" = some (.ref C) ∧ (∀ base : Heap, XOk P w K mg base "InvalidModes" C 1 ["self", "number"] ["number"] (sp1 "number" C)) ∧ ∃ fI n, Cl K C fI (tlOf 5) n (fieldsL.getD 5 []) := by
  obtain ⟨fI, fd, a, F, c⟩ := N
  refine ⟨PySem.W.mg_of X G a, fun base => in_InvalidModes (P := P) (w := w) (base := base) F c.T (c.no _ List.mem_cons_self) (PySem.W.mg_of X G a), fI, "ValueError.__new__", ?_⟩
  rw [tl_5, fl_5]
  exact c
theorem cin_6 {P : Program} {w : World} {K : PySem.W.Frag} {h : Heap} {mg : Str → Option Value} {C : Addr} (X : K.In h) (G : h.Ns mainGlobals mg) (N : CIn K "InvalidRow" "InvalidRow.__init__" si_InvalidRow C [.type "ValueError", .type "Exception", .type "BaseException", .type "object"] "ValueError.__new__" ["mode", "number"]) :
    mg "InvalidRow" = some (.ref C) ∧ (∀ base : Heap, XOk P w K mg base "InvalidRow" C 2 ["self", "mode", "number"] ["number", "mode"] (sp2 "mode" "number" C)) ∧ ∃ fI n, Cl K C fI (tlOf 6) n (fieldsL.getD 6 []) := by
  obtain ⟨fI, fd, a, F, c⟩ := N
  refine ⟨PySem.W.mg_of X G a, fun base => in_InvalidRow (P := P) (w := w) (base := base) F c.T (c.no _ List.mem_cons_self) (c.no _ (List.mem_cons_of_mem _ List.mem_cons_self)) (PySem.W.mg_of X G a), fI, "ValueError.__new__", ?_⟩
  rw [tl_6, fl_6]
  exact c
theorem cin_7 {P : Program} {w : World} {K : PySem.W.Frag} {h : Heap} {mg : Str → Option Value} {C : Addr} (X : K.In h) (G : h.Ns mainGlobals mg) (N : CIn K "InvalidEnds" "InvalidEnds.__init__" si_InvalidEnds C [.type "ValueError", .type "Exception", .type "BaseException", .type "object"] "ValueError.__new__" ["value"]) :
    mg "InvalidEnds" = some (.ref C) ∧ (∀ base : Heap, XOk P w K mg base "InvalidEnds" C 1 ["self", "value"] ["value"] (sp1 "value" C)) ∧ ∃ fI n, Cl K C fI (tlOf 7) n (fieldsL.getD 7 []) := by
  obtain ⟨fI, fd, a, F, c⟩ := N
  refine ⟨PySem.W.mg_of X G a, fun base => in_InvalidEnds (P := P) (w := w) (base := base) F c.T (c.no _ List.mem_cons_self) (PySem.W.mg_of X G a), fI, "ValueError.__new__", ?_⟩
  rw [tl_7, fl_7]
  exact c
theorem cin_8 {P : Program} {w : World} {K : PySem.W.Frag} {h : Heap} {mg : Str → Option Value} {C : Addr} (X : K.In h) (G : h.Ns mainGlobals mg) (N : CIn K "InvalidResult" "InvalidResult.__init__" si_InvalidResult C [.type "ValueError", .type "Exception", .type "BaseException", .type "object"] "ValueError.__new__" ["value"]) :
    mg "InvalidResult" = some (.ref C) ∧ (∀ base : Heap, XOk P w K mg base "InvalidResult" C 1 ["self", "value"] ["value"] (sp1 "value" C)) ∧ ∃ fI n, Cl K C fI (tlOf 8) n (fieldsL.getD 8 []) := by
  obtain ⟨fI, fd, a, F, c⟩ := N
  refine ⟨PySem.W.mg_of X G a, fun base => in_InvalidResult (P := P) (w := w) (base := base) F c.T (c.no _ List.mem_cons_self) (PySem.W.mg_of X G a), fI, "ValueError.__new__", ?_⟩
  rw [tl_8, fl_8]
  exact c
theorem cin_9 {P : Program} {w : World} {K : PySem.W.Frag} {h : Heap} {mg : Str → Option Value} {C : Addr} (X : K.In h) (G : h.Ns mainGlobals mg) (N : CIn K "InvalidProgram" "InvalidProgram.__init__" si_InvalidProgram C [.type "ValueError", .type "Exception", .type "BaseException", .type "object"] "ValueError.__new__" ["value"]) :
    mg "InvalidProgram" = some (.ref C) ∧ (∀ base : Heap, XOk P w K mg base "InvalidProgram" C 1 ["self", "value"] ["value"] (sp1 "value" C)) ∧ ∃ fI n, Cl K C fI (tlOf 9) n (fieldsL.getD 9 []) := by
  obtain ⟨fI, fd, a, F, c⟩ := N
  refine ⟨PySem.W.mg_of X G a, fun base => in_InvalidProgram (P := P) (w := w) (base := base) F c.T (c.no _ List.mem_cons_self) (PySem.W.mg_of X G a), fI, "ValueError.__new__", ?_⟩
  rw [tl_9, fl_9]
  exact c
theorem cin_10 {P : Program} {w : World} {K : PySem.W.Frag} {h : Heap} {mg : Str → Option Value} {C : Addr} (X : K.In h) (G : h.Ns mainGlobals mg) (N : CIn K "InvalidFigures" "InvalidFigures.__init__" si_InvalidFigures C [.type "ValueError", .type "Exception", .type "BaseException", .type "object"] "ValueError.__new__" ["value"]) :
    mg "InvalidFigures" = some (.ref C) ∧ (∀ base : Heap, XOk P w K mg base "InvalidFigures" C 1 ["self", "value"] ["value"] (sp1 "value" C)) ∧ ∃ fI n, Cl K C fI (tlOf 10) n (fieldsL.getD 10 []) := by
  obtain ⟨fI, fd, a, F, c⟩ := N
  refine ⟨PySem.W.mg_of X G a, fun base => in_InvalidFigures (P := P) (w := w) (base := base) F c.T (c.no _ List.mem_cons_self) (PySem.W.mg_of X G a), fI, "ValueError.__new__", ?_⟩
  rw [tl_10, fl_10]
  exact c
theorem cin_11 {P : Program} {w : World} {K : PySem.W.Frag} {h : Heap} {mg : Str → Option Value} {C : Addr} (X : K.In h) (G : h.Ns mainGlobals mg) (N : CIn K "InvalidState" "InvalidState.__init__" si_InvalidState C [.type "ValueError", .type "Exception", .type "BaseException", .type "object"] "ValueError.__new__" ["value"]) :
    mg "InvalidState" = some (.ref C) ∧ (∀ base : Heap, XOk P w K mg base "InvalidState" C 1 ["self", "value"] ["value"] (sp1 "value" C)) ∧ ∃ fI n, Cl K C fI (tlOf 11) n (fieldsL.getD 11 []) := by
  obtain ⟨fI, fd, a, F, c⟩ := N
  refine ⟨PySem.W.mg_of X G a, fun base => in_InvalidState (P := P) (w := w) (base := base) F c.T (c.no _ List.mem_cons_self) (PySem.W.mg_of X G a), fI, "ValueError.__new__", ?_⟩
  rw [tl_11, fl_11]
  exact c
theorem cin_12 {P : Program} {w : World} {K : PySem.W.Frag} {h : Heap} {mg : Str → Option Value} {C : Addr} (X : K.In h) (G : h.Ns mainGlobals mg) (N : CIn K "InvalidText" "InvalidText.__init__" si_InvalidText C [.type "ValueError", .type "Exception", .type "BaseException", .type "object"] "ValueError.__new__" ["line"]) :
    mg "InvalidText" = some (.ref C) ∧ (∀ base : Heap, XOk P w K mg base "InvalidText" C 1 ["self", "line"] ["line"] (sp1 "line" C)) ∧ ∃ fI n, Cl K C fI (tlOf 12) n (fieldsL.getD 12 []) := by
  obtain ⟨fI, fd, a, F, c⟩ := N
  refine ⟨PySem.W.mg_of X G a, fun base => in_InvalidText (P := P) (w := w) (base := base) F c.T (c.no _ List.mem_cons_self) (PySem.W.mg_of X G a), fI, "ValueError.__new__", ?_⟩
  rw [tl_12, fl_12]
  exact c
theorem cin_13 {P : Program} {w : World} {K : PySem.W.Frag} {h : Heap} {mg : Str → Option Value} {C : Addr} (X : K.In h) (G : h.Ns mainGlobals mg) (N : CIn K "InvalidRatio" "InvalidRatio.__init__" si_InvalidRatio C [.type "ValueError", .type "Exception", .type "BaseException", .type "object"] "ValueError.__new__" ["value"]) :
    mg "InvalidRatio" = some (.ref C) ∧ (∀ base : Heap, XOk P w K mg base "InvalidRatio" C 1 ["self", "value"] ["value"] (sp1 "value" C)) ∧ ∃ fI n, Cl K C fI (tlOf 13) n (fieldsL.getD 13 []) := by
  obtain ⟨fI, fd, a, F, c⟩ := N
  refine ⟨PySem.W.mg_of X G a, fun base => in_InvalidRatio (P := P) (w := w) (base := base) F c.T (c.no _ List.mem_cons_self) (PySem.W.mg_of X G a), fI, "ValueError.__new__", ?_⟩
  rw [tl_13, fl_13]
  exact c
theorem cin_14 {P : Program} {w : World} {K : PySem.W.Frag} {h : Heap} {mg : Str → Option Value} {C : Addr} (X : K.In h) (G : h.Ns mainGlobals mg) (N : CIn K "InvalidRows" "InvalidRows.__init__" si_InvalidRows C [.type "ValueError", .type "Exception", .type "BaseException", .type "object"] "ValueError.__new__" ["value"]) :
    mg "InvalidRows" = some (.ref C) ∧ (∀ base : Heap, XOk P w K mg base "InvalidRows" C 1 ["self", "value"] ["value"] (sp1 "value" C)) ∧ ∃ fI n, Cl K C fI (tlOf 14) n (fieldsL.getD 14 []) := by
  obtain ⟨fI, fd, a, F, c⟩ := N
  refine ⟨PySem.W.mg_of X G a, fun base => in_InvalidRows (P := P) (w := w) (base := base) F c.T (c.no _ List.mem_cons_self) (PySem.W.mg_of X G a), fI, "ValueError.__new__", ?_⟩
  rw [tl_14, fl_14]
  exact c
theorem cin_15 {P : Program} {w : World} {K : PySem.W.Frag} {h : Heap} {mg : Str → Option Value} {C : Addr} (X : K.In h) (G : h.Ns mainGlobals mg) (N : CIn K "InvalidForm" "InvalidForm.__init__" si_InvalidForm C [.type "ValueError", .type "Exception", .type "BaseException", .type "object"] "ValueError.__new__" ["value"]) :
    mg "InvalidForm" = some (.ref C) ∧ (∀ base : Heap, XOk P w K mg base "InvalidForm" C 1 ["self", "value"] ["value"] (sp1 "value" C)) ∧ ∃ fI n, Cl K C fI (tlOf 15) n (fieldsL.getD 15 []) := by
  obtain ⟨fI, fd, a, F, c⟩ := N
  refine ⟨PySem.W.mg_of X G a, fun base => in_InvalidForm (P := P) (w := w) (base := base) F c.T (c.no _ List.mem_cons_self) (PySem.W.mg_of X G a), fI, "ValueError.__new__", ?_⟩
  rw [tl_15, fl_15]
  exact c
theorem cin_16 {P : Program} {w : World} {K : PySem.W.Frag} {h : Heap} {mg : Str → Option Value} {C : Addr} (X : K.In h) (G : h.Ns mainGlobals mg) (N : CIn K "InvalidSign" "InvalidSign.__init__" si_InvalidSign C [.type "ValueError", .type "Exception", .type "BaseException", .type "object"] "ValueError.__new__" ["value"]) :
    mg "InvalidSign" = some (.ref C) ∧ (∀ base : Heap, XOk P w K mg base "InvalidSign" C 1 ["self", "value"] ["value"] (sp1 "value" C)) ∧ ∃ fI n, Cl K C fI (tlOf 16) n (fieldsL.getD 16 []) := by
  obtain ⟨fI, fd, a, F, c⟩ := N
  refine ⟨PySem.W.mg_of X G a, fun base => in_InvalidSign (P := P) (w := w) (base := base) F c.T (c.no _ List.mem_cons_self) (PySem.W.mg_of X G a), fI, "ValueError.__new__", ?_⟩
  rw [tl_16, fl_16]
  exact c
theorem cin_17 {P : Program} {w : World} {K : PySem.W.Frag} {h : Heap} {mg : Str → Option Value} {C : Addr} (X : K.In h) (G : h.Ns mainGlobals mg) (N : CIn K "InvalidMachine" "InvalidMachine.__init__" si_InvalidMachine C [.type "ValueError", .type "Exception", .type "BaseException", .type "object"] "ValueError.__new__" ["value"]) :
    mg "InvalidMachine" = some (.ref C) ∧ (∀ base : Heap, XOk P w K mg base "InvalidMachine" C 1 ["self", "value"] ["value"] (sp1 "value" C)) ∧ ∃ fI n, Cl K C fI (tlOf 17) n (fieldsL.getD 17 []) := by
  obtain ⟨fI, fd, a, F, c⟩ := N
  refine ⟨PySem.W.mg_of X G a, fun base => in_InvalidMachine (P := P) (w := w) (base := base) F c.T (c.no _ List.mem_cons_self) (PySem.W.mg_of X G a), fI, "ValueError.__new__", ?_⟩
  rw [tl_17, fl_17]
  exact c
theorem cin_18 {P : Program} {w : World} {K : PySem.W.Frag} {h : Heap} {mg : Str → Option Value} {C : Addr} (X : K.In h) (G : h.Ns mainGlobals mg) (N : CIn K "InvalidPieces" "InvalidPieces.__init__" si_InvalidPieces C [.type "ValueError", .type "Exception", .type "BaseException", .type "object"] "ValueError.__new__" ["number"]) :
    mg "InvalidPieces" = some (.ref C) ∧ (∀ base : Heap, XOk P w K mg base "InvalidPieces" C 1 ["self", "number"] ["number"] (sp1 "number" C)) ∧ ∃ fI n, Cl K C fI (tlOf 18) n (fieldsL.getD 18 []) := by
  obtain ⟨fI, fd, a, F, c⟩ := N
  refine ⟨PySem.W.mg_of X G a, fun base => in_InvalidPieces (P := P) (w := w) (base := base) F c.T (c.no _ List.mem_cons_self) (PySem.W.mg_of X G a), fI, "ValueError.__new__", ?_⟩
  rw [tl_18, fl_18]
  exact c
theorem cin_19 {P : Program} {w : World} {K : PySem.W.Frag} {h : Heap} {mg : Str → Option Value} {C : Addr} (X : K.In h) (G : h.Ns mainGlobals mg) (N : CIn K "InvalidCommand" "InvalidCommand.__init__" si_InvalidCommand C [.type "ValueError", .type "Exception", .type "BaseException", .type "object"] "ValueError.__new__" ["word"]) :
    mg "InvalidCommand" = some (.ref C) ∧ (∀ base : Heap, XOk P w K mg base "InvalidCommand" C 1 ["self", "word"] ["word"] (sp1 "word" C)) ∧ ∃ fI n, Cl K C fI (tlOf 19) n (fieldsL.getD 19 []) := by
  obtain ⟨fI, fd, a, F, c⟩ := N
  refine ⟨PySem.W.mg_of X G a, fun base => in_InvalidCommand (P := P) (w := w) (base := base) F c.T (c.no _ List.mem_cons_self) (PySem.W.mg_of X G a), fI, "ValueError.__new__", ?_⟩
  rw [tl_19, fl_19]
  exact c
theorem cin_20 {P : Program} {w : World} {K : PySem.W.Frag} {h : Heap} {mg : Str → Option Value} {C : Addr} (X : K.In h) (G : h.Ns mainGlobals mg) (N : CIn K "UnknownName" "UnknownName.__init__" si_UnknownName C [.type "LookupError", .type "Exception", .type "BaseException", .type "object"] "LookupError.__new__" ["value"]) :
    mg "UnknownName" = some (.ref C) ∧ (∀ base : Heap, XOk P w K mg base "UnknownName" C 1 ["self", "value"] ["value"] (sp1 "value" C)) ∧ ∃ fI n, Cl K C fI (tlOf 20) n (fieldsL.getD 20 []) := by
  obtain ⟨fI, fd, a, F, c⟩ := N
  refine ⟨PySem.W.mg_of X G a, fun base => in_UnknownName (P := P) (w := w) (base := base) F c.T (c.no _ List.mem_cons_self) (PySem.W.mg_of X G a), fI, "LookupError.__new__", ?_⟩
  rw [tl_20, fl_20]
  exact c
theorem cin_21 {P : Program} {w : World} {K : PySem.W.Frag} {h : Heap} {mg : Str → Option Value} {C : Addr} (X : K.In h) (G : h.Ns mainGlobals mg) (N : CIn K "Endless" "Endless.__init__" si_Endless C [.type "ArithmeticError", .type "Exception", .type "BaseException", .type "object"] "ArithmeticError.__new__" ["number"]) :
    mg "Endless" = some (.ref C) ∧ (∀ base : Heap, XOk P w K mg base "Endless" C 1 ["self", "number"] ["number"] (sp1 "number" C)) ∧ ∃ fI n, Cl K C fI (tlOf 21) n (fieldsL.getD 21 []) := by
  obtain ⟨fI, fd, a, F, c⟩ := N
  refine ⟨PySem.W.mg_of X G a, fun base => in_Endless (P := P) (w := w) (base := base) F c.T (c.no _ List.mem_cons_self) (PySem.W.mg_of X G a), fI, "ArithmeticError.__new__", ?_⟩
  rw [tl_21, fl_21]
  exact c
theorem cin_22 {P : Program} {w : World} {K : PySem.W.Frag} {h : Heap} {mg : Str → Option Value} {C : Addr} (X : K.In h) (G : h.Ns mainGlobals mg) (N : CIn K "DivisionByZero" "DivisionByZero.__init__" si_DivisionByZero C [.type "ArithmeticError", .type "Exception", .type "BaseException", .type "object"] "ArithmeticError.__new__" []) :
    mg "DivisionByZero" = some (.ref C) ∧ (∀ base : Heap, XOk P w K mg base "DivisionByZero" C 0 ["self"] [] (sp0 C)) ∧ ∃ fI n, Cl K C fI (tlOf 22) n (fieldsL.getD 22 []) := by
  obtain ⟨fI, fd, a, F, c⟩ := N
  refine ⟨PySem.W.mg_of X G a, fun base => in_DivisionByZero (P := P) (w := w) (base := base) F c.T  (PySem.W.mg_of X G a), fI, "ArithmeticError.__new__", ?_⟩
  rw [tl_22, fl_22]
  exact c
theorem cin_23 {P : Program} {w : World} {K : PySem.W.Frag} {h : Heap} {mg : Str → Option Value} {C : Addr} (X : K.In h) (G : h.Ns mainGlobals mg) (N : CIn K "Parted" "Parted.__init__" si_Parted C [.type "RuntimeError", .type "Exception", .type "BaseException", .type "object"] "RuntimeError.__new__" ["number"]) :
    mg "Parted" = some (.ref C) ∧ (∀ base : Heap, XOk P w K mg base "Parted" C 1 ["self", "number"] ["number"] (sp1 "number" C)) ∧ ∃ fI n, Cl K C fI (tlOf 23) n (fieldsL.getD 23 []) := by
  obtain ⟨fI, fd, a, F, c⟩ := N
  refine ⟨PySem.W.mg_of X G a, fun base => in_Parted (P := P) (w := w) (base := base) F c.T (c.no _ List.mem_cons_self) (PySem.W.mg_of X G a), fI, "RuntimeError.__new__", ?_⟩
  rw [tl_23, fl_23]
  exact c
theorem cin_24 {P : Program} {w : World} {K : PySem.W.Frag} {h : Heap} {mg : Str → Option Value} {C : Addr} (X : K.In h) (G : h.Ns mainGlobals mg) (N : CIn K "Unlike" "Unlike.__init__" si_Unlike C [.type "RuntimeError", .type "Exception", .type "BaseException", .type "object"] "RuntimeError.__new__" ["one", "other"]) :
    mg "Unlike" = some (.ref C) ∧ (∀ base : Heap, XOk P w K mg base "Unlike" C 2 ["self", "one", "other"] ["other", "one"] (sp2 "one" "other" C)) ∧ ∃ fI n, Cl K C fI (tlOf 24) n (fieldsL.getD 24 []) := by
  obtain ⟨fI, fd, a, F, c⟩ := N
  refine ⟨PySem.W.mg_of X G a, fun base => in_Unlike (P := P) (w := w) (base := base) F c.T (c.no _ List.mem_cons_self) (c.no _ (List.mem_cons_of_mem _ List.mem_cons_self)) (PySem.W.mg_of X G a), fI, "RuntimeError.__new__", ?_⟩
  rw [tl_24, fl_24]
  exact c
theorem cin_25 {P : Program} {w : World} {K : PySem.W.Frag} {h : Heap} {mg : Str → Option Value} {C : Addr} (X : K.In h) (G : h.Ns mainGlobals mg) (N : CIn K "Broken" "Broken.__init__" si_Broken C [.type "RuntimeError", .type "Exception", .type "BaseException", .type "object"] "RuntimeError.__new__" ["number"]) :
    mg "Broken" = some (.ref C) ∧ (∀ base : Heap, XOk P w K mg base "Broken" C 1 ["self", "number"] ["number"] (sp1 "number" C)) ∧ ∃ fI n, Cl K C fI (tlOf 25) n (fieldsL.getD 25 []) := by
  obtain ⟨fI, fd, a, F, c⟩ := N
  refine ⟨PySem.W.mg_of X G a, fun base => in_Broken (P := P) (w := w) (base := base) F c.T (c.no _ List.mem_cons_self) (PySem.W.mg_of X G a), fI, "RuntimeError.__new__", ?_⟩
  rw [tl_25, fl_25]
  exact c
theorem cin_26 {P : Program} {w : World} {K : PySem.W.Frag} {h : Heap} {mg : Str → Option Value} {C : Addr} (X : K.In h) (G : h.Ns mainGlobals mg) (N : CIn K "Guarded" "Guarded.__init__" si_Guarded C [.type "RuntimeError", .type "Exception", .type "BaseException", .type "object"] "RuntimeError.__new__" ["condition", "number"]) :
    mg "Guarded" = some (.ref C) ∧ (∀ base : Heap, XOk P w K mg base "Guarded" C 2 ["self", "condition", "number"] ["number", "condition"] (sp2 "condition" "number" C)) ∧ ∃ fI n, Cl K C fI (tlOf 26) n (fieldsL.getD 26 []) := by
  obtain ⟨fI, fd, a, F, c⟩ := N
  refine ⟨PySem.W.mg_of X G a, fun base => in_Guarded (P := P) (w := w) (base := base) F c.T (c.no _ List.mem_cons_self) (c.no _ (List.mem_cons_of_mem _ List.mem_cons_self)) (PySem.W.mg_of X G a), fI, "RuntimeError.__new__", ?_⟩
  rw [tl_26, fl_26]
  exact c
theorem cin_27 {P : Program} {w : World} {K : PySem.W.Frag} {h : Heap} {mg : Str → Option Value} {C : Addr} (X : K.In h) (G : h.Ns mainGlobals mg) (N : CIn K "NothingToUndo" "NothingToUndo.__init__" si_NothingToUndo C [.type "RuntimeError", .type "Exception", .type "BaseException", .type "object"] "RuntimeError.__new__" []) :
    mg "NothingToUndo" = some (.ref C) ∧ (∀ base : Heap, XOk P w K mg base "NothingToUndo" C 0 ["self"] [] (sp0 C)) ∧ ∃ fI n, Cl K C fI (tlOf 27) n (fieldsL.getD 27 []) := by
  obtain ⟨fI, fd, a, F, c⟩ := N
  refine ⟨PySem.W.mg_of X G a, fun base => in_NothingToUndo (P := P) (w := w) (base := base) F c.T  (PySem.W.mg_of X G a), fI, "RuntimeError.__new__", ?_⟩
  rw [tl_27, fl_27]
  exact c
theorem cin_28 {P : Program} {w : World} {K : PySem.W.Frag} {h : Heap} {mg : Str → Option Value} {C : Addr} (X : K.In h) (G : h.Ns mainGlobals mg) (N : CIn K "NothingToRedo" "NothingToRedo.__init__" si_NothingToRedo C [.type "RuntimeError", .type "Exception", .type "BaseException", .type "object"] "RuntimeError.__new__" []) :
    mg "NothingToRedo" = some (.ref C) ∧ (∀ base : Heap, XOk P w K mg base "NothingToRedo" C 0 ["self"] [] (sp0 C)) ∧ ∃ fI n, Cl K C fI (tlOf 28) n (fieldsL.getD 28 []) := by
  obtain ⟨fI, fd, a, F, c⟩ := N
  refine ⟨PySem.W.mg_of X G a, fun base => in_NothingToRedo (P := P) (w := w) (base := base) F c.T  (PySem.W.mg_of X G a), fI, "RuntimeError.__new__", ?_⟩
  rw [tl_28, fl_28]
  exact c
theorem cin_29 {P : Program} {w : World} {K : PySem.W.Frag} {h : Heap} {mg : Str → Option Value} {C : Addr} (X : K.In h) (G : h.Ns mainGlobals mg) (N : CIn K "NoTrial" "NoTrial.__init__" si_NoTrial C [.type "RuntimeError", .type "Exception", .type "BaseException", .type "object"] "RuntimeError.__new__" []) :
    mg "NoTrial" = some (.ref C) ∧ (∀ base : Heap, XOk P w K mg base "NoTrial" C 0 ["self"] [] (sp0 C)) ∧ ∃ fI n, Cl K C fI (tlOf 29) n (fieldsL.getD 29 []) := by
  obtain ⟨fI, fd, a, F, c⟩ := N
  refine ⟨PySem.W.mg_of X G a, fun base => in_NoTrial (P := P) (w := w) (base := base) F c.T  (PySem.W.mg_of X G a), fI, "RuntimeError.__new__", ?_⟩
  rw [tl_29, fl_29]
  exact c
theorem cin_30 {P : Program} {w : World} {K : PySem.W.Frag} {h : Heap} {mg : Str → Option Value} {C : Addr} (X : K.In h) (G : h.Ns mainGlobals mg) (N : CIn K "LimitExceeded" "LimitExceeded.__init__" si_LimitExceeded C [.type "OverflowError", .type "ArithmeticError", .type "Exception", .type "BaseException", .type "object"] "OverflowError.__new__" ["most"]) :
    mg "LimitExceeded" = some (.ref C) ∧ (∀ base : Heap, XOk P w K mg base "LimitExceeded" C 1 ["self", "most"] ["most"] (sp1 "most" C)) ∧ ∃ fI n, Cl K C fI (tlOf 30) n (fieldsL.getD 30 []) := by
  obtain ⟨fI, fd, a, F, c⟩ := N
  refine ⟨PySem.W.mg_of X G a, fun base => in_LimitExceeded (P := P) (w := w) (base := base) F c.T (c.no _ List.mem_cons_self) (PySem.W.mg_of X G a), fI, "OverflowError.__new__", ?_⟩
  rw [tl_30, fl_30]
  exact c
theorem forall31 {p : Nat → Prop} (h0 : p 0) (h1 : p 1) (h2 : p 2) (h3 : p 3) (h4 : p 4) (h5 : p 5) (h6 : p 6) (h7 : p 7) (h8 : p 8) (h9 : p 9) (h10 : p 10) (h11 : p 11) (h12 : p 12) (h13 : p 13) (h14 : p 14) (h15 : p 15) (h16 : p 16) (h17 : p 17) (h18 : p 18) (h19 : p 19) (h20 : p 20) (h21 : p 21) (h22 : p 22) (h23 : p 23) (h24 : p 24) (h25 : p 25) (h26 : p 26) (h27 : p 27) (h28 : p 28) (h29 : p 29) (h30 : p 30) : ∀ i, i < 31 → p i := fun i hi => match i, hi with
  | 0, _ => h0
  | 1, _ => h1
  | 2, _ => h2
  | 3, _ => h3
  | 4, _ => h4
  | 5, _ => h5
  | 6, _ => h6
  | 7, _ => h7
  | 8, _ => h8
  | 9, _ => h9
  | 10, _ => h10
  | 11, _ => h11
  | 12, _ => h12
  | 13, _ => h13
  | 14, _ => h14
  | 15, _ => h15
  | 16, _ => h16
  | 17, _ => h17
  | 18, _ => h18
  | 19, _ => h19
  | 20, _ => h20
  | 21, _ => h21
  | 22, _ => h22
  | 23, _ => h23
  | 24, _ => h24
  | 25, _ => h25
  | 26, _ => h26
  | 27, _ => h27
  | 28, _ => h28
  | 29, _ => h29
  | 30, _ => h30
  | n + 31, h => absurd h (by omega)
theorem core30 {l : PySem.W.OpenLaw} {w : World} {K : PySem.W.Frag} {h : Heap} {mg : Str → Option Value} {C : Nat → Addr} {fL : Addr} {fd : FuncData} (X : K.In h) (G : h.Ns mainGlobals mg) (FL : Fun K "law" "law" s_law fL fd) (T : Txt30 mg)
    (D1 : Has K mg "_law_pool" s__law_pool ["_law_script", "_law_k"])
    (D2 : Has K mg "_law_draw" s__law_draw ["_law_pool_here", "_law_many"])
    (D3 : Has K mg "_law_choose" s__law_choose ["_law_pool_here", "_law_items"])
    (D4 : Has K mg "_law_made" s__law_made ["_law_held"])
    (D5 : Has K mg "_law_named" s__law_named ["_law_held"])
    (D6 : Has K mg "_law_fields" s__law_fields ["_law_made_here"])
    (D7 : Has K mg "_law_kinds" s__law_kinds ["_law_e"])
    (D8 : Has K mg "_law_bases" s__law_bases ["_law_thing"])
    (N0 : CIn K "InvalidRule" "InvalidRule.__init__" si_InvalidRule (C 0) [.type "ValueError", .type "Exception", .type "BaseException", .type "object"] "ValueError.__new__" ["value"])
    (N1 : CIn K "InvalidNumber" "InvalidNumber.__init__" si_InvalidNumber (C 1) [.type "ValueError", .type "Exception", .type "BaseException", .type "object"] "ValueError.__new__" ["value"])
    (N2 : CIn K "InvalidBase" "InvalidBase.__init__" si_InvalidBase (C 2) [.type "ValueError", .type "Exception", .type "BaseException", .type "object"] "ValueError.__new__" ["value"])
    (N3 : CIn K "InvalidName" "InvalidName.__init__" si_InvalidName (C 3) [.type "ValueError", .type "Exception", .type "BaseException", .type "object"] "ValueError.__new__" ["value"])
    (N4 : CIn K "InvalidRegisters" "InvalidRegisters.__init__" si_InvalidRegisters (C 4) [.type "ValueError", .type "Exception", .type "BaseException", .type "object"] "ValueError.__new__" ["number"])
    (N5 : CIn K "InvalidModes" "InvalidModes.__init__" si_InvalidModes (C 5) [.type "ValueError", .type "Exception", .type "BaseException", .type "object"] "ValueError.__new__" ["number"])
    (N6 : CIn K "InvalidRow" "InvalidRow.__init__" si_InvalidRow (C 6) [.type "ValueError", .type "Exception", .type "BaseException", .type "object"] "ValueError.__new__" ["mode", "number"])
    (N7 : CIn K "InvalidEnds" "InvalidEnds.__init__" si_InvalidEnds (C 7) [.type "ValueError", .type "Exception", .type "BaseException", .type "object"] "ValueError.__new__" ["value"])
    (N8 : CIn K "InvalidResult" "InvalidResult.__init__" si_InvalidResult (C 8) [.type "ValueError", .type "Exception", .type "BaseException", .type "object"] "ValueError.__new__" ["value"])
    (N9 : CIn K "InvalidProgram" "InvalidProgram.__init__" si_InvalidProgram (C 9) [.type "ValueError", .type "Exception", .type "BaseException", .type "object"] "ValueError.__new__" ["value"])
    (N10 : CIn K "InvalidFigures" "InvalidFigures.__init__" si_InvalidFigures (C 10) [.type "ValueError", .type "Exception", .type "BaseException", .type "object"] "ValueError.__new__" ["value"])
    (N11 : CIn K "InvalidState" "InvalidState.__init__" si_InvalidState (C 11) [.type "ValueError", .type "Exception", .type "BaseException", .type "object"] "ValueError.__new__" ["value"])
    (N12 : CIn K "InvalidText" "InvalidText.__init__" si_InvalidText (C 12) [.type "ValueError", .type "Exception", .type "BaseException", .type "object"] "ValueError.__new__" ["line"])
    (N13 : CIn K "InvalidRatio" "InvalidRatio.__init__" si_InvalidRatio (C 13) [.type "ValueError", .type "Exception", .type "BaseException", .type "object"] "ValueError.__new__" ["value"])
    (N14 : CIn K "InvalidRows" "InvalidRows.__init__" si_InvalidRows (C 14) [.type "ValueError", .type "Exception", .type "BaseException", .type "object"] "ValueError.__new__" ["value"])
    (N15 : CIn K "InvalidForm" "InvalidForm.__init__" si_InvalidForm (C 15) [.type "ValueError", .type "Exception", .type "BaseException", .type "object"] "ValueError.__new__" ["value"])
    (N16 : CIn K "InvalidSign" "InvalidSign.__init__" si_InvalidSign (C 16) [.type "ValueError", .type "Exception", .type "BaseException", .type "object"] "ValueError.__new__" ["value"])
    (N17 : CIn K "InvalidMachine" "InvalidMachine.__init__" si_InvalidMachine (C 17) [.type "ValueError", .type "Exception", .type "BaseException", .type "object"] "ValueError.__new__" ["value"])
    (N18 : CIn K "InvalidPieces" "InvalidPieces.__init__" si_InvalidPieces (C 18) [.type "ValueError", .type "Exception", .type "BaseException", .type "object"] "ValueError.__new__" ["number"])
    (N19 : CIn K "InvalidCommand" "InvalidCommand.__init__" si_InvalidCommand (C 19) [.type "ValueError", .type "Exception", .type "BaseException", .type "object"] "ValueError.__new__" ["word"])
    (N20 : CIn K "UnknownName" "UnknownName.__init__" si_UnknownName (C 20) [.type "LookupError", .type "Exception", .type "BaseException", .type "object"] "LookupError.__new__" ["value"])
    (N21 : CIn K "Endless" "Endless.__init__" si_Endless (C 21) [.type "ArithmeticError", .type "Exception", .type "BaseException", .type "object"] "ArithmeticError.__new__" ["number"])
    (N22 : CIn K "DivisionByZero" "DivisionByZero.__init__" si_DivisionByZero (C 22) [.type "ArithmeticError", .type "Exception", .type "BaseException", .type "object"] "ArithmeticError.__new__" [])
    (N23 : CIn K "Parted" "Parted.__init__" si_Parted (C 23) [.type "RuntimeError", .type "Exception", .type "BaseException", .type "object"] "RuntimeError.__new__" ["number"])
    (N24 : CIn K "Unlike" "Unlike.__init__" si_Unlike (C 24) [.type "RuntimeError", .type "Exception", .type "BaseException", .type "object"] "RuntimeError.__new__" ["one", "other"])
    (N25 : CIn K "Broken" "Broken.__init__" si_Broken (C 25) [.type "RuntimeError", .type "Exception", .type "BaseException", .type "object"] "RuntimeError.__new__" ["number"])
    (N26 : CIn K "Guarded" "Guarded.__init__" si_Guarded (C 26) [.type "RuntimeError", .type "Exception", .type "BaseException", .type "object"] "RuntimeError.__new__" ["condition", "number"])
    (N27 : CIn K "NothingToUndo" "NothingToUndo.__init__" si_NothingToUndo (C 27) [.type "RuntimeError", .type "Exception", .type "BaseException", .type "object"] "RuntimeError.__new__" [])
    (N28 : CIn K "NothingToRedo" "NothingToRedo.__init__" si_NothingToRedo (C 28) [.type "RuntimeError", .type "Exception", .type "BaseException", .type "object"] "RuntimeError.__new__" [])
    (N29 : CIn K "NoTrial" "NoTrial.__init__" si_NoTrial (C 29) [.type "RuntimeError", .type "Exception", .type "BaseException", .type "object"] "RuntimeError.__new__" [])
    (N30 : CIn K "LimitExceeded" "LimitExceeded.__init__" si_LimitExceeded (C 30) [.type "OverflowError", .type "ArithmeticError", .type "Exception", .type "BaseException", .type "object"] "OverflowError.__new__" ["most"])
    (nd : ∀ i, i < 31 → ∀ j, j < 31 → C i = C j → i = j) (base : Heap) : FnG l.prog w K mg base CX0 6 fL fd ["_law_script"] (spLaw K) := by
  obtain ⟨m0, x0, c0⟩ := cin_0 (P := l.prog) (w := w) X G N0
  obtain ⟨m1, x1, c1⟩ := cin_1 (P := l.prog) (w := w) X G N1
  obtain ⟨m2, x2, c2⟩ := cin_2 (P := l.prog) (w := w) X G N2
  obtain ⟨m3, x3, c3⟩ := cin_3 (P := l.prog) (w := w) X G N3
  obtain ⟨m4, x4, c4⟩ := cin_4 (P := l.prog) (w := w) X G N4
  obtain ⟨m5, x5, c5⟩ := cin_5 (P := l.prog) (w := w) X G N5
  obtain ⟨m6, x6, c6⟩ := cin_6 (P := l.prog) (w := w) X G N6
  obtain ⟨m7, x7, c7⟩ := cin_7 (P := l.prog) (w := w) X G N7
  obtain ⟨m8, x8, c8⟩ := cin_8 (P := l.prog) (w := w) X G N8
  obtain ⟨m9, x9, c9⟩ := cin_9 (P := l.prog) (w := w) X G N9
  obtain ⟨m10, x10, c10⟩ := cin_10 (P := l.prog) (w := w) X G N10
  obtain ⟨m11, x11, c11⟩ := cin_11 (P := l.prog) (w := w) X G N11
  obtain ⟨m12, x12, c12⟩ := cin_12 (P := l.prog) (w := w) X G N12
  obtain ⟨m13, x13, c13⟩ := cin_13 (P := l.prog) (w := w) X G N13
  obtain ⟨m14, x14, c14⟩ := cin_14 (P := l.prog) (w := w) X G N14
  obtain ⟨m15, x15, c15⟩ := cin_15 (P := l.prog) (w := w) X G N15
  obtain ⟨m16, x16, c16⟩ := cin_16 (P := l.prog) (w := w) X G N16
  obtain ⟨m17, x17, c17⟩ := cin_17 (P := l.prog) (w := w) X G N17
  obtain ⟨m18, x18, c18⟩ := cin_18 (P := l.prog) (w := w) X G N18
  obtain ⟨m19, x19, c19⟩ := cin_19 (P := l.prog) (w := w) X G N19
  obtain ⟨m20, x20, c20⟩ := cin_20 (P := l.prog) (w := w) X G N20
  obtain ⟨m21, x21, c21⟩ := cin_21 (P := l.prog) (w := w) X G N21
  obtain ⟨m22, x22, c22⟩ := cin_22 (P := l.prog) (w := w) X G N22
  obtain ⟨m23, x23, c23⟩ := cin_23 (P := l.prog) (w := w) X G N23
  obtain ⟨m24, x24, c24⟩ := cin_24 (P := l.prog) (w := w) X G N24
  obtain ⟨m25, x25, c25⟩ := cin_25 (P := l.prog) (w := w) X G N25
  obtain ⟨m26, x26, c26⟩ := cin_26 (P := l.prog) (w := w) X G N26
  obtain ⟨m27, x27, c27⟩ := cin_27 (P := l.prog) (w := w) X G N27
  obtain ⟨m28, x28, c28⟩ := cin_28 (P := l.prog) (w := w) X G N28
  obtain ⟨m29, x29, c29⟩ := cin_29 (P := l.prog) (w := w) X G N29
  obtain ⟨m30, x30, c30⟩ := cin_30 (P := l.prog) (w := w) X G N30
  have all := forall31 (p := fun i => ∃ fI n, Cl K (C i) fI (tlOf i) n (fieldsL.getD i [])) c0 c1 c2 c3 c4 c5 c6 c7 c8 c9 c10 c11 c12 c13 c14 c15 c16 c17 c18 c19 c20 c21 c22 c23 c24 c25 c26 c27 c28 c29 c30
  have LK : Looks30 K C := looks30_of all
  have N : Kit30 K C := kit30_of all nd
  have O1 := ok__law_pool (P := l.prog) (w := w) (base := base) (aR := 0) D1 T
  have O2 := ok__law_draw (P := l.prog) (w := w) (base := base) (aR := 0) D2 T
  have O3 := ok__law_choose (aR := 0) D3 T O2
  have O4 := ok__law_made D4 (x0 base) (x1 base) (x2 base) (x3 base) (x4 base) (x5 base) (x6 base) (x7 base) (x8 base) (x9 base) (x10 base) (x11 base) (x12 base) (x13 base) (x14 base) (x15 base) (x16 base) (x17 base) (x18 base) (x19 base) (x20 base) (x21 base) (x22 base) (x23 base) (x24 base) (x25 base) (x26 base) (x27 base) (x28 base) (x29 base) (x30 base)
  have O5 := ok__law_named D5 (x0 base) (x1 base) (x2 base) (x3 base) (x4 base) (x5 base) (x6 base) (x7 base) (x8 base) (x9 base) (x10 base) (x11 base) (x12 base) (x13 base) (x14 base) (x15 base) (x16 base) (x17 base) (x18 base) (x19 base) (x20 base) (x21 base) (x22 base) (x23 base) (x24 base) (x25 base) (x26 base) (x27 base) (x28 base) (x29 base) (x30 base)
  have O6 := ok__law_fields (P := l.prog) (w := w) (base := base) D6 LK
  have O7 := ok__law_kinds (P := l.prog) (w := w) (base := base) D7 T N m0 m1 m2 m3 m4 m5 m6 m7 m8 m9 m10 m11 m12 m13 m14 m15 m16 m17 m18 m19 m20 m21 m22 m23 m24 m25 m26 m27 m28 m29 m30
  have O8 := ok__law_bases (P := l.prog) (w := w) (base := base) D8 T N
  exact okG_law FL T LK O1 O2 O3 O4 O5 O6 O7 O8
theorem all_mk {l : PySem.W.OpenLaw} {w : World} {K : PySem.W.Frag} {h : Heap} {mg : Str → Option Value} {fa f9 C0 C1 C2 C3 C4 C5 C6 C7 C8 C9 C10 C11 C12 C13 C14 C15 C16 C17 C18 C19 C20 C21 C22 C23 C24 C25 C26 C27 C28 C29 C30 : Addr} (X : K.In h) (G : h.Ns mainGlobals mg) (hfa : mg "law" = some (.ref fa))
    {oc : Value} {od an : Option Addr} {osl : Array (Option Value)} {kV doc pm cdv ct : Value}
    (D1 : Has K mg "_law_pool" s__law_pool ["_law_script", "_law_k"])
    (D2 : Has K mg "_law_draw" s__law_draw ["_law_pool_here", "_law_many"])
    (D3 : Has K mg "_law_choose" s__law_choose ["_law_pool_here", "_law_items"])
    (D4 : Has K mg "_law_made" s__law_made ["_law_held"])
    (D5 : Has K mg "_law_named" s__law_named ["_law_held"])
    (D6 : Has K mg "_law_fields" s__law_fields ["_law_made_here"])
    (D7 : Has K mg "_law_kinds" s__law_kinds ["_law_e"])
    (D8 : Has K mg "_law_bases" s__law_bases ["_law_thing"])
    (a9 : PySem.W.nsIn K mainGlobals "law" = some (some (.ref f9))) (l9 : K.lookup f9 = some ⟨oc, od, .func (PySem.W.fnOf "law" "law" (defArgs s_law) (defBody s_law) (defScope s_law) .none kV doc pm an cdv ct), osl⟩) (c9 : PySem.W.codeIn K cdv "law" = true) (k9 : PySem.W.keepIn K (.ref f9) = true)
    (N0 : CIn K "InvalidRule" "InvalidRule.__init__" si_InvalidRule C0 [.type "ValueError", .type "Exception", .type "BaseException", .type "object"] "ValueError.__new__" ["value"])
    (N1 : CIn K "InvalidNumber" "InvalidNumber.__init__" si_InvalidNumber C1 [.type "ValueError", .type "Exception", .type "BaseException", .type "object"] "ValueError.__new__" ["value"])
    (N2 : CIn K "InvalidBase" "InvalidBase.__init__" si_InvalidBase C2 [.type "ValueError", .type "Exception", .type "BaseException", .type "object"] "ValueError.__new__" ["value"])
    (N3 : CIn K "InvalidName" "InvalidName.__init__" si_InvalidName C3 [.type "ValueError", .type "Exception", .type "BaseException", .type "object"] "ValueError.__new__" ["value"])
    (N4 : CIn K "InvalidRegisters" "InvalidRegisters.__init__" si_InvalidRegisters C4 [.type "ValueError", .type "Exception", .type "BaseException", .type "object"] "ValueError.__new__" ["number"])
    (N5 : CIn K "InvalidModes" "InvalidModes.__init__" si_InvalidModes C5 [.type "ValueError", .type "Exception", .type "BaseException", .type "object"] "ValueError.__new__" ["number"])
    (N6 : CIn K "InvalidRow" "InvalidRow.__init__" si_InvalidRow C6 [.type "ValueError", .type "Exception", .type "BaseException", .type "object"] "ValueError.__new__" ["mode", "number"])
    (N7 : CIn K "InvalidEnds" "InvalidEnds.__init__" si_InvalidEnds C7 [.type "ValueError", .type "Exception", .type "BaseException", .type "object"] "ValueError.__new__" ["value"])
    (N8 : CIn K "InvalidResult" "InvalidResult.__init__" si_InvalidResult C8 [.type "ValueError", .type "Exception", .type "BaseException", .type "object"] "ValueError.__new__" ["value"])
    (N9 : CIn K "InvalidProgram" "InvalidProgram.__init__" si_InvalidProgram C9 [.type "ValueError", .type "Exception", .type "BaseException", .type "object"] "ValueError.__new__" ["value"])
    (N10 : CIn K "InvalidFigures" "InvalidFigures.__init__" si_InvalidFigures C10 [.type "ValueError", .type "Exception", .type "BaseException", .type "object"] "ValueError.__new__" ["value"])
    (N11 : CIn K "InvalidState" "InvalidState.__init__" si_InvalidState C11 [.type "ValueError", .type "Exception", .type "BaseException", .type "object"] "ValueError.__new__" ["value"])
    (N12 : CIn K "InvalidText" "InvalidText.__init__" si_InvalidText C12 [.type "ValueError", .type "Exception", .type "BaseException", .type "object"] "ValueError.__new__" ["line"])
    (N13 : CIn K "InvalidRatio" "InvalidRatio.__init__" si_InvalidRatio C13 [.type "ValueError", .type "Exception", .type "BaseException", .type "object"] "ValueError.__new__" ["value"])
    (N14 : CIn K "InvalidRows" "InvalidRows.__init__" si_InvalidRows C14 [.type "ValueError", .type "Exception", .type "BaseException", .type "object"] "ValueError.__new__" ["value"])
    (N15 : CIn K "InvalidForm" "InvalidForm.__init__" si_InvalidForm C15 [.type "ValueError", .type "Exception", .type "BaseException", .type "object"] "ValueError.__new__" ["value"])
    (N16 : CIn K "InvalidSign" "InvalidSign.__init__" si_InvalidSign C16 [.type "ValueError", .type "Exception", .type "BaseException", .type "object"] "ValueError.__new__" ["value"])
    (N17 : CIn K "InvalidMachine" "InvalidMachine.__init__" si_InvalidMachine C17 [.type "ValueError", .type "Exception", .type "BaseException", .type "object"] "ValueError.__new__" ["value"])
    (N18 : CIn K "InvalidPieces" "InvalidPieces.__init__" si_InvalidPieces C18 [.type "ValueError", .type "Exception", .type "BaseException", .type "object"] "ValueError.__new__" ["number"])
    (N19 : CIn K "InvalidCommand" "InvalidCommand.__init__" si_InvalidCommand C19 [.type "ValueError", .type "Exception", .type "BaseException", .type "object"] "ValueError.__new__" ["word"])
    (N20 : CIn K "UnknownName" "UnknownName.__init__" si_UnknownName C20 [.type "LookupError", .type "Exception", .type "BaseException", .type "object"] "LookupError.__new__" ["value"])
    (N21 : CIn K "Endless" "Endless.__init__" si_Endless C21 [.type "ArithmeticError", .type "Exception", .type "BaseException", .type "object"] "ArithmeticError.__new__" ["number"])
    (N22 : CIn K "DivisionByZero" "DivisionByZero.__init__" si_DivisionByZero C22 [.type "ArithmeticError", .type "Exception", .type "BaseException", .type "object"] "ArithmeticError.__new__" [])
    (N23 : CIn K "Parted" "Parted.__init__" si_Parted C23 [.type "RuntimeError", .type "Exception", .type "BaseException", .type "object"] "RuntimeError.__new__" ["number"])
    (N24 : CIn K "Unlike" "Unlike.__init__" si_Unlike C24 [.type "RuntimeError", .type "Exception", .type "BaseException", .type "object"] "RuntimeError.__new__" ["one", "other"])
    (N25 : CIn K "Broken" "Broken.__init__" si_Broken C25 [.type "RuntimeError", .type "Exception", .type "BaseException", .type "object"] "RuntimeError.__new__" ["number"])
    (N26 : CIn K "Guarded" "Guarded.__init__" si_Guarded C26 [.type "RuntimeError", .type "Exception", .type "BaseException", .type "object"] "RuntimeError.__new__" ["condition", "number"])
    (N27 : CIn K "NothingToUndo" "NothingToUndo.__init__" si_NothingToUndo C27 [.type "RuntimeError", .type "Exception", .type "BaseException", .type "object"] "RuntimeError.__new__" [])
    (N28 : CIn K "NothingToRedo" "NothingToRedo.__init__" si_NothingToRedo C28 [.type "RuntimeError", .type "Exception", .type "BaseException", .type "object"] "RuntimeError.__new__" [])
    (N29 : CIn K "NoTrial" "NoTrial.__init__" si_NoTrial C29 [.type "RuntimeError", .type "Exception", .type "BaseException", .type "object"] "RuntimeError.__new__" [])
    (N30 : CIn K "LimitExceeded" "LimitExceeded.__init__" si_LimitExceeded C30 [.type "OverflowError", .type "ArithmeticError", .type "Exception", .type "BaseException", .type "object"] "OverflowError.__new__" ["most"])
    (nd : ∀ i, i < 31 → ∀ j, j < 31 → ([C0, C1, C2, C3, C4, C5, C6, C7, C8, C9, C10, C11, C12, C13, C14, C15, C16, C17, C18, C19, C20, C21, C22, C23, C24, C25, C26, C27, C28, C29, C30] : List Addr).getD i 0 = ([C0, C1, C2, C3, C4, C5, C6, C7, C8, C9, C10, C11, C12, C13, C14, C15, C16, C17, C18, C19, C20, C21, C22, C23, C24, C25, C26, C27, C28, C29, C30] : List Addr).getD j 0 → i = j)
    (z1 : PySem.W.nsIn K mainGlobals "isinstance" = some none) (z2 : PySem.W.nsIn K mainGlobals "int" = some none) (z3 : PySem.W.nsIn K mainGlobals "len" = some none) (z4 : PySem.W.nsIn K mainGlobals "range" = some none) (z5 : PySem.W.nsIn K mainGlobals "max" = some none) (z6 : PySem.W.nsIn K mainGlobals "min" = some none) (z7 : PySem.W.nsIn K mainGlobals "repr" = some none) (z8 : PySem.W.nsIn K mainGlobals "ValueError" = some none) (z9 : PySem.W.nsIn K mainGlobals "LookupError" = some none) (z10 : PySem.W.nsIn K mainGlobals "ArithmeticError" = some none) (z11 : PySem.W.nsIn K mainGlobals "RuntimeError" = some none) (z12 : PySem.W.nsIn K mainGlobals "OverflowError" = some none) :
    ∃ fd : FuncData, (∀ (s : Shared) (v : Value), BindsTo s fd ⟨[v], []⟩ [("_law_script", v)]) ∧ ∀ base : Heap, K.In base → base.Ns mainGlobals mg → FnG l.prog w K mg base CX0 6 fa fd ["_law_script"] (spLaw K) := by
  have e := hfa.symm.trans (PySem.W.mg_of X G a9)
  cases e
  have T : Txt30 mg := ⟨PySem.W.mg_none_of X G z1, PySem.W.mg_none_of X G z2, PySem.W.mg_none_of X G z3, PySem.W.mg_none_of X G z4, PySem.W.mg_none_of X G z5, PySem.W.mg_none_of X G z6, PySem.W.mg_none_of X G z7, PySem.W.mg_none_of X G z8, PySem.W.mg_none_of X G z9, PySem.W.mg_none_of X G z10, PySem.W.mg_none_of X G z11, PySem.W.mg_none_of X G z12⟩
  refine ⟨PySem.W.fnOf "law" "law" (defArgs s_law) (defBody s_law) (defScope s_law) .none kV doc pm an cdv ct, fun s v => .of_eq rfl, fun base _ _ => ?_⟩
  exact core30 (C := fun i => ([C0, C1, C2, C3, C4, C5, C6, C7, C8, C9, C10, C11, C12, C13, C14, C15, C16, C17, C18, C19, C20, C21, C22, C23, C24, C25, C26, C27, C28, C29, C30] : List Addr).getD i 0) X G (fun_mk (st := s_law) l9 c9 k9) T D1 D2 D3 D4 D5 D6 D7 D8 N0 N1 N2 N3 N4 N5 N6 N7 N8 N9 N10 N11 N12 N13 N14 N15 N16 N17 N18 N19 N20 N21 N22 N23 N24 N25 N26 N27 N28 N29 N30 nd base
theorem walk {l : PySem.W.OpenLaw} {q : Program} {loose : List Str} {XP : (Str → Option Value) → Heap → Prop} {YP : World → Heap → Prop} {d : DefRec} {K : Params → PySem.W.Frag} (hn : l.most = some 63) (hdf : d.params.defaults = [])
    (hY : ∀ (w : World) (h : Heap), YP w h → (K w.params).In h)
    (F : ∀ (w : World) (mg : Str → Option Value) (fa : Addr) (h : Heap), (K w.params).In h → h.Ns mainGlobals mg → mg d.name = some (.ref fa) →
      ∃ fd : FuncData, (∀ (s : Shared) (u : Value), BindsTo s fd ⟨[u], []⟩ [("_law_script", u)]) ∧ ∀ base : Heap, (K w.params).In base → base.Ns mainGlobals mg → FnG l.prog w (K w.params) mg base CX0 6 fa fd ["_law_script"] (spLaw (K w.params))) :
    PySem.W.WalkO q loose XP YP l.row.toRowW d [] (fun f vs => PySem.call f vs) :=
  walk_ofG (n := 63) (k := 6) (x := "_law_script") (CX := fun _ => CX0) (sp := fun w => spLaw (K w.params)) hn (by decide) hdf ⟨rfl, by decide, by decide⟩ hY F (fun _ _ a ns hl _ hS => ⟨a, ns, rfl, hS, hl, fun _ => rfl⟩) fun _ _ _ _ _ z => z
end W1
open PySem PySem.W PyProof.Rows
set_option maxRecDepth 100000 in
set_option maxHeartbeats 0 in
theorem PySem.Challenge.cw_twodivisions_k30_error_classes_holds : PySem.Challenge.rw_twodivisions_k30_error_classes.Holds := by
  w_on; o_law; k_head; (case hw => w_witness2)
  k_fill
  refine W1.walk (l := PySem.Challenge.rw_twodivisions_k30_error_classes) rfl rfl (fun w h Y => PySem.W.kIn_of Y) ?F
  case F =>
    intro w mg fa h KX G hmg
    refine' W1.all_mk KX G hmg ?D1 ?D2 ?D3 ?D4 ?D5 ?D6 ?D7 ?D8 ?a9 ?l9 ?c9 ?k9 ?N0 ?N1 ?N2 ?N3 ?N4 ?N5 ?N6 ?N7 ?N8 ?N9 ?N10 ?N11 ?N12 ?N13 ?N14 ?N15 ?N16 ?N17 ?N18 ?N19 ?N20 ?N21 ?N22 ?N23 ?N24 ?N25 ?N26 ?N27 ?N28 ?N29 ?N30 ?nd ?z1 ?z2 ?z3 ?z4 ?z5 ?z6 ?z7 ?z8 ?z9 ?z10 ?z11 ?z12
    (case D1 => (refine' W1.has_mk KX G (fun _ _ _ _ _ _ us hl => match us, hl with | [_, _], _ => rfl) ?a ?l ?c ?k; (case a => k_is); (case l => k_is); (case c => k_is); (case k => k_is)))
    (case D2 => (refine' W1.has_mk KX G (fun _ _ _ _ _ _ us hl => match us, hl with | [_, _], _ => rfl) ?a ?l ?c ?k; (case a => k_is); (case l => k_is); (case c => k_is); (case k => k_is)))
    (case D3 => (refine' W1.has_mk KX G (fun _ _ _ _ _ _ us hl => match us, hl with | [_, _], _ => rfl) ?a ?l ?c ?k; (case a => k_is); (case l => k_is); (case c => k_is); (case k => k_is)))
    (case D4 => (refine' W1.has_mk KX G (fun _ _ _ _ _ _ us hl => match us, hl with | [_], _ => rfl) ?a ?l ?c ?k; (case a => k_is); (case l => k_is); (case c => k_is); (case k => k_is)))
    (case D5 => (refine' W1.has_mk KX G (fun _ _ _ _ _ _ us hl => match us, hl with | [_], _ => rfl) ?a ?l ?c ?k; (case a => k_is); (case l => k_is); (case c => k_is); (case k => k_is)))
    (case D6 => (refine' W1.has_mk KX G (fun _ _ _ _ _ _ us hl => match us, hl with | [_], _ => rfl) ?a ?l ?c ?k; (case a => k_is); (case l => k_is); (case c => k_is); (case k => k_is)))
    (case D7 => (refine' W1.has_mk KX G (fun _ _ _ _ _ _ us hl => match us, hl with | [_], _ => rfl) ?a ?l ?c ?k; (case a => k_is); (case l => k_is); (case c => k_is); (case k => k_is)))
    (case D8 => (refine' W1.has_mk KX G (fun _ _ _ _ _ _ us hl => match us, hl with | [_], _ => rfl) ?a ?l ?c ?k; (case a => k_is); (case l => k_is); (case c => k_is); (case k => k_is)))
    (case a9 => k_is); (case l9 => k_is); (case c9 => k_is); (case k9 => k_is)
    (case N0 => (refine' W1.cin_mk ?a ?b ?l ?c ?k ?g1 ?g2 ?t ?u ?v ?w; (case a => k_is); (case b => k_is); (case l => k_is); (case c => k_is); (case k => k_is); (case g1 => k_is); (case g2 => k_is); (case t => kernel_rfl); (case u => kernel_rfl); (case v => kernel_rfl); (case w => kernel_rfl)))
    (case N1 => (refine' W1.cin_mk ?a ?b ?l ?c ?k ?g1 ?g2 ?t ?u ?v ?w; (case a => k_is); (case b => k_is); (case l => k_is); (case c => k_is); (case k => k_is); (case g1 => k_is); (case g2 => k_is); (case t => kernel_rfl); (case u => kernel_rfl); (case v => kernel_rfl); (case w => kernel_rfl)))
    (case N2 => (refine' W1.cin_mk ?a ?b ?l ?c ?k ?g1 ?g2 ?t ?u ?v ?w; (case a => k_is); (case b => k_is); (case l => k_is); (case c => k_is); (case k => k_is); (case g1 => k_is); (case g2 => k_is); (case t => kernel_rfl); (case u => kernel_rfl); (case v => kernel_rfl); (case w => kernel_rfl)))
    (case N3 => (refine' W1.cin_mk ?a ?b ?l ?c ?k ?g1 ?g2 ?t ?u ?v ?w; (case a => k_is); (case b => k_is); (case l => k_is); (case c => k_is); (case k => k_is); (case g1 => k_is); (case g2 => k_is); (case t => kernel_rfl); (case u => kernel_rfl); (case v => kernel_rfl); (case w => kernel_rfl)))
    (case N4 => (refine' W1.cin_mk ?a ?b ?l ?c ?k ?g1 ?g2 ?t ?u ?v ?w; (case a => k_is); (case b => k_is); (case l => k_is); (case c => k_is); (case k => k_is); (case g1 => k_is); (case g2 => k_is); (case t => kernel_rfl); (case u => kernel_rfl); (case v => kernel_rfl); (case w => kernel_rfl)))
    (case N5 => (refine' W1.cin_mk ?a ?b ?l ?c ?k ?g1 ?g2 ?t ?u ?v ?w; (case a => k_is); (case b => k_is); (case l => k_is); (case c => k_is); (case k => k_is); (case g1 => k_is); (case g2 => k_is); (case t => kernel_rfl); (case u => kernel_rfl); (case v => kernel_rfl); (case w => kernel_rfl)))
    (case N6 => (refine' W1.cin_mk ?a ?b ?l ?c ?k ?g1 ?g2 ?t ?u ?v ?w; (case a => k_is); (case b => k_is); (case l => k_is); (case c => k_is); (case k => k_is); (case g1 => k_is); (case g2 => k_is); (case t => kernel_rfl); (case u => kernel_rfl); (case v => kernel_rfl); (case w => kernel_rfl)))
    (case N7 => (refine' W1.cin_mk ?a ?b ?l ?c ?k ?g1 ?g2 ?t ?u ?v ?w; (case a => k_is); (case b => k_is); (case l => k_is); (case c => k_is); (case k => k_is); (case g1 => k_is); (case g2 => k_is); (case t => kernel_rfl); (case u => kernel_rfl); (case v => kernel_rfl); (case w => kernel_rfl)))
    (case N8 => (refine' W1.cin_mk ?a ?b ?l ?c ?k ?g1 ?g2 ?t ?u ?v ?w; (case a => k_is); (case b => k_is); (case l => k_is); (case c => k_is); (case k => k_is); (case g1 => k_is); (case g2 => k_is); (case t => kernel_rfl); (case u => kernel_rfl); (case v => kernel_rfl); (case w => kernel_rfl)))
    (case N9 => (refine' W1.cin_mk ?a ?b ?l ?c ?k ?g1 ?g2 ?t ?u ?v ?w; (case a => k_is); (case b => k_is); (case l => k_is); (case c => k_is); (case k => k_is); (case g1 => k_is); (case g2 => k_is); (case t => kernel_rfl); (case u => kernel_rfl); (case v => kernel_rfl); (case w => kernel_rfl)))
    (case N10 => (refine' W1.cin_mk ?a ?b ?l ?c ?k ?g1 ?g2 ?t ?u ?v ?w; (case a => k_is); (case b => k_is); (case l => k_is); (case c => k_is); (case k => k_is); (case g1 => k_is); (case g2 => k_is); (case t => kernel_rfl); (case u => kernel_rfl); (case v => kernel_rfl); (case w => kernel_rfl)))
    (case N11 => (refine' W1.cin_mk ?a ?b ?l ?c ?k ?g1 ?g2 ?t ?u ?v ?w; (case a => k_is); (case b => k_is); (case l => k_is); (case c => k_is); (case k => k_is); (case g1 => k_is); (case g2 => k_is); (case t => kernel_rfl); (case u => kernel_rfl); (case v => kernel_rfl); (case w => kernel_rfl)))
    (case N12 => (refine' W1.cin_mk ?a ?b ?l ?c ?k ?g1 ?g2 ?t ?u ?v ?w; (case a => k_is); (case b => k_is); (case l => k_is); (case c => k_is); (case k => k_is); (case g1 => k_is); (case g2 => k_is); (case t => kernel_rfl); (case u => kernel_rfl); (case v => kernel_rfl); (case w => kernel_rfl)))
    (case N13 => (refine' W1.cin_mk ?a ?b ?l ?c ?k ?g1 ?g2 ?t ?u ?v ?w; (case a => k_is); (case b => k_is); (case l => k_is); (case c => k_is); (case k => k_is); (case g1 => k_is); (case g2 => k_is); (case t => kernel_rfl); (case u => kernel_rfl); (case v => kernel_rfl); (case w => kernel_rfl)))
    (case N14 => (refine' W1.cin_mk ?a ?b ?l ?c ?k ?g1 ?g2 ?t ?u ?v ?w; (case a => k_is); (case b => k_is); (case l => k_is); (case c => k_is); (case k => k_is); (case g1 => k_is); (case g2 => k_is); (case t => kernel_rfl); (case u => kernel_rfl); (case v => kernel_rfl); (case w => kernel_rfl)))
    (case N15 => (refine' W1.cin_mk ?a ?b ?l ?c ?k ?g1 ?g2 ?t ?u ?v ?w; (case a => k_is); (case b => k_is); (case l => k_is); (case c => k_is); (case k => k_is); (case g1 => k_is); (case g2 => k_is); (case t => kernel_rfl); (case u => kernel_rfl); (case v => kernel_rfl); (case w => kernel_rfl)))
    (case N16 => (refine' W1.cin_mk ?a ?b ?l ?c ?k ?g1 ?g2 ?t ?u ?v ?w; (case a => k_is); (case b => k_is); (case l => k_is); (case c => k_is); (case k => k_is); (case g1 => k_is); (case g2 => k_is); (case t => kernel_rfl); (case u => kernel_rfl); (case v => kernel_rfl); (case w => kernel_rfl)))
    (case N17 => (refine' W1.cin_mk ?a ?b ?l ?c ?k ?g1 ?g2 ?t ?u ?v ?w; (case a => k_is); (case b => k_is); (case l => k_is); (case c => k_is); (case k => k_is); (case g1 => k_is); (case g2 => k_is); (case t => kernel_rfl); (case u => kernel_rfl); (case v => kernel_rfl); (case w => kernel_rfl)))
    (case N18 => (refine' W1.cin_mk ?a ?b ?l ?c ?k ?g1 ?g2 ?t ?u ?v ?w; (case a => k_is); (case b => k_is); (case l => k_is); (case c => k_is); (case k => k_is); (case g1 => k_is); (case g2 => k_is); (case t => kernel_rfl); (case u => kernel_rfl); (case v => kernel_rfl); (case w => kernel_rfl)))
    (case N19 => (refine' W1.cin_mk ?a ?b ?l ?c ?k ?g1 ?g2 ?t ?u ?v ?w; (case a => k_is); (case b => k_is); (case l => k_is); (case c => k_is); (case k => k_is); (case g1 => k_is); (case g2 => k_is); (case t => kernel_rfl); (case u => kernel_rfl); (case v => kernel_rfl); (case w => kernel_rfl)))
    (case N20 => (refine' W1.cin_mk ?a ?b ?l ?c ?k ?g1 ?g2 ?t ?u ?v ?w; (case a => k_is); (case b => k_is); (case l => k_is); (case c => k_is); (case k => k_is); (case g1 => k_is); (case g2 => k_is); (case t => kernel_rfl); (case u => kernel_rfl); (case v => kernel_rfl); (case w => kernel_rfl)))
    (case N21 => (refine' W1.cin_mk ?a ?b ?l ?c ?k ?g1 ?g2 ?t ?u ?v ?w; (case a => k_is); (case b => k_is); (case l => k_is); (case c => k_is); (case k => k_is); (case g1 => k_is); (case g2 => k_is); (case t => kernel_rfl); (case u => kernel_rfl); (case v => kernel_rfl); (case w => kernel_rfl)))
    (case N22 => (refine' W1.cin_mk ?a ?b ?l ?c ?k ?g1 ?g2 ?t ?u ?v ?w; (case a => k_is); (case b => k_is); (case l => k_is); (case c => k_is); (case k => k_is); (case g1 => k_is); (case g2 => k_is); (case t => kernel_rfl); (case u => kernel_rfl); (case v => kernel_rfl); (case w => kernel_rfl)))
    (case N23 => (refine' W1.cin_mk ?a ?b ?l ?c ?k ?g1 ?g2 ?t ?u ?v ?w; (case a => k_is); (case b => k_is); (case l => k_is); (case c => k_is); (case k => k_is); (case g1 => k_is); (case g2 => k_is); (case t => kernel_rfl); (case u => kernel_rfl); (case v => kernel_rfl); (case w => kernel_rfl)))
    (case N24 => (refine' W1.cin_mk ?a ?b ?l ?c ?k ?g1 ?g2 ?t ?u ?v ?w; (case a => k_is); (case b => k_is); (case l => k_is); (case c => k_is); (case k => k_is); (case g1 => k_is); (case g2 => k_is); (case t => kernel_rfl); (case u => kernel_rfl); (case v => kernel_rfl); (case w => kernel_rfl)))
    (case N25 => (refine' W1.cin_mk ?a ?b ?l ?c ?k ?g1 ?g2 ?t ?u ?v ?w; (case a => k_is); (case b => k_is); (case l => k_is); (case c => k_is); (case k => k_is); (case g1 => k_is); (case g2 => k_is); (case t => kernel_rfl); (case u => kernel_rfl); (case v => kernel_rfl); (case w => kernel_rfl)))
    (case N26 => (refine' W1.cin_mk ?a ?b ?l ?c ?k ?g1 ?g2 ?t ?u ?v ?w; (case a => k_is); (case b => k_is); (case l => k_is); (case c => k_is); (case k => k_is); (case g1 => k_is); (case g2 => k_is); (case t => kernel_rfl); (case u => kernel_rfl); (case v => kernel_rfl); (case w => kernel_rfl)))
    (case N27 => (refine' W1.cin_mk ?a ?b ?l ?c ?k ?g1 ?g2 ?t ?u ?v ?w; (case a => k_is); (case b => k_is); (case l => k_is); (case c => k_is); (case k => k_is); (case g1 => k_is); (case g2 => k_is); (case t => kernel_rfl); (case u => kernel_rfl); (case v => kernel_rfl); (case w => kernel_rfl)))
    (case N28 => (refine' W1.cin_mk ?a ?b ?l ?c ?k ?g1 ?g2 ?t ?u ?v ?w; (case a => k_is); (case b => k_is); (case l => k_is); (case c => k_is); (case k => k_is); (case g1 => k_is); (case g2 => k_is); (case t => kernel_rfl); (case u => kernel_rfl); (case v => kernel_rfl); (case w => kernel_rfl)))
    (case N29 => (refine' W1.cin_mk ?a ?b ?l ?c ?k ?g1 ?g2 ?t ?u ?v ?w; (case a => k_is); (case b => k_is); (case l => k_is); (case c => k_is); (case k => k_is); (case g1 => k_is); (case g2 => k_is); (case t => kernel_rfl); (case u => kernel_rfl); (case v => kernel_rfl); (case w => kernel_rfl)))
    (case N30 => (refine' W1.cin_mk ?a ?b ?l ?c ?k ?g1 ?g2 ?t ?u ?v ?w; (case a => k_is); (case b => k_is); (case l => k_is); (case c => k_is); (case k => k_is); (case g1 => k_is); (case g2 => k_is); (case t => kernel_rfl); (case u => kernel_rfl); (case v => kernel_rfl); (case w => kernel_rfl)))
    (case nd => decide +kernel)
    (case z1 => k_is); (case z2 => k_is); (case z3 => k_is); (case z4 => k_is); (case z5 => k_is); (case z6 => k_is); (case z7 => k_is); (case z8 => k_is); (case z9 => k_is); (case z10 => k_is); (case z11 => k_is); (case z12 => k_is)
