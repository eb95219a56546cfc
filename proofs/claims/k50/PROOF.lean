import PyProof.Rows.All
import Wide.All
import OpenK.AllK
import Wide.FinOn
import HandS.ForMost
import HandS.Wide
import HandS.IsInst
import HandS.Walk
import HandS.Codes
import HandS.ForExc
import HandS.TryMany
import HandS.TryOnly
import HandS.WordsExc
import KE.KExcInit
import KE.KExcPX
import HandS.ExcInit
import HandS.ExcField
import HandS.ExcIs
import KE.KExcIs
import HandS.Defaults
import HandS.MakeKw
import PyProof.ReprRoads
import PyProof.CallFns
import PyProof.ReprLen
import PySem.Challenge.RW_twodivisions_k50_determinants
set_option Elab.async false
set_option maxRecDepth 100000
set_option maxHeartbeats 4000000
set_option linter.all false
set_option exponentiation.threshold 5000
namespace W1
open PySem L2
local macro_rules | `(tactic| and_intros) => `(tactic| first | refine ⟨_, rfl, ?_⟩ | refine ⟨_, _, rfl, rfl, ?_⟩)
/-! ### own layer: promises that are kept where no repr is under way (A.guards = some []) -/
structure FnG (P : Program) (w : World) (K : PySem.W.Frag) (mg : Str → Option Value) (base : Heap) (CX : CXT) (k : Nat) (f : Addr) (fd : FuncData) (ps : List Str) (sp : Sp) : Prop where
  lens : ∀ vs H Q E, sp vs H Q E → vs.length = ps.length
  goes : ∀ (A : Around) (outer : List Env) (s : Shared) (H : Hp) (args : Args) (us : List Value) (vs : List V) (Q : VK) (E : XK), A.guards = some [] → Room k A → Env0 P w K mg base A outer s H →
    BindsTo s fd args (ps.zip us) → Vals vs us → sp vs H Q E → codeAny (model P w) A (.call (.ref f) args) (CR CX outer P w H s Q E) s
theorem FnG.of {P : Program} {w : World} {K : PySem.W.Frag} {mg : Str → Option Value} {base : Heap} {CX : CXT} {k : Nat} {f : Addr} {fd : FuncData} {ps : List Str} {sp : Sp} (F : FnOk P w K mg base CX k f fd ps sp) : FnG P w K mg base CX k f fd ps sp :=
  ⟨F.len, fun A outer s H args us vs Q E _ => F.run A outer s H args us vs Q E⟩
section
variable {X : Cx} {CX : CXT} {k : Nat} {f C : Addr} {fd : FuncData} {ps : List Str} {sp : Sp} {dvs : List V} {ds : List Value} {E : XK} {x m : Str} {p pos apos : Pos} {e o : Expr} {es : List Expr} {ta : TE} {t : TA}
theorem goG {pins : List (Addr × Obj)} {σ : St} {H : Hp} {s : Shared} {Q : VK} {us : List Value} {vs : List V} (F : FnG X.prog X.w X.K X.mg X.base CX k f fd ps sp) (hG : X.A.guards = some []) (hr : Room k X.A) (hb : Binds X.K fd ps ds) (hd : Vals dvs ds)
    (hx : Passes CX X E) (I : Inv X pins σ H s) (r : Vals vs us) (h : sp (vs ++ dvs) H Q E) : wpAny (model X.prog X.w) X.A (call (.ref f) us) (EP X pins σ Q) X.xe s := by
  have both := r.append hd
  have many : (us ++ ds).length = ps.length := both.length.symm.trans (F.lens _ _ _ _ h)
  refine wpAny_call (codeAny_mono (F.goes X.A X.stack s H ⟨us, []⟩ (us ++ ds) (vs ++ dvs) Q E hG hr I.env0 (hb s us I.kIn many) both h) ?_)
  rintro (er | fl) s' z
  · exact hx pins σ H s er s' I z
  · cases fl with
    | ret u => exact I.after z
    | _ => exact z.elim
theorem pe_callG (F : FnG X.prog X.w X.K X.mg X.base CX k f fd ps sp) (hG : X.A.guards = some []) (hr : Room k X.A) (hg : Gl X x) (hm : X.mg x = some (.ref f)) (hk : PySem.W.keepIn X.K (.ref f) = true) (hb : Binds X.K fd ps ds) (hd : Vals dvs ds) (hx : Passes CX X E)
    (ha : PA X (e :: es) t) (hdb : (x == ("__debug__" : Str)) = false := by decide) (he : starEach (e :: es) X.env = (false, eval e X.env) :: starEach es X.env := by rfl) (hpl : (backTo pos (starEach es X.env)).any (·.1) = false := by rfl) :
    PE X (.Call (.Name x p) (e :: es) [] pos) (tCall sp dvs E t) :=
  ⟨fun pins s σ H Q I h => wpAny_Call_Name_kw (ld_glob I hg hm (PySem.W.callWith_K (h₀ := X.base) I.ok.mod.kin hk (thn (ha.run pos pins s σ H _ I h) fun us s1 ⟨vs, H1, I1, r, q⟩ => ⟨I1.kIn, goG F hG hr hb hd hx I1 r q⟩) he hpl) hdb)⟩
theorem pe_callG0 (F : FnG X.prog X.w X.K X.mg X.base CX k f fd ps sp) (hG : X.A.guards = some []) (hr : Room k X.A) (hg : Gl X x) (hm : X.mg x = some (.ref f)) (hk : PySem.W.keepIn X.K (.ref f) = true) (hb : Binds X.K fd ps ds) (hd : Vals dvs ds) (hx : Passes CX X E)
    (hdb : (x == ("__debug__" : Str)) = false := by decide) : PE X (.Call (.Name x p) [] [] pos) (tCall sp dvs E tNil) :=
  ⟨fun pins s σ H Q I h => wpAny_Call_Name_kw (ld_glob I hg hm (PySem.W.callWith_K0 I.kIn hk (goG (us := []) F hG hr hb hd hx I .nil h)) hdb)⟩
end
/-- a def keeps its promise by its body, in such surroundings -/
theorem fnG_of {CX : CXT} {P : Program} {w : World} {K : PySem.W.Frag} {mg : Str → Option Value} {base : Heap} {k : Nat} {f : Addr} {name qual : Str} {params : Arguments} {body : List Stmt} {scope : Scope} {dV kV doc pm cdv ct oc : Value} {an od : Option Addr}
    {osl : Array (Option Value)} {N ps : List Str} {sp : Sp} (lk : K.lookup f = some ⟨oc, od, .func (PySem.W.fnOf name qual params body scope dV kV doc pm an cdv ct), osl⟩) (hcd : PySem.W.codeIn K cdv qual = true) (S : FnScope N ps scope)
    (len : ∀ vs H Q E, sp vs H Q E → vs.length = ps.length)
    (hbody : ∀ (A : Around) (outer : List Env) (s : Shared) (H : Hp) (vs : List V) (Q : VK) (E : XK), A.guards = some [] → Room k (A.deeper (PyProof.Rows.envOfC qual scope s.heap.objs.size f cdv)) → sp vs H Q E →
      ∃ t, PSs (cxOf CX P w K mg base N qual scope f cdv A outer s H E) body t ∧ t { nx := fun _ H' => Q .non H', rt := Q } (start N vs) H) :
    FnG P w K mg base CX (k + 1) f (PySem.W.fnOf name qual params body scope dV kV doc pm an cdv ct) ps sp := by
  refine ⟨len, fun A outer s H args us vs Q E hG hr e0 hb r hsp => ?_⟩
  have many := len _ _ _ _ hsp
  have part : K.In s.heap := e0.mod.kin.keeps fun b o z => (e0.bs b o z).1
  have below : s.heap.NoLimit := e0.mod.nolimit.keeps fun b o z => (e0.bs b o z).1
  have kinds : ∀ y ∈ ps.zip us, scope.names.lookup y.1 = some .local ∨ (scope.names.lookup y.1 = some .cell ∧ ((PySem.cellsFrom (s.heap.objs.size + 1) scope.names []).lookup y.1).isSome = true) := by
    rintro ⟨n, v⟩ hy
    exact (S.par n (List.of_mem_zip hy).1).imp id fun q => ⟨q, PySem.W.cellsFrom_some _ _ _ (.inl q)⟩
  refine PySem.codeAny_call_function hr.depth (part _ _ lk) rfl S.co S.gen rfl (PySem.W.codeRec_of part hcd) (hb _ _ _ _ (PySem.wpAny_newFunctionEnv_cells S.kind kinds ?_))
  intro env he s1 x
  subst he
  obtain ⟨t, ht, hq⟩ := hbody A outer s H vs Q E hG (hr.deeper _) hsp
  have I := inv_start (CX := CX) (N := N) (qual := qual) (f := f) (cd := cdv) (E := E) S hr.hd e0 many r x
  refine ⟨below.keeps x.toInCall.keep, PySem.codeAny_func (wpAny_mono (ht.run [] s1 (start N vs) H _ I hq) ?_ fun _ _ z => z)⟩
  rintro (_ | _ | _ | u) s' hs
  · obtain ⟨σ', H', J, q⟩ := hs
    exact ⟨V.non, H', J.os, J.bare, J.base, J.hok, rfl, q⟩
  · exact hs.elim fun _ z => z.elim fun _ z => z.2.elim
  · exact hs.elim fun _ z => z.elim fun _ z => z.2.elim
  · obtain ⟨v, σ', H', J, rv, q⟩ := hs
    exact ⟨v, H', J.os, J.bare, J.base, J.hok, rv, q⟩
theorem Fun.okG {P : Program} {w : World} {K : PySem.W.Frag} {mg : Str → Option Value} {base : Heap} {x qual : Str} {st : Stmt} {f : Addr} {fd : FuncData} {N ps : List Str} {k : Nat} {sp : Sp} (F : Fun K x qual st f fd) (S : FnScope N ps (defScope st)) (len : ∀ vs H Q E, sp vs H Q E → vs.length = ps.length)
    (hbody : ∀ (cdv : Value) (A : Around) (outer : List Env) (s : Shared) (H : Hp) (vs : List V) (Q : VK) (E : XK), A.guards = some [] → Room k (A.deeper (PyProof.Rows.envOfC qual (defScope st) s.heap.objs.size f cdv)) → sp vs H Q E →
      ∃ t, PSs (cxOf CX0 P w K mg base N qual (defScope st) f cdv A outer s H E).nox (defBody st) t ∧ t { nx := fun _ H' => Q .non H', rt := Q } (start N vs) H) : FnG P w K mg base CX0 (k + 1) f fd ps sp := by
  obtain ⟨oc, od, kV, doc, pm, an, cdv, ct, osl, rfl, lk, hcd⟩ := F.ex
  refine fnG_of lk hcd S len fun A outer s H vs Q E hG hr hsp => ?_
  obtain ⟨t, h, q⟩ := hbody cdv A outer s H vs Q E hG hr hsp
  exact ⟨t, h.nox, q⟩
/-! ### the law's own call, by such a promise -/
/-- what the caller wants of the law's call -/
abbrev Wanted (s₁ : Shared) (r : Result) (s' : Shared) : Prop := r = .ok (.ret (.bool true)) ∧ PySem.OldK s₁.heap s'.heap ∧ s'.os = s₁.os ∧ PyProof.Rows.AllBare s'.gens
/-- the abstract heap H tells of the script at a, and of nothing else -/
structure Sole (P : Program) (w : World) (K : PySem.W.Frag) (H : Hp) (h : Heap) (a : Addr) (ns : List Int) : Prop where
  only : Only H
  seq : SqL K H a (ns.map V.int)
  ok : HOk P w H h
  at_a : ∀ b, H b ≠ none → b = a
  notK : H a ≠ none → K.lookup a = none
theorem sole_run {P : Program} {w : World} {K : PySem.W.Frag} {mg mb : Str → Option Value} {CX : CXT} {k : Nat} {fa a : Addr} {fd : FuncData} {x : Str} {sp : Sp} {s₁ : Shared} {vs : List Value} {ns : List Int} {H : Hp}
    (Z : Sole P w K H s₁.heap a ns) (KX : K.In s₁.heap) (gN : s₁.heap.Ns mainGlobals mg) (bN : s₁.heap.Ns builtinsNs mb) (bB : ∀ y : Str, y ≠ "__name__" → mb y = bootBuiltins y) (lim : s₁.heap.NoLimit) (gens0 : s₁.gens = #[])
    (obj : s₁.heap.get? a = some { cls := .type "list", data := .seq vs.toArray }) (room : Room k callerA) (F : ∀ base : Heap, K.In base → base.Ns mainGlobals mg → FnG P w K mg base CX k fa fd [x] sp)
    (bind : ∀ (s : Shared) (u : Value), BindsTo s fd ⟨[u], []⟩ [(x, u)]) (want : ∀ H : Hp, Only H → SqL K H a (ns.map V.int) → sp [.ref a] H (fun v _ => v = .bl true) fun _ _ _ => False)
    (noX : ∀ H e s', CX [] H s₁ (fun _ _ _ => False) e s' → False) : codeAny (model P w) callerA (.call (.ref fa) ⟨[.ref a], []⟩) (Wanted s₁) s₁ := by
  -- what H tells of an address is the script's list
  have told : ∀ {b : Addr} {o : Obj}, s₁.heap.get? b = some o → H b ≠ none → b = a ∧ o = { cls := .type "list", data := .seq vs.toArray } := fun {b o} g n => by
    have e := Z.at_a b n
    rw [e, obj] at g
    exact ⟨e, (Option.some.inj g).symm⟩
  have hid : ∀ {b : Addr} {o : Obj}, s₁.heap.get? b = some o → ¬ H b ≠ none → (hidT s₁.heap H).get? b = some o := fun g n => hidT_get g (Classical.byContradiction n)
  have names : ∀ {b : Addr} {m : Str → Option Value}, s₁.heap.Ns b m → (hidT s₁.heap H).Ns b m := by
    rintro b m ⟨o, es, ep, g, d, r⟩
    refine ⟨o, es, ep, hid g fun n => ?_, d, r⟩
    rw [(told g n).2] at d
    exact Data.noConfusion d
  have part : K.In (hidT s₁.heap H) := fun b o g => hid (KX b o g) fun n => by
    have e := (told (KX b o g) n).1
    subst e
    rw [Z.notK n] at g
    cases g
  obtain ⟨mc, c1, c2⟩ := lim
  have md : Mod K mg (hidT s₁.heap H) := ⟨part, names gN, ⟨mb, names bN, bB⟩, ⟨mc, names c1, c2⟩⟩
  have e0 : Env0 P w K mg (hidT s₁.heap H) callerA [] s₁ H := ⟨rfl, md, fun _ _ g => of_hidT g, Nat.le_of_eq (hidT_size _ _), trivial, fun b m => absurd m (List.not_mem_nil (a := b)), Z.ok, PyProof.Rows.AllBare.of_eq gens0⟩
  refine codeAny_mono ((F _ part (names gN)).goes callerA [] s₁ H ⟨[.ref a], []⟩ [.ref a] [.ref a] _ _ rfl room e0 (bind s₁ (.ref a)) (.cons rfl .nil) (want H Z.only Z.seq)) ?_
  rintro (er | _ | _ | _ | u) s' q
  · exact (noX H er s' q).elim
  · exact q.elim
  · exact q.elim
  · exact q.elim
  · obtain ⟨v, H', os, bare, un, ok', rv, rfl⟩ := q
    obtain rfl : u = Value.bool true := rv
    refine ⟨rfl, PySem.OldK.of_keep fun b o g => ?_, os, bare⟩
    rcases Z.only b with n | ⟨ob, xs, n⟩
    · exact un.keep b o g n (fun m => by cases m) (fun m => by cases m)
    · have g1 := (Z.ok b _ n).1
      have g2 := (ok' b _ (un.frzs b ob _ n)).1
      rw [g] at g1
      rw [g2, Option.some.inj g1]
theorem law_callG {P : Program} {w : World} {K : PySem.W.Frag} {mg mb : Str → Option Value} {CX : CXT} {k : Nat} {fa a : Addr} {fd : FuncData} {x : Str} {sp : Sp} {s₁ : Shared} {vs : List Value} {ns : List Int} (KX : K.In s₁.heap) (gN : s₁.heap.Ns mainGlobals mg)
    (bN : s₁.heap.Ns builtinsNs mb) (bB : ∀ y : Str, y ≠ "__name__" → mb y = bootBuiltins y) (lim : s₁.heap.NoLimit) (gens0 : s₁.gens = #[]) (obj : s₁.heap.get? a = some { cls := .type "list", data := .seq vs.toArray }) (hints : PyProof.Rows.IntsAre vs ns) (few : ns.length ≤ sizeLine)
    (room : Room k callerA) (F : ∀ base : Heap, K.In base → base.Ns mainGlobals mg → FnG P w K mg base CX k fa fd [x] sp) (bind : ∀ (s : Shared) (u : Value), BindsTo s fd ⟨[u], []⟩ [(x, u)])
    (want : ∀ H : Hp, Only H → SqL K H a (ns.map V.int) → sp [.ref a] H (fun v _ => v = .bl true) fun _ _ _ => False) (noX : ∀ H e s', CX [] H s₁ (fun _ _ _ => False) e s' → False) :
    codeAny (model P w) callerA (.call (.ref fa) ⟨[.ref a], []⟩) (Wanted s₁) s₁ := by
  have rv := vals_ints hints
  have many := hints.length
  by_cases hk : K.lookup a = none
  · -- the script is the caller's own: told as a locked list
    have at_a : ∀ b : Addr, (if b = a then some (HO.frz { cls := .type "list", data := .seq vs.toArray } (.lst (ns.map V.int))) else none) ≠ none → b = a := fun b n => Classical.byContradiction fun z => n (if_neg z)
    refine sole_run (H := fun b => if b = a then some (.frz { cls := .type "list", data := .seq vs.toArray } (.lst (ns.map V.int))) else none) ⟨fun b => ?_, .inl (.inr ⟨_, if_pos rfl⟩), fun b u z => ?_, at_a, fun _ => hk⟩ KX gN bN bB lim gens0 obj room F bind want noX
    · by_cases e : b = a
      · exact .inr ⟨_, _, if_pos e⟩
      · exact .inl (if_neg e)
    · have e := at_a b (by rw [z]; exact Option.some_ne_none u)
      subst e
      obtain rfl := Option.some.inj ((if_pos rfl).symm.trans z)
      exact ⟨obj, by rw [List.length_map]; exact few, vs, _, rv, obj⟩
  · -- the script is one of the module's objects
    obtain ⟨o, ho⟩ := Option.ne_none_iff_exists'.mp hk
    have eo := Option.some.inj (obj.symm.trans (KX a o ho))
    refine sole_run (H := fun _ => none) ⟨fun _ => .inl rfl, .inr ⟨o, vs.toArray, 0, ho, by rw [← eo], by rw [← eo], by rw [← eo], by rw [List.size_toArray, many]; exact few, by simpa using rv⟩, fun b u z => (by cases z), fun b n => absurd rfl n, fun n => absurd rfl n⟩ KX gN bN bB lim gens0 obj room F bind want noX
/-- the goal behind the head, by such a promise -/
theorem walk_ofG {l : PySem.W.OpenLaw} {n k : Nat} {q : Program} {loose : List Str} {XP : (Str → Option Value) → Heap → Prop} {YP : World → Heap → Prop} {d : DefRec} {K : Params → PySem.W.Frag} {CX : World → CXT} {sp : World → Sp} {x : Str}
    (hn : l.most = some n) (few : n ≤ sizeLine) (hdf : d.params.defaults = []) (room : Room k callerA) (hY : ∀ (w : World) (h : Heap), YP w h → (K w.params).In h)
    (F : ∀ (w : World) (mg : Str → Option Value) (fa : Addr) (h : Heap), (K w.params).In h → h.Ns mainGlobals mg → mg d.name = some (.ref fa) → ∃ fd : FuncData, (∀ (s : Shared) (u : Value), BindsTo s fd ⟨[u], []⟩ [(x, u)]) ∧
      ∀ base : Heap, (K w.params).In base → base.Ns mainGlobals mg → FnG l.prog w (K w.params) mg base (CX w) k fa fd [x] (sp w))
    (want : ∀ (w : World) (H : Hp) (a : Addr) (ns : List Int), ns.length ≤ n → Only H → SqL (K w.params) H a (ns.map V.int) → sp w [.ref a] H (fun v _ => v = .bl true) fun _ _ _ => False)
    (noX : ∀ (w : World) (H : Hp) (s : Shared) (e : Value) (s' : Shared), CX w [] H s (fun _ _ _ => False) e s' → False) : PySem.W.WalkO q loose XP YP l.row.toRowW d [] (fun f vs => PySem.call f vs) :=
  Att.attach_call hn hdf fun w s₀ s₁ mg mb fa o pm cd doc a vs ns G Y ho hd hcd hmg hobj hints hlen hg => by
    have KX := hY w _ Y
    obtain ⟨fd, hb, hF⟩ := F w mg fa _ KX G.T.g hmg
    exact law_callG KX G.T.g G.T.b G.T.builtins G.T.nolimit hg hobj hints (Nat.le_trans hlen few) room hF hb (fun H z1 z2 => want w H a ns hlen z1 z2) fun H e s' => noX w H s₁ e s'
/-! ### own exception classes, called with keywords (rest: by place; kw: by name) -/
section
open PySem.PX
variable {prog : Program} {w : World} {M : Model} {A : Around} {E : Value → Shared → Prop} {R : Result → Shared → Prop} {h : Heap} {g : Array GenState} {d : Drawn} {t : Nat} {os : OsState}
variable {nm q : Str} {C N : Addr} {bs bm tl : List Value} {hdct : Bool} {sn : List Str} {sub : List Value} {ab : Bool} {col : Option Bool} {dd : Option Addr} {k0 k1 k2 k3 k5 : Option Value} {B newId initId : String}
abbrev exLaid (h : Heap) (C : Addr) (rest : List Value) : Heap := (h.push { cls := .type "tuple", data := .seq rest.toArray }).push { cls := .ref C, data := .fields #[.ref h.objs.size, .none, .none, .none, .bool false, .none] }
theorem kw_check_new (F : ExcBaseFacts B newId initId tl) (same : ∀ Y : String, bm.contains (.type Y) = tl.contains (.type Y)) {rest : List Value} {kw : List (Str × Value)} {Q : Unit → Shared → Prop}
    (hC : h.get? C = some (excClassObj nm q C N bs bm hdct sn sub ab col dd k0 k1 k2 k3 k5 newId)) (z : Q () ⟨h, g, d, t, os⟩) : wpAny M A (checkBuiltinCall newId ⟨.ref C :: rest, kw⟩) Q E ⟨h, g, d, t, os⟩ := by
  have inB : (Value.ref C :: bm).contains (.type B) = true := by
    rw [List.contains_cons, same, F.hasB, Bool.or_true]
  have star := F.noStar
  simp only [checkBuiltinCall, F.newKind, F.newSplit, F.newRow]
  repeat (first
    | refine wpAny_loadPart_at hC ?_
    | (refine wpAny_isSubtype_exc hC ?_; rw [inB])
    | refine wpAny_staticBase_exc hC ?_
    | refine wpAny_madeBy_exc hC ?_
    | simp only [bne_self_eq_false, Bool.false_eq_true, if_false]
    | wp_step)
  exact z
theorem kw_new (F : ExcBaseFacts B newId initId tl) (same : ∀ Y : String, bm.contains (.type Y) = tl.contains (.type Y)) {rest : List Value} {kw : List (Str × Value)}
    (hC : h.get? C = some (excClassObj nm q C N bs bm hdct sn sub ab col dd k0 k1 k2 k3 k5 newId)) (z : R (.ok (.ret (.ref (h.objs.size + 1)))) ⟨exLaid h C rest, g, d, t, os⟩) (few : rest.length ≤ sizeLine) :
    codeAny (model prog w) A (.builtin newId ⟨.ref C :: rest, kw⟩) R ⟨h, g, d, t, os⟩ := by
  have stops := F.ends
  have inB : (Value.ref C :: bm).contains (.type B) = true := by
    rw [List.contains_cons, same, F.hasB, Bool.or_true]
  have noA : (Value.ref C :: bm).contains (.type "AttributeError") = false := by
    rw [List.contains_cons, same, F.noAttr]
    rfl
  have noN : (Value.ref C :: bm).contains (.type "NameError") = false := by
    rw [List.contains_cons, same, F.noName]
    rfl
  refine codeAny_builtinAt F.entry ?_
  unfold Builtin.«BaseException.__new__»
  refine wpAt_bind ?_
  show wpAt _ _ _ (stack >>= _) _ _ _
  refine wpAt_bind (wpAt_stack fun p below => wpAt_of_wpAny ?_)
  wp_walk
  refine wpAt_of_wpAny ?_
  rw [F.owner]
  repeat (first
    | with_reducible refine wpAny_madeHere_exc F.canon hC ?_
    | with_reducible refine wpAny_loadPart_at hC ?_
    | (with_reducible refine wpAny_isSubtype_exc hC ?_; first | rw [inB] | rw [noA] | rw [noN])
    | wp_step)
  show R _ _
  rw [Heap.size_push]
  exact z
theorem kw_type_call (F : ExcBaseFacts B newId initId tl) (same : ∀ Y : String, bm.contains (.type Y) = tl.contains (.type Y)) {rest : List Value} {kw : List (Str × Value)} {fI : Addr} {Q : Fin → Shared → Prop}
    (hC : h.get? C = some (excClassObj nm q C N bs bm hdct sn sub ab col dd k0 k1 k2 k3 k5 newId)) (li : PySem.W.Looks (model prog w) h (typeLookup (.ref C) "__init__") (some (.ref fI)))
    (lb : ∀ self, PySem.W.Looks (model prog w) h (bindSpecial (.ref fI) self) (.ref fI, [self])) (few : rest.length ≤ sizeLine)
    (z : codeAny (model prog w) A (.call (.ref fI) ⟨.ref (h.objs.size + 1) :: rest, kw⟩) (fun r s' => match r with | .ok (.ret v) => v = .none ∧ Q (.done (.ret (.ref (h.objs.size + 1)))) s' | .ok _ => False | .error e => E e s') ⟨exLaid h C rest, g, d, t, os⟩) :
    wpAny (model prog w) A (Builtin.«type.__call__» ⟨.ref C :: rest, kw⟩) Q E ⟨h, g, d, t, os⟩ := by
  repeat (first
    | with_reducible refine wpAny_loadPart_at hC ?_
    | with_reducible refine wpAny_madeBy_exc hC ?_
    | wp_step)
  refine codeAny_call_builtin_code (Code.quiet_builtin _ F.quiet) (kw_check_new F same hC (kw_new F same hC ?_ few))
  show wpAny _ _ _ _ _ _
  have stay : ∀ b o, h.get? b = some o → (exLaid h C rest).get? b = some o := fun b o e => Heap.get?_push_of_some _ (Heap.get?_push_of_some _ e)
  have hC2 := stay _ _ hC
  have made : (exLaid h C rest).get? (h.objs.size + 1) = some { cls := .ref C, data := .fields #[.ref h.objs.size, .none, .none, .none, .bool false, .none] } := by
    unfold exLaid
    heap_get
  have inC : (Value.ref C :: bm).contains (.ref C) = true := by simp
  have li2 := li.keeps stay
  have lb2 := (lb (.ref (h.objs.size + 1))).keeps stay
  unfold isInstance
  repeat (first
    | with_reducible refine wpAny_loadPart_at made ?_
    | (with_reducible refine wpAny_isSubtype_exc hC2 ?_; rw [inC])
    | wp_step)
  show wpAny _ _ (typeLookup (.ref C) _) _ _ _
  refine li2.at (wpAny_holding (wpAny_bind (lb2.at (wpAny_bind (wpAny_call (codeAny_mono z ?_))))))
  rintro (e | _ | _ | _ | v) s' y <;> first | exact y | exact y.elim | skip
  obtain ⟨rfl, y⟩ := y
  first
    | exact wpAny_pure (wpAny_pure y)
    | (wp_walk; exact y)
theorem kw_call (F : ExcBaseFacts B newId initId tl) (same : ∀ Y : String, bm.contains (.type Y) = tl.contains (.type Y)) {rest : List Value} {kw : List (Str × Value)} {fI : Addr}
    (hC : h.get? C = some (excClassObj nm q C N bs bm hdct sn sub ab col dd k0 k1 k2 k3 k5 newId)) (li : PySem.W.Looks (model prog w) h (typeLookup (.ref C) "__init__") (some (.ref fI)))
    (lb : ∀ self, PySem.W.Looks (model prog w) h (bindSpecial (.ref fI) self) (.ref fI, [self])) (few : rest.length ≤ sizeLine)
    (z : codeAny (model prog w) (A.under (.builtin "type.__call__" ⟨.ref C :: rest, kw⟩)) (.call (.ref fI) ⟨.ref (h.objs.size + 1) :: rest, kw⟩) (PySem.W.InitBack (h.objs.size + 1) R) ⟨exLaid h C rest, g, d, t, os⟩) :
    codeAny (model prog w) A (.call (.ref C) ⟨rest, kw⟩) R ⟨h, g, d, t, os⟩ := by
  have f1 := tc_lookup
  have f2 := tc_bind (.ref C)
  have isT : (⟨h, g, d, t, os⟩ : Shared).TypeIs (.ref C) "type" := ⟨_, hC, rfl⟩
  refine codeAny_of_tree ?_
  show wpAny _ _ (callAny (.ref C) _) _ _ _
  repeat (any_goals (first
    | assumption
    | with_reducible refine wpAny_loadPart_at hC ?_
    | wp_step))
  refine ⟨rfl, codeAny_call_builtin_at (Code.quiet_builtin _ (by decide +kernel)) entry_typeCall (wpAny_check_type_call_sub hC (kw_type_call F same hC li lb few (codeAny_mono z ?_)))⟩
  rintro (e | _ | _ | _ | v) s' y <;> exact y
end
/-! ### a store into an own exception, whatever built-in class is its base -/
section
open PySem.PX Builtin Builtin.ObjectAttr
variable {prog : Program} {w : World} {A : Around} {E : Value → Shared → Prop} {R : Result → Shared → Prop} {hp : Heap} {g : Array GenState} {d : Drawn} {t : Nat} {os : OsState} {B : String} {tl : List Value} {K : PySem.W.Frag}
theorem taker_none {C : Addr} {name : Str} (no : PySem.W.findIn K (.ref C) name = some none) : PySem.W.takerIn K C name = some none := by
  unfold PySem.W.takerIn
  rw [no]
  rfl
theorem xs_first {name : Str} {tk : Tok} {v : Value} {x C : Addr} {fv : Array Value} (SF : StoreFacts B tl "object.__setattr__" "object") (X : K.In hp) (at_x : hp.get? x = some { cls := .ref C, data := .fields fv }) (ov : PySem.W.excOver K C tl = true)
    (hasD : PySem.W.hasDictIn K C = true) (no : PySem.W.findIn K (.ref C) name = some none)
    (z : ∀ h' tk' dx, (∀ b o, b ≠ x → hp.get? b = some o → h'.get? b = some o) → hp.objs.size ≤ dx → dx ≠ x → h'.get? x = some { cls := .ref C, dict := some dx, data := .fields fv } →
      h'.Ns1 dx (fun y => if y = name then some v else none) → R (.ok (.ret .none)) ⟨h', g, d, tk', os⟩) :
    codeAny (model prog w) A (.call (.builtin "object.__setattr__") ⟨[.ref x, .str name tk, v], []⟩) R ⟨hp, g, d, t, os⟩ := by
  refine PySem.W.osa_openX (od := none) SF X ⟨at_x, rfl, rfl, trivial⟩ ov (taker_none no) fun b => ?_
  obtain ⟨cd, hc, hd⟩ := PySem.W.any_some hasD
  have lk : PySem.W.Looks (model prog w) hp (classData C) cd := PySem.W.looks_clsIn X hc
  have apart : x ≠ hp.objs.size := Nat.ne_of_lt (Heap.lt_size at_x)
  show wpAny _ _ (storeInOwnDict (.ref x) (.ref C) (.str name tk) name v b) _ _ _
  obtain ⟨nm, bs, mro, ns, qn, hd1, sn, sb, ab, col, del⟩ := cd
  obtain rfl : hd1 = true := hd
  unfold storeInOwnDict ownDictForStores
  repeat (first
    | with_reducible refine store_in_new ?_ ?_
    | with_reducible refine wpAny_loadPart_at at_x ?_
    | with_reducible refine lk.at ?_
    | wp_step)
  · exact ⟨_, #[], _, (Heap.get?_update_ne _ _ _ _ apart.symm).trans (Heap.get?_push_at rfl rfl), rfl, fun e he => absurd he (by simp), fun _ => rfl⟩
  · intro h' tk' hn hs
    have x2 : (hp.push { cls := .type "dict", data := .dict #[] }).get? x = some { cls := .ref C, data := .fields fv } := Heap.get?_push_of_some _ at_x
    refine z h' tk' hp.objs.size (fun b o nb ho => ?_) (Nat.le_refl _) apart.symm ((hs.2 x apart).trans (Heap.get?_update_self _ x2 rfl)) hn
    exact (hs.2 b (Nat.ne_of_lt (Heap.lt_size ho))).trans ((Heap.get?_update_ne _ _ _ _ nb).trans (Heap.get?_push_of_some _ ho))
theorem xs_later {name : Str} {tk : Tok} {v : Value} {x C dx : Addr} {fv : Array Value} {m0 : Str → Option Value} {nl : List Str} (SF : StoreFacts B tl "object.__setattr__" "object") (X : K.In hp)
    (at_x : hp.get? x = some { cls := .ref C, dict := some dx, data := .fields fv }) (nd : hp.Ns1 dx m0) (wi : Within m0 nl) (few : nl.length ≤ 1000) (ov : PySem.W.excOver K C tl = true) (hasD : PySem.W.hasDictIn K C = true) (no : PySem.W.findIn K (.ref C) name = some none)
    (z : ∀ h' tk', (∀ b o, b ≠ dx → hp.get? b = some o → h'.get? b = some o) → h'.Ns1 dx (fun y => if y = name then some v else m0 y) → R (.ok (.ret .none)) ⟨h', g, d, tk', os⟩) :
    codeAny (model prog w) A (.call (.builtin "object.__setattr__") ⟨[.ref x, .str name tk, v], []⟩) R ⟨hp, g, d, t, os⟩ := by
  obtain ⟨oD, esD, epD, at_d, dD, _⟩ := nd.count wi
  refine PySem.W.osa_openX (od := some oD) SF X ⟨at_x, rfl, rfl, at_d⟩ ov (taker_none no) fun b => ?_
  obtain ⟨cd, hc, hd⟩ := PySem.W.any_some hasD
  have lk : PySem.W.Looks (model prog w) hp (classData C) cd := PySem.W.looks_clsIn X hc
  show wpAny _ _ (storeInOwnDict (.ref x) (.ref C) (.str name tk) name v b) _ _ _
  obtain ⟨nm, bs, mro, ns, qn, hd1, sn, sb, ab, col, del⟩ := cd
  obtain rfl : hd1 = true := hd
  unfold storeInOwnDict ownDictForStores
  repeat (first
    | with_reducible refine store_in_old nd wi few ?_
    | with_reducible refine wpAny_loadPart_at at_x ?_
    | with_reducible refine lk.at ?_
    | wp_step)
  intro h' tk' hn hs
  exact z h' tk' (fun b o nb ho => (hs.2 b nb).trans ho) hn
end
/-! ### the same over the layer: self.f = y in an own exception's __init__ -/
/-- what the written part says of an own exception class C, its __init__ at fI -/
structure XCls (K : PySem.W.Frag) (C fI : Addr) (tl : List Value) (newId : String) : Prop where
  ini : PySem.W.excInitIn K C tl newId = true
  over : PySem.W.excOver K C tl = true
  hasD : PySem.W.hasDictIn K C = true
  sa : PySem.W.findIn K (.ref C) "__setattr__" = some (some (.builtin "object.__setattr__"))
  init : PySem.W.findIn K (.ref C) "__init__" = some (some (.ref fI))
  isF : PySem.W.isFn K (.ref fI) = true
  kp : PySem.W.keepIn K (.ref C) = true
section
variable {X : Cx} {pins : List (Addr × Obj)} {σ : St} {H : Hp} {s : Shared} {a C fI dx : Addr} {f : Str} {y : V} {u : Value} {fs : List (Str × V)} {Q : Unit → Shared → Prop} {E : Value → Shared → Prop} {A : Around} {B newId : String} {tl : List Value}
theorem xset_first (SF : StoreFacts B tl "object.__setattr__" "object") (T : XCls X.K C fI tl newId) (I : Inv X pins σ H s) (ex : H a = some (exo a C none)) (no : PySem.W.findIn X.K (.ref C) f = some none) (ry : RelV y u)
    (z : ∀ dx s', H dx = none → dx ≠ a → Inv X pins σ (upd (upd H dx (exd dx [(f, y)])) a (exo a C (some dx))) s' → Q () s') : wpAny (model X.prog X.w) A (setAttr (.ref a) f u) Q E s := by
  obtain ⟨t1, ho⟩ := exo_at I.hok ex
  obtain ⟨hp, g, d, t, os⟩ := s
  refine PySem.W.set_plain I.kIn (ox := { cls := .ref C, dict := none, data := .fields #[.ref t1, .none, .none, .none, .bool false, .none] }) (od := none) ⟨ho, rfl, rfl, trivial⟩ T.sa (xs_first SF I.kIn ho T.over T.hasD no fun h' tk' dx k dn dne hx hn => ?_)
  have free : H dx = none := I.hok.fresh dn
  have old : ∀ {b : Addr} {o : Obj}, hp.get? b = some o → b ≠ dx := fun {b o} q => Nat.ne_of_lt (Nat.lt_of_lt_of_le (Heap.lt_size q) dn)
  have off : ∀ {b : Addr}, H b = none → b ≠ a := fun {b} n e => by
    subst e
    rw [n] at ex
    cases ex
  -- what is told elsewhere is told as before
  have same : ∀ {b : Addr} {o : HO}, H b = some o → o ≠ exo a C none → (upd (upd H dx (exd dx [(f, y)])) a (exo a C (some dx))) b = some o := fun {b o} q ne => by
    rw [upd_ne (at_ne ex q (Ne.symm ne)), upd_ne (ne_of_none q free)]
    exact q
  have U : Un X.fs [] H (upd (upd H dx (exd dx [(f, y)])) a (exo a C (some dx))) hp h' :=
    { keep := fun b o q n _ _ => k b o (off n) q
      slot := fun b o q n _ _ => ⟨o.slots, k b o (off n) q⟩
      free := fun b o q n _ => by
        rw [upd_ne (off n), upd_ne (old q)]
        exact n
      there := fun b o q _ => (Classical.em (b = a)).elim (fun e => ⟨_, e ▸ hx⟩) fun e => ⟨o, k b o e q⟩
      tups := fun b xs q => same q (Ne.symm exo_tup)
      frzs := fun b o v q => same q (Ne.symm exo_frz)
      tbls := fun b ps q => ⟨#[], by rw [same q (Ne.symm exo_tbl)]; simp⟩ }
  refine z dx _ free dne (I.un (t' := tk') U fun b o q => ?_)
  by_cases e1 : b = a
  · subst e1
    obtain rfl := Option.some.inj (upd_same.symm.trans q)
    exact exo_ok hx
  · rw [upd_ne e1] at q
    by_cases e2 : b = dx
    · subst e2
      obtain rfl := Option.some.inj (upd_same.symm.trans q)
      exact exd_ok hn (relO_put (fs := []) ry fun _ => True.intro)
    · rw [upd_ne e2] at q
      refine (I.hok b o q).stay (fun c v hc r => k c v ?_ r) (fun c hc => same hc (Ne.symm exo_own)) fun c xs hc => same hc (Ne.symm exo_tup)
      rcases hc with rfl | hc
      · exact e1
      · exact at_ne ex hc exo_own
theorem xset_later (SF : StoreFacts B tl "object.__setattr__" "object") (T : XCls X.K C fI tl newId) (I : Inv X pins σ H s) (ex : H a = some (exo a C (some dx))) (ed : H dx = some (exd dx fs)) (few : fs.length ≤ 900) (no : PySem.W.findIn X.K (.ref C) f = some none) (ry : RelV y u)
    (z : ∀ s', Inv X pins σ (upd H dx (exd dx ((f, y) :: fs))) s' → Q () s') : wpAny (model X.prog X.w) A (setAttr (.ref a) f u) Q E s := by
  obtain ⟨t1, ho⟩ := exo_at I.hok ex
  obtain ⟨mA, nd, rel⟩ := exd_at I.hok ed
  obtain ⟨hp, g, d, t, os⟩ := s
  obtain ⟨oD, _, _, at_d, _, _⟩ := nd.count (within_of rel)
  refine PySem.W.set_plain I.kIn (ox := { cls := .ref C, dict := some dx, data := .fields #[.ref t1, .none, .none, .none, .bool false, .none] }) (od := some oD) ⟨ho, rfl, rfl, at_d⟩ T.sa
    (xs_later SF I.kIn ho nd (within_of rel) (by rw [List.length_map]; omega) T.over T.hasD no fun h' tk' k hn => z _ (I.write (t' := tk') (x := dx) (e := dx) (o := exd dx ((f, y) :: fs)) (by rw [ed]; exact True.intro) (.inl rfl) k ?_ (exd_ok hn (relO_put ry rel))))
  obtain ⟨o, _, _, e, _⟩ := hn
  exact ⟨o, e⟩
end
/-- self.f = e, in an __init__ of an own exception class -/
def tXst (K : PySem.W.Frag) (tl : List Value) (newId : String) (f : Str) (to te : TE) : TS := fun D σ H => te σ H fun y H1 => to σ H1 fun x H2 => ∃ a C fI : Addr, x = .ref a ∧ XCls K C fI tl newId ∧ PySem.W.findIn K (.ref C) f = some none ∧
  ((H2 a = some (exo a C none) ∧ ∀ dx, H2 dx = none → dx ≠ a → D.nx σ (upd (upd H2 dx (exd dx [(f, y)])) a (exo a C (some dx)))) ∨
    ∃ (dx : Addr) (fs : List (Str × V)), H2 a = some (exo a C (some dx)) ∧ H2 dx = some (exd dx fs) ∧ fs.length ≤ 900 ∧ D.nx σ (upd H2 dx (exd dx ((f, y) :: fs))))
theorem ps_xst {X : Cx} {o e : Expr} {to te : TE} {f : Str} {p' pos : Pos} {B newId : String} {tl : List Value} (SF : StoreFacts B tl "object.__setattr__" "object") (ho : PE X o to) (he : PE X e te) (hs : swapsWith e (some (.Attribute o f p')) pos.line X.env = pure false := by rfl) :
    PS X (.Assign [.Attribute o f p'] e pos) (tXst X.K tl newId f to te) := by
  refine ⟨fun pins s σ H D I h => PySem.plainObj_wpAny_Assign_Attribute (thn (he.run pins s σ H _ I h) fun v s1 ⟨y, H1, I1, r1, q1⟩ => thn (ho.run pins s1 σ H1 _ I1 q1) fun u s2 ⟨x, H2, I2, r2, a, C, fI, ex, T, no, q⟩ => ?_) hs⟩
  subst ex
  obtain rfl : u = Value.ref a := r2
  rcases q with ⟨ea, q⟩ | ⟨dx, fs, ea, ed, few, q⟩
  · exact xset_first SF T I2 ea no r1 fun dx s' n ne J => ⟨σ, _, J, q dx n ne⟩
  · exact xset_later SF T I2 ea ed few no r1 fun s' J => ⟨σ, _, J, q⟩
/-! ### an own exception made as a value, its fields read, isinstance of it, repr -/
/-- C(.. by place .., .. by name ..) of an own exception class: a new exception, then its __init__ -/
def tXmk (C : Addr) (n m : Nat) (sp : Sp) (gV : List V → List V → List V) (t tk : TA) : TE := fun σ H Q => t σ H fun vs H1 => tk σ H1 fun zs H2 => vs.length = n ∧ zs.length = m ∧ vs.length ≤ 1000 ∧
  ∀ a, H2 a = none → sp (gV (.ref a :: vs) zs) (upd H2 a (exo a C none)) (fun v H3 => v = .non ∧ Q (.ref a) H3) E0
section
variable {X : Cx} {k n : Nat} {fI C : Addr} {fd : FuncData} {ps ks : List Str} {sp : Sp} {x : Str} {p pos : Pos} {e : Expr} {es : List Expr} {kws : List Keyword} {t tk : TA} {g : List Value → List Value → List Value} {gV : List V → List V → List V} {B newId initId : String} {tl : List Value}
theorem run_xmk {pins : List (Addr × Obj)} {σ : St} {H : Hp} {s : Shared} {Q : VK} {us ws : List Value} {vs zs : List V} (FB : ExcBaseFacts B newId initId tl) (T : XCls X.K C fI tl newId) (F : FnOk X.prog X.w X.K X.mg X.base CX0 k fI fd ps sp) (hr : Room (k + 1) X.A)
    (hb : KBn X.K fd ps (n + 1) ks g gV) (I : Inv X pins σ H s) (r : Vals vs us) (rz : Vals zs ws) (l1 : vs.length = n) (l2 : zs.length = ks.length) (few : vs.length ≤ 1000)
    (z : ∀ a, H a = none → sp (gV (.ref a :: vs) zs) (upd H a (exo a C none)) (fun v H3 => v = .non ∧ Q (.ref a) H3) E0) : wpAny (model X.prog X.w) X.A (call (.ref C) us (ks.zip ws)) (EP X pins σ Q) X.xe s := by
  obtain ⟨hp, gs, dr, tk, os⟩ := s
  obtain ⟨nm, N, qn, bs, bm, hdct, sn, sub, ab, col, dd, k0, k1, k2, k3, k5, hC, same⟩ := PySem.W.excInit_of I.kIn T.ini
  have up : hp.objs.size ≤ hp.objs.size + 1 := Nat.le_succ _
  have hq := z (hp.objs.size + 1) (I.hok.fresh up)
  have stay : ∀ b o, hp.get? b = some o → (exLaid hp C us).get? b = some o := fun b o q => Heap.get?_push_of_some _ (Heap.get?_push_of_some _ q)
  have made : (exLaid hp C us).get? (hp.objs.size + 1) = some { cls := .ref C, data := .fields #[.ref hp.objs.size, .none, .none, .none, .bool false, .none] } := by
    unfold exLaid
    heap_get
  have I2 : Inv X pins σ (upd H (hp.objs.size + 1) (exo (hp.objs.size + 1) C none)) ⟨exLaid hp C us, gs, dr, tk, os⟩ := I.laid (t' := tk) stay up (exo_ok made)
  have r1 : Vals (V.ref (hp.objs.size + 1) :: vs) (Value.ref (hp.objs.size + 1) :: us) := .cons rfl r
  have n1 : (Value.ref (hp.objs.size + 1) :: us).length = n + 1 := by
    rw [List.length_cons, ← r.length, l1]
  have fewU : us.length ≤ sizeLine := by
    rw [← r.length]
    exact Nat.le_trans few (by decide)
  obtain ⟨oI, at_I, isI⟩ : ∃ oI, hp.get? fI = some oI ∧ oI.cls = .type "function" := by
    obtain ⟨o, q, c⟩ := Option.map_eq_some_iff.mp (show (X.K.lookup fI).map (·.cls) = some (.type "function") from beq_iff_eq.mp T.isF)
    exact ⟨o, I.kIn _ _ q, c⟩
  refine wpAny_call (kw_call FB same hC (PySem.W.looks_findIn I.kIn T.init) (fun self => PySem.W.exc_bind at_I isI self) fewU (codeAny_mono (F.run _ X.stack _ _ ⟨Value.ref (hp.objs.size + 1) :: us, ks.zip ws⟩ (g (Value.ref (hp.objs.size + 1) :: us) ws) _ _ E0
    (hr.make C us (ks.zip ws)) (I2.env0.make C us (ks.zip ws)) (hb.to _ (Value.ref (hp.objs.size + 1) :: us) ws I2.kIn n1 (rz.length.symm.trans l2)) (hb.rel r1 rz) hq) ?_))
  rintro (er | _ | _ | _ | u) s' q
  · exact q.elim
  · exact q.elim
  · exact q.elim
  · exact q.elim
  · obtain ⟨v, H3, I3, rv, ev, q3⟩ := I2.after q
    subst ev
    exact ⟨rv, ⟨V.ref (hp.objs.size + 1), H3, I3, rfl, q3⟩⟩
/-- C(e, ..) -/
theorem pe_xmk (FB : ExcBaseFacts B newId initId tl) (T : XCls X.K C fI tl newId) (F : FnOk X.prog X.w X.K X.mg X.base CX0 k fI fd ps sp) (hr : Room (k + 1) X.A) (hg : Gl X x) (hm : X.mg x = some (.ref C)) (hb : KBn X.K fd ps (n + 1) [] g gV) (ha : PA X (e :: es) t)
    (hdb : (x == ("__debug__" : Str)) = false := by decide) (he : starEach (e :: es) X.env = (false, eval e X.env) :: starEach es X.env := by rfl) (hpl : (backTo pos (starEach es X.env)).any (·.1) = false := by rfl) :
    PE X (.Call (.Name x p) (e :: es) [] pos) (tXmk C n 0 sp gV t tNil) :=
  ⟨fun pins s σ H Q I h => wpAny_Call_Name_kw (ld_glob I hg hm (PySem.W.callWith_K (h₀ := X.base) I.ok.mod.kin T.kp (thn (ha.run pos pins s σ H _ I h) fun us s1 ⟨vs, H1, I1, r, l1, l2, l3, q⟩ => ⟨I1.kIn, run_xmk (ws := []) FB T F hr hb I1 r .nil l1 rfl l3 q⟩) he hpl) hdb)⟩
/-- C() -/
theorem pe_xmk0 (FB : ExcBaseFacts B newId initId tl) (T : XCls X.K C fI tl newId) (F : FnOk X.prog X.w X.K X.mg X.base CX0 k fI fd ps sp) (hr : Room (k + 1) X.A) (hg : Gl X x) (hm : X.mg x = some (.ref C)) (hb : KBn X.K fd ps 1 [] g gV)
    (hdb : (x == ("__debug__" : Str)) = false := by decide) : PE X (.Call (.Name x p) [] [] pos) (tXmk C 0 0 sp gV tNil tNil) :=
  ⟨fun pins s σ H Q I h => wpAny_Call_Name_kw (ld_glob I hg hm (PySem.W.callWith_K0 I.kIn T.kp (run_xmk (us := []) (vs := []) (ws := []) (zs := []) FB T F hr hb I .nil .nil rfl rfl (Nat.zero_le _) h.2.2.2)) hdb)⟩
/-- C(k = e, ..) -/
theorem pe_xmkK (FB : ExcBaseFacts B newId initId tl) (T : XCls X.K C fI tl newId) (F : FnOk X.prog X.w X.K X.mg X.base CX0 k fI fd ps sp) (hr : Room (k + 1) X.A) (hg : Gl X x) (hm : X.mg x = some (.ref C)) (hb : KBn X.K fd ps 1 ks g gV) (hkw : PK X kws tk)
    (hall : (backToKw pos (keywordEach kws X.env)).all (·.1.isSome) = true := by rfl) (hks : (backToKw pos (keywordEach kws X.env)).filterMap (·.1) = ks := by rfl) (hdb : (x == ("__debug__" : Str)) = false := by decide)
    (hpl : ((backTo pos (starEach [] X.env)).any (·.1) || (backToKw pos (keywordEach kws X.env)).any (·.1.isNone)) = false := by rfl) : PE X (.Call (.Name x p) [] kws pos) (tXmk C 0 ks.length sp gV tNil tk) := by
  refine ⟨fun pins s σ H Q I h => wpAny_Call_Name_kw (ld_glob I hg hm (PySem.W.callWith_KW0 (h₀ := X.base) I.ok.mod.kin T.kp hall (thn (hkw.run pos pins s σ H _ I h) fun ws s2 ⟨zs, H2, I2, rz, l1, l2, l3, q2⟩ => ⟨I2.kIn, ?_⟩) hpl) hdb)⟩
  rw [hks]
  exact run_xmk (us := []) (vs := []) FB T F hr hb I2 .nil rz rfl l2 l3 q2
end
/-- what is asked of an own exception class so that its fields are read and isinstance answers -/
structure XLook (K : PySem.W.Frag) (C : Addr) : Prop where
  xf : XfC K C
  ex : ExcC K C
/-- e.f of an own exception -/
def tXfd (K : PySem.W.Frag) (f : Str) (te : TE) : TE := fun σ H Q => te σ H fun x H1 => ∃ (a C d : Addr) (fs : List (Str × V)) (v : V), x = .ref a ∧ XLook K C ∧ PySem.W.findIn K (.ref C) f = some none ∧ H1 a = some (exo a C (some d)) ∧ H1 d = some (exd d fs) ∧ fs.lookup f = some v ∧ Q v H1
theorem pe_xfd {X : Cx} {e : Expr} {te : TE} {pos : Pos} {f : Str} (he : PE X e te) (hb : attributeBase e f X.env (eval e X.env) = eval e X.env := by rfl) : PE X (.Attribute e f pos) (tXfd X.K f te) := by
  refine ⟨fun pins s σ H Q I h => attr_of hb (thn (he.run pins s σ H _ I h) fun u s1 ⟨x, H1, I1, rx, a, C, d, fs, v, ex, T, no, ea, ed, l, q⟩ => ?_)⟩
  subst ex
  obtain rfl : u = Value.ref a := rx
  obtain ⟨t1, ha⟩ := exo_at I1.hok ea
  obtain ⟨mA, hns, hr⟩ := exd_at I1.hok ed
  obtain ⟨od, ho, hl⟩ := lookIn_ns hns
  obtain ⟨u, hu, ru⟩ := RelO.some_of (v := v) (o := mA f) (by rw [← l]; exact hr f)
  exact HandSPX.exc_get I1.kIn ⟨ha, rfl, rfl, ho⟩ T.xf.ga T.xf.gg T.xf.exC (PySem.W.findObj_own T.xf.hdC no rfl (by rw [hl, hu])) (handed_of ru) ⟨v, H1, I1.tok _, ru, q⟩
/-- isinstance(e, c) of an own exception -/
def rIsX (K : PySem.W.Frag) : List V → Hp → VK → Prop := fun xs H Q => ∃ (a D : Addr) (d : Option Addr) (c : V) (cv : Value) (b : Bool), xs = [.ref a, c] ∧ ExcC K D ∧ (H a = some (exo a D d) ∧ ∀ dd, d = some dd → ∃ fs, H dd = some (exd dd fs)) ∧ ClsV c cv ∧
  PySem.W.kitOne K (.ref D) cv = some b ∧ Q (.bl b) H
theorem call_isX {X : Cx} : CallR X (.builtin "isinstance") (rIsX X.K) := by
  intro pins s σ H xs us Q I r h
  obtain ⟨a, D, d, c, cv, b, rfl, T, ⟨ea, ed⟩, hc, hk, q⟩ := h
  obtain ⟨u1, u2, rfl, r1, r2⟩ := vals2 r
  obtain rfl : u1 = Value.ref a := r1
  obtain rfl := hc.eq r2
  obtain ⟨t1, ha⟩ := exo_at I.hok ea
  have cl : (PySem.W.clsIn X.K D).isSome = true := by
    obtain ⟨cd, hc, _⟩ := PySem.W.any_some T.hd
    rw [hc]
    rfl
  have J : ∃ od, PySem.W.InstAt s.heap a { cls := .ref D, dict := d, data := .fields #[.ref t1, .none, .none, .none, .bool false, .none] } D od := by
    cases d with
    | none => exact ⟨none, ha, rfl, rfl, trivial⟩
    | some dd =>
      obtain ⟨fs, e⟩ := ed dd rfl
      obtain ⟨mA, hns, _⟩ := exd_at I.hok e
      obtain ⟨od, ho, _⟩ := lookIn_ns hns
      exact ⟨some od, ha, rfl, rfl, ho⟩
  obtain ⟨od, J⟩ := J
  exact PySem.W.kia_one (PySem.W.kitx_exc (od := od) cl T.hg T.hk T.hs T.ha T.hn T.ht T.hm) I.kIn J hk (fun z => nomatch z) fun tk => ⟨.bl b, H, I.tok tk, rfl, q⟩
/-- v is read as the data d -/
def Rds (X : Cx) (H : Hp) (v : V) (d : PyData) : Prop := ∀ (pins : List (Addr × Obj)) (σ : St) (s : Shared) (u : Value), Inv X pins σ H s → RelV v u → ∃ as, Reads s.heap u d as ∧ (d.hasDict = true → sysModules ∉ as)
theorem Rds.of {X : Cx} {H : Hp} {v : V} {d : PyData} (h : Dp X.K H v d) (n : d.hasDict = false) : Rds X H v d := fun pins σ s u I r => by
  obtain ⟨as, q⟩ := Dp.reads I d v u h r
  exact ⟨as, q, fun z => by rw [n] at z; cases z⟩
theorem call_repr {X : Cx} (hG : X.A.guards = some []) (hu : X.A.units + 64 < cLine) : CallR X (.builtin "repr") (fun xs H Q => ∃ v d, xs = [v] ∧ Rds X H v d ∧ d.showable = true ∧ d.depth + 1 ≤ 64 ∧ d.shown.length ≤ sizeLine ∧ Q (.str d.shown) H) := by
  intro pins s σ H xs us Q I r h
  obtain ⟨v, d, rfl, hv, sh, dp, sz, q⟩ := h
  obtain ⟨u, rfl, ru⟩ := vals1 r
  obtain ⟨as, rd, nos⟩ := hv pins σ s u I ru
  cases rd with
  | none => exact PySem.P.repr_of_none ⟨.str _, H, I.tok _, ⟨_, rfl⟩, q⟩
  | bool b => exact PySem.P.repr_of_bool ⟨.str _, H, I.tok _, ⟨_, rfl⟩, by cases b <;> exact q⟩
  | int i t => exact PySem.P.repr_of_int (of_decide_eq_true sh) ⟨.str _, H, I.tok _, ⟨_, rfl⟩, q⟩
  | str y t => exact PySem.P.repr_of_str ⟨.str _, H, I.tok _, ⟨_, rfl⟩, q⟩ sz
  | list h1 h2 h3 h4 => exact PySem.repr_of_reads' (.list h1 h2 h3 h4) sh nos hG (by omega) (fun _ _ z => z) (fun h' u tk kk => ⟨.str _, H, I.kept kk, ⟨_, rfl⟩, q⟩) sz
  | tuple h1 h2 h3 h4 => exact PySem.repr_of_reads' (.tuple h1 h2 h3 h4) sh nos hG (by omega) (fun _ _ z => z) (fun h' u tk kk => ⟨.str _, H, I.kept kk, ⟨_, rfl⟩, q⟩) sz
  | dict h1 h2 h3 h4 h5 => exact PySem.repr_of_reads' (.dict h1 h2 h3 h4 h5) sh nos hG (by omega) (fun _ _ z => z) (fun h' u tk kk => ⟨.str _, H, I.kept kk, ⟨_, rfl⟩, q⟩) sz
/-! ### lists that are made anew do not lie where sys.modules lies -/
section
variable {X : Cx}
theorem above {pins : List (Addr × Obj)} {σ : St} {H : Hp} {s : Shared} (I : Inv X pins σ H s) : s.heap.objs.size ≠ sysModules := by
  have h1 : (3 : Nat) < X.base.objs.size := I.ok.mod.glob.lt
  have h2 : X.base.objs.size ≤ X.s_0.heap.objs.size := I.ok.bsz
  have h3 : X.s_0.heap.objs.size ≤ s.heap.objs.size := I.sz
  show s.heap.objs.size ≠ 1
  omega
def rCatS : R2 := fun x y H Q => ∃ l b xs zs, x = .ref l ∧ y = .ref b ∧ H l = some (.lst xs) ∧ H b = some (.lst zs) ∧ xs.length + zs.length ≤ sizeLine ∧ ∀ p, H p = none → p ≠ sysModules → Q (.ref p) (upd H p (.lst (xs ++ zs)))
theorem op_catS : OpR X (binaryOp .Add) rCatS := by
  rintro pins s σ H x y v u Q I rx ry ⟨l, b, xs, zs, rfl, rfl, hl, hb, few, q⟩
  cases rx
  cases ry
  obtain ⟨_, its, n, r, n1, at_l⟩ := I.lstM hl
  obtain ⟨_, jts, m, t, n2, at_b⟩ := I.lstM hb
  refine PySem.P.add_list at_l at_b ?_ (by simp only [List.size_toArray]; omega)
  rw [show its.toArray ++ jts.toArray = (its ++ jts).toArray by simp]
  exact ⟨.ref _, _, I.lnew (t' := s.toks) (r.append t) (by rw [List.length_append]; exact few), rfl, q _ I.fresh (above I)⟩
def rRepS : R2 := fun x y H Q => ∃ l k xs, x = .ref l ∧ y = .int k ∧ H l = some (.lst xs) ∧ -(2 ^ 63) ≤ k ∧ k < 2 ^ 63 ∧ xs.length * k.toNat ≤ sizeLine ∧
  ∀ p, H p = none → p ≠ sysModules → Q (.ref p) (upd H p (.lst (List.replicate k.toNat xs).flatten))
theorem op_repS : OpR X (binaryOp .Mult) rRepS := by
  rintro pins s σ H x y v u Q I rx ry ⟨l, k, xs, rfl, rfl, hl, lo, hi, few, q⟩
  cases rx
  obtain ⟨t, rfl⟩ := ry
  obtain ⟨_, its, n, r, n1, at_l⟩ := I.lstM hl
  have fewI : its.toArray.size * k.toNat ≤ sizeLine := by
    rw [List.size_toArray, ← n1]
    exact few
  have cap : ¬ its.toArray.size * k.toNat > (2 ^ 63 - 1) / 8 := Nat.not_lt.mpr (Nat.le_trans fewI (by decide))
  have fit : ¬ (!Builtin.List.listFitsIndex k) = true := by simp [fitsIndex_both lo hi]
  have long : ¬ Builtin.List.listTooLong (its.toArray.size * k.toNat) = true := by
    rw [notLongL fewI]
    exact Bool.false_ne_true
  have made : List.foldl (fun a b => a ++ b) #[] (List.replicate (if its.toArray.isEmpty = true then 0 else k.toNat) its.toArray) = (List.replicate k.toNat its).flatten.toArray := by
    have all := fun j : Nat => foldl_rep its j []
    simp only [List.nil_append] at all
    cases its with
    | nil => simpa using all 0
    | cons a r2 => exact (by simpa using all k.toNat)
  refine PySem.wpAny_binaryOp_repeat_ref (T := "list") (U := "int") (by decide) ⟨_, at_l, rfl⟩ (fun s' => typeIs_int s' k t) PySem.noFill_list_mul F.fills_int_mul F.slot_int_rmul PySem.repeat_list F.slot_int_index.lookup ?_
  refine PySem.call_meets F.slot_int_rmul (typeIs_int s k t) F.entry_int_rmul (F.args_int_rmul_2 _ _) (PySem.int___rmul___int_list k t l its.toArray n) ⟨at_l, rfl, ⟨_, at_l, rfl⟩, ?_⟩
  refine PySem.call_meets F.slot_list_mul ⟨_, at_l, rfl⟩ F.entry_list_mul (F.args_list_mul_2 _ _) (AutoListH.list___mul___list_int_3 l its.toArray n k t fit cap long) ⟨at_l, ?_⟩
  rw [made]
  exact ⟨.ref _, _, I.lnew (t' := s.toks) (r.rep k.toNat) (by rw [PyProof.Rows.lm_len_rep_flat, Nat.mul_comm]; exact few), rfl, q _ I.fresh (above I)⟩
end
/-! ### data that are read, a dict without pairs among them -/
/-- v is the data d: none, bools, ints, texts, lists, tuples of these, or a dict without pairs -/
inductive De (K : PySem.W.Frag) (H : Hp) : V → PyData → Prop
  | dp {v : V} {d : PyData} (h : Dp K H v d) (n : d.hasDict = false) : De K H v d
  | dic {a : Addr} (h : H a = some (.dK [])) : De K H (.ref a) (.dict [])
theorem De.rds {X : Cx} {H : Hp} {v : V} {d : PyData} (h : De X.K H v d) : Rds X H v d := by
  cases h with
  | dp h n => exact Rds.of h n
  | @dic a h =>
    intro pins σ s u I r
    obtain rfl : u = Value.ref a := r
    obtain ⟨_, low, vs, kv, o, es, ep, at_a, ex, dd, _, pr, _⟩ := (show ObjOk X.prog X.w H s.heap a (.dK []) from I.hok a _ h)
    cases kv
    have e0 : es.toList = [] := by cases e : es.toList with
      | nil => rfl
      | cons z r =>
        rw [e] at pr
        cases pr
    refine ⟨_, .dict (kvs := []) at_a ex.1 dd (by rw [e0]; exact .nil) (by rw [e0]; exact .nil), fun _ m => ?_⟩
    have m2 : sysModules = a := by simpa using m
    rw [← m2] at low
    exact absurd low (by decide)
/-! ### own exception classes whose __init__ stores its parameters -/
/-- an exception of the class C stands at a; its dict holds fs -/
def Ex (H : Hp) (a C : Addr) (fs : List (Str × V)) : Prop := ∃ d, H a = some (exo a C (some d)) ∧ H d = some (exd d fs)
/-- all but a stays -/
abbrev Near (a : Addr) (H H' : Hp) : Prop := ∀ b o, H b = some o → b ≠ a → H' b = some o
def sp1 (f : Str) (C : Addr) : Sp := fun vs H Q _ => ∃ (a : Addr) (v : V), vs = [.ref a, v] ∧ H a = some (exo a C none) ∧ ∀ H', Near a H H' → Ex H' a C [(f, v)] → Q .non H'
def sp2 (f g : Str) (C : Addr) : Sp := fun vs H Q _ => ∃ (a : Addr) (v u : V), vs = [.ref a, v, u] ∧ H a = some (exo a C none) ∧ ∀ H', Near a H H' → Ex H' a C [(g, u), (f, v)] → Q .non H'
def sp0 (C : Addr) : Sp := fun vs H Q _ => ∃ a : Addr, vs = [.ref a] ∧ H a = some (exo a C none) ∧ Q .non H
/-- the class x of the module, at C, is made with n values by place or by the names ks, the last one first -/
def XOk (P : Program) (w : World) (K : PySem.W.Frag) (mg : Str → Option Value) (base : Heap) (x : Str) (C : Addr) (n : Nat) (ps ks : List Str) (sp : Sp) : Prop :=
  ∃ (fI : Addr) (fd : FuncData) (B newId initId : String) (tl : List Value), ExcBaseFacts B newId initId tl ∧ XCls K C fI tl newId ∧ mg x = some (.ref C) ∧ FnOk P w K mg base CX0 1 fI fd ps sp ∧
    KBn K fd ps (n + 1) [] (fun us _ => us) (fun vs _ => vs) ∧ KBn K fd ps 1 ks (fun us ws => us ++ ws.reverse) (fun vs zs => vs ++ zs.reverse)
section
variable {X : Cx} {n : Nat} {C : Addr} {ps ks : List Str} {sp : Sp} {x : Str} {p pos : Pos} {e : Expr} {es : List Expr} {kws : List Keyword} {t tk : TA}
theorem pe_xV (o : XOk X.prog X.w X.K X.mg X.base x C n ps ks sp) (hr : Room 2 X.A) (hg : Gl X x) (ha : PA X (e :: es) t) (hdb : (x == ("__debug__" : Str)) = false := by decide) (he : starEach (e :: es) X.env = (false, eval e X.env) :: starEach es X.env := by rfl)
    (hpl : (backTo pos (starEach es X.env)).any (·.1) = false := by rfl) : PE X (.Call (.Name x p) (e :: es) [] pos) (tXmk C n 0 sp (fun vs _ => vs) t tNil) := by
  obtain ⟨fI, fd, B, newId, initId, tl, FB, T, m, F, b, _⟩ := o
  exact pe_xmk FB T F hr hg m b ha hdb he hpl
theorem pe_xV0 (o : XOk X.prog X.w X.K X.mg X.base x C 0 ps ks sp) (hr : Room 2 X.A) (hg : Gl X x) (hdb : (x == ("__debug__" : Str)) = false := by decide) : PE X (.Call (.Name x p) [] [] pos) (tXmk C 0 0 sp (fun vs _ => vs) tNil tNil) := by
  obtain ⟨fI, fd, B, newId, initId, tl, FB, T, m, F, b, _⟩ := o
  exact pe_xmk0 FB T F hr hg m b hdb
theorem pe_xVK (o : XOk X.prog X.w X.K X.mg X.base x C n ps ks sp) (hr : Room 2 X.A) (hg : Gl X x) (hkw : PK X kws tk) (hall : (backToKw pos (keywordEach kws X.env)).all (·.1.isSome) = true := by rfl) (hks : (backToKw pos (keywordEach kws X.env)).filterMap (·.1) = ks := by rfl)
    (hdb : (x == ("__debug__" : Str)) = false := by decide) (hpl : ((backTo pos (starEach [] X.env)).any (·.1) || (backToKw pos (keywordEach kws X.env)).any (·.1.isNone)) = false := by rfl) :
    PE X (.Call (.Name x p) [] kws pos) (tXmk C 0 ks.length sp (fun vs zs => vs ++ zs.reverse) tNil tk) := by
  obtain ⟨fI, fd, B, newId, initId, tl, FB, T, m, F, _, b⟩ := o
  exact pe_xmkK FB T F hr hg m b hkw hall hks hdb hpl
end
theorem Near.up {a : Addr} {o : HO} {H H' : Hp} (n : H a = none) (h : Near a (upd H a o) H') : Same H H' := fun b u e => h b u (by rw [upd_ne (ne_of_none e n)]; exact e) (ne_of_none e n)
section
variable {H : Hp} {Q : VK} {C : Addr} {f g : Str} {v u : V}
theorem mk1 (z : ∀ a H', H a = none → Same H H' → Ex H' a C [(f, v)] → Q (.ref a) H') : ([v] : List V).length = 1 ∧ ([] : List V).length = 0 ∧ ([v] : List V).length ≤ 1000 ∧ ∀ a, H a = none → sp1 f C ((fun vs _ => vs) (.ref a :: [v]) ([] : List V)) (upd H a (exo a C none)) (fun v H3 => v = .non ∧ Q (.ref a) H3) E0 :=
  ⟨rfl, rfl, by show 1 ≤ 1000; decide, fun a n => ⟨a, v, rfl, upd_same, fun H' k x => ⟨rfl, z a H' n (Near.up n k) x⟩⟩⟩
theorem mk1K (z : ∀ a H', H a = none → Same H H' → Ex H' a C [(f, v)] → Q (.ref a) H') : ([] : List V).length = 0 ∧ ([v] : List V).length = 1 ∧ ([] : List V).length ≤ 1000 ∧ ∀ a, H a = none → sp1 f C ((fun vs zs => vs ++ zs.reverse) (.ref a :: []) ([v] : List V)) (upd H a (exo a C none)) (fun v H3 => v = .non ∧ Q (.ref a) H3) E0 :=
  ⟨rfl, rfl, by decide, fun a n => ⟨a, v, rfl, upd_same, fun H' k x => ⟨rfl, z a H' n (Near.up n k) x⟩⟩⟩
theorem mk2 (z : ∀ a H', H a = none → Same H H' → Ex H' a C [(g, u), (f, v)] → Q (.ref a) H') : ([v, u] : List V).length = 2 ∧ ([] : List V).length = 0 ∧ ([v, u] : List V).length ≤ 1000 ∧ ∀ a, H a = none → sp2 f g C ((fun vs _ => vs) (.ref a :: [v, u]) ([] : List V)) (upd H a (exo a C none)) (fun v H3 => v = .non ∧ Q (.ref a) H3) E0 :=
  ⟨rfl, rfl, by show 2 ≤ 1000; decide, fun a n => ⟨a, v, u, rfl, upd_same, fun H' k x => ⟨rfl, z a H' n (Near.up n k) x⟩⟩⟩
theorem mk2K (z : ∀ a H', H a = none → Same H H' → Ex H' a C [(g, u), (f, v)] → Q (.ref a) H') : ([] : List V).length = 0 ∧ ([u, v] : List V).length = 2 ∧ ([] : List V).length ≤ 1000 ∧ ∀ a, H a = none → sp2 f g C ((fun vs zs => vs ++ zs.reverse) (.ref a :: []) ([u, v] : List V)) (upd H a (exo a C none)) (fun v H3 => v = .non ∧ Q (.ref a) H3) E0 :=
  ⟨rfl, rfl, by decide, fun a n => ⟨a, v, u, rfl, upd_same, fun H' k x => ⟨rfl, z a H' n (Near.up n k) x⟩⟩⟩
theorem mk0 (z : ∀ a H', H a = none → Same H H' → H' a = some (exo a C none) → Q (.ref a) H') : ([] : List V).length = 0 ∧ ([] : List V).length = 0 ∧ ([] : List V).length ≤ 1000 ∧ ∀ a, H a = none → sp0 C ((fun vs _ => vs) (.ref a :: []) ([] : List V)) (upd H a (exo a C none)) (fun v H3 => v = .non ∧ Q (.ref a) H3) E0 :=
  ⟨rfl, rfl, by decide, fun a n => ⟨a, rfl, upd_same, rfl, z a _ n (fun b o e => by rw [upd_ne (ne_of_none e n)]; exact e) upd_same⟩⟩
end
/-- the bodies self.f = f and self.f = f; self.g = g -/
theorem ex_first {H : Hp} {Q : VK} {a C : Addr} {f : Str} {v : V} (ha : H a = some (exo a C none)) (q : ∀ H', Near a H H' → Ex H' a C [(f, v)] → Q .non H') : ∀ dx, H dx = none → dx ≠ a → Q .non (upd (upd H dx (exd dx [(f, v)])) a (exo a C (some dx))) := fun dx n ne =>
  q _ (fun b o e nb => by rw [upd_ne nb, upd_ne (ne_of_none e n)]; exact e) ⟨dx, upd_same, by rw [upd_ne ne, upd_same]⟩
theorem ex_next {H : Hp} {Q : VK} {a C dx : Addr} {f g : Str} {v u : V} (ha : H a = some (exo a C none)) (n : H dx = none) (ne : dx ≠ a) (q : ∀ H', Near a H H' → Ex H' a C [(g, u), (f, v)] → Q .non H') :
    Q .non (upd (upd (upd H dx (exd dx [(f, v)])) a (exo a C (some dx))) dx (exd dx ((g, u) :: [(f, v)]))) :=
  q _ (fun b o e nb => by rw [upd_ne (ne_of_none e n), upd_ne nb, upd_ne (ne_of_none e n)]; exact e) ⟨dx, by rw [upd_ne ne.symm, upd_same], upd_same⟩
/-! ### a list of one value so many times, shown -/
theorem Rds.rep {X : Cx} {H : Hp} {v : V} {d : PyData} {p : Addr} {n : Nat} (h : H p = some (.lst (List.replicate n v))) (np : p ≠ sysModules) (hv : De X.K H v d) : Rds X H (.ref p) (.list (List.replicate n d)) := by
  intro pins σ s u I r
  obtain rfl : u = Value.ref p := r
  obtain ⟨_, its, m, rv, at_p⟩ := (show ObjOk X.prog X.w H s.heap p (.lst (List.replicate n v)) from I.hok p _ h)
  have all : ∀ (n : Nat) (its : List Value), Vals (List.replicate n v) its → ∃ as, ReadsAll s.heap its (List.replicate n d) as ∧ (d.hasDict = true → sysModules ∉ as) := by
    intro n
    induction n with
    | zero =>
      intro its z
      cases z
      exact ⟨[], .nil, fun _ m => nomatch m⟩
    | succ n ih =>
      intro its z
      cases z with
      | cons r1 r2 =>
        obtain ⟨as, q1, n1⟩ := hv.rds pins σ s _ I r1
        obtain ⟨bs, q2, n2⟩ := ih _ r2
        exact ⟨as ++ bs, .cons q1 q2, fun e m => (List.mem_append.mp m).elim (n1 e) (n2 e)⟩
  obtain ⟨as, q, no⟩ := all n its rv
  refine ⟨_, .list at_p rfl rfl (by simpa using q), fun e m => ?_⟩
  rcases List.mem_cons.mp m with z | z
  · exact np z.symm
  · have hd : d.hasDict = true := by
      have key : ∀ k : Nat, PyData.hasDictAll (List.replicate k d) = true → d.hasDict = true := fun k => by
        induction k with
        | zero => intro z; cases z
        | succ k ih =>
          intro z
          rw [List.replicate_succ] at z
          have z2 : (d.hasDict || PyData.hasDictAll (List.replicate k d)) = true := by simpa [PyData.hasDictAll] using z
          rcases Bool.or_eq_true_iff.mp z2 with z2 | z2
          · exact z2
          · exact ih z2
      exact key n (by simpa [PyData.hasDict] using e)
    exact no hd z
theorem rep_show {d : PyData} {n : Nat} (sh : d.showable = true) : (PyData.list (List.replicate n d)).showable = true := by
  have key : ∀ k : Nat, PyData.showableAll (List.replicate k d) = true := fun k => by
    induction k with
    | zero => rfl
    | succ k ih => rw [List.replicate_succ, PyData.showableAll, sh, ih]; rfl
  rw [PyData.showable]
  exact key n
theorem rep_depth {d : PyData} {n k : Nat} (h : d.depth ≤ k) : (PyData.list (List.replicate n d)).depth ≤ k + 1 := by
  have key : ∀ m : Nat, PyData.depthAll (List.replicate m d) ≤ k := fun m => by
    induction m with
    | zero => exact Nat.zero_le _
    | succ m ih =>
      rw [List.replicate_succ, PyData.depthAll]
      exact Nat.max_le.mpr ⟨h, ih⟩
  rw [PyData.depth]
  have := key n
  omega
theorem rep_size {d : PyData} {n k : Nat} (h : d.shown.length ≤ k) : (PyData.list (List.replicate n d)).shown.length ≤ n * (k + 2) + 3 := by
  have all : ∀ m : Nat, PyData.shownAll (List.replicate m d) = List.replicate m d.shown := fun m => by
    induction m with
    | zero => rfl
    | succ m ih => rw [List.replicate_succ, PyData.shownAll, ih, List.replicate_succ]
  have e := listText_len_le (List.replicate n d.shown)
  rw [PyData.shown, all]
  simp only [List.map_replicate, List.sum_replicate_nat, List.length_replicate] at e
  have : n * d.shown.length ≤ n * k := Nat.mul_le_mul_left n h
  rw [Nat.mul_add]
  omega
/-! ### raise of own exceptions, whatever built-in class is their base -/
def sp1n (f : Str) (C : Addr) : Sp := fun vs H Q _ => ∃ (a : Addr) (v : V), vs = [.ref a, v] ∧ H a = some (exo a C none) ∧ ∀ d, H d = none → d ≠ a → Q .non (upd (upd H d (exd d [(f, v)])) a (exo a C (some d)))
def sp2n (f g : Str) (C : Addr) : Sp := fun vs H Q _ => ∃ (a : Addr) (v u : V), vs = [.ref a, v, u] ∧ H a = some (exo a C none) ∧ ∀ d, H d = none → d ≠ a → Q .non (upd (upd (upd H d (exd d [(f, v)])) a (exo a C (some d))) d (exd d ((g, u) :: [(f, v)])))
/-- the class x of the module, at C, is made with n values by place, and may be raised -/
def XRz (P : Program) (w : World) (K : PySem.W.Frag) (mg : Str → Option Value) (base : Heap) (x : Str) (C : Addr) (n : Nat) (sp : Sp) : Prop :=
  ∃ (fI : Addr) (fd : FuncData) (ps : List Str) (B newId initId : String) (tl : List Value), ExcBaseFacts B newId initId tl ∧ XCls K C fI tl newId ∧ mg x = some (.ref C) ∧ FnOk P w K mg base CX0 1 fI fd ps sp ∧
    KBn K fd ps (n + 1) [] (fun us _ => us) (fun vs _ => vs) ∧ PySem.W.subIn K (.ref C) (.type "BaseException") = some true ∧ PySem.W.typeIn K (.ref C) = some (.type "type")
section
variable {X : Cx} {pins : List (Addr × Obj)} {σ : St} {s : Shared}
/-- the exception without a dict is let go -/
theorem mk_bare {H : Hp} {Q : XK} {h0 h1 h2 : Heap} {g1 g2 : Array GenState} {d1 d2 : Drawn} {t1 t2 : Nat} {o1 o2 : OsState} {a C : Addr} (R : Raises X (.ref C)) (I : Inv X pins σ H ⟨h0, g1, d1, t1, o1⟩) (new : h0.objs.size ≤ a) (on : ∀ b o, h0.get? b = some o → h1.get? b = some o)
    (un : Un (frs X.stack) [] (upd H a (exo a C none)) (upd H a (exo a C none)) h1 h2) (ok : HOk X.prog X.w (upd H a (exo a C none)) h2) (os : o2 = o1) (gens : PyProof.Rows.AllBare g2) (q : Q (.ref C) none H) : MkP X pins σ Q (.ref a) ⟨h2, g2, d2, t2, o2⟩ := by
  obtain ⟨t0, at_a⟩ := exo_at ok upd_same
  have free : H a = none := I.hok.fresh new
  obtain ⟨G, g_in, g_out⟩ := restrict h2 fun b => decide (b ≠ a)
  have same : ∀ b, b ≠ a → G.get? b = h2.get? b := fun b n => g_in b (decide_eq_true n)
  have gone : G.get? a = none := g_out a (by simp)
  have old : ∀ {b : Addr} {o : Obj}, h0.get? b = some o → b ≠ a := fun e => Nat.ne_of_lt (Nat.lt_of_lt_of_le (Heap.lt_size e) new)
  have off : ∀ {b : Addr} {o : HO}, H b = some o → b ≠ a := fun e => ne_of_none e free
  have still : ∀ {b : Addr}, b ≠ a → H b = none → upd H a (exo a C none) b = none := fun n e => by rw [upd_ne n]; exact e
  have U : Un (frs X.stack) [] H H h0 G :=
    { keep := fun b o e n m x => (same b (old e)).trans (un.keep b o (on b o e) (still (old e) n) m x)
      slot := fun b o e n m x => by
        obtain ⟨sl, y⟩ := un.slot b o (on b o e) (still (old e) n) m x
        exact ⟨sl, (same b (old e)).trans y⟩
      free := fun _ _ _ n _ => n
      there := fun b o e x => by
        obtain ⟨o', y⟩ := un.there b o (on b o e) x
        exact ⟨o', (same b (old e)).trans y⟩
      tups := fun _ _ e => e
      frzs := fun _ _ _ e => e
      tbls := fun b ps e => ⟨#[], by rw [e]; simp⟩ }
  have okG : HOk X.prog X.w H G := fun b o e => by
    have y := ok b o (by rw [upd_ne (off e)]; exact e)
    have noOwn : ∀ {c : Addr}, upd H a (exo a C none) c = some (.own b) → c ≠ a := fun {c} z m => by
      rw [m, upd_same] at z
      exact exo_own (Option.some.inj z)
    refine y.stay (fun c v hc z => ?_) (fun c z => ?_) fun c xs z => ?_
    · have hca : c ≠ a := by
        rcases hc with m | m
        · rw [m]
          exact off e
        · exact noOwn m
      exact (same c hca).trans z
    · rw [upd_ne (noOwn z)] at z
      exact z
    · by_cases m : c = a
      · rw [m, upd_same] at z
        exact (exo_tup (Option.some.inj z)).elim
      · rw [upd_ne m] at z
        exact z
  have J : Inv X pins σ H ⟨G, g2, d2, t2, o2⟩ := I.call' (ch := []) os U okG gens fun b m => absurd m (by simp)
  refine ⟨a, _, _, ⟨G, g2, d2, t2, o2⟩, H, .ref C, none, rfl, J, fun b o e => ?_, gone, at_a, ⟨rfl, rfl⟩, rfl, rfl, free, rfl, gens, R, q⟩
  by_cases m : b = a
  · rw [m, gone] at e
    cases e
  · exact (same b m).symm.trans e
/-- what is asked so that C(vs ..) is raised: its dict, where it has one, is new -/
def Flies (C : Addr) (sp : Sp) (vs : List V) (H1 : Hp) (Q : XK) : Prop := ∀ a, H1 a = none → sp (.ref a :: vs) (upd H1 a (exo a C none)) (fun v H2 => v = .non ∧
  ((∃ (d : Addr) (fs : List (Str × V)), H2 a = some (exo a C (some d)) ∧ H2 d = some (exd d fs) ∧ H1 d = none ∧ Q (.ref C) (some d) (upd (del H2 a) d (.xd fs))) ∨ (H2 = upd H1 a (exo a C none) ∧ Q (.ref C) none H1))) E0
theorem run_flies {x : Str} {C : Addr} {n : Nat} {sp : Sp} {H : Hp} {Q : XK} {us : List Value} {vs : List V} (o : XRz X.prog X.w X.K X.mg X.base x C n sp) (hr : Room 2 X.A) (I : Inv X pins σ H s) (r : Vals vs us) (l1 : vs.length = n) (few : vs.length ≤ 1000) (z : Flies C sp vs H Q) :
    wpAny (model X.prog X.w) X.A (call (.ref C) us) (MkP X pins σ Q) X.xe s := by
  obtain ⟨fI, fd, ps, B, newId, initId, tl, FB, T, m, F, hb, sub, ty⟩ := o
  have R : Raises X (.ref C) := raises_own sub ty
  obtain ⟨hp, gs, dr, tk, os⟩ := s
  obtain ⟨nm, N, qn, bs, bm, hdct, sn, sub', ab, col, dd, k0, k1, k2, k3, k5, hC, same⟩ := PySem.W.excInit_of I.kIn T.ini
  have up : hp.objs.size ≤ hp.objs.size + 1 := Nat.le_succ _
  have hq := z (hp.objs.size + 1) (I.hok.fresh up)
  have stay : ∀ b o, hp.get? b = some o → (exLaid hp C us).get? b = some o := fun b o q => Heap.get?_push_of_some _ (Heap.get?_push_of_some _ q)
  have made : (exLaid hp C us).get? (hp.objs.size + 1) = some { cls := .ref C, data := .fields #[.ref hp.objs.size, .none, .none, .none, .bool false, .none] } := by
    unfold exLaid
    heap_get
  have I2 : Inv X pins σ (upd H (hp.objs.size + 1) (exo (hp.objs.size + 1) C none)) ⟨exLaid hp C us, gs, dr, tk, os⟩ := I.laid (t' := tk) stay up (exo_ok made)
  have r1 : Vals (V.ref (hp.objs.size + 1) :: vs) (Value.ref (hp.objs.size + 1) :: us) := .cons rfl r
  have n1 : (Value.ref (hp.objs.size + 1) :: us).length = n + 1 := by
    rw [List.length_cons, ← r.length, l1]
  have fewU : us.length ≤ sizeLine := by
    rw [← r.length]
    exact Nat.le_trans few (by decide)
  obtain ⟨oI, at_I, isI⟩ : ∃ oI, hp.get? fI = some oI ∧ oI.cls = .type "function" := by
    obtain ⟨o, q, c⟩ := Option.map_eq_some_iff.mp (show (X.K.lookup fI).map (·.cls) = some (.type "function") from beq_iff_eq.mp T.isF)
    exact ⟨o, I.kIn _ _ q, c⟩
  refine wpAny_call (kw_call FB same hC (PySem.W.looks_findIn I.kIn T.init) (fun self => PySem.W.exc_bind at_I isI self) fewU (codeAny_mono (F.run _ X.stack _ _ ⟨Value.ref (hp.objs.size + 1) :: us, []⟩ (Value.ref (hp.objs.size + 1) :: us) _ _ E0
    (hr.make C us []) (I2.env0.make C us []) (hb.to _ (Value.ref (hp.objs.size + 1) :: us) [] I2.kIn n1 rfl) r1 hq) ?_))
  rintro (er | _ | _ | _ | u) s' y
  · exact y.elim
  · exact y.elim
  · exact y.elim
  · exact y.elim
  · obtain ⟨v, H2, os2, bare2, un2, ok2, rv, ev, y⟩ := y
    subst ev
    refine ⟨rv, ?_⟩
    obtain ⟨h2, g2, d2, t2, os'⟩ := s'
    rcases y with ⟨d, fs, ea, ed, nd, q⟩ | ⟨e, q⟩
    · exact mk_end R I up stay un2 ok2 os2 bare2 ea ed nd q
    · subst e
      exact mk_bare R I up stay un2 ok2 os2 bare2 q
/-- x(e, ..) in a raise -/
theorem pmk_flies {x : Str} {C : Addr} {n : Nat} {sp : Sp} {e : Expr} {es : List Expr} {t : TA} {p pos : Pos} (o : XRz X.prog X.w X.K X.mg X.base x C n sp) (hr : Room 2 X.A) (hg : Gl X x) (ha : PA X (e :: es) t) (hdb : (x == ("__debug__" : Str)) = false := by decide)
    (he : starEach (e :: es) X.env = (false, eval e X.env) :: starEach es X.env := by rfl) (hpl : (backTo pos (starEach es X.env)).any (·.1) = false := by rfl) :
    PMk X (.Call (.Name x p) (e :: es) [] pos) (fun σ H Q => t σ H fun vs H1 => vs.length = n ∧ vs.length ≤ 1000 ∧ Flies C sp vs H1 Q) := by
  intro pins s σ H Q I h
  obtain ⟨fI, fd, ps, B, newId, initId, tl, FB, T, m, F, hb, sub, ty⟩ := id o
  exact wpAny_Call_Name_kw (ld_glob I hg m (PySem.W.callWith_K (h₀ := X.base) I.ok.mod.kin T.kp (thn (ha.run pos pins s σ H _ I h) fun us s1 ⟨vs, H1, I1, r, l1, l2, q⟩ => ⟨I1.kIn, run_flies o hr I1 r l1 l2 q⟩) he hpl) hdb)
theorem pmk_flies0 {x : Str} {C : Addr} {sp : Sp} {p pos : Pos} (o : XRz X.prog X.w X.K X.mg X.base x C 0 sp) (hr : Room 2 X.A) (hg : Gl X x) (hdb : (x == ("__debug__" : Str)) = false := by decide) : PMk X (.Call (.Name x p) [] [] pos) (fun _ H Q => Flies C sp [] H Q) := by
  intro pins s σ H Q I h
  obtain ⟨fI, fd, ps, B, newId, initId, tl, FB, T, m, F, hb, sub, ty⟩ := id o
  exact wpAny_Call_Name_kw (ld_glob I hg m (PySem.W.callWith_K0 I.kIn T.kp (run_flies (us := []) (vs := []) o hr I .nil rfl (Nat.zero_le _) h)) hdb)
theorem xd_eq {H : Hp} {a C d : Addr} {o o' : HO} {fs : List (Str × V)} (n : H a = none) (ne : d ≠ a) : upd (del (upd (upd (upd H a o) d o') a (exo a C (some d))) a) d (.xd fs) = upd H d (.xd fs) := by
  funext b
  by_cases hb : b = d
  · rw [hb, upd_same, upd_same]
  · rw [upd_ne hb, upd_ne hb]
    by_cases ha : b = a
    · rw [ha, del_same, n]
    · rw [del_ne ha, upd_ne ha, upd_ne hb, upd_ne ha]
theorem xd_eq2 {H : Hp} {a C d : Addr} {o o' o2 : HO} {fs : List (Str × V)} (n : H a = none) (ne : d ≠ a) : upd (del (upd (upd (upd (upd H a o) d o') a (exo a C (some d))) d o2) a) d (.xd fs) = upd H d (.xd fs) := by
  funext b
  by_cases hb : b = d
  · rw [hb, upd_same, upd_same]
  · rw [upd_ne hb, upd_ne hb]
    by_cases ha : b = a
    · rw [ha, del_same, n]
    · rw [del_ne ha, upd_ne hb, upd_ne ha, upd_ne hb, upd_ne ha]
theorem flies1 {H : Hp} {f : Str} {C : Addr} {v : V} {Q : XK} (q : ∀ d, H d = none → Q (.ref C) (some d) (upd H d (.xd [(f, v)]))) : Flies C (sp1n f C) [v] H Q := fun a na => ⟨a, v, rfl, upd_same, fun d nd ne => ⟨rfl, .inl ⟨d, [(f, v)], upd_same, by rw [upd_ne ne, upd_same], by rw [upd_ne ne] at nd; exact nd, by
  rw [xd_eq na ne]
  rw [upd_ne ne] at nd
  exact q d nd⟩⟩⟩
theorem flies2 {H : Hp} {f g : Str} {C : Addr} {v u : V} {Q : XK} (q : ∀ d, H d = none → Q (.ref C) (some d) (upd H d (.xd [(g, u), (f, v)]))) : Flies C (sp2n f g C) [v, u] H Q := fun a na => ⟨a, v, u, rfl, upd_same, fun d nd ne => ⟨rfl, .inl ⟨d, [(g, u), (f, v)], by rw [upd_ne (Ne.symm ne), upd_same], upd_same, by rw [upd_ne ne] at nd; exact nd, by
  rw [xd_eq2 na ne]
  rw [upd_ne ne] at nd
  exact q d nd⟩⟩⟩
theorem flies0 {H : Hp} {C : Addr} {Q : XK} (q : Q (.ref C) none H) : Flies C (sp0 C) [] H Q := fun a na => ⟨a, rfl, upd_same, rfl, .inr ⟨rfl, q⟩⟩
variable {x : Str} {C : Addr} {n : Nat} {sp : Sp} {W : WX} {e : Expr} {es : List Expr} {t : TA} {p pos pos2 : Pos}
/-- raise x(e, ..) -/
theorem ps_raiseN (o : XRz X.prog X.w X.K X.mg X.base x C n sp) (hr : Room 2 X.A) (hc : X.calm = true) (tk : Takes X W) (hg : Gl X x) (ha : PA X (e :: es) t) (hdb : (x == ("__debug__" : Str)) = false := by decide)
    (he : starEach (e :: es) X.env = (false, eval e X.env) :: starEach es X.env := by rfl) (hpl : (backTo pos (starEach es X.env)).any (·.1) = false := by rfl) :
    PS X (.Raise (some (.Call (.Name x p) (e :: es) [] pos)) none pos2) (fun _ σ H => t σ H fun vs H1 => vs.length = n ∧ vs.length ≤ 1000 ∧ Flies C sp vs H1 fun cls d H' => W cls d σ H') :=
  ps_raise hc tk (pmk_flies o hr hg ha hdb he hpl)
/-- raise x() -/
theorem ps_raiseE (o : XRz X.prog X.w X.K X.mg X.base x C 0 sp) (hr : Room 2 X.A) (hc : X.calm = true) (tk : Takes X W) (hg : Gl X x) (hdb : (x == ("__debug__" : Str)) = false := by decide) :
    PS X (.Raise (some (.Call (.Name x p) [] [] pos)) none pos2) (fun _ σ H => Flies C sp [] H fun cls d H' => W cls d σ H') := ps_raise hc tk (pmk_flies0 o hr hg hdb)
end
/-! ### try with several except clauses, each with a name of its own or with none -/
/-- what is wanted behind a suite whose name stands in slot i: there the name is gone -/
def behindName (i : Nat) (D : Ends) : Ends :=
  { nx := fun τ G => D.nx (τ.set i none) G, rt := D.rt, bk := fun τ G => D.bk (τ.set i none) G, ct := fun τ G => D.ct (τ.set i none) G }
/-- a clause: its class, its name's slot, its suite's reading -/
structure Clause where
  cls : Value
  slot : Option Nat
  ts : Addr → Value → Option Addr → TS
/-- the suite is entered with the exception at a -/
def Clause.enters (c : Clause) (a : Addr) (kd : Value) (dd : Option Addr) (D : Ends) (τ : St) (G : Hp) : Prop :=
  match c.slot with
  | none => c.ts a kd dd D τ G
  | some i => c.ts a kd dd (behindName i D) (τ.set i (some (.ref a))) G
/-- what the clauses, one after the other, wish of an exception -/
def wishes (K : PySem.W.Frag) (out : WX) (D : Ends) : List Clause → WX
  | [] => out
  | c :: r => fun kd dd τ G => ∃ hit, PySem.W.exmOne K kd c.cls = some hit ∧ (hit = true → ∀ a, G a = none → c.enters a kd dd D τ G) ∧ (hit = false → wishes K out D r kd dd τ G)
abbrev SuiteOk (X : Cx) (sts : List Stmt) (ts : Addr → Value → Option Addr → TS) : Prop :=
  ∀ (a : Addr) (ob : Obj) (kd : Value) (dd : Option Addr) (ps : List (Addr × Obj)), Zc kd dd ob → (∃ fv, ob.data = .fields fv) → PSs (X.suite a ((a, ob) :: ps)) sts (ts a kd dd)
inductive Clauses (X : Cx) : List ExceptHandler → List Clause → Prop
  | nil : Clauses X [] []
  | bare {x : Str} {c : Value} {ts : Addr → Value → Option Addr → TS} {st : Stmt} {sts : List Stmt} {p1 p2 : Pos} {hs : List ExceptHandler} {l : List Clause} (nm : Names X x c) (su : SuiteOk X (st :: sts) ts) (r : Clauses X hs l) :
      Clauses X (.ExceptHandler (some (.Name x p1)) none (st :: sts) p2 :: hs) (⟨c, none, ts⟩ :: l)
  | named {x y : Str} {i : Nat} {c : Value} {ts : Addr → Value → Option Addr → TS} {st : Stmt} {sts : List Stmt} {p1 p2 : Pos} {hs : List ExceptHandler} {l : List Clause} (nm : Names X x c) (at_i : X.N[i]? = some y) (lo : X.env.kindOf y = some .local) (su : SuiteOk X (st :: sts) ts)
      (r : Clauses X hs l) : Clauses X (.ExceptHandler (some (.Name x p1)) (some y) (st :: sts) p2 :: hs) (⟨c, some i, ts⟩ :: l)
section
variable {X : Cx} {body : List Stmt} {hd : ExceptHandler} {hs : List ExceptHandler} {l : List Clause} {pos : Pos} {tb : WX → TS} {out : WX}
theorem ps_tryN (top : X.stack = X.env :: X.outer) (own : X.env.frame = some X.env.locals) (nd : X.N.Nodup) (tk : Takes X out)
    (bd : ∀ (W : WX) (ps : List (Addr × Obj)) (xe : Value → Shared → Prop), Takes (X.tr ps xe) W → PassesOwn (model X.prog X.w) X.A X.env xe → PSs (X.tr ps xe) body (tb W))
    (cl : Clauses X (hd :: hs) l) : PS X (.Try body (hd :: hs) [] [] pos) (fun D τ G => tb (wishes X.K out D l) D τ G) := by
  refine ⟨fun pins s τ G D I q => wpAny_Try_except (wpAny_mono ((bd (wishes X.K out D l) (X.pn ++ pins) (fun e z1 => wpAny (model X.prog X.w) X.A (noteFrame e X.env) (fun _ z2 => wpAny (model X.prog X.w) X.A (setFlight e none)
    (fun _ z3 => wpAny (model X.prog X.w) X.A (handleBy e X.env (hd :: hs)) (SP X pins D) X.xe z3) X.xe z2) X.xe z1) (fun u z caught => ?_) PassesOwn.looking).run [] s τ G D (I.toTry _) q) ?_ fun _ _ w => w)⟩
  · -- an exception of the body
    have fit := I.ok
    have frs_ : X.A.frames = some (X.env :: X.outer) := fit.frames.trans (by rw [top])
    obtain ⟨a, B, sI, pins1, τ1, G1, kd, dd, rfl, J1, nb, up, sky, free, os, ag, wish⟩ := caught
    have J : Inv X pins τ1 G1 sI := J1.ofTry fit
    show wpAny (model X.prog X.w) X.A (noteFrame (.ref a) X.env) _ _ _
    refine Sky.land Zc.steady frs_ own (by rw [← top]; exact sky) fun h1 fly1 up1 => ?_
    have J2 : Inv X pins τ1 G1 { z with heap := h1 } := J.landed nb fly1.1 (up.trans up1) os ag
    obtain ⟨ob, fv, at_a, zc, isF⟩ := fly1.there
    -- the exception is no frame
    have noFrame : a ∉ frs (X.env :: X.outer) := fun m => by
      obtain ⟨_, o2, e2, no⟩ := fly1.2.2.1.mem m
      rw [at_a] at e2
      cases e2
      exact no _ isF
    have neL : a ≠ X.env.locals := fun e => noFrame (List.mem_filterMap.mpr ⟨X.env, List.mem_cons_self, by rw [own, e]⟩)
    have notF : a ∉ X.fs := fun m => by
      obtain ⟨en, hen, e⟩ := List.mem_filterMap.mp m
      exact noFrame (List.mem_filterMap.mpr ⟨en, List.mem_cons_of_mem _ hen, e⟩)
    have U := J2.suite at_a isF free neL notF
    have tyA : PySem.W.Looks (model X.prog X.w) h1 (typeOf (.ref a)) kd := fun _ _ _ _ kp w => wpAny_typeOf_ref (kp _ _ at_a) (by rw [zc.1]; exact w)
    -- a clause's class is looked up
    have class_ : ∀ {x : Str} {c : Value} {p1 : Pos} {Q : Value → Shared → Prop} {E : Value → Shared → Prop}, Names X x c → Q c { z with heap := h1 } →
        wpAny (model X.prog X.w) (X.A.mark (some (.ref a))) (eval (.Name x p1) X.env) Q E { z with heap := h1 } := fun {x c p1 Q E} nm w => by
      rcases nm with ⟨g, nodbg, m | ⟨m, v, noname⟩⟩
      · exact ld_glob (X := X.suite a ((a, ob) :: (X.pn ++ pins))) U g m w nodbg
      · exact ld_blt (X := X.suite a ((a, ob) :: (X.pn ++ pins))) U g m v w noname nodbg
    have walk : ∀ {hs' : List ExceptHandler} {l' : List Clause}, Clauses X hs' l' → wishes X.K out D l' kd dd τ1 G1 → wpAny (model X.prog X.w) X.A (handleBy (.ref a) X.env hs') (SP X pins D) X.xe { z with heap := h1 } := by
      intro hs' l' c
      induction c with
      | nil =>
        intro w
        obtain ⟨_, _, _, oe, vs, T, oT, _, e1, _, e2, e3, _⟩ := id fly1
        have on : wpAny (model X.prog X.w) X.A (setFlight (.ref a) X.env.frame) (fun _ z4 => wpAny (model X.prog X.w) X.A (throw (.ref a) : Sem Flow) (SP X pins D) X.xe z4) X.xe { z with heap := h1 } := by
          rw [own]
          exact HandSPX.setFlight_upZ fly1 fun h2 sky2 up2 => wpAny_throw (tk _ _ ⟨a, B, sI, pins, τ1, G1, kd, dd, rfl, J, nb, (up.trans up1).trans up2, .inr (.inr (by rw [top]; exact sky2)), free, os, ag, w⟩)
        refine wpAny_handleBy_nil ?_
        unfold PySem.passOn
        refine wpAny_bind (wpAny_field e1 e2 e3 ?_)
        rw [if_neg (by simp)]
        first
          | exact wpAny_bind on
          | exact wpAny_bind (wpAny_pure (wpAny_bind on))
      | @bare x c ts st sts p1 p2 hs2 l2 nm su r ih =>
        intro w
        obtain ⟨hit, ex, yes, no⟩ := w
        refine wpAny_handleBy_cons (codeAny_handlers_test (class_ nm ((PySem.W.exm_one (M := model X.prog X.w) J2.kIn tyA ex).here ?_))) (fun e => by cases e)
        cases hit with
        | false => exact ih (no rfl)
        | true =>
          refine codeAny_handlers_suite (HandSPX.lands_againZ fly1 fun h2 fly2 up2 => ?_)
          obtain ⟨ob2, fv2, at2, zc2, isF2⟩ := fly2.there
          have V := (J.landed (s' := { z with heap := h2 }) nb fly2.1 ((up.trans up1).trans up2) os ag).suite at2 isF2 free neL notF
          refine wpAny_mono ((su a ob2 kd dd (X.pn ++ pins) zc2 ⟨_, isF2⟩).run [] _ _ G1 _ V (yes rfl a free)) ?_ fun _ _ w => w.elim
          rintro (_ | _ | _ | u) z6 y
          · obtain ⟨τ6, G6, S6, q6⟩ := y
            exact ⟨_, _, S6.unsuite fit, q6⟩
          · obtain ⟨τ6, G6, S6, q6⟩ := y
            exact ⟨_, _, S6.unsuite fit, q6⟩
          · obtain ⟨τ6, G6, S6, q6⟩ := y
            exact ⟨_, _, S6.unsuite fit, q6⟩
          · obtain ⟨v6, τ6, G6, S6, r6, q6⟩ := y
            exact ⟨_, _, _, S6.unsuite fit, r6, q6⟩
      | @named x y i c ts st sts p1 p2 hs2 l2 nm at_i lo su r ih =>
        intro w
        obtain ⟨hit, ex, yes, no⟩ := w
        refine wpAny_handleBy_cons (codeAny_handlers_test (class_ nm ((PySem.W.exm_one (M := model X.prog X.w) J2.kIn tyA ex).here ?_))) (fun e => by cases e)
        cases hit with
        | false => exact ih (no rfl)
        | true =>
          refine codeAny_handlers_suite_as (HandSPX.lands_againZ fly1 fun h2 fly2 up2 => ?_)
          obtain ⟨ob2, fv2, at2, zc2, isF2⟩ := fly2.there
          have V := (J.landed (s' := { z with heap := h2 }) nb fly2.1 ((up.trans up1).trans up2) os ag).suite at2 isF2 free neL notF
          refine store_ok (X := X.suite a ((a, ob2) :: (X.pn ++ pins))) (v := .ref a) V nd at_i (.inl lo) rfl (fun z5 V5 => ?_) (.inr lo)
          have gone : ∀ {τ6 : St} {G6 : Hp} {R : Shared → Prop} {z6 : Shared}, Inv (X.suite a ((a, ob2) :: (X.pn ++ pins))) [] τ6 G6 z6 → (∀ z7, Inv X pins (τ6.set i none) G6 z7 → R z7) →
              wpAny (model X.prog X.w) X.A (do bindName X.env y .none; unbindBehindTheSuite X.env y p2) (fun _ z7 => R z7) X.xe z6 := fun {τ6 G6 R z6} S6 w => gone_ok (S6.unsuite fit) nd at_i lo w
          refine wpAny_mono ((su a ob2 kd dd (X.pn ++ pins) zc2 ⟨_, isF2⟩).run [] z5 _ G1 _ V5 (yes rfl a free)) ?_ fun _ _ w => w.elim
          rintro (_ | _ | _ | u) z6 k6
          · obtain ⟨τ6, G6, S6, q6⟩ := k6
            exact gone S6 fun z7 J7 => ⟨_, _, J7, q6⟩
          · obtain ⟨τ6, G6, S6, q6⟩ := k6
            exact gone S6 fun z7 J7 => ⟨_, _, J7, q6⟩
          · obtain ⟨τ6, G6, S6, q6⟩ := k6
            exact gone S6 fun z7 J7 => ⟨_, _, J7, q6⟩
          · obtain ⟨v6, τ6, G6, S6, r6, q6⟩ := k6
            exact gone S6 fun z7 J7 => ⟨_, _, _, J7, r6, q6⟩
    exact walk cl wish
  · rintro (_ | _ | _ | u) z1 y
    · obtain ⟨τ1, G1, J1, w⟩ := y
      exact wpAny_execs_nil ⟨τ1, G1, J1.ofTry I.ok, w⟩
    · obtain ⟨τ1, G1, J1, w⟩ := y
      exact ⟨τ1, G1, J1.ofTry I.ok, w⟩
    · obtain ⟨τ1, G1, J1, w⟩ := y
      exact ⟨τ1, G1, J1.ofTry I.ok, w⟩
    · obtain ⟨v, τ1, G1, J1, r, w⟩ := y
      exact ⟨v, τ1, G1, J1.ofTry I.ok, r, w⟩
end
/-! ### own words: a def by its name, its promise by its name -/
/-- the def x of the text stands in the module -/
def Has (K : PySem.W.Frag) (mg : Str → Option Value) (x : Str) (st : Stmt) (ps : List Str) : Prop :=
  ∃ f fd, mg x = some (.ref f) ∧ Binds K fd ps [] ∧ Fun K x x st f fd
/-- the def x keeps the promise sp -/
def Ok (P : Program) (w : World) (K : PySem.W.Frag) (mg : Str → Option Value) (base : Heap) (k : Nat) (x : Str) (ps : List Str) (sp : Sp) : Prop :=
  ∃ f fd, mg x = some (.ref f) ∧ PySem.W.keepIn K (.ref f) = true ∧ Binds K fd ps [] ∧ FnOk P w K mg base CX0 k f fd ps sp
theorem pe_cO {X : Cx} {k : Nat} {x : Str} {ps : List Str} {sp : Sp} {p pos : Pos} {e : Expr} {es : List Expr} {t : TA} {E : XK} (o : Ok X.prog X.w X.K X.mg X.base k x ps sp) (hr : Room k X.A) (hx : Passes CX0 X E) (hg : Gl X x)
    (ha : PA X (e :: es) t) (hdb : (x == ("__debug__" : Str)) = false := by decide) (he : starEach (e :: es) X.env = (false, eval e X.env) :: starEach es X.env := by rfl) (hpl : (backTo pos (starEach es X.env)).any (·.1) = false := by rfl) :
    PE X (.Call (.Name x p) (e :: es) [] pos) (tCall sp [] E t) := by
  obtain ⟨f, fd, g, kp, b, G⟩ := o
  exact pe_call G hr hg g kp b .nil hx ha hdb he hpl
theorem pe_cO0 {X : Cx} {k : Nat} {x : Str} {ps : List Str} {sp : Sp} {p pos : Pos} {E : XK} (o : Ok X.prog X.w X.K X.mg X.base k x ps sp) (hr : Room k X.A) (hx : Passes CX0 X E) (hg : Gl X x) (hdb : (x == ("__debug__" : Str)) = false := by decide) :
    PE X (.Call (.Name x p) [] [] pos) (tCall sp [] E tNil) := by
  obtain ⟨f, fd, g, kp, b, G⟩ := o
  exact pe_call0 G hr hg g kp b .nil hx hdb
/-! ### numbers of a fair size -/
def Sm (i : Int) : Prop := -(2 ^ 600) < i ∧ i < 2 ^ 600
theorem Sm.nat {i : Int} (h : Sm i) : i.natAbs < 2 ^ 600 := by
  obtain ⟨h1, h2⟩ := h
  omega
section
variable {X : Cx}
theorem op_mulS : OpR X (binaryOp .Mult) (rI (fun i j => Sm i ∧ Sm j) fun i j => .int (i * j)) := by
  intro pins s σ H x y v u Q I rx ry h
  obtain ⟨i, j, rfl, rfl, ⟨h1, h2⟩, q⟩ := h
  exact op_mulW pins s σ H _ _ v u Q I rx ry ⟨i, j, rfl, rfl, wide_mul h1.nat h2.nat (by decide) (by decide) (by decide), q⟩
theorem op_divS : OpR X (binaryOp .FloorDiv) (rI (fun _ j => j ≠ 0 ∧ Sm j) fun i j => .int (i.fdiv j)) := opI fun i j _ _ _ _ _ hc q =>
  PyProof.Rows.floordiv_int hc.1 q (.inl (PyProof.noPylong_of_log2 (Nat.lt_of_lt_of_le (PySem.Flt.log2_lt_of (by decide : 0 < 600) hc.2.nat) (by decide))))
end
/-! ### heaps: all but the pool stays -/
def Keep (pp : Addr) (H H' : Hp) : Prop := ∀ b o, H b = some o → b ≠ pp → H' b = some o
theorem Keep.refl {pp : Addr} {H : Hp} : Keep pp H H := fun _ _ h _ => h
theorem Keep.trans {pp : Addr} {H H1 H2 : Hp} (a : Keep pp H H1) (b : Keep pp H1 H2) : Keep pp H H2 := fun c o h n => b c o (a c o h n) n
theorem Same.keep {pp : Addr} {H H' : Hp} (a : Same H H') : Keep pp H H' := fun b o h _ => a b o h
theorem Keep.seq {pp a : Addr} {K : PySem.W.Frag} {H H' : Hp} {xs : List V} (e : Keep pp H H') (n : a ≠ pp) (h : SqL K H a xs) : SqL K H' a xs := by
  rcases h with (h | ⟨o, h⟩) | h
  · exact .inl (.inl (e _ _ h n))
  · exact .inl (.inr ⟨o, e _ _ h n⟩)
  · exact .inr h
theorem Same.new {H : Hp} {p : Addr} {o : HO} (n : H p = none) : Same H (upd H p o) := fun b u h => by
  rw [upd_ne (ne_of_none h n)]
  exact h
/-- a pool of draws stands at pp -/
def PoolAt (H : Hp) (pp : Addr) : Prop := ∃ c s : Int, 0 ≤ s ∧ s < 2147483647 ∧ H pp = some (.lst [.int c, .int s])
theorem PoolAt.keep {H H' : Hp} {pp p : Addr} (h : PoolAt H p) (e : Keep pp H H') (n : p ≠ pp) : PoolAt H' p := by
  obtain ⟨c, s, h0, h1, h2⟩ := h
  exact ⟨c, s, h0, h1, e _ _ h2 n⟩
theorem PoolAt.same {H H' : Hp} {p : Addr} (h : PoolAt H p) (e : Same H H') : PoolAt H' p := by
  obtain ⟨c, s, h0, h1, h2⟩ := h
  exact ⟨c, s, h0, h1, e _ _ h2⟩
theorem PoolAt.ne {H : Hp} {p q : Addr} (h : PoolAt H p) (n : H q = none) : q ≠ p := by
  obtain ⟨c, s, h0, h1, h2⟩ := h
  exact (ne_of_none h2 n).symm
theorem Keep.free {pp l : Addr} {H H' : Hp} (e : Keep pp H H') (h : PoolAt H' pp) (n : H' l = none) : H l = none := by
  cases q : H l with
  | none => rfl
  | some o =>
    rw [e l o q (h.ne n)] at n
    cases n
theorem atI0 {α : Type} {x : α} {xs : List α} : atI (x :: xs) 0 = some x := atI_nat (j := 0) rfl
theorem atI1 {α : Type} {x y : α} {xs : List α} : atI (x :: y :: xs) 1 = some y := atI_nat (j := 1) rfl
theorem kIntInt {K : PySem.W.Frag} : PySem.W.kitOne K (.type "int") (.type "int") = some true := kit_ty (show kitB "int" "int" = some true by decide +kernel)
theorem kIntBool {K : PySem.W.Frag} : PySem.W.kitOne K (.type "int") (.type "bool") = some false := kit_ty (show kitB "int" "bool" = some false by decide +kernel)
theorem kStrStr {K : PySem.W.Frag} : PySem.W.kitOne K (.type "str") (.type "str") = some true := kit_ty (show kitB "str" "str" = some true by decide +kernel)
theorem n29 : (2147483629 : Int) ≠ 0 := by decide
theorem n47 : (2147483647 : Int) ≠ 0 := by decide
theorem vne {i j : Int} (h : i ≠ j) : ¬ decide (V.int i = V.int j) = true := fun z => h (by injection of_decide_eq_true z)
theorem veq {i j : Int} (h : i = j) : decide (V.int i = V.int j) = true := decide_eq_true (by rw [h])
theorem sne {i j : Str} (h : i ≠ j) : ¬ decide (V.str i = V.str j) = true := fun z => h (by injection of_decide_eq_true z)
theorem of_veq {i j : Int} (h : decide (V.int i = V.int j) = true) : i = j := by injection of_decide_eq_true h
theorem of_seq {i j : Str} (h : decide (V.str i = V.str j) = true) : i = j := by injection of_decide_eq_true h
theorem of_vne {i j : Int} (h : ¬ decide (V.int i = V.int j) = true) : i ≠ j := fun z => h (by rw [z]; exact decide_eq_true rfl)
theorem of_sne {i j : Str} (h : ¬ decide (V.str i = V.str j) = true) : i ≠ j := fun z => h (by rw [z]; exact decide_eq_true rfl)
theorem iteN {c A B : Prop} [Decidable c] (h : ¬ c) (q : B) : if c then A else B := by
  rw [if_neg h]
  exact q
theorem iteP {c A B : Prop} [Decidable c] (h : c) (q : A) : if c then A else B := by
  rw [if_pos h]
  exact q
theorem bnot_dec {c : Prop} [Decidable c] (h : (!decide c) = true) : ¬ c := fun z => by
  rw [decide_eq_true z] at h
  cases h
theorem bnot_dec' {c : Prop} [Decidable c] (h : ¬ (!decide c) = true) : c := by
  by_cases z : c
  · exact z
  · exact absurd (by rw [decide_eq_false z]; rfl) h
/-! ### the built-ins, by name -/
theorem bb_isinstance : bootBuiltins "isinstance" = some (.builtin "isinstance") := by decide +kernel
theorem bb_len : bootBuiltins "len" = some (.builtin "len") := by decide +kernel
theorem bb_max : bootBuiltins "max" = some (.builtin "max") := by decide +kernel
theorem bb_min : bootBuiltins "min" = some (.builtin "min") := by decide +kernel
theorem bb_abs : bootBuiltins "abs" = some (.builtin "abs") := by decide +kernel
theorem bb_sum : bootBuiltins "sum" = some (.builtin "sum") := by decide +kernel
theorem bb_all : bootBuiltins "all" = some (.builtin "all") := by decide +kernel
theorem bb_any : bootBuiltins "any" = some (.builtin "any") := by decide +kernel
theorem bb_sorted : bootBuiltins "sorted" = some (.builtin "sorted") := by decide +kernel
theorem bb_repr : bootBuiltins "repr" = some (.builtin "repr") := by decide +kernel
theorem bb_ord : bootBuiltins "ord" = some (.builtin "ord") := by decide +kernel
theorem bb_chr : bootBuiltins "chr" = some (.builtin "chr") := by decide +kernel
theorem bb_next : bootBuiltins "next" = some (.builtin "next") := by decide +kernel
theorem bb_iter : bootBuiltins "iter" = some (.builtin "iter") := by decide +kernel
theorem bb_callable : bootBuiltins "callable" = some (.builtin "callable") := by decide +kernel
theorem bb_hasattr : bootBuiltins "hasattr" = some (.builtin "hasattr") := by decide +kernel
theorem bb_getattr : bootBuiltins "getattr" = some (.builtin "getattr") := by decide +kernel
theorem bb_int : bootBuiltins "int" = some (.type "int") := by decide +kernel
theorem bb_bool : bootBuiltins "bool" = some (.type "bool") := by decide +kernel
theorem bb_str : bootBuiltins "str" = some (.type "str") := by decide +kernel
theorem bb_list : bootBuiltins "list" = some (.type "list") := by decide +kernel
theorem bb_tuple : bootBuiltins "tuple" = some (.type "tuple") := by decide +kernel
theorem bb_set : bootBuiltins "set" = some (.type "set") := by decide +kernel
theorem bb_dict : bootBuiltins "dict" = some (.type "dict") := by decide +kernel
theorem bb_range : bootBuiltins "range" = some (.type "range") := by decide +kernel
theorem bb_zip : bootBuiltins "zip" = some (.type "zip") := by decide +kernel
theorem bb_enumerate : bootBuiltins "enumerate" = some (.type "enumerate") := by decide +kernel
theorem bb_reversed : bootBuiltins "reversed" = some (.type "reversed") := by decide +kernel
theorem bb_frozenset : bootBuiltins "frozenset" = some (.type "frozenset") := by decide +kernel
theorem bb_type : bootBuiltins "type" = some (.type "type") := by decide +kernel
/-! ### what stays; data that is tracked; comprehensions by what their elements are -/
section
/-- all that stands outside Z stays -/
def Fr (Z : Addr → Prop) (H H' : Hp) : Prop := ∀ b o, H b = some o → ¬ Z b → H' b = some o
abbrev Z0 : Addr → Prop := fun _ => False
abbrev Zp (pp : Addr) : Addr → Prop := fun b => b = pp
theorem Fr.refl {Z : Addr → Prop} {H : Hp} : Fr Z H H := fun _ _ h _ => h
theorem Fr.trans {Z : Addr → Prop} {H H1 H2 : Hp} (a : Fr Z H H1) (b : Fr Z H1 H2) : Fr Z H H2 := fun c o h n => b c o (a c o h n) n
theorem Fr.of {Z : Addr → Prop} {H H' : Hp} (s : Same H H') : Fr Z H H' := fun b o h _ => s b o h
theorem Fr.same {H H' : Hp} (s : Fr Z0 H H') : Same H H' := fun b o h => s b o h id
theorem Fr.keep {pp : Addr} {H H' : Hp} (s : Fr (Zp pp) H H') : Keep pp H H' := s
theorem Keep.fr {pp : Addr} {H H' : Hp} (s : Keep pp H H') : Fr (Zp pp) H H' := s
theorem Fr.new {Z : Addr → Prop} {H : Hp} {p : Addr} {o : HO} (n : H p = none) : Fr Z H (upd H p o) := Fr.of (Same.new n)
/-- a later store at a place that was free -/
theorem Fr.on {Z : Addr → Prop} {H H' : Hp} {p : Addr} {o : HO} (s : Fr Z H H') (n : H p = none) : Fr Z H (upd H' p o) := fun b u h z => by
  rw [upd_ne (ne_of_none h n)]
  exact s b u h z
mutual
/-- the value v is the data d, all of it tracked and outside Z -/
inductive Dt (Z : Addr → Prop) (H : Hp) : V → PyData → Prop
  | non : Dt Z H .non .none
  | bl (b : Bool) : Dt Z H (.bl b) (.bool b)
  | int (i : Int) : Dt Z H (.int i) (.int i)
  | str (x : Str) : Dt Z H (.str x) (.str x)
  | lst {a : Addr} {xs : List V} {ds : List PyData} : H a = some (.lst xs) → ¬ Z a → DtAll Z H xs ds → Dt Z H (.ref a) (.list ds)
  | tup {a : Addr} {xs : List V} {ds : List PyData} : H a = some (.tup xs) → ¬ Z a → DtAll Z H xs ds → Dt Z H (.ref a) (.tuple ds)
inductive DtAll (Z : Addr → Prop) (H : Hp) : List V → List PyData → Prop
  | nil : DtAll Z H [] []
  | cons {v : V} {vs : List V} {d : PyData} {ds : List PyData} : Dt Z H v d → DtAll Z H vs ds → DtAll Z H (v :: vs) (d :: ds)
end
variable {Z : Addr → Prop} {H H' : Hp} {K : PySem.W.Frag}
mutual
theorem Dt.fr' (s : Fr Z H H') {v : V} {d : PyData} (h : Dt Z H v d) : Dt Z H' v d :=
  match h with
  | .non => .non
  | .bl b => .bl b
  | .int i => .int i
  | .str x => .str x
  | .lst e n t => .lst (s _ _ e n) n (DtAll.fr' s t)
  | .tup e n t => .tup (s _ _ e n) n (DtAll.fr' s t)
theorem DtAll.fr' (s : Fr Z H H') {vs : List V} {ds : List PyData} (h : DtAll Z H vs ds) : DtAll Z H' vs ds :=
  match h with
  | .nil => .nil
  | .cons a b => .cons (Dt.fr' s a) (DtAll.fr' s b)
end
theorem Dt.fr {v : V} {d : PyData} (h : Dt Z H v d) (s : Fr Z H H') : Dt Z H' v d := Dt.fr' s h
theorem DtAll.fr {vs : List V} {ds : List PyData} (h : DtAll Z H vs ds) (s : Fr Z H H') : DtAll Z H' vs ds := DtAll.fr' s h
mutual
theorem Dt.dp' {v : V} {d : PyData} (h : Dt Z H v d) : Dp K H v d :=
  match h with
  | .non => .non
  | .bl b => .bl b
  | .int i => .int i
  | .str x => .str x
  | .lst e n t => .lst (SqL.of e) (DtAll.dp' t)
  | .tup e n t => .tup (SqT.of e) (DtAll.dp' t)
theorem DtAll.dp' {vs : List V} {ds : List PyData} (h : DtAll Z H vs ds) : DpAll K H vs ds :=
  match h with
  | .nil => .nil
  | .cons a b => .cons (Dt.dp' a) (DtAll.dp' b)
end
theorem Dt.dp {v : V} {d : PyData} (h : Dt Z H v d) : Dp K H v d := Dt.dp' h
mutual
theorem Dt.mono' {Z' : Addr → Prop} (z : ∀ a, Z' a → Z a) {v : V} {d : PyData} (h : Dt Z H v d) : Dt Z' H v d :=
  match h with
  | .non => .non
  | .bl b => .bl b
  | .int i => .int i
  | .str x => .str x
  | .lst e n t => .lst e (fun m => n (z _ m)) (DtAll.mono' z t)
  | .tup e n t => .tup e (fun m => n (z _ m)) (DtAll.mono' z t)
theorem DtAll.mono' {Z' : Addr → Prop} (z : ∀ a, Z' a → Z a) {vs : List V} {ds : List PyData} (h : DtAll Z H vs ds) : DtAll Z' H vs ds :=
  match h with
  | .nil => .nil
  | .cons a b => .cons (Dt.mono' z a) (DtAll.mono' z b)
end
theorem Dt.z0 {v : V} {d : PyData} (h : Dt Z H v d) : Dt Z0 H v d := Dt.mono' (fun _ m => m.elim) h
theorem Dt.mono {Z' : Addr → Prop} {v : V} {d : PyData} (h : Dt Z H v d) (z : ∀ a, Z' a → Z a) : Dt Z' H v d := Dt.mono' z h
theorem DtAll.len {vs : List V} {ds : List PyData} (h : DtAll Z H vs ds) : vs.length = ds.length := by
  induction vs generalizing ds with
  | nil => cases h; rfl
  | cons v vs ih => cases h with | cons a b => rw [List.length_cons, List.length_cons, ih b]
theorem DtAll.get {vs : List V} {ds : List PyData} (h : DtAll Z H vs ds) {i : Nat} {v : V} (e : vs[i]? = some v) : ∃ d, ds[i]? = some d ∧ Dt Z H v d := by
  induction vs generalizing ds i with
  | nil => simp at e
  | cons u vs ih =>
    cases h with
    | cons a b =>
      cases i with
      | zero =>
        simp at e
        subst e
        exact ⟨_, rfl, a⟩
      | succ i =>
        simp at e
        obtain ⟨d, e1, e2⟩ := ih b e
        exact ⟨d, by simpa using e1, e2⟩
theorem DtAll.append {vs us : List V} {ds es : List PyData} (h : DtAll Z H vs ds) (g : DtAll Z H us es) : DtAll Z H (vs ++ us) (ds ++ es) := by
  induction vs generalizing ds with
  | nil => cases h; exact g
  | cons v vs ih => cases h with | cons a b => exact .cons a (ih b)
theorem DtAll.take {vs : List V} {ds : List PyData} (h : DtAll Z H vs ds) (n : Nat) : DtAll Z H (vs.take n) (ds.take n) := by
  induction vs generalizing ds n with
  | nil => cases h; simp; exact .nil
  | cons v vs ih =>
    cases h with
    | cons a b =>
      cases n with
      | zero => exact .nil
      | succ n => exact .cons a (ih b n)
theorem DtAll.drop {vs : List V} {ds : List PyData} (h : DtAll Z H vs ds) (n : Nat) : DtAll Z H (vs.drop n) (ds.drop n) := by
  induction vs generalizing ds n with
  | nil => cases h; simp; exact .nil
  | cons v vs ih =>
    cases h with
    | cons a b =>
      cases n with
      | zero => exact .cons a b
      | succ n => exact ih b n
theorem DtAll.of_get {vs : List V} {ds : List PyData} (l : vs.length = ds.length) (h : ∀ (i : Nat) (v : V) (d : PyData), vs[i]? = some v → ds[i]? = some d → Dt Z H v d) : DtAll Z H vs ds := by
  induction vs generalizing ds with
  | nil =>
    cases ds with
    | nil => exact .nil
    | cons d ds => simp at l
  | cons v vs ih =>
    cases ds with
    | nil => simp at l
    | cons d ds =>
      refine .cons (h 0 v d rfl rfl) (ih (by simpa using l) fun i v' d' e1 e2 => h (i + 1) v' d' ?_ ?_)
      · rw [List.getElem?_cons_succ]
        exact e1
      · rw [List.getElem?_cons_succ]
        exact e2
theorem DtAll.ints (ns : List Int) : DtAll Z H (ns.map V.int) (ns.map PyData.int) := by
  induction ns with
  | nil => exact .nil
  | cons n ns ih => exact .cons (.int n) ih
theorem DtAll.ints_eq {vs : List V} {ns : List Int} (h : DtAll Z H vs (ns.map PyData.int)) : vs = ns.map V.int := by
  induction ns generalizing vs with
  | nil => cases h; rfl
  | cons n ns ih =>
    cases h with
    | cons a b =>
      cases a
      rw [ih b]
      rfl
theorem Dt.lst_inv {v : V} {ds : List PyData} (h : Dt Z H v (.list ds)) : ∃ a xs, v = .ref a ∧ H a = some (.lst xs) ∧ ¬ Z a ∧ DtAll Z H xs ds := by
  cases h with | lst e n t => exact ⟨_, _, rfl, e, n, t⟩
theorem Dt.tup_inv {v : V} {ds : List PyData} (h : Dt Z H v (.tuple ds)) : ∃ a xs, v = .ref a ∧ H a = some (.tup xs) ∧ ¬ Z a ∧ DtAll Z H xs ds := by
  cases h with | tup e n t => exact ⟨_, _, rfl, e, n, t⟩
theorem Dt.row_inv {v : V} {ns : List Int} (h : Dt Z H v (.list (ns.map PyData.int))) : ∃ a, v = .ref a ∧ H a = some (.lst (ns.map V.int)) ∧ ¬ Z a := by
  obtain ⟨a, xs, e, h1, h2, h3⟩ := h.lst_inv
  rw [h3.ints_eq] at h1
  exact ⟨a, e, h1, h2⟩
end
section
variable {J : It} {n : Nat} {G : Hp → Prop} {Y : Nat → Hp → V → Hp → Prop}
theorem get_snoc {α : Type} {xs : List α} {y z : α} {j : Nat} (h : (xs ++ [y])[j]? = some z) : xs[j]? = some z ∨ (j = xs.length ∧ y = z) := by
  by_cases hj : j < xs.length
  · rw [List.getElem?_append_left hj] at h
    exact .inl h
  · rw [List.getElem?_append_right (by omega)] at h
    by_cases h0 : j - xs.length = 0
    · rw [h0] at h
      exact .inr ⟨by omega, by simpa using h⟩
    · obtain ⟨k, hk⟩ : ∃ k, j - xs.length = k + 1 := ⟨j - xs.length - 1, by omega⟩
      rw [hk] at h
      simp at h
theorem Fr.wide {Z Z' : Addr → Prop} {H H' : Hp} (s : Fr Z H H') (z : ∀ a, Z a → Z' a) : Fr Z' H H' := fun b o h n => s b o h fun m => n (z _ m)
/-- Z, and D -/
def Zu (Z : Addr → Prop) (D : Addr) : Addr → Prop := fun b => Z b ∨ b = D
theorem Fr.zu {Z : Addr → Prop} {D : Addr} {H H' : Hp} (s : Fr Z H H') : Fr (Zu Z D) H H' := s.wide fun _ m => .inl m
theorem zu_ne {Z : Addr → Prop} {D a : Addr} (h : ¬ Z a) (n : a ≠ D) : ¬ Zu Z D a := fun m => m.elim h n
theorem zu_new {Z : Addr → Prop} {D a : Addr} {H : Hp} {o : HO} (h : ¬ Z a) (n : H a = none) (d : H D = some o) : ¬ Zu Z D a := zu_ne h (ne_of_none d n).symm
theorem Fr.at_zu {Z : Addr → Prop} {D : Addr} {H : Hp} {o : HO} : Fr (Zu Z D) H (upd H D o) := fun b u h n => by
  rw [upd_ne (fun m => n (.inr m))]
  exact h
mutual
theorem Dt.off' {Z : Addr → Prop} {D : Addr} {H : Hp} (n : H D = none) {v : V} {d : PyData} (h : Dt Z H v d) : Dt (Zu Z D) H v d :=
  match h with
  | .non => .non
  | .bl b => .bl b
  | .int i => .int i
  | .str x => .str x
  | .lst e m t => .lst e (zu_ne m (ne_of_none e n)) (DtAll.off' n t)
  | .tup e m t => .tup e (zu_ne m (ne_of_none e n)) (DtAll.off' n t)
theorem DtAll.off' {Z : Addr → Prop} {D : Addr} {H : Hp} (n : H D = none) {vs : List V} {ds : List PyData} (h : DtAll Z H vs ds) : DtAll (Zu Z D) H vs ds :=
  match h with
  | .nil => .nil
  | .cons a b => .cons (Dt.off' n a) (DtAll.off' n b)
end
theorem Dt.off {Z : Addr → Prop} {D : Addr} {H : Hp} {v : V} {d : PyData} (h : Dt Z H v d) (n : H D = none) : Dt (Zu Z D) H v d := Dt.off' n h
theorem Dt.un {Z : Addr → Prop} {D : Addr} {H : Hp} {v : V} {d : PyData} (h : Dt (Zu Z D) H v d) : Dt Z H v d := h.mono fun _ m => .inl m
/-- a comprehension without a test: R tells of each element, I holds of all heaps on the way -/
theorem lc_acc (w : Walk J n G Y) {g : TG} {te : TE} {vs : List Nat} {σ : St} {H1 : Hp} {D : Addr} {Qd : Hp → Prop} (Z : Addr → Prop) (I : Hp → Prop) (R : Nat → V → Hp → Prop)
    (hD : H1 D = none) (zD : ¬ Z D) (i0 : I H1) (iS : ∀ H l, I H → ¬ Z D → I (upd H D (.lst l))) (rS : ∀ i y H H', i < n → R i y H → Fr (Zu Z D) H H' → R i y H') (few : n < sizeLine)
    (hG : ∀ H, Fr Z H1 H → G H)
    (hs : ∀ i x H H' (Qk : V → Hp → Prop), i < n → Fr Z H1 H → I H → (∀ p, H p = none → p ≠ D) → Y i H x H' → (∀ y H4, Fr Z H H4 → I H4 → R i y H4 → Qk y H4) → g x (wipe σ vs) H' fun σ2 H2 => wipe σ2 vs = wipe σ vs ∧ te σ2 H2 Qk)
    (hd : ∀ H xs, Fr Z H1 H → I H → H D = some (.lst xs) → xs.length = n → (∀ j y, xs[j]? = some y → R j y H) → Qd H) :
    ∃ W : Nat → Nat → Hp → Prop, (∃ m, W 0 m (upd H1 D (.lst []))) ∧ ∀ i m H, W i m H →
      (J.stop i H ∧ Qd H) ∨ (J.go i H ∧ ∃ Nx : Hp → Prop, (∀ H', Nx H' → ∃ m', m' < m ∧ W (i + 1) m' H') ∧ ∀ x H', J.yld i H x H' → g x (wipe σ vs) H' fun σ2 H2 => wipe σ2 vs = wipe σ vs ∧ tYes σ2 H2 fun b H3 =>
        if b = true then te σ2 H3 fun y H4 => ∃ acc, H4 D = some (.lst acc) ∧ acc.length < sizeLine ∧ Nx (upd H4 D (.lst (acc ++ [y]))) else Nx H3) := by
  refine lc_it w (fun i H => i ≤ n ∧ Fr Z H1 H ∧ I H ∧ ∃ xs, H D = some (.lst xs) ∧ xs.length = i ∧ ∀ j y, xs[j]? = some y → R j y H) ?_ (fun i H _ p => hG H p.2.1) ?_ ?_
  · exact ⟨Nat.zero_le _, Fr.new hD, iS _ _ i0 zD, [], upd_same, rfl, fun j y e => by simp at e⟩
  · rintro i x H H' hi ⟨_, f, iH, xs, hx, hl, hr⟩ y
    refine hs i x H H' _ hi f iH (fun p m => (ne_of_none hx m).symm) y ?_
    intro y H4 f4 i4 r4
    refine ⟨xs, f4 _ _ hx zD, by omega, by omega, Fr.on (f.trans f4) hD, iS _ _ i4 zD, xs ++ [y], upd_same, by simp [hl], fun j y' e => ?_⟩
    rcases get_snoc e with e | ⟨e1, rfl⟩
    · have hj : j < xs.length := (List.getElem?_eq_some_iff.mp e).1
      exact rS _ _ _ _ (by omega) (rS _ _ _ _ (by omega) (hr j y' e) f4.zu) Fr.at_zu
    · obtain rfl : j = i := by omega
      exact rS _ _ _ _ hi r4 Fr.at_zu
  · rintro H ⟨_, f, iH, xs, hx, hl, hr⟩
    exact hd H xs f iH hx hl hr
end
section
variable {J : It} {n : Nat} {G : Hp → Prop} {Y : Nat → Hp → V → Hp → Prop}
/-- .. whose elements are data -/
theorem lc_dat (w : Walk J n G Y) {g : TG} {te : TE} {vs : List Nat} {σ : St} {H1 : Hp} {D : Addr} {Qd : Hp → Prop} (Z : Addr → Prop) (I : Hp → Prop) (ds : List PyData) (hn : ds.length = n)
    (hD : H1 D = none) (zD : ¬ Z D) (i0 : I H1) (iS : ∀ H l, I H → ¬ Z D → I (upd H D (.lst l))) (few : n < sizeLine)
    (hG : ∀ H, Fr Z H1 H → G H)
    (hs : ∀ i x d H H' (Qk : V → Hp → Prop), ds[i]? = some d → Fr Z H1 H → I H → (∀ p, H p = none → p ≠ D) → Y i H x H' → (∀ y H4, Fr Z H H4 → I H4 → Dt (Zu Z D) H4 y d → Qk y H4) → g x (wipe σ vs) H' fun σ2 H2 => wipe σ2 vs = wipe σ vs ∧ te σ2 H2 Qk)
    (hd : ∀ H xs, Fr Z H1 H → I H → H D = some (.lst xs) → DtAll (Zu Z D) H xs ds → Qd H) :
    ∃ W : Nat → Nat → Hp → Prop, (∃ m, W 0 m (upd H1 D (.lst []))) ∧ ∀ i m H, W i m H →
      (J.stop i H ∧ Qd H) ∨ (J.go i H ∧ ∃ Nx : Hp → Prop, (∀ H', Nx H' → ∃ m', m' < m ∧ W (i + 1) m' H') ∧ ∀ x H', J.yld i H x H' → g x (wipe σ vs) H' fun σ2 H2 => wipe σ2 vs = wipe σ vs ∧ tYes σ2 H2 fun b H3 =>
        if b = true then te σ2 H3 fun y H4 => ∃ acc, H4 D = some (.lst acc) ∧ acc.length < sizeLine ∧ Nx (upd H4 D (.lst (acc ++ [y]))) else Nx H3) := by
  refine lc_acc w Z I (fun i y H => ∀ d, ds[i]? = some d → Dt (Zu Z D) H y d) hD zD i0 iS (fun i y H H' _ r f d e => (r d e).fr f) few hG ?_ ?_
  · intro i x H H' Qk hi f iH ne y q
    have hi2 : i < ds.length := by omega
    refine hs i x ds[i] H H' Qk (List.getElem?_eq_getElem hi2) f iH ne y fun y H4 f4 i4 r4 => q y H4 f4 i4 fun d e => ?_
    rw [List.getElem?_eq_getElem hi2] at e
    cases e
    exact r4
  · intro H xs f iH hx hl hr
    exact hd H xs f iH hx (DtAll.of_get (by omega) fun i v d e1 e2 => hr i v e1 d e2)
/-- .. whose elements are ints -/
theorem lc_ints (w : Walk J n G Y) {g : TG} {te : TE} {vs : List Nat} {σ : St} {H1 : Hp} {D : Addr} {Qd : Hp → Prop} (Z : Addr → Prop) (I : Hp → Prop) (ks : List Int) (hn : ks.length = n)
    (hD : H1 D = none) (zD : ¬ Z D) (i0 : I H1) (iS : ∀ H l, I H → ¬ Z D → I (upd H D (.lst l))) (few : n < sizeLine)
    (hG : ∀ H, Fr Z H1 H → G H)
    (hs : ∀ i x k H H' (Qk : V → Hp → Prop), ks[i]? = some k → Fr Z H1 H → I H → (∀ p, H p = none → p ≠ D) → Y i H x H' → (∀ H4, Fr Z H H4 → I H4 → Qk (.int k) H4) → g x (wipe σ vs) H' fun σ2 H2 => wipe σ2 vs = wipe σ vs ∧ te σ2 H2 Qk)
    (hd : ∀ H, Fr Z H1 H → I H → H D = some (.lst (ks.map V.int)) → Qd H) :
    ∃ W : Nat → Nat → Hp → Prop, (∃ m, W 0 m (upd H1 D (.lst []))) ∧ ∀ i m H, W i m H →
      (J.stop i H ∧ Qd H) ∨ (J.go i H ∧ ∃ Nx : Hp → Prop, (∀ H', Nx H' → ∃ m', m' < m ∧ W (i + 1) m' H') ∧ ∀ x H', J.yld i H x H' → g x (wipe σ vs) H' fun σ2 H2 => wipe σ2 vs = wipe σ vs ∧ tYes σ2 H2 fun b H3 =>
        if b = true then te σ2 H3 fun y H4 => ∃ acc, H4 D = some (.lst acc) ∧ acc.length < sizeLine ∧ Nx (upd H4 D (.lst (acc ++ [y]))) else Nx H3) := by
  refine lc_dat w Z I (ks.map PyData.int) (by simp [hn]) hD zD i0 iS few hG ?_ ?_
  · intro i x d H H' Qk e f iH ne y q
    rw [List.getElem?_map] at e
    obtain ⟨k, e1, rfl⟩ := Option.map_eq_some_iff.mp e
    exact hs i x k H H' Qk e1 f iH ne y fun H4 f4 i4 => q _ H4 f4 i4 (.int k)
  · intro H xs f iH hx t
    exact hd H f iH (by rw [hx, t.ints_eq])
/-- .. whose elements are values that do not depend on the heap -/
theorem lc_vals (w : Walk J n G Y) {g : TG} {te : TE} {vs : List Nat} {σ : St} {H1 : Hp} {D : Addr} {Qd : Hp → Prop} (Z : Addr → Prop) (I : Hp → Prop) (ks : List V) (hn : ks.length = n)
    (hD : H1 D = none) (zD : ¬ Z D) (i0 : I H1) (iS : ∀ H l, I H → ¬ Z D → I (upd H D (.lst l))) (few : n < sizeLine)
    (hG : ∀ H, Fr Z H1 H → G H)
    (hs : ∀ i x k H H' (Qk : V → Hp → Prop), ks[i]? = some k → Fr Z H1 H → I H → (∀ p, H p = none → p ≠ D) → Y i H x H' → (∀ H4, Fr Z H H4 → I H4 → Qk k H4) → g x (wipe σ vs) H' fun σ2 H2 => wipe σ2 vs = wipe σ vs ∧ te σ2 H2 Qk)
    (hd : ∀ H, Fr Z H1 H → I H → H D = some (.lst ks) → Qd H) :
    ∃ W : Nat → Nat → Hp → Prop, (∃ m, W 0 m (upd H1 D (.lst []))) ∧ ∀ i m H, W i m H →
      (J.stop i H ∧ Qd H) ∨ (J.go i H ∧ ∃ Nx : Hp → Prop, (∀ H', Nx H' → ∃ m', m' < m ∧ W (i + 1) m' H') ∧ ∀ x H', J.yld i H x H' → g x (wipe σ vs) H' fun σ2 H2 => wipe σ2 vs = wipe σ vs ∧ tYes σ2 H2 fun b H3 =>
        if b = true then te σ2 H3 fun y H4 => ∃ acc, H4 D = some (.lst acc) ∧ acc.length < sizeLine ∧ Nx (upd H4 D (.lst (acc ++ [y]))) else Nx H3) := by
  refine lc_acc w Z I (fun i y H => ks[i]? = some y) hD zD i0 iS (fun i y H H' _ r f => r) few hG ?_ ?_
  · intro i x H H' Qk hi f iH ne y q
    have hi2 : i < ks.length := by omega
    refine hs i x ks[i] H H' Qk (List.getElem?_eq_getElem hi2) f iH ne y fun H4 f4 i4 => q _ H4 f4 i4 (List.getElem?_eq_getElem hi2)
  · intro H xs f iH hx hl hr
    refine hd H f iH ?_
    rw [hx]
    congr 2
    refine List.ext_getElem? fun i => ?_
    by_cases hi : i < xs.length
    · rw [List.getElem?_eq_getElem hi, hr i xs[i] (List.getElem?_eq_getElem hi)]
    · rw [List.getElem?_eq_none (by omega), List.getElem?_eq_none (by omega)]
end
/-! ### what the written part says of one own exception class -/
structure Cl (K : PySem.W.Frag) (C fI : Addr) (tl : List Value) (newId : String) (fs : List Str) : Prop where
  T : XCls K C fI tl newId
  look : XLook K C
  no : ∀ f ∈ fs, PySem.W.findIn K (.ref C) f = some none
  mro : (PySem.W.clsIn K C).map (·.mro) = some (.ref C :: tl)
  ty : PySem.W.typeIn K (.ref C) = some (.type "type")
theorem cl_of {K : PySem.W.Frag} {C fI : Addr} {tl : List Value} {newId : String} {fs : List Str} (g1 : PySem.W.specialIn K (.builtin "object.__class__") "__get__" = some (some (.builtin "getset_descriptor.__get__"))) (g2 : PySem.W.takesIn K (.builtin "object.__class__") = some true)
    (b : PySem.W.findIn K (.ref C) "__init__" = some (some (.ref fI)))
    (t : (PySem.W.excInitIn K C tl newId, PySem.W.excOver K C tl, PySem.W.hasDictIn K C, PySem.W.isFn K (.ref fI), PySem.W.keepIn K (.ref C)) = (true, true, true, true, true))
    (u : (PySem.W.findIn K (.ref C) "__setattr__", PySem.W.findIn K (.ref C) "__getattribute__", PySem.W.findIn K (.ref C) "__getattr__", PySem.W.findIn K (.ref C) "__class__") =
      (some (some (.builtin "object.__setattr__")), some (some (.builtin "BaseException.__getattribute__")), some none, some (some (.builtin "object.__class__"))))
    (v : (PySem.W.subIn K (.ref C) (.type "BaseException"), PySem.W.mroIn K C (.type "object"), (PySem.W.clsIn K C).map (·.mro), PySem.W.typeIn K (.ref C)) = (some true, some true, some (.ref C :: tl), some (.type "type")))
    (f : fs.map (fun f => PySem.W.findIn K (.ref C) f) = fs.map fun _ => some none) : Cl K C fI tl newId fs := by
  simp only [Prod.mk.injEq] at t u v
  obtain ⟨t1, t2, t3, t4, t5⟩ := t
  obtain ⟨u1, u2, u3, u4⟩ := u
  obtain ⟨v1, v2, v3, v4⟩ := v
  exact ⟨⟨t1, t2, t3, u1, b, t4, t5⟩, ⟨⟨u2, u3, v1, t3⟩, ⟨u2, u3, v1, t3, u4, g1, g2, v2⟩⟩, List.map_inj_left.mp f, v3, v4⟩
/-! ### the types of data; isinstance; integers -/
section
def tyD : PyData → String
  | .none => "NoneType"
  | .bool _ => "bool"
  | .int _ => "int"
  | .str _ => "str"
  | .list _ => "list"
  | .tuple _ => "tuple"
  | _ => "?"
def isInt : PyData → Bool
  | .int _ => true
  | _ => false
def isSeq : PyData → Bool
  | .list _ => true
  | .tuple _ => true
  | _ => false
def itemsD : PyData → List PyData
  | .list ds => ds
  | .tuple ds => ds
  | _ => []
variable {Z : Addr → Prop} {H H' : Hp} {K : PySem.W.Frag}
theorem Dt.ty {v : V} {d : PyData} (h : Dt Z H v d) : TyX K H v (.type (tyD d)) := by
  cases h with
  | non => exact .base .non
  | bl b => exact .base (.bl b)
  | int i => exact .base (.int i)
  | str x => exact .base (.str x)
  | lst e n t => exact .base (.lst e)
  | tup e n t => exact .base (.tup e)
theorem Dt.kInt {v : V} {d : PyData} (h : Dt Z H v d) : PySem.W.kitOne K (.type (tyD d)) (.type "int") = some (isInt d || (tyD d == "bool")) := by
  cases h with
  | non => exact kit_ty (show kitB "NoneType" "int" = some false by decide +kernel)
  | bl b => exact kit_ty (show kitB "bool" "int" = some true by decide +kernel)
  | int i => exact kit_ty (show kitB "int" "int" = some true by decide +kernel)
  | str x => exact kit_ty (show kitB "str" "int" = some false by decide +kernel)
  | lst e n t => exact kit_ty (show kitB "list" "int" = some false by decide +kernel)
  | tup e n t => exact kit_ty (show kitB "tuple" "int" = some false by decide +kernel)
theorem Dt.kBool {v : V} {d : PyData} (h : Dt Z H v d) : PySem.W.kitOne K (.type (tyD d)) (.type "bool") = some (tyD d == "bool") := by
  cases h with
  | non => exact kit_ty (show kitB "NoneType" "bool" = some false by decide +kernel)
  | bl b => exact kit_ty (show kitB "bool" "bool" = some true by decide +kernel)
  | int i => exact kit_ty (show kitB "int" "bool" = some false by decide +kernel)
  | str x => exact kit_ty (show kitB "str" "bool" = some false by decide +kernel)
  | lst e n t => exact kit_ty (show kitB "list" "bool" = some false by decide +kernel)
  | tup e n t => exact kit_ty (show kitB "tuple" "bool" = some false by decide +kernel)
theorem Dt.kStr {v : V} {d : PyData} (h : Dt Z H v d) : PySem.W.kitOne K (.type (tyD d)) (.type "str") = some (tyD d == "str") := by
  cases h with
  | non => exact kit_ty (show kitB "NoneType" "str" = some false by decide +kernel)
  | bl b => exact kit_ty (show kitB "bool" "str" = some false by decide +kernel)
  | int i => exact kit_ty (show kitB "int" "str" = some false by decide +kernel)
  | str x => exact kit_ty (show kitB "str" "str" = some true by decide +kernel)
  | lst e n t => exact kit_ty (show kitB "list" "str" = some false by decide +kernel)
  | tup e n t => exact kit_ty (show kitB "tuple" "str" = some false by decide +kernel)
theorem Dt.kList {v : V} {d : PyData} (h : Dt Z H v d) : PySem.W.kitOne K (.type (tyD d)) (.type "list") = some (tyD d == "list") := by
  cases h with
  | non => exact kit_ty (show kitB "NoneType" "list" = some false by decide +kernel)
  | bl b => exact kit_ty (show kitB "bool" "list" = some false by decide +kernel)
  | int i => exact kit_ty (show kitB "int" "list" = some false by decide +kernel)
  | str x => exact kit_ty (show kitB "str" "list" = some false by decide +kernel)
  | lst e n t => exact kit_ty (show kitB "list" "list" = some true by decide +kernel)
  | tup e n t => exact kit_ty (show kitB "tuple" "list" = some false by decide +kernel)
theorem Dt.kTup {v : V} {d : PyData} (h : Dt Z H v d) : PySem.W.kitOne K (.type (tyD d)) (.type "tuple") = some (tyD d == "tuple") := by
  cases h with
  | non => exact kit_ty (show kitB "NoneType" "tuple" = some false by decide +kernel)
  | bl b => exact kit_ty (show kitB "bool" "tuple" = some false by decide +kernel)
  | int i => exact kit_ty (show kitB "int" "tuple" = some false by decide +kernel)
  | str x => exact kit_ty (show kitB "str" "tuple" = some false by decide +kernel)
  | lst e n t => exact kit_ty (show kitB "list" "tuple" = some false by decide +kernel)
  | tup e n t => exact kit_ty (show kitB "tuple" "tuple" = some true by decide +kernel)
theorem Dt.kSeq {v : V} {d : PyData} (h : Dt Z H v d) : PySem.W.kitAny K (.type (tyD d)) [.type "list", .type "tuple"] = some (isSeq d) := by
  refine kitAny_cons h.kList (fun e => kitAny_cons (h.fr Fr.refl).kTup (fun e2 => ?_) fun e2 => ?_) fun e => ?_
  · cases h <;> first | rfl | (simp [tyD] at e2; done) | (simp [tyD, isInt] at e; done)
  · cases h <;> first | rfl | (simp [tyD] at e2; done)
  · cases h <;> first | rfl | (simp [tyD, isInt] at e; done)
theorem pairedLT : Paired ClsV [.ty "list", .ty "tuple"] [.type "list", .type "tuple"] := .cons (.ty _) (.cons (.ty _) .nil)
theorem Dt.seq {v : V} {d : PyData} (h : Dt Z H v d) (s : isSeq d = true) : ∃ a xs, v = .ref a ∧ DtAll Z H xs (itemsD d) ∧ (H a = some (.lst xs) ∨ H a = some (.tup xs)) ∧ ¬ Z a := by
  cases h with
  | lst e n t => exact ⟨_, _, rfl, t, .inl e, n⟩
  | tup e n t => exact ⟨_, _, rfl, t, .inr e, n⟩
  | non => cases s
  | bl b => cases s
  | int i => cases s
  | str x => cases s
end
section
variable {X : Cx} {tg : Expr}
/-- what is walked is a tracked list or a tuple -/
def iSeq (tl : TE) : TI := fun σ H R => tl σ H fun x H1 => ∃ (a : Addr) (xs : List V) (o : HO), x = .ref a ∧ (o = .lst xs ∨ o = .tup xs) ∧ H1 a = some o ∧ ∀ J, Walk J xs.length (fun H => H a = some o) (YAt xs) → R J H1
theorem pi_seq {l : Expr} {tl : TE} (hl : PE X l tl) : PI X tg l (iSeq tl) := by
  refine ⟨fun pins s σ H R I h => ?_⟩
  refine thn (hl.run pins s σ H _ I h) fun v s1 ⟨x, H1, I1, r1, q1⟩ => ?_
  obtain ⟨a, xs, o, e, ho, ha, q⟩ := q1
  subst e
  cases r1
  rcases ho with rfl | rfl
  · obtain ⟨its, rv, p, hz⟩ := I1.list (SqL.of (K := X.K) ha)
    refine wpAny_pyIter_list p.isList ?_
    refine ⟨s1.heap.objs.size, [s1.heap.objs.size], _, _, H1, rfl, I1.kept (t' := s1.toks) fun b o e => Heap.get?_push_of_some _ e, turn_list a _, ⟨_, Heap.get?_push_size _ rfl, rfl, rfl⟩, fun b hb => ?_, q _ (walk_list.mono (fun H h => SqL.of h) fun _ _ _ _ _ _ y => y)⟩
    have e : b = s1.heap.objs.size := by simpa using hb
    subst e
    exact I1.fpOk (Nat.le_refl _) (I1.hok.fresh (Nat.le_refl _))
  · obtain ⟨its, rv, p, hz⟩ := I1.tuple (SqT.of (K := X.K) ha)
    refine wpAny_pyIter_tuple (show s1.heap.IsTuple a its.toArray from p) ?_
    refine ⟨s1.heap.objs.size, [s1.heap.objs.size], _, _, H1, rfl, I1.kept (t' := s1.toks) fun b o e => Heap.get?_push_of_some _ e, turn_tuple a _, ⟨_, Heap.get?_push_size _ rfl, rfl, rfl⟩, fun b hb => ?_, q _ (walk_tup.mono (fun H h => SqT.of h) fun _ _ _ _ _ _ y => y)⟩
    have e : b = s1.heap.objs.size := by simpa using hb
    subst e
    exact I1.fpOk (Nat.le_refl _) (I1.hok.fresh (Nat.le_refl _))
end
/-! ### the rules over tracked lists and tuples: nothing of the written part is read (serve within comprehensions too) -/
section
/-- a tracked list or tuple -/
def Sq_ (H : Hp) (a : Addr) (xs : List V) : Prop := H a = some (.lst xs) ∨ H a = some (.tup xs)
variable {X : Cx}
def rIxl : R2 := fun x y H Q => ∃ p xs i v, x = .ref p ∧ y = .int i ∧ H p = some (.lst xs) ∧ atI xs i = some v ∧ Q v H
theorem ixl : IxR X rIxl := fun a b c d e f g h i j k l m r ⟨p, xs, n, z, e1, e2, q1, q2, q3⟩ hs => ix_list a b c d e f g h i j k l m r ⟨p, xs, n, z, e1, e2, SqL.of q1, q2, q3⟩ hs
def rIxt : R2 := fun x y H Q => ∃ p xs i v, x = .ref p ∧ y = .int i ∧ H p = some (.tup xs) ∧ atI xs i = some v ∧ Q v H
theorem ixt : IxR X rIxt := fun a b c d e f g h i j k l m r ⟨p, xs, n, z, e1, e2, q1, q2, q3⟩ hs => ix_tup a b c d e f g h i j k l m r ⟨p, xs, n, z, e1, e2, SqT.of q1, q2, q3⟩ hs
def rSll : V → Option Int → Option Int → Hp → VK → Prop := fun x lo hi H Q => ∃ a xs, x = .ref a ∧ H a = some (.lst xs) ∧ ∀ p, H p = none → Q (.ref p) (upd H p (.lst (cutV xs lo hi)))
theorem sll : SlR X rSll := fun a b c d e f g h i j k l m n o p q ⟨a1, xs, e1, h1, q1⟩ => sl_list a b c d e f g h i j k l m n o p q ⟨a1, xs, e1, SqL.of h1, q1⟩
def rSlt : V → Option Int → Option Int → Hp → VK → Prop := fun x lo hi H Q => ∃ a xs, x = .ref a ∧ H a = some (.tup xs) ∧
  ¬ (HT.sIx xs.length 0 lo = 0 ∧ HT.sIx xs.length xs.length hi = xs.length) ∧ ∀ p, H p = none → Q (.ref p) (upd H p (.tup (cutV xs lo hi)))
theorem slt : SlR X rSlt := fun a b c d e f g h i j k l m n o p q ⟨a1, xs, e1, h1, h2, q1⟩ => sl_tup a b c d e f g h i j k l m n o p q ⟨a1, xs, e1, SqT.of h1, h2, q1⟩
theorem lenT : CallR X (.builtin "len") (fun xs H Q => ∃ p ys, xs = [.ref p] ∧ Sq_ H p ys ∧ Q (.int ys.length) H) := fun a b c d e f g h i ⟨p, ys, e1, h1, q⟩ => call_len_seq a b c d e f g h i ⟨p, ys, e1, h1.imp SqL.of SqT.of, q⟩
theorem listT : CallR X (.type "list") (fun xs H Q => ∃ p ys, xs = [.ref p] ∧ Sq_ H p ys ∧ ∀ l, H l = none → Q (.ref l) (upd H l (.lst ys))) := fun a b c d e f g h i ⟨p, ys, e1, h1, q⟩ => call_list_of a b c d e f g h i ⟨p, ys, e1, h1.imp SqL.of SqT.of, q⟩
theorem tupT : CallR X (.type "tuple") (fun xs H Q => ∃ p ys, xs = [.ref p] ∧ ((H p = some (.lst ys) ∧ ∀ l, H l = none → Q (.ref l) (upd H l (.tup ys))) ∨ (H p = some (.tup ys) ∧ Q (.ref p) H))) :=
  fun a b c d e f g h i ⟨p, ys, e1, h1⟩ => call_tuple_of a b c d e f g h i ⟨p, ys, e1, h1.imp (fun z => ⟨SqL.of z.1, z.2⟩) fun z => ⟨SqT.of z.1, z.2⟩⟩
theorem eqD (hu : X.A.units + 64 < cLine) : OpR X (compareOp .Eq) (fun x y H Q => ∃ d e Z Z', Dt Z H x d ∧ Dt Z' H y e ∧ SeqAt.shaped d = true ∧ SeqAt.shaped e = true ∧ Q (.bl (PyData.eqv d e)) H) :=
  fun a b c d e f g h i j k l ⟨d1, e1, Z, Z', h1, h2, h3, h4, q⟩ => op_eqD hu a b c d e f g h i j k l ⟨d1, e1, h1.dp, h2.dp, h3, h4, q⟩
theorem neD (hu : X.A.units + 64 < cLine) : OpR X (compareOp .NotEq) (fun x y H Q => ∃ d e Z Z', Dt Z H x d ∧ Dt Z' H y e ∧ SeqAt.shaped d = true ∧ SeqAt.shaped e = true ∧ Q (.bl (!PyData.eqv d e)) H) :=
  fun a b c d e f g h i j k l ⟨d1, e1, Z, Z', h1, h2, h3, h4, q⟩ => op_neD hu a b c d e f g h i j k l ⟨d1, e1, h1.dp, h2.dp, h3, h4, q⟩
theorem inT : OpR X (compareOp .In) (fun x y H Q => ∃ p xs, y = .ref p ∧ Sq_ H p xs ∧ flatV x = true ∧ xs.all flatV = true ∧ Q (.bl (inV x xs)) H) :=
  fun a b c d e f g h i j k l ⟨p, xs, e1, h1, h2, h3, q⟩ => op_in_seq a b c d e f g h i j k l ⟨p, xs, e1, h1.imp SqL.of SqT.of, h2, h3, q⟩
theorem notInT : OpR X (compareOp .NotIn) (fun x y H Q => ∃ p xs, y = .ref p ∧ Sq_ H p xs ∧ flatV x = true ∧ xs.all flatV = true ∧ Q (.bl (!inV x xs)) H) :=
  fun a b c d e f g h i j k l ⟨p, xs, e1, h1, h2, h3, q⟩ => op_notIn_seq a b c d e f g h i j k l ⟨p, xs, e1, h1.imp SqL.of SqT.of, h2, h3, q⟩
theorem allT (hc : X.calm = true) : CallR X (.builtin "all") (fun vs H Q => ∃ (a : Addr) (bs : List Bool), vs = [V.ref a] ∧ H a = some (.lst (bs.map V.bl)) ∧ Q (.bl (bs.all id)) H) :=
  fun a b c d e f g h i ⟨p, bs, e1, h1, q⟩ => cr_all hc a b c d e f g h i ⟨p, bs, e1, SqL.of h1, q⟩
theorem anyT (hc : X.calm = true) : CallR X (.builtin "any") (fun vs H Q => ∃ (a : Addr) (bs : List Bool), vs = [V.ref a] ∧ H a = some (.lst (bs.map V.bl)) ∧ Q (.bl (bs.any id)) H) :=
  fun a b c d e f g h i ⟨p, bs, e1, h1, q⟩ => cr_any hc a b c d e f g h i ⟨p, bs, e1, SqL.of h1, q⟩
theorem sumT (hc : X.calm = true) : CallR X (.builtin "sum") (fun vs H Q => ∃ (a : Addr) (ns : List Int), vs = [V.ref a] ∧ H a = some (.lst (ns.map V.int)) ∧ Q (.int ns.sum) H) :=
  fun a b c d e f g h i ⟨p, ns, e1, h1, q⟩ => cr_sum hc a b c d e f g h i ⟨p, ns, e1, SqL.of h1, q⟩
def gTupT (n : Nat) (t : TGs) : TG := fun v σ H Q => ∃ a xs, v = .ref a ∧ H a = some (.tup xs) ∧ xs.length = n ∧ t xs σ H Q
theorem pgT {pos : Pos} {es : List Expr} {k : Nat} {t : TGs} {n : Nat} (hc : X.calm = true) (h : PGs X es t)
    (hn : (assignEach es X.env).length = n := by rfl) (hst : (assignEach es X.env).findIdx? (·.1) = none := by rfl) : PG X (.Tuple es k pos) (gTupT n t) :=
  ⟨fun a b c d e f g h1 h2 ⟨p, xs, e1, e2, e3, e4⟩ => (pg_tup hc h hn hst).run a b c d e f g h1 h2 ⟨p, xs, e1, SqT.of e2, e3, e4⟩⟩
def iZipT (ta : TA) : TI := fun σ H R => ta σ H fun vs H1 => ∃ (a b : Addr) (xs ys : List V), vs = [.ref a, .ref b] ∧ H1 a = some (.lst xs) ∧ H1 b = some (.lst ys) ∧
  ∀ J, Walk J (min xs.length ys.length) (fun H => H a = some (.lst xs) ∧ H b = some (.lst ys)) (YPair (fun i => xs[i]?) (fun i => ys[i]?)) → R J H1
def iEnumT (ta : TA) : TI := fun σ H R => ta σ H fun vs H1 => ∃ (a : Addr) (xs : List V), vs = [.ref a] ∧ H1 a = some (.lst xs) ∧
  ∀ J, Walk J xs.length (fun H => H a = some (.lst xs)) (YPair (fun i => some (.int (i : Nat))) (fun i => xs[i]?)) → R J H1
theorem pa_up {es : List Expr} {t : TA} (h : PA X es t) : PA X es (fun σ H Q => ∃ Q', t σ H Q' ∧ ∀ vs H1, Q' vs H1 → Q vs H1) :=
  ⟨fun pos pins s σ H Q I ⟨Q', w, k⟩ => thn (h.run pos pins s σ H Q' I w) fun us s1 ⟨vs, H1, I1, r, q⟩ => ⟨vs, H1, I1, r, k _ _ q⟩⟩
theorem pi_zipT {e e2 : Expr} {ta : TA} {p pos tpos : Pos} {elts : List Expr} {kk : Nat} (hg : Gl X "zip") (hm : X.mg "zip" = none) (ha : PA X [e, e2] ta)
    (hs : starEach [e, e2] X.env = (false, eval e X.env) :: starEach [e2] X.env := by rfl) (hpl : (backTo pos (starEach [e2] X.env)).any (·.1) = false := by rfl) :
    PI X (.Tuple elts kk tpos) (.Call (.Name "zip" p) [e, e2] [] pos) (iZipT ta) :=
  ⟨fun pins s σ H R I h => (pi_zip hg hm (pa_up ha) hs hpl).run pins s σ H R I ⟨_, h, fun vs H1 ⟨a, b, xs, ys, e1, h1, h2, k⟩ => ⟨a, b, xs, ys, e1, SqL.of h1, SqL.of h2, k _ ((walk_zip rfl).mono (fun H z => ⟨SqL.of z.1, SqL.of z.2⟩) fun _ _ _ _ _ _ y => y)⟩⟩⟩
theorem pi_enumT {e : Expr} {ta : TA} {p pos tpos : Pos} {elts : List Expr} {kk : Nat} (hg : Gl X "enumerate") (hm : X.mg "enumerate" = none) (ha : PA X [e] ta) (hs : starEach [e] X.env = [(false, eval e X.env)] := by rfl) :
    PI X (.Tuple elts kk tpos) (.Call (.Name "enumerate" p) [e] [] pos) (iEnumT ta) :=
  ⟨fun pins s σ H R I h => (pi_enum hg hm (pa_up ha) hs).run pins s σ H R I ⟨_, h, fun vs H1 ⟨a, xs, e1, h1, k⟩ => ⟨a, xs, e1, SqL.of h1, k _ (walk_enum.mono (fun H z => SqL.of z) fun _ _ _ _ _ _ y => y)⟩⟩⟩
end
/-! slices of lists -/
theorem cut_from {xs : List V} (i : Nat) : cutV xs (some (i : Int)) none = xs.drop i := by
  unfold cutV
  rw [HT.sIx_nat, HT.sIx_none, List.take_of_length_le (by rw [List.length_drop]; omega)]
  by_cases h : i ≤ xs.length
  · rw [Nat.min_eq_left h]
  · rw [Nat.min_eq_right (by omega), List.drop_eq_nil_of_le (Nat.le_refl _), List.drop_eq_nil_of_le (by omega)]
theorem cut_to {xs : List V} (i : Nat) : cutV xs none (some (i : Int)) = xs.take i := by
  unfold cutV
  rw [HT.sIx_nat, HT.sIx_none, List.drop_zero, Nat.sub_zero]
  by_cases h : i ≤ xs.length
  · rw [Nat.min_eq_left h]
  · rw [Nat.min_eq_right (by omega), List.take_of_length_le (Nat.le_refl _), List.take_of_length_le (by omega)]
theorem cut_last {xs : List V} : cutV xs none (some (-1)) = xs.dropLast := by
  unfold cutV
  have : HT.sIx xs.length xs.length (some (-1)) = xs.length - 1 := by
    show (if (-1 : Int) < 0 then ((-1 : Int) + (xs.length : Int)).toNat else min (-1 : Int).toNat xs.length) = xs.length - 1
    rw [if_pos (by decide)]
    omega
  rw [this, HT.sIx_none (xs.length) 0, List.drop_zero, Nat.sub_zero, List.dropLast_eq_take]
theorem cut_all {xs : List V} : cutV xs none none = xs := by
  unfold cutV
  rw [HT.sIx_none, HT.sIx_none, List.drop_zero, Nat.sub_zero, List.take_of_length_le (Nat.le_refl _)]
theorem cut_one {xs : List V} : cutV xs (some 1) none = xs.drop 1 := cut_from 1
/-! what may be compared -/
def Shp (n : Nat) (d : PyData) : Prop := d.canLay0 = true ∧ d.depth ≤ n
theorem Shp.ok {n : Nat} {d : PyData} (h : Shp n d) (z : n ≤ 64 := by decide) : SeqAt.shaped d = true := by
  show (d.canLay0 && decide (d.depth ≤ 64)) = true
  rw [h.1, Bool.true_and]
  exact decide_eq_true (Nat.le_trans h.2 z)
theorem shp_all {n : Nat} : ∀ {ds : List PyData}, (∀ d ∈ ds, Shp n d) → PyData.canLayAll0 ds = true ∧ PyData.depthAll ds ≤ n
  | [], _ => ⟨by simp [PyData.canLayAll0], by simp [PyData.depthAll]⟩
  | d :: ds, h => by
    obtain ⟨a1, a2⟩ := h d List.mem_cons_self
    obtain ⟨b1, b2⟩ := shp_all (ds := ds) fun x hx => h x (List.mem_cons_of_mem _ hx)
    exact ⟨by simp [PyData.canLayAll0, a1, b1], by simp only [PyData.depthAll]; omega⟩
theorem shp_list {n : Nat} {ds : List PyData} (h : ∀ d ∈ ds, Shp n d) : Shp (n + 1) (.list ds) := by
  obtain ⟨a, b⟩ := shp_all h
  exact ⟨by simp [PyData.canLay0, a], by simp only [PyData.depth]; omega⟩
theorem shp_tup {n : Nat} {ds : List PyData} (h : ∀ d ∈ ds, Shp n d) : Shp (n + 1) (.tuple ds) := by
  obtain ⟨a, b⟩ := shp_all h
  exact ⟨by simp [PyData.canLay0, a], by simp only [PyData.depth]; omega⟩
theorem shp_int {i : Int} : Shp 0 (.int i) := ⟨by simp [PyData.canLay0], by simp [PyData.depth]⟩
theorem shp_bool {i : Bool} : Shp 0 (.bool i) := ⟨by simp [PyData.canLay0], by simp [PyData.depth]⟩
theorem shp_none : Shp 0 .none := ⟨by simp [PyData.canLay0], by simp [PyData.depth]⟩
theorem Shp.mono {n m : Nat} {d : PyData} (h : Shp n d) (z : n ≤ m) : Shp m d := ⟨h.1, Nat.le_trans h.2 z⟩
def dRow (r : List Int) : PyData := .list (r.map PyData.int)
def dTab (M : List (List Int)) : PyData := .list (M.map dRow)
theorem shp_row (r : List Int) : Shp 1 (dRow r) := shp_list fun d hd => by
  obtain ⟨i, _, rfl⟩ := List.mem_map.mp hd
  exact shp_int
theorem shp_tab (M : List (List Int)) : Shp 2 (dTab M) := shp_list fun d hd => by
  obtain ⟨r, _, rfl⟩ := List.mem_map.mp hd
  exact shp_row r
theorem eqv_nil (ds : List PyData) : PyData.eqv (.list ds) (.list []) = ds.isEmpty := by
  cases ds <;> simp [PyData.eqv, PyData.eqvAll]
/-! elements told one by one -/
theorem choose_list {α : Type} {R : V → α → Prop} : ∀ (xs : List V), (∀ (j : Nat) (y : V), xs[j]? = some y → ∃ m, R y m) → ∃ ms : List α, ms.length = xs.length ∧ ∀ (j : Nat) (y : V) (m : α), xs[j]? = some y → ms[j]? = some m → R y m
  | [], _ => ⟨[], rfl, fun j y m e _ => by simp at e⟩
  | x :: xs, h => by
    obtain ⟨m, hm⟩ := h 0 x rfl
    obtain ⟨ms, hl, hr⟩ := choose_list xs fun j y e => h (j + 1) y (by rw [List.getElem?_cons_succ]; exact e)
    refine ⟨m :: ms, by simp [hl], fun j y m' e1 e2 => ?_⟩
    cases j with
    | zero =>
      simp at e1 e2
      subst e1 e2
      exact hm
    | succ j =>
      rw [List.getElem?_cons_succ] at e1 e2
      exact hr j y m' e1 e2
theorem mem_of_pair {α : Type} {R : V → α → Prop} {xs : List V} {ms : List α} (hl : ms.length = xs.length) (h : ∀ (j : Nat) (y : V) (m : α), xs[j]? = some y → ms[j]? = some m → R y m) {m : α} (hm : m ∈ ms) : ∃ y ∈ xs, R y m := by
  obtain ⟨j, hj, e⟩ := List.getElem_of_mem hm
  have hj2 : j < xs.length := by omega
  exact ⟨xs[j], List.getElem_mem hj2, h j _ _ (List.getElem?_eq_getElem hj2) (by rw [List.getElem?_eq_getElem hj, e])⟩
/-- a list of ints told one by one -/
theorem ints_of {p : Int → Prop} {xs : List V} (h : ∀ (j : Nat) (y : V), xs[j]? = some y → ∃ k, y = .int k ∧ p k) : ∃ ks : List Int, xs = ks.map V.int ∧ ks.length = xs.length ∧ ∀ k ∈ ks, p k := by
  obtain ⟨ks, hl, hr⟩ := choose_list (R := fun y k => y = .int k ∧ p k) xs h
  refine ⟨ks, ?_, hl, fun k hk => ?_⟩
  · refine List.ext_getElem (by simp [hl]) fun i h1 h2 => ?_
    rw [List.getElem_map]
    exact (hr i xs[i] _ (List.getElem?_eq_getElem h1) (List.getElem?_eq_getElem (by omega))).1
  · obtain ⟨y, _, _, z⟩ := mem_of_pair hl hr hk
    exact z
theorem PoolAt.upd' {H : Hp} {pp D : Addr} {o : HO} (h : PoolAt H pp) (n : D ≠ pp) : PoolAt (upd H D o) pp := by
  obtain ⟨c, s, h0, h1, h2⟩ := h
  exact ⟨c, s, h0, h1, by rw [upd_ne (Ne.symm n)]; exact h2⟩
theorem PoolAt.zp {H : Hp} {pp D : Addr} (h : PoolAt H pp) (n : H D = none) : ¬ Zp pp D := h.ne n
theorem DtAll.set {Z : Addr → Prop} {H : Hp} {vs : List V} {ds : List PyData} (h : DtAll Z H vs ds) {v : V} {d : PyData} (g : Dt Z H v d) {i : Nat} : DtAll Z H (vs.set i v) (ds.set i d) := by
  induction vs generalizing ds i with
  | nil => cases h; exact .nil
  | cons u vs ih =>
    cases h with
    | cons a b =>
      cases i with
      | zero => exact .cons g b
      | succ i => exact .cons a (ih b)
theorem gen {H : Hp} {p : Addr} (o : HO) (n : H p = none) : ∃ H', Same H H' ∧ H' p = some o ∧ upd H p o = H' := ⟨_, Same.new n, upd_same, rfl⟩
theorem cut_two {xs : List V} : cutV xs (some 2) none = xs.drop 2 := cut_from 2
theorem up {H : Hp} {a p : Addr} {o x : HO} (h : H a = some x) (n : H p = none) : (upd H p o) a = some x := Same.new n _ _ h
theorem Dt.up {Z : Addr → Prop} {H : Hp} {p : Addr} {o : HO} {v : V} {d : PyData} (h : Dt Z H v d) (n : H p = none) : Dt Z (upd H p o) v d := h.fr (Fr.new n)
theorem Fr.up {Z : Addr → Prop} {H H1 : Hp} {p : Addr} {o : HO} (f : Fr Z H H1) (n : H1 p = none) : Fr Z H (upd H1 p o) := f.trans (Fr.new n)
theorem PoolAt.fr {H H' : Hp} {p : Addr} (h : PoolAt H p) (e : Fr Z0 H H') : PoolAt H' p := h.same e.same
/-! ### what the top has written, bundle by bundle -/
/-- the class x stands at C, its __init__ is st -/
def CIn (K : PySem.W.Frag) (x q : Str) (st : Stmt) (C : Addr) (tl : List Value) (nw : String) (fs : List Str) : Prop :=
  ∃ fI fd, PySem.W.nsIn K mainGlobals x = some (some (.ref C)) ∧ Fun K "__init__" q st fI fd ∧ Cl K C fI tl nw fs
theorem cin_mk {K : PySem.W.Frag} {x q : Str} {st : Stmt} {C fI : Addr} {tl : List Value} {nw : String} {fs : List Str} {oc : Value} {od an : Option Addr} {osl : Array (Option Value)} {kV doc pm cdv ct : Value}
    (a : PySem.W.nsIn K mainGlobals x = some (some (.ref C))) (b : PySem.W.findIn K (.ref C) "__init__" = some (some (.ref fI)))
    (l : K.lookup fI = some ⟨oc, od, .func (PySem.W.fnOf "__init__" q (defArgs st) (defBody st) (defScope st) .none kV doc pm an cdv ct), osl⟩) (c : PySem.W.codeIn K cdv q = true) (k : PySem.W.keepIn K (.ref fI) = true)
    (g1 : PySem.W.specialIn K (.builtin "object.__class__") "__get__" = some (some (.builtin "getset_descriptor.__get__"))) (g2 : PySem.W.takesIn K (.builtin "object.__class__") = some true)
    (t : (PySem.W.excInitIn K C tl nw, PySem.W.excOver K C tl, PySem.W.hasDictIn K C, PySem.W.isFn K (.ref fI), PySem.W.keepIn K (.ref C)) = (true, true, true, true, true))
    (u : (PySem.W.findIn K (.ref C) "__setattr__", PySem.W.findIn K (.ref C) "__getattribute__", PySem.W.findIn K (.ref C) "__getattr__", PySem.W.findIn K (.ref C) "__class__") =
      (some (some (.builtin "object.__setattr__")), some (some (.builtin "BaseException.__getattribute__")), some none, some (some (.builtin "object.__class__"))))
    (v : (PySem.W.subIn K (.ref C) (.type "BaseException"), PySem.W.mroIn K C (.type "object"), (PySem.W.clsIn K C).map (·.mro), PySem.W.typeIn K (.ref C)) = (some true, some true, some (.ref C :: tl), some (.type "type")))
    (f : fs.map (fun f => PySem.W.findIn K (.ref C) f) = fs.map fun _ => some none) : CIn K x q st C tl nw fs := ⟨fI, _, a, fun_mk l c k, cl_of g1 g2 b t u v f⟩
theorem has_mk {K : PySem.W.Frag} {h : Heap} {mg : Str → Option Value} {x : Str} {st : Stmt} {ps : List Str} {f : Addr} {oc : Value} {od an : Option Addr} {osl : Array (Option Value)} {kV doc pm cdv ct : Value} (X : K.In h) (G : h.Ns mainGlobals mg)
    (b : ∀ (kV doc pm : Value) (an : Option Addr) (cdv ct : Value) (us : List Value), us.length = ps.length → bindArgs (PySem.W.fnOf x x (defArgs st) (defBody st) (defScope st) .none kV doc pm an cdv ct) ⟨us, []⟩ = pure (ps.zip us))
    (a : PySem.W.nsIn K mainGlobals x = some (some (.ref f))) (l : K.lookup f = some ⟨oc, od, .func (PySem.W.fnOf x x (defArgs st) (defBody st) (defScope st) .none kV doc pm an cdv ct), osl⟩) (c : PySem.W.codeIn K cdv x = true) (k : PySem.W.keepIn K (.ref f) = true) : Has K mg x st ps :=
  ⟨f, _, PySem.W.mg_of X G a, (fun_mk (st := st) l c k).binds (ps := ps) b, fun_mk (st := st) l c k⟩
theorem over_mk {K : PySem.W.Frag} {C f : Addr} {nm q : Str} {st : Stmt} {ps : List Str} {oc : Value} {od an : Option Addr} {osl : Array (Option Value)} {kV doc pm cdv ct : Value}
    (b : ∀ (kV doc pm : Value) (an : Option Addr) (cdv ct : Value) (us : List Value), us.length = ps.length → bindArgs (PySem.W.fnOf nm q (defArgs st) (defBody st) (defScope st) .none kV doc pm an cdv ct) ⟨us, []⟩ = pure (ps.zip us))
    (a : PySem.W.findIn K (.ref C) nm = some (some (.ref f))) (l : K.lookup f = some ⟨oc, od, .func (PySem.W.fnOf nm q (defArgs st) (defBody st) (defScope st) .none kV doc pm an cdv ct), osl⟩) (c : PySem.W.codeIn K cdv q = true) (k : PySem.W.keepIn K (.ref f) = true) (i : PySem.W.isFn K (.ref f) = true) :
    ∃ f fd, Meth K C nm f ∧ Fun K nm q st f fd ∧ Binds K fd ps [] :=
  ⟨f, _, ⟨a, i, k⟩, fun_mk (st := st) l c k, (fun_mk (st := st) l c k).binds (ps := ps) b⟩
def top (i : Nat) : Stmt := PySem.Challenge.pw_twodivisions_k50_determinants.main.body.getD i (.Pass ⟨0, 0, 0, 0⟩)
structure TxtL (mg : Str → Option Value) : Prop where
  isinstance : mg "isinstance" = none
  int : mg "int" = none
  bool : mg "bool" = none
  len : mg "len" = none
  range : mg "range" = none
  max : mg "max" = none
  min : mg "min" = none
  list : mg "list" = none
  tuple : mg "tuple" = none
  all : mg "all" = none
  enumerate : mg "enumerate" = none
  zip : mg "zip" = none
abbrev Txt (K : PySem.W.Frag) (mg : Str → Option Value) (aR : Addr) : Prop := TxtL mg
section
variable {P : Program} {w : World} {K : PySem.W.Frag} {mg : Str → Option Value} {base : Heap} {aR : Addr}
abbrev s__law_pool : Stmt := top 10
theorem sc__law_pool : FnScope ["_law_script", "_law_k", "_law_cell", "_law_seed"] ["_law_script", "_law_k"] (defScope s__law_pool) := ⟨rfl, rfl, rfl, by decide +kernel, rfl, by decide +kernel, by decide +kernel⟩
def spPool (K : PySem.W.Frag) : Sp := fun vs H Q _ => ∃ (a : Addr) (ns : List Int) (k : Nat), vs = [.ref a, .int k] ∧ SqL K H a (ns.map V.int) ∧ k < 64 ∧ ∀ pp H', Same H H' → H pp = none → PoolAt H' pp → Q (.ref pp) H'
theorem seed_ok (c : Int) (k : Nat) (hk : k < 64) : Sm (7919 * (k : Int)) ∧ (c.fmod 2147483629 + 7919 * (k : Int) * (k : Int) + 31).natAbs < 2 ^ 64 := by
  have h1 := Int.fmod_nonneg_of_pos c (show (0 : Int) < 2147483629 by decide)
  have h2 := Int.fmod_lt_of_pos c (show (0 : Int) < 2147483629 by decide)
  have h3 : 0 ≤ 7919 * (k : Int) * (k : Int) := Int.mul_nonneg (by omega) (by omega)
  have h4 : 7919 * (k : Int) * (k : Int) ≤ 7919 * (k : Int) * 64 := Int.mul_le_mul_of_nonneg_left (by omega) (by omega)
  exact ⟨⟨by omega, by omega⟩, by omega⟩
theorem ok__law_pool (h : Has K mg "_law_pool" s__law_pool ["_law_script", "_law_k"]) (T : Txt K mg aR) : Ok P w K mg base 1 "_law_pool" ["_law_script", "_law_k"] (spPool K) := by
  obtain ⟨f, fd, g, b, F⟩ := h
  refine ⟨f, fd, g, F.kp, b, F.ok sc__law_pool (fun vs H Q E h => ?_) (fun cdv A outer s H vs Q E hr h => ?_)⟩
  · obtain ⟨a, ns, k, rfl, _⟩ := h
    rfl
  · obtain ⟨a, ns, k, rfl, hS, hk, q⟩ := h
    refine ⟨_, (pss_cons (ps_set (i := 2) sc__law_pool.nd rfl (Or.inl rfl) pe_int)
    (pss_cons (ps_if (pt_cmpR op_lt (pv 1) (pe_callB call_len_seq (by rfl) T.len (by decide +kernel) (pa_cons (pv 0) pa_nil)) (nomark _))
      (pss_one (ps_set (i := 2) sc__law_pool.nd rfl (Or.inl rfl) (pe_ix ix_list (pv 0) (pv 1) (fun _ _ => rfl))))
      pss_nil)
    (pss_cons (ps_set (i := 3) sc__law_pool.nd rfl (Or.inl rfl) (pe_op op_modN (pe_op op_pow (pe_op op_add (pe_op op_add (pe_op op_modN (pe_callTy call_int1 (by rfl) T.int (by decide +kernel) (pa_cons (pv 2) pa_nil)) pe_int) (pe_op op_mulS (pe_op op_mulS pe_int (pv 1)) (pv 1))) pe_int) pe_int) pe_int))
    (pss_cons (ps_if (pt_cmpR op_lt (pv 2) (pe_op op_pow pe_int pe_int) (nomark _))
      (pss_one (ps_set (i := 2) sc__law_pool.nd rfl (Or.inl rfl) pe_int))
      pss_nil)
    (pss_one (ps_ret (pe_lst (pa_cons (pv 2) (pa_cons (pv 3) pa_nil))))))))), ?_⟩
    have z0 : ∀ c : Int, 0 ≤ ((c.fmod 2147483629 + 7919 * (k : Int) * (k : Int) + 31) ^ (3 : Int).toNat).fmod 2147483647 := fun c => Int.fmod_nonneg_of_pos _ (by decide)
    have z1 : ∀ c : Int, ((c.fmod 2147483629 + 7919 * (k : Int) * (k : Int) + 31) ^ (3 : Int).toNat).fmod 2147483647 < 2147483647 := fun c => Int.fmod_lt_of_pos _ (by decide)
    refine ⟨_, rfl, _, rfl, _, _, rfl, .inl hS, _, _, rfl, rfl, _, rfl, ?_⟩
    refine ite2 (fun c1 => ?_) (fun c1 => ?_)
    · have hlt : k < ns.length := by
        have := of_decide_eq_true c1
        rw [List.length_map] at this
        omega
      refine ⟨_, rfl, _, rfl, a, _, _, .int ns[k], rfl, rfl, hS, atI_nat (by rw [List.getElem?_map, List.getElem?_eq_getElem hlt]; rfl), ?_⟩
      obtain ⟨k1, k2⟩ := seed_ok ns[k] k hk
      refine ⟨_, rfl, .inl ⟨_, rfl, _, _, rfl, rfl, n29, _, rfl, _, _, rfl, rfl, ⟨⟨by decide, by decide⟩, ⟨by omega, by omega⟩⟩, _, rfl, _, _, rfl, rfl, ⟨k1, ⟨by omega, by omega⟩⟩, _, _, rfl, rfl, _, _, rfl, rfl, _, _, rfl, rfl, ⟨by decide, by decide, k2⟩, _, _, rfl, rfl, n47, ?_⟩⟩
      refine ⟨_, rfl, _, _, rfl, rfl, ⟨by decide, by decide, by decide⟩, _, _, rfl, rfl, _, rfl, ?_⟩
      refine ite2 (fun c2 => ?_) (fun c2 => ?_)
      · refine ⟨_, rfl, _, rfl, (by show 2 ≤ sizeLine; decide), fun p hp => ?_⟩
        exact q p _ (Same.new hp) hp ⟨_, _, z0 ns[k], z1 ns[k], upd_same⟩
      · refine ⟨_, rfl, _, rfl, (by show 2 ≤ sizeLine; decide), fun p hp => ?_⟩
        exact q p _ (Same.new hp) hp ⟨_, _, z0 ns[k], z1 ns[k], upd_same⟩
    · obtain ⟨k1, k2⟩ := seed_ok 0 k hk
      refine ⟨_, rfl, .inl ⟨_, rfl, _, _, rfl, rfl, n29, _, rfl, _, _, rfl, rfl, ⟨⟨by decide, by decide⟩, ⟨by omega, by omega⟩⟩, _, rfl, _, _, rfl, rfl, ⟨k1, ⟨by omega, by omega⟩⟩, _, _, rfl, rfl, _, _, rfl, rfl, _, _, rfl, rfl, ⟨by decide, by decide, k2⟩, _, _, rfl, rfl, n47, ?_⟩⟩
      refine ⟨_, rfl, _, _, rfl, rfl, ⟨by decide, by decide, by decide⟩, _, _, rfl, rfl, _, rfl, ?_⟩
      refine ite2 (fun c2 => ?_) (fun c2 => ?_)
      · refine ⟨_, rfl, _, rfl, (by show 2 ≤ sizeLine; decide), fun p hp => ?_⟩
        exact q p _ (Same.new hp) hp ⟨_, _, z0 0, z1 0, upd_same⟩
      · refine ⟨_, rfl, _, rfl, (by show 2 ≤ sizeLine; decide), fun p hp => ?_⟩
        exact q p _ (Same.new hp) hp ⟨_, _, z0 0, z1 0, upd_same⟩
abbrev s__law_draw : Stmt := top 11
theorem sc__law_draw : FnScope ["_law_pool_here", "_law_many", "_law_digit"] ["_law_pool_here", "_law_many"] (defScope s__law_draw) := ⟨rfl, rfl, rfl, by decide +kernel, rfl, by decide +kernel, by decide +kernel⟩
def spDraw : Sp := fun vs H Q _ => ∃ (pp : Addr) (n : Int), vs = [.ref pp, .int n] ∧ 0 < n ∧ Sm n ∧ PoolAt H pp ∧ ∀ d H', 0 ≤ d → d < n → PoolAt H' pp → Keep pp H H' → Q (.int d) H'
theorem ok__law_draw (h : Has K mg "_law_draw" s__law_draw ["_law_pool_here", "_law_many"]) (T : Txt K mg aR) : Ok P w K mg base 1 "_law_draw" ["_law_pool_here", "_law_many"] spDraw := by
  obtain ⟨f, fd, g, b, F⟩ := h
  refine ⟨f, fd, g, F.kp, b, F.ok sc__law_draw (fun vs H Q E h => ?_) (fun cdv A outer s H vs Q E hr h => ?_)⟩
  · obtain ⟨pp, n, rfl, _⟩ := h
    rfl
  · obtain ⟨pp, n, rfl, hn, sn, ⟨c, z, z0, z1, hp⟩, q⟩ := h
    have hn0 : n ≠ 0 := by omega
    refine ⟨_, (pss_cons (ps_if (pt_cmpR op_gt (pe_ix ix_list (pv 0) pe_int (fun _ _ => rfl)) pe_int (nomark _))
      (pss_cons (ps_set (i := 2) sc__law_draw.nd rfl (Or.inl rfl) (pe_op op_modN (pe_callTy call_int1 (by rfl) T.int (by decide +kernel) (pa_cons (pe_ix ix_list (pv 0) pe_int (fun _ _ => rfl)) pa_nil)) (pv 1)))
      (pss_cons (ps_asg (pe_op op_divS (pe_ix ix_list (pv 0) pe_int (fun _ _ => rfl)) (pv 1)) (pg_sub (pv 0) pe_int set_list))
      (pss_one (ps_ret (pv 2)))))
      pss_nil)
    (pss_cons (ps_asg (pe_op op_modN (pe_callTy call_int1 (by rfl) T.int (by decide +kernel) (pa_cons (pe_op op_add (pe_op op_mulS (pe_ix ix_list (pv 0) pe_int (fun _ _ => rfl)) pe_int) pe_int) pa_nil)) pe_int) (pg_sub (pv 0) pe_int set_list))
    (pss_one (ps_ret (pe_op op_modN (pe_op op_divS (pe_op op_modN (pe_callTy call_int1 (by rfl) T.int (by decide +kernel) (pa_cons (pe_op op_mulS (pe_ix ix_list (pv 0) pe_int (fun _ _ => rfl)) (pe_ix ix_list (pv 0) pe_int (fun _ _ => rfl))) pa_nil)) pe_int) pe_int) (pv 1)))))), ?_⟩
    refine ⟨_, rfl, pp, _, _, _, rfl, rfl, SqL.of hp, atI0, _, _, rfl, rfl, _, rfl, ?_⟩
    refine ite2 (fun c1 => ?_) (fun c1 => ?_)
    · refine ⟨_, rfl, pp, _, _, _, rfl, rfl, SqL.of hp, atI0, .inl ⟨_, rfl, _, rfl, _, _, rfl, rfl, hn0, ?_⟩⟩
      refine ⟨_, rfl, pp, _, _, _, rfl, rfl, SqL.of hp, atI0, _, rfl, _, _, rfl, rfl, ⟨hn0, sn⟩, _, rfl, pp, _, _, 0, rfl, rfl, hp, rfl, ?_⟩
      refine ⟨_, rfl, ?_⟩
      exact q _ _ (Int.fmod_nonneg_of_pos _ hn) (Int.fmod_lt_of_pos _ hn) ⟨_, z, z0, z1, upd_same⟩ fun b o e nb => by
        rw [upd_ne nb]
        exact e
    · have s0 : 0 ≤ (z * 48271 + 11).fmod 2147483647 := Int.fmod_nonneg_of_pos _ (by decide)
      have s1 : (z * 48271 + 11).fmod 2147483647 < 2147483647 := Int.fmod_lt_of_pos _ (by decide)
      refine ⟨_, rfl, pp, _, _, _, rfl, rfl, SqL.of hp, atI1, _, _, rfl, rfl, ⟨⟨by omega, by omega⟩, ⟨by decide, by decide⟩⟩, _, _, rfl, rfl, .inl ⟨_, rfl, _, _, rfl, rfl, n47, _, rfl, pp, _, _, 1, rfl, rfl, hp, rfl, ?_⟩⟩
      have e2 : (upd H pp (.lst ([V.int c, V.int z].set 1 (.int ((z * 48271 + 11).fmod 2147483647))))) pp = some (.lst [V.int c, V.int ((z * 48271 + 11).fmod 2147483647)]) := upd_same
      refine ⟨_, rfl, pp, _, _, _, rfl, rfl, SqL.of e2, atI1, _, rfl, pp, _, _, _, rfl, rfl, SqL.of e2, atI1, _, _, rfl, rfl, ⟨⟨by omega, by omega⟩, ⟨by omega, by omega⟩⟩, .inl ⟨_, rfl, _, _, rfl, rfl, n29, _, _, rfl, rfl, ⟨by decide, ⟨by decide, by decide⟩⟩, _, rfl, _, _, rfl, rfl, hn0, ?_⟩⟩
      exact q _ _ (Int.fmod_nonneg_of_pos _ hn) (Int.fmod_lt_of_pos _ hn) ⟨_, _, s0, s1, e2⟩ fun b o e nb => by
        rw [upd_ne nb]
        exact e
abbrev s__law_choose : Stmt := top 12
theorem sc__law_choose : FnScope ["_law_pool_here", "_law_items"] ["_law_pool_here", "_law_items"] (defScope s__law_choose) := ⟨rfl, rfl, rfl, by decide +kernel, rfl, by decide +kernel, by decide +kernel⟩
def spChoose (K : PySem.W.Frag) : Sp := fun vs H Q _ => ∃ (pp l : Addr) (xs : List V), vs = [.ref pp, .ref l] ∧ SqL K H l xs ∧ l ≠ pp ∧ 0 < xs.length ∧ xs.length < 1000000 ∧ PoolAt H pp ∧ ∀ v H', v ∈ xs → PoolAt H' pp → Keep pp H H' → Q v H'
theorem ok__law_choose (h : Has K mg "_law_choose" s__law_choose ["_law_pool_here", "_law_items"]) (T : Txt K mg aR) (O__law_draw : Ok P w K mg base 1 "_law_draw" ["_law_pool_here", "_law_many"] spDraw) : Ok P w K mg base 2 "_law_choose" ["_law_pool_here", "_law_items"] (spChoose K) := by
  obtain ⟨f, fd, g, b, F⟩ := h
  refine ⟨f, fd, g, F.kp, b, F.ok sc__law_choose (fun vs H Q E h => ?_) (fun cdv A outer s H vs Q E hr h => ?_)⟩
  · obtain ⟨pp, l, xs, rfl, _⟩ := h
    rfl
  · obtain ⟨pp, l, xs, rfl, hS, hne, hl0, hl1, hP, q⟩ := h
    refine ⟨_, (pss_one (ps_ret (pe_ix ix_list (pv 1) (pe_cO O__law_draw (hr.mono (by decide)) pass0 rfl (pa_cons (pv 0) (pa_cons (pe_callB call_len_seq (by rfl) T.len (by decide +kernel) (pa_cons (pv 1) pa_nil)) pa_nil))) (fun _ _ => rfl)))), ?_⟩
    refine ⟨_, rfl, _, rfl, _, rfl, l, xs, rfl, .inl hS, pp, _, rfl, by omega, ⟨by omega, by omega⟩, hP, fun d H' d0 d1 P' k' => ?_⟩
    have hj : d.toNat < xs.length := by omega
    refine ⟨l, xs, d, xs[d.toNat], rfl, rfl, k'.seq hne hS, ?_, q _ H' (List.getElem_mem hj) P' k'⟩
    exact at_of (j := d.toNat) (by omega) (List.getElem?_eq_getElem hj)
end
section
variable {P : Program} {w : World} {K : PySem.W.Frag} {mg : Str → Option Value} {base : Heap} {aR : Addr}
def OkX (P : Program) (w : World) (K : PySem.W.Frag) (mg : Str → Option Value) (base : Heap) (k : Nat) (x : Str) (ps : List Str) (sp : Sp) : Prop :=
  ∃ f fd, mg x = some (.ref f) ∧ PySem.W.keepIn K (.ref f) = true ∧ Binds K fd ps [] ∧ FnOk P w K mg base (L2.CX P w) k f fd ps sp
theorem pe_cX {X : Cx} {k : Nat} {x : Str} {ps : List Str} {sp : Sp} {p pos : Pos} {e : Expr} {es : List Expr} {t : TA} {E : XK} (o : OkX X.prog X.w X.K X.mg X.base k x ps sp) (hr : Room k X.A) (hx : Passes (L2.CX X.prog X.w) X E) (hg : Gl X x)
    (ha : PA X (e :: es) t) (hdb : (x == ("__debug__" : Str)) = false := by decide) (he : starEach (e :: es) X.env = (false, eval e X.env) :: starEach es X.env := by rfl) (hpl : (backTo pos (starEach es X.env)).any (·.1) = false := by rfl) :
    PE X (.Call (.Name x p) (e :: es) [] pos) (tCall sp [] E t) := by
  obtain ⟨f, fd, g, kp, b, G⟩ := o
  exact pe_call G hr hg g kp b .nil hx ha hdb he hpl
def spIsInt : Sp := fun vs H Q _ => ∃ v d, vs = [v] ∧ Dt Z0 H v d ∧ Q (.bl (isInt d)) H
abbrev s_is_integer : Stmt := top 3
theorem sc_is_integer : FnScope ["value"] ["value"] (defScope s_is_integer) := ⟨rfl, rfl, rfl, by decide +kernel, rfl, by decide +kernel, by decide +kernel⟩
theorem ok_is_integer (h : Has K mg "is_integer" s_is_integer ["value"]) (T : Txt K mg aR) : Ok P w K mg base 1 "is_integer" ["value"] spIsInt := by
  obtain ⟨f, fd, g, b, F⟩ := h
  refine ⟨f, fd, g, F.kp, b, F.ok sc_is_integer (fun vs H Q E h => ?_) (fun cdv A outer s H vs Q E hr h => ?_)⟩
  · obtain ⟨v, d, rfl, _⟩ := h
    rfl
  · obtain ⟨v, d, rfl, h1, q⟩ := h
    refine ⟨_, (pss_one (ps_ret (pe_and (pe_callB call_isi (by rfl) T.isinstance (by decide +kernel) (pa_cons (pv 0) (pa_cons (pe_bltn (v := .ty "int") (by rfl) T.int (by decide +kernel) rfl) pa_nil))) (pe_one (pe_not (pe_callB call_isi (by rfl) T.isinstance (by decide +kernel) (pa_cons (pv 0) (pa_cons (pe_bltn (v := .ty "bool") (by rfl) T.bool (by decide +kernel) rfl) pa_nil)))))))), ?_⟩
    refine ⟨_, rfl, _, _, _, _, _, rfl, .ty _, h1.ty, h1.kInt, _, rfl, ?_⟩
    cases e : isInt d || (tyD d == "bool") with
    | false => 
      refine iteF ?_
      rw [show isInt d = false from (Bool.or_eq_false_iff.mp e).1] at q
      exact q
    | true =>
      refine iteT ?_
      refine ⟨_, rfl, _, _, _, _, _, rfl, .ty _, h1.ty, h1.kBool, _, rfl, ?_⟩
      rw [show (!(tyD d == "bool")) = isInt d by cases h1 <;> first | rfl | (simp [tyD, isInt] at e; done)]
      exact q
/-! ### lead_of -/
def leadOf : List Int → Option Nat
  | [] => none
  | x :: xs => if x = 0 then (leadOf xs).map (· + 1) else some 0
theorem leadOf_none {xs : List Int} (h : ∀ x ∈ xs, x = 0) : leadOf xs = none := by
  induction xs with
  | nil => rfl
  | cons x xs ih => rw [leadOf, if_pos (h x List.mem_cons_self), ih fun y hy => h y (List.mem_cons_of_mem _ hy)]; rfl
theorem leadOf_some {xs : List Int} {i : Nat} {x : Int} (e : xs[i]? = some x) (h0 : x ≠ 0) (h : ∀ j, j < i → xs[j]? = some 0) : leadOf xs = some i := by
  induction xs generalizing i with
  | nil => simp at e
  | cons y xs ih =>
    cases i with
    | zero =>
      simp at e
      subst e
      rw [leadOf, if_neg h0]
    | succ i =>
      have := h 0 (by omega)
      simp at this
      rw [leadOf, if_pos this, ih (by simpa using e) fun j hj => by simpa using h (j + 1) (by omega)]
      rfl
def leadV (xs : List Int) : V := match leadOf xs with | none => .non | some i => .int (i : Nat)
def spLead (K : PySem.W.Frag) : Sp := fun vs H Q _ => ∃ a xs, vs = [.ref a] ∧ H a = some (.lst (xs.map V.int)) ∧ ∀ H', Same H H' → Q (leadV xs) H'
abbrev s_lead_of : Stmt := top 5
abbrev N_lead_of : List Str := ["row", "place", "entry"]
theorem sc_lead_of : FnScope N_lead_of ["row"] (defScope s_lead_of) := ⟨rfl, rfl, rfl, by decide +kernel, rfl, by decide +kernel, by decide +kernel⟩
theorem ok_lead_of (h : Has K mg "lead_of" s_lead_of ["row"]) (T : Txt K mg aR) : Ok P w K mg base 1 "lead_of" ["row"] (spLead K) := by
  obtain ⟨f, fd, g, b, F⟩ := h
  refine ⟨f, fd, g, F.kp, b, F.ok sc_lead_of (fun vs H Q E h => ?_) (fun cdv A outer s H vs Q E hr h => ?_)⟩
  · obtain ⟨a, xs, rfl, _⟩ := h
    rfl
  · obtain ⟨a, xs, rfl, ha, q⟩ := h
    refine ⟨_, (pss_cons (ps_for PassesOwn.never rfl (pi_enum (by rfl) T.enumerate (pa_cons (pv 0) pa_nil)) (pg_tup (by rfl) (pgs_cons (pg_name (i := 1) sc_lead_of.nd rfl (.inl rfl)) (pgs_cons (pg_name (i := 2) sc_lead_of.nd rfl (.inl rfl)) pgs_nil)))
        (pss_one (ps_if (pt_cmpR op_ne (pv 2) pe_int (nomark _))
          (pss_one (ps_ret (pv 1)))
          pss_nil)))
      (pss_one (ps_ret pe_non))), ?_⟩
    refine ⟨_, rfl, a, _, rfl, SqL.of ha, ?_⟩
    refine for_it walk_enum (fun i σ H' => Same H H' ∧ (∀ j, j < i → xs[j]? = some 0) ∧ ∃ u v, σ = [some (.ref a), u, v]) ⟨fun _ _ h => h, (fun j hj => absurd hj (Nat.not_lt_zero _)), none, none, rfl⟩ (fun _ _ H' _ z => SqL.of (z.1 _ _ ha)) ?_ ?_
    · rintro i x σ H1 H2 hi ⟨s1, z, u, v, rfl⟩ ⟨T, x1, x2, rfl, nT, rfl, e1, e2⟩
      cases e1
      have e2 : (xs.map V.int)[i]? = some x2 := e2
      rw [List.getElem?_map] at e2
      obtain ⟨k, e3, rfl⟩ := Option.map_eq_some_iff.mp e2
      refine ⟨T, _, rfl, SqT.of upd_same, rfl, _, _, rfl, _, _, rfl, rfl, ?_⟩
      refine ⟨_, rfl, rfl, _, rfl, ?_⟩
      by_cases hk : k = 0
      · subst hk
        refine iteN (by simp) ?_
        refine ⟨s1.trans (Same.new nT), fun j hj => ?_, _, _, rfl⟩
        by_cases h1 : j = i
        · rw [h1]
          exact e3
        · exact z j (by omega)
      · refine iteP (by simp [hk]) ?_
        refine ⟨_, rfl, ?_⟩
        have := q (upd H1 T (.tup [.int (i : Nat), .int k])) (s1.trans (Same.new nT))
        unfold leadV at this
        rw [leadOf_some e3 hk z] at this
        exact this
    · rintro σ H1 ⟨s1, z, u, v, rfl⟩
      have e := leadOf_none (xs := xs) fun x hx => by
        obtain ⟨j, hj, e⟩ := List.getElem_of_mem hx
        have h2 := z j (by simpa using hj)
        rw [List.getElem?_eq_getElem hj] at h2
        rw [← e]
        exact Option.some.inj h2
      have := q H1 s1
      unfold leadV at this
      rw [e] at this
      exact this
/-! ### is_line -/
def isLine (d : PyData) (n : Int) : Bool := isSeq d && (decide (((itemsD d).length : Int) = n) && (itemsD d).all isInt)
def spLine : Sp := fun vs H Q _ => ∃ v d n, vs = [v, .int n] ∧ Dt Z0 H v d ∧ (itemsD d).length ≤ 1000 ∧ ∀ H', Same H H' → Q (.bl (isLine d n)) H'
abbrev s_is_line : Stmt := top 7
abbrev N_is_line : List Str := ["value", "many", "entry"]
theorem sc_is_line : FnScope N_is_line ["value", "many"] (defScope s_is_line) := ⟨rfl, rfl, rfl, by decide +kernel, rfl, by decide +kernel, by decide +kernel⟩
theorem ok_is_line (h : Has K mg "is_line" s_is_line ["value", "many"]) (T : Txt K mg aR) (O_is_integer : Ok P w K mg base 1 "is_integer" ["value"] spIsInt) : Ok P w K mg base 2 "is_line" ["value", "many"] spLine := by
  obtain ⟨f, fd, g, b, F⟩ := h
  refine ⟨f, fd, g, F.kp, b, F.ok sc_is_line (fun vs H Q E h => ?_) (fun cdv A outer s H vs Q E hr h => ?_)⟩
  · obtain ⟨v, d, n, rfl, _⟩ := h
    rfl
  · obtain ⟨v, d, n, rfl, hd, few, q⟩ := h
    refine ⟨_, (pss_one (ps_ret (pe_and (pe_callB call_isiT (by rfl) T.isinstance (by decide +kernel) (pa_cons (pv 0) (pa_cons (pe_tup (pa_cons (pe_bltn (v := .ty "list") (by rfl) T.list (by decide +kernel) rfl) (pa_cons (pe_bltn (v := .ty "tuple") (by rfl) T.tuple (by decide +kernel) rfl) pa_nil))) pa_nil))) (pe_and (pe_cmpR op_eq (pe_callB call_len_seq (by rfl) T.len (by decide +kernel) (pa_cons (pv 0) pa_nil)) (pv 1) (nomark _)) (pe_one (pe_callB (cr_all rfl) (by rfl) T.all (by decide +kernel) (pa_cons (pe_lc (own := [("entry", 2)]) (g := (gName 2)) (tt := tYes) rfl sc_is_line.nd (pi_seq (pv 0)) (blkOk_by (N := N_is_line) (sc := defScope s_is_line) (by decide +kernel)) (fun _ _ _ _ _ => (pg_name (i := 2) sc_is_line.nd rfl (.inl rfl))) (fun _ _ _ _ _ => pts_nil) (fun _ _ _ _ _ => (pe_cO O_is_integer (hr.mono (by decide)) pass0 rfl (pa_cons (pv 2) pa_nil)))) pa_nil))))))), ?_⟩
    refine ⟨_, rfl, (by show 2 ≤ sizeLine; decide), fun t ht => ?_⟩
    have s1 : Same H (upd H t (.tup [.ty "list", .ty "tuple"])) := Same.new ht
    have d1 := hd.fr (Fr.of s1)
    refine ⟨_, _, _, _, _, _, rfl, upd_same, pairedLT, d1.ty, d1.kSeq, _, rfl, ?_⟩
    generalize upd H t (.tup [.ty "list", .ty "tuple"]) = H1 at s1 d1 ⊢
    cases e : isSeq d with
    | false =>
      refine iteF ?_
      have := q H1 s1
      unfold isLine at this
      rw [e] at this
      exact this
    | true =>
      refine iteT ?_
      obtain ⟨a, xs, rfl, dx, ha, _⟩ := d1.seq e
      have hl := dx.len
      refine ⟨_, rfl, a, xs, rfl, ha.elim (fun h => .inl (SqL.of h)) (fun h => .inr (SqT.of h)), _, rfl, rfl, _, rfl, ?_⟩
      by_cases hn : ((itemsD d).length : Int) = n
      · refine iteP (by rw [hl]; exact veq hn) ?_
        obtain ⟨o, ho, ha'⟩ : ∃ o, (o = .lst xs ∨ o = .tup xs) ∧ H1 a = some o := ha.elim (fun h => ⟨_, .inl rfl, h⟩) fun h => ⟨_, .inr rfl, h⟩
        refine ⟨_, rfl, a, xs, o, rfl, ho, ha', fun J w D hD => ?_⟩
        refine lc_vals w Z0 (fun _ => True) ((itemsD d).map fun d => V.bl (isInt d)) (by simp [hl]) hD id True.intro (fun _ _ _ _ => True.intro) (by rw [hl]; exact Nat.lt_of_le_of_lt few (by decide)) (fun H f => f _ _ ha' id) ?_ ?_
        · intro i x k H2 H3 Qk ek f _ _ y z
          obtain ⟨rfl, ex⟩ := y
          rw [List.getElem?_map] at ek
          obtain ⟨di, e1, rfl⟩ := Option.map_eq_some_iff.mp ek
          obtain ⟨d', e2, dt⟩ := dx.get ex
          rw [e1] at e2
          cases e2
          exact ⟨rfl, _, rfl, _, _, rfl, dt.fr f, z _ Fr.refl True.intro⟩
        · intro H4 f _ hD4
          refine ⟨D, (itemsD d).map isInt, rfl, SqL.of (by rw [hD4, List.map_map]; rfl), ?_⟩
          have := q H4 (s1.trans f.same)
          unfold isLine at this
          rw [e, decide_eq_true hn] at this
          rw [List.all_map]
          exact this
      · refine iteN ?_ ?_
        · rw [hl]
          exact vne hn
        · have := q H1 s1
          unfold isLine at this
          rw [e, decide_eq_false hn] at this
          exact this
end
/-! ### determinants of up to four rows -/
def lap2 (a b c d : Int) : Int := a * d - b * c
def lap3 (a b c d e f g h i : Int) : Int := a * lap2 e f h i - b * lap2 d f g i + c * lap2 d e g h
def lap4 (a b c d e f g h i j k l m n o p : Int) : Int := a * lap3 f g h j k l n o p - b * lap3 e g h i k l m o p + c * lap3 e f h i j l m n p - d * lap3 e f g i j k m n o
theorem chio4 (a b c d e f g h i j k l m n o p : Int) :
    lap3 (a * f - e * b) (a * g - e * c) (a * h - e * d) (a * j - i * b) (a * k - i * c) (a * l - i * d) (a * n - m * b) (a * o - m * c) (a * p - m * d) = a * a * lap4 a b c d e f g h i j k l m n o p := by
  simp only [lap4, lap3, lap2]
  grind
theorem chio3 (a b c d e f g h i : Int) : lap2 (a * e - d * b) (a * f - d * c) (a * h - g * b) (a * i - g * c) = a * lap3 a b c d e f g h i := by
  simp only [lap3, lap2]
  grind
theorem minor_dvd (a e1 e2 e3 e4 x1 x2 y1 y2 : Int) : a ∣ (a * e1 - x1 * y1) * (a * e4 - x2 * y2) - (a * e3 - x2 * y1) * (a * e2 - x1 * y2) :=
  ⟨a * e1 * e4 - e1 * x2 * y2 - x1 * y1 * e4 - a * e3 * e2 + e3 * x1 * y2 + x2 * y1 * e2, by grind⟩
def B50 (k : Nat) (x : Int) : Prop := x.natAbs ≤ 2 ^ k
theorem B50.mono {k l : Nat} {x : Int} (h : B50 k x) (z : k ≤ l) : B50 l x := Nat.le_trans h (Nat.pow_le_pow_right (by decide) z)
theorem B50.step {k : Nat} {x y z w : Int} (a : B50 k x) (b : B50 k y) (c : B50 k z) (d : B50 k w) : B50 (2 * k + 1) (x * y - z * w) := by
  have h1 : (x * y).natAbs ≤ 2 ^ k * 2 ^ k := by rw [Int.natAbs_mul]; exact Nat.mul_le_mul a b
  have h2 : (z * w).natAbs ≤ 2 ^ k * 2 ^ k := by rw [Int.natAbs_mul]; exact Nat.mul_le_mul c d
  unfold B50
  rw [Nat.pow_succ, show 2 * k = k + k by omega, Nat.pow_add]
  omega
theorem B50.quo {k : Nat} {v p m : Int} (h : B50 k v) (p0 : p ≠ 0) (e : v = p * m) : B50 k m := by
  unfold B50 at h ⊢
  rw [e, Int.natAbs_mul] at h
  have : 1 ≤ p.natAbs := by omega
  exact Nat.le_trans (Nat.le_mul_of_pos_left _ this) h
/-- one entry of the rows that come next -/
def nx1 (l0 r0 p e o : Int) : Int := (l0 * e - r0 * o).fdiv p
def nextRow (lead : List Int) (p : Int) (row : List Int) : List Int := List.zipWith (fun e o => nx1 (lead.headD 0) (row.headD 0) p e o) row.tail lead.tail
def nextRows (M : List (List Int)) (at_ : Nat) (p : Int) : List (List Int) := (M.take at_ ++ M.drop (at_ + 1)).map (nextRow (M.getD at_ []) p)
theorem nx_one (l r e o : Int) : nx1 l r 1 e o = l * e - r * o := by
  unfold nx1
  rw [Int.fdiv_one]
theorem nx_ex {l r e o p m : Int} (p0 : p ≠ 0) (h : l * e - r * o = p * m) : nx1 l r p e o = m := by
  unfold nx1
  rw [h, Int.mul_fdiv_cancel_left _ p0]
/-- what holds ahead of a turn with n rows -/
def St50 : Nat → List (List Int) → Int → Int → Int → Prop
  | 0, M, s, p, due => M = [] ∧ s * p = due ∧ B50 487 p ∧ (s = 1 ∨ s = -1)
  | 1, M, s, p, due => ∃ x, M = [[x]] ∧ s * x = due ∧ B50 487 x ∧ p ≠ 0 ∧ B50 487 p ∧ (s = 1 ∨ s = -1)
  | 2, M, s, p, due => ∃ a b c d D, M = [[a, b], [c, d]] ∧ lap2 a b c d = p * D ∧ s * D = due ∧ (B50 243 a ∧ B50 243 b ∧ B50 243 c ∧ B50 243 d) ∧ p ≠ 0 ∧ B50 487 p ∧ (s = 1 ∨ s = -1)
  | 3, M, s, p, due => ∃ a b c d e f g h i D, M = [[a, b, c], [d, e, f], [g, h, i]] ∧ lap3 a b c d e f g h i = p * p * D ∧ s * D = due ∧
      (B50 121 a ∧ B50 121 b ∧ B50 121 c ∧ B50 121 d ∧ B50 121 e ∧ B50 121 f ∧ B50 121 g ∧ B50 121 h ∧ B50 121 i) ∧
      (p ∣ a * e - d * b ∧ p ∣ a * f - d * c ∧ p ∣ a * h - g * b ∧ p ∣ a * i - g * c ∧ p ∣ d * h - g * e ∧ p ∣ d * i - g * f) ∧ p ≠ 0 ∧ B50 487 p ∧ (s = 1 ∨ s = -1)
  | 4, M, s, p, due => ∃ a b c d e f g h i j k l m n o q, M = [[a, b, c, d], [e, f, g, h], [i, j, k, l], [m, n, o, q]] ∧ s * lap4 a b c d e f g h i j k l m n o q = due ∧ p = 1 ∧
      (B50 60 a ∧ B50 60 b ∧ B50 60 c ∧ B50 60 d ∧ B50 60 e ∧ B50 60 f ∧ B50 60 g ∧ B50 60 h) ∧ (B50 60 i ∧ B50 60 j ∧ B50 60 k ∧ B50 60 l ∧ B50 60 m ∧ B50 60 n ∧ B50 60 o ∧ B50 60 q) ∧ (s = 1 ∨ s = -1)
  | _, _, _, _, _ => False
def heads (M : List (List Int)) : List Int := M.map fun r => r.headD 0
def sgn50 (at_ : Nat) (s : Int) : Int := if (at_ : Int).fmod 2 = 1 then -s else s
/-- what a turn comes to -/
def Tn50 (n : Nat) (M : List (List Int)) (s p due : Int) : Prop := match leadOf (heads M) with
  | none => due = 0
  | some i => i < n + 1 ∧ St50 n (nextRows M i p) (sgn50 i s) ((M.getD i []).headD 0) due
theorem neg_or {s : Int} (h : s = 1 ∨ s = -1) : -s = 1 ∨ -s = -1 := by omega
theorem tn_none {n : Nat} {M : List (List Int)} {s p due : Int} (e : leadOf (heads M) = none) (h : due = 0) : Tn50 n M s p due := by
  unfold Tn50
  rw [e]
  exact h
theorem tn_some {n i : Nat} {M : List (List Int)} {s p due l : Int} {N : List (List Int)} {s' : Int} (e : leadOf (heads M) = some i) (hi : i < n + 1) (hN : nextRows M i p = N) (hs : sgn50 i s = s') (hl : (M.getD i []).headD 0 = l) (h : St50 n N s' l due) : Tn50 n M s p due := by
  subst hN hs hl
  unfold Tn50
  rw [e]
  exact ⟨hi, h⟩
theorem sgn0 {s : Int} : sgn50 0 s = s := rfl
theorem sgn1 {s : Int} : sgn50 1 s = -s := rfl
theorem sgn2 {s : Int} : sgn50 2 s = s := rfl
theorem sgn3 {s : Int} : sgn50 3 s = -s := rfl
theorem B50.neg {k : Nat} {x : Int} (h : B50 k x) : B50 k (-x) := by
  unfold B50 at h ⊢
  rw [Int.natAbs_neg]
  exact h
theorem zero_of {s p D due : Int} (e2 : s * D = due) (p0 : p ≠ 0) (h : p * D = 0) : due = 0 := by
  rcases Int.mul_eq_zero.mp h with h | h
  · exact absurd h p0
  · rw [← e2, h, Int.mul_zero]
theorem turn1 {M : List (List Int)} {s p due : Int} (h : St50 1 M s p due) : Tn50 0 M s p due := by
  obtain ⟨x, rfl, e, bx, p0, bp, hs⟩ := h
  by_cases hx : x = 0
  · refine tn_none (by simp [heads, leadOf, hx]) ?_
    rw [← e, hx, Int.mul_zero]
  · exact tn_some (i := 0) (by simp [heads, leadOf, hx]) (by decide) rfl sgn0 rfl ⟨rfl, e, bx, hs⟩
theorem turn2 {M : List (List Int)} {s p due : Int} (h : St50 2 M s p due) : Tn50 1 M s p due := by
  obtain ⟨a, b, c, d, D, rfl, e1, e2, ⟨ba, bb, bc, bd⟩, p0, bp, hs⟩ := h
  have hD : B50 487 D := B50.quo (B50.step ba bd bb bc) p0 e1
  unfold lap2 at e1
  by_cases ha : a = 0
  · by_cases hc : c = 0
    · exact tn_none (by simp [heads, leadOf, ha, hc]) (zero_of e2 p0 (by rw [← e1, ha, hc]; simp))
    · have e3 : nx1 c a p b d = -D := nx_ex p0 (by rw [Int.mul_neg, ← e1]; grind)
      exact tn_some (i := 1) (by simp [heads, leadOf, ha, hc]) (by decide) (show _ = [[nx1 c a p b d]] from rfl) sgn1 rfl ⟨-D, by rw [e3], by rw [← e2]; grind, hD.neg, hc, bc.mono (by decide), neg_or hs⟩
  · have e3 : nx1 a c p d b = D := nx_ex p0 (by rw [← e1]; grind)
    exact tn_some (i := 0) (by simp [heads, leadOf, ha]) (by decide) (show _ = [[nx1 a c p d b]] from rfl) sgn0 rfl ⟨D, by rw [e3], e2, hD, ha, ba.mono (by decide), hs⟩
theorem sq_cancel {p x y : Int} (p0 : p ≠ 0) (h : p * p * x = p * p * y) : x = y := Int.eq_of_mul_eq_mul_left (Int.mul_ne_zero p0 p0) h
theorem alg3 {p m1 m2 m3 m4 a D : Int} (h : lap2 (p * m1) (p * m2) (p * m3) (p * m4) = a * (p * p * D)) : p * p * lap2 m1 m2 m3 m4 = p * p * (a * D) := by
  simp only [lap2] at h ⊢
  grind
/-- the third turn from the end, its lead row brought ahead -/
theorem turn3' {a b c d e f g h i D s p due : Int} (ha : a ≠ 0) (e1 : lap3 a b c d e f g h i = p * p * D) (e2 : s * D = due) (p0 : p ≠ 0) (hs : s = 1 ∨ s = -1)
    (B : B50 121 a ∧ B50 121 b ∧ B50 121 c ∧ B50 121 d ∧ B50 121 e ∧ B50 121 f ∧ B50 121 g ∧ B50 121 h ∧ B50 121 i)
    (m : p ∣ a * e - d * b ∧ p ∣ a * f - d * c ∧ p ∣ a * h - g * b ∧ p ∣ a * i - g * c) :
    St50 2 [[nx1 a d p e b, nx1 a d p f c], [nx1 a g p h b, nx1 a g p i c]] s a due := by
  obtain ⟨ba, bb, bc, bd, be, bf, bg, bh, bi⟩ := B
  obtain ⟨⟨m1, h1⟩, ⟨m2, h2⟩, ⟨m3, h3⟩, ⟨m4, h4⟩⟩ := m
  rw [nx_ex p0 h1, nx_ex p0 h2, nx_ex p0 h3, nx_ex p0 h4]
  refine ⟨m1, m2, m3, m4, D, rfl, sq_cancel p0 ?_, e2, ⟨(B50.step ba be bd bb).quo p0 h1, (B50.step ba bf bd bc).quo p0 h2, (B50.step ba bh bg bb).quo p0 h3, (B50.step ba bi bg bc).quo p0 h4⟩, ha, ba.mono (by decide), hs⟩
  have := chio3 a b c d e f g h i
  rw [h1, h2, h3, h4, e1] at this
  exact alg3 this
theorem dvd_flip {p x y : Int} (h : p ∣ x) (e : y = -x) : p ∣ y := by
  rw [e]
  exact Int.dvd_neg.mpr h
theorem turn3 {M : List (List Int)} {s p due : Int} (h : St50 3 M s p due) : Tn50 2 M s p due := by
  obtain ⟨a, b, c, d, e, f, g, h, i, D, rfl, e1, e2, ⟨ba, bb, bc, bd, be, bf, bg, bh, bi⟩, ⟨m1, m2, m3, m4, m5, m6⟩, p0, bp, hs⟩ := h
  by_cases ha : a = 0
  · by_cases hd : d = 0
    · by_cases hg : g = 0
      · refine tn_none (by simp [heads, leadOf, ha, hd, hg]) (zero_of e2 (Int.mul_ne_zero p0 p0) ?_)
        rw [← e1, ha, hd, hg]
        simp only [lap3, lap2]
        grind
      · refine tn_some (i := 2) (by simp [heads, leadOf, ha, hd, hg]) (by decide) (show _ = [[nx1 g a p b h, nx1 g a p c i], [nx1 g d p e h, nx1 g d p f i]] from rfl) sgn2 rfl (turn3' (D := D) hg ?_ e2 p0 hs ⟨bg, bh, bi, ba, bb, bc, bd, be, bf⟩ ⟨dvd_flip m3 (by grind), dvd_flip m4 (by grind), dvd_flip m5 (by grind), dvd_flip m6 (by grind)⟩)
        rw [← e1]
        simp only [lap3, lap2]
        grind
    · refine tn_some (i := 1) (by simp [heads, leadOf, ha, hd]) (by decide) (show _ = [[nx1 d a p b e, nx1 d a p c f], [nx1 d g p h e, nx1 d g p i f]] from rfl) sgn1 rfl (turn3' (D := -D) hd ?_ (by rw [← e2]; grind) p0 (neg_or hs) ⟨bd, be, bf, ba, bb, bc, bg, bh, bi⟩ ⟨dvd_flip m1 (by grind), dvd_flip m2 (by grind), m5, m6⟩)
      rw [Int.mul_neg, ← e1]
      simp only [lap3, lap2]
      grind
  · exact tn_some (i := 0) (by simp [heads, leadOf, ha]) (by decide) (show _ = [[nx1 a d p e b, nx1 a d p f c], [nx1 a g p h b, nx1 a g p i c]] from rfl) sgn0 rfl (turn3' (D := D) ha e1 e2 p0 hs ⟨ba, bb, bc, bd, be, bf, bg, bh, bi⟩ ⟨m1, m2, m3, m4⟩)
theorem turn4' {a b c d e f g h i j k l m n o q D s due : Int} (ha : a ≠ 0) (e1 : lap4 a b c d e f g h i j k l m n o q = D) (e2 : s * D = due) (hs : s = 1 ∨ s = -1)
    (B : B50 60 a ∧ B50 60 b ∧ B50 60 c ∧ B50 60 d ∧ B50 60 e ∧ B50 60 f ∧ B50 60 g ∧ B50 60 h) (C : B50 60 i ∧ B50 60 j ∧ B50 60 k ∧ B50 60 l ∧ B50 60 m ∧ B50 60 n ∧ B50 60 o ∧ B50 60 q) :
    St50 3 [[nx1 a e 1 f b, nx1 a e 1 g c, nx1 a e 1 h d], [nx1 a i 1 j b, nx1 a i 1 k c, nx1 a i 1 l d], [nx1 a m 1 n b, nx1 a m 1 o c, nx1 a m 1 q d]] s a due := by
  obtain ⟨ba, bb, bc, bd, be, bf, bg, bh⟩ := B
  obtain ⟨bi, bj, bk, bl, bm, bn, bo, bq⟩ := C
  simp only [nx_one]
  refine ⟨_, _, _, _, _, _, _, _, _, D, rfl, ?_, e2, ⟨B50.step ba bf be bb, B50.step ba bg be bc, B50.step ba bh be bd, B50.step ba bj bi bb, B50.step ba bk bi bc, B50.step ba bl bi bd, B50.step ba bn bm bb, B50.step ba bo bm bc, B50.step ba bq bm bd⟩,
    ⟨minor_dvd .., minor_dvd .., minor_dvd .., minor_dvd .., minor_dvd .., minor_dvd ..⟩, ha, ba.mono (by decide), hs⟩
  rw [← e1]
  exact chio4 a b c d e f g h i j k l m n o q
theorem turn4 {M : List (List Int)} {s p due : Int} (h : St50 4 M s p due) : Tn50 3 M s p due := by
  obtain ⟨a, b, c, d, e, f, g, h, i, j, k, l, m, n, o, q, rfl, e2, rfl, ⟨ba, bb, bc, bd, be, bf, bg, bh⟩, ⟨bi, bj, bk, bl, bm, bn, bo, bq⟩, hs⟩ := h
  by_cases ha : a = 0
  · by_cases he : e = 0
    · by_cases hi : i = 0
      · by_cases hm : m = 0
        · refine tn_none (by simp [heads, leadOf, ha, he, hi, hm]) ?_
          rw [← e2, ha, he, hi, hm]
          simp only [lap4, lap3, lap2]
          grind
        · refine tn_some (i := 3) (by simp [heads, leadOf, ha, he, hi, hm]) (by decide) (show _ = [[nx1 m a 1 b n, nx1 m a 1 c o, nx1 m a 1 d q], [nx1 m e 1 f n, nx1 m e 1 g o, nx1 m e 1 h q], [nx1 m i 1 j n, nx1 m i 1 k o, nx1 m i 1 l q]] from rfl) sgn3 rfl
            (turn4' (D := -lap4 a b c d e f g h i j k l m n o q) hm ?_ (by rw [← e2]; grind) (neg_or hs) ⟨bm, bn, bo, bq, ba, bb, bc, bd⟩ ⟨be, bf, bg, bh, bi, bj, bk, bl⟩)
          simp only [lap4, lap3, lap2]
          grind
      · refine tn_some (i := 2) (by simp [heads, leadOf, ha, he, hi]) (by decide) (show _ = [[nx1 i a 1 b j, nx1 i a 1 c k, nx1 i a 1 d l], [nx1 i e 1 f j, nx1 i e 1 g k, nx1 i e 1 h l], [nx1 i m 1 n j, nx1 i m 1 o k, nx1 i m 1 q l]] from rfl) sgn2 rfl
          (turn4' (D := lap4 a b c d e f g h i j k l m n o q) hi ?_ e2 hs ⟨bi, bj, bk, bl, ba, bb, bc, bd⟩ ⟨be, bf, bg, bh, bm, bn, bo, bq⟩)
        simp only [lap4, lap3, lap2]
        grind
    · refine tn_some (i := 1) (by simp [heads, leadOf, ha, he]) (by decide) (show _ = [[nx1 e a 1 b f, nx1 e a 1 c g, nx1 e a 1 d h], [nx1 e i 1 j f, nx1 e i 1 k g, nx1 e i 1 l h], [nx1 e m 1 n f, nx1 e m 1 o g, nx1 e m 1 q h]] from rfl) sgn1 rfl
        (turn4' (D := -lap4 a b c d e f g h i j k l m n o q) he ?_ (by rw [← e2]; grind) (neg_or hs) ⟨be, bf, bg, bh, ba, bb, bc, bd⟩ ⟨bi, bj, bk, bl, bm, bn, bo, bq⟩)
      simp only [lap4, lap3, lap2]
      grind
  · exact tn_some (i := 0) (by simp [heads, leadOf, ha]) (by decide) (show _ = [[nx1 a e 1 f b, nx1 a e 1 g c, nx1 a e 1 h d], [nx1 a i 1 j b, nx1 a i 1 k c, nx1 a i 1 l d], [nx1 a m 1 n b, nx1 a m 1 o c, nx1 a m 1 q d]] from rfl) sgn0 rfl
      (turn4' (D := lap4 a b c d e f g h i j k l m n o q) ha rfl e2 hs ⟨ba, bb, bc, bd, be, bf, bg, bh⟩ ⟨bi, bj, bk, bl, bm, bn, bo, bq⟩)
theorem turn50 {n : Nat} {M : List (List Int)} {s p due : Int} (h : St50 (n + 1) M s p due) : Tn50 n M s p due := by
  match n, h with
  | 0, h => exact turn1 h
  | 1, h => exact turn2 h
  | 2, h => exact turn3 h
  | 3, h => exact turn4 h
  | n + 4, h => exact h.elim
/-! ### the determinant by the first row -/
def minorOf (M : List (List Int)) (j : Nat) : List (List Int) := (M.drop 1).map fun r => r.take j ++ r.drop (j + 1)
def lapT : Nat → List (List Int) → Int
  | 0, _ => 1
  | n + 1, M => (List.range (n + 1)).foldl (fun acc (j : Nat) => acc + (1 - 2 * ((j : Int).fmod 2)) * ((M.headD []).getD j 0) * lapT n (minorOf M j)) 0
theorem lapT0 : lapT 0 [] = 1 := rfl
theorem lapT1 (a : Int) : lapT 1 [[a]] = a := by
  unfold lapT
  rw [show List.range (0 + 1) = [0] from rfl]
  simp only [List.foldl, minorOf]
  simp [lapT]
theorem lapT2 (a b c d : Int) : lapT 2 [[a, b], [c, d]] = lap2 a b c d := by
  unfold lapT
  rw [show List.range (1 + 1) = [0, 1] from rfl]
  simp only [List.foldl, minorOf]
  simp [lapT1, lap2]
  grind
theorem lapT3 (a b c d e f g h i : Int) : lapT 3 [[a, b, c], [d, e, f], [g, h, i]] = lap3 a b c d e f g h i := by
  unfold lapT
  rw [show List.range (2 + 1) = [0, 1, 2] from rfl]
  simp only [List.foldl, minorOf]
  simp [lapT2, lap3]
  grind
theorem lapT4 (a b c d e f g h i j k l m n o p : Int) : lapT 4 [[a, b, c, d], [e, f, g, h], [i, j, k, l], [m, n, o, p]] = lap4 a b c d e f g h i j k l m n o p := by
  unfold lapT
  rw [show List.range (3 + 1) = [0, 1, 2, 3] from rfl]
  simp only [List.foldl, minorOf]
  simp [lapT3, lap4]
  grind
/-- a square table of n rows with entries of some size -/
def Sq (n : Nat) (B : Nat) (M : List (List Int)) : Prop := M.length = n ∧ (∀ r ∈ M, r.length = n) ∧ ∀ r ∈ M, ∀ x ∈ r, B50 B x
theorem len1 {α : Type} {l : List α} (h : l.length = 1) : ∃ x, l = [x] := by
  match l, h with
  | [x], _ => exact ⟨x, rfl⟩
theorem len2 {α : Type} {l : List α} (h : l.length = 2) : ∃ x y, l = [x, y] := by
  match l, h with
  | [x, y], _ => exact ⟨x, y, rfl⟩
theorem len3 {α : Type} {l : List α} (h : l.length = 3) : ∃ x y z, l = [x, y, z] := by
  match l, h with
  | [x, y, z], _ => exact ⟨x, y, z, rfl⟩
theorem len4 {α : Type} {l : List α} (h : l.length = 4) : ∃ x y z u, l = [x, y, z, u] := by
  match l, h with
  | [x, y, z, u], _ => exact ⟨x, y, z, u, rfl⟩
theorem sq1 {B : Nat} {M : List (List Int)} (h : Sq 1 B M) : ∃ a, M = [[a]] ∧ B50 B a := by
  obtain ⟨l, rl, bd⟩ := h
  obtain ⟨r, rfl⟩ := len1 l
  obtain ⟨a, rfl⟩ := len1 (rl r (by simp))
  exact ⟨a, rfl, bd [a] (by simp) a (by simp)⟩
theorem sq2 {B : Nat} {M : List (List Int)} (h : Sq 2 B M) : ∃ a b c d, M = [[a, b], [c, d]] ∧ B50 B a ∧ B50 B b ∧ B50 B c ∧ B50 B d := by
  obtain ⟨l, rl, bd⟩ := h
  obtain ⟨r, s, rfl⟩ := len2 l
  obtain ⟨a, b, rfl⟩ := len2 (rl r (by simp))
  obtain ⟨c, d, rfl⟩ := len2 (rl s (by simp))
  have b1 := bd [a, b] (by simp)
  have b2 := bd [c, d] (by simp)
  exact ⟨a, b, c, d, rfl, b1 _ (by simp), b1 _ (by simp), b2 _ (by simp), b2 _ (by simp)⟩
theorem sq3 {B : Nat} {M : List (List Int)} (hh : Sq 3 B M) : ∃ a b c d e f g h i, M = [[a, b, c], [d, e, f], [g, h, i]] ∧ (B50 B a ∧ B50 B b ∧ B50 B c ∧ B50 B d ∧ B50 B e ∧ B50 B f ∧ B50 B g ∧ B50 B h ∧ B50 B i) := by
  obtain ⟨l, rl, bd⟩ := hh
  obtain ⟨r, s, t, rfl⟩ := len3 l
  obtain ⟨a, b, c, rfl⟩ := len3 (rl r (by simp))
  obtain ⟨d, e, f, rfl⟩ := len3 (rl s (by simp))
  obtain ⟨g, h, i, rfl⟩ := len3 (rl t (by simp))
  have b1 := bd [a, b, c] (by simp)
  have b2 := bd [d, e, f] (by simp)
  have b3 := bd [g, h, i] (by simp)
  exact ⟨a, b, c, d, e, f, g, h, i, rfl, b1 _ (by simp), b1 _ (by simp), b1 _ (by simp), b2 _ (by simp), b2 _ (by simp), b2 _ (by simp), b3 _ (by simp), b3 _ (by simp), b3 _ (by simp)⟩
theorem sq4 {B : Nat} {M : List (List Int)} (hh : Sq 4 B M) : ∃ a b c d e f g h i j k l m n o p, M = [[a, b, c, d], [e, f, g, h], [i, j, k, l], [m, n, o, p]] ∧
    (B50 B a ∧ B50 B b ∧ B50 B c ∧ B50 B d ∧ B50 B e ∧ B50 B f ∧ B50 B g ∧ B50 B h) ∧ (B50 B i ∧ B50 B j ∧ B50 B k ∧ B50 B l ∧ B50 B m ∧ B50 B n ∧ B50 B o ∧ B50 B p) := by
  obtain ⟨l0, rl, bd⟩   := hh
  obtain ⟨r, s, t, u, rfl⟩ := len4 l0
  obtain ⟨a, b, c, d, rfl⟩ := len4 (rl r (by simp))
  obtain ⟨e, f, g, h, rfl⟩ := len4 (rl s (by simp))
  obtain ⟨i, j, k, l, rfl⟩ := len4 (rl t (by simp))
  obtain ⟨m, n, o, p, rfl⟩ := len4 (rl u (by simp))
  have b1 := bd [a, b, c, d] (by simp)
  have b2 := bd [e, f, g, h] (by simp)
  have b3 := bd [i, j, k, l] (by simp)
  have b4 := bd [m, n, o, p] (by simp)
  exact ⟨a, b, c, d, e, f, g, h, i, j, k, l, m, n, o, p, rfl, ⟨b1 _ (by simp), b1 _ (by simp), b1 _ (by simp), b1 _ (by simp), b2 _ (by simp), b2 _ (by simp), b2 _ (by simp), b2 _ (by simp)⟩,
    ⟨b3 _ (by simp), b3 _ (by simp), b3 _ (by simp), b3 _ (by simp), b4 _ (by simp), b4 _ (by simp), b4 _ (by simp), b4 _ (by simp)⟩⟩
theorem start50 {n : Nat} {M : List (List Int)} (hn : n ≤ 4) (hh : Sq n 60 M) : St50 n M 1 1 (lapT n M) := by
  match n, hn, hh with
  | 0, _, hh =>
    obtain ⟨l, _⟩ := hh
    have := List.eq_nil_of_length_eq_zero l
    subst this
    exact ⟨rfl, rfl, by unfold B50; decide, .inl rfl⟩
  | 1, _, hh =>
    obtain ⟨a, rfl, ba⟩ := sq1 hh
    exact ⟨a, rfl, by rw [lapT1, Int.one_mul], ba.mono (by decide), by decide, by unfold B50; decide, .inl rfl⟩
  | 2, _, hh =>
    obtain ⟨a, b, c, d, rfl, ba, bb, bc, bd⟩ := sq2 hh
    exact ⟨a, b, c, d, _, rfl, by rw [Int.one_mul], by rw [lapT2, Int.one_mul], ⟨ba.mono (by decide), bb.mono (by decide), bc.mono (by decide), bd.mono (by decide)⟩, by decide, by unfold B50; decide, .inl rfl⟩
  | 3, _, hh =>
    obtain ⟨a, b, c, d, e, f, g, h, i, rfl, ba, bb, bc, bd, be, bf, bg, bh, bi⟩ := sq3 hh
    exact ⟨a, b, c, d, e, f, g, h, i, _, rfl, by rw [Int.one_mul, Int.one_mul], by rw [lapT3, Int.one_mul], ⟨ba.mono (by decide), bb.mono (by decide), bc.mono (by decide), bd.mono (by decide), be.mono (by decide), bf.mono (by decide), bg.mono (by decide), bh.mono (by decide), bi.mono (by decide)⟩,
      ⟨Int.one_dvd _, Int.one_dvd _, Int.one_dvd _, Int.one_dvd _, Int.one_dvd _, Int.one_dvd _⟩, by decide, by unfold B50; decide, .inl rfl⟩
  | 4, _, hh =>
    obtain ⟨a, b, c, d, e, f, g, h, i, j, k, l, m, n, o, p, rfl, b1, b2⟩ := sq4 hh
    exact ⟨a, b, c, d, e, f, g, h, i, j, k, l, m, n, o, p, rfl, by rw [lapT4, Int.one_mul], rfl, b1, b2, .inl rfl⟩
  | n + 5, hn, _ => omega
/-! what the law asks of it -/
def swapped (M : List (List Int)) : List (List Int) := [M.getD 1 [], M.getD 0 []] ++ M.drop 2
def upright (M : List (List Int)) : List (List Int) := (List.range M.length).map fun j => M.map fun r => r.getD j 0
def timed (t : Int) (M : List (List Int)) : List (List Int) := [(M.getD 0 []).map fun x => t * x] ++ M.drop 1
theorem lap_swapped {n B : Nat} {M : List (List Int)} (h2 : 2 ≤ n) (hn : n ≤ 4) (hh : Sq n B M) : Sq n B (swapped M) ∧ lapT n (swapped M) = -lapT n M := by
  match n, h2, hn, hh with
  | 2, _, _, hh =>
    obtain ⟨a, b, c, d, rfl, ba, bb, bc, bd⟩ := sq2 hh
    refine ⟨⟨rfl, by simp [swapped], by simp [swapped, *]⟩, ?_⟩
    show lapT 2 [[c, d], [a, b]] = _
    rw [lapT2, lapT2]
    simp only [lap2]
    grind
  | 3, _, _, hh =>
    obtain ⟨a, b, c, d, e, f, g, h, i, rfl, ba, bb, bc, bd, be, bf, bg, bh, bi⟩ := sq3 hh
    refine ⟨⟨rfl, by simp [swapped], by simp [swapped, *]⟩, ?_⟩
    show lapT 3 [[d, e, f], [a, b, c], [g, h, i]] = _
    rw [lapT3, lapT3]
    simp only [lap3, lap2]
    grind
  | 4, _, _, hh =>
    obtain ⟨a, b, c, d, e, f, g, h, i, j, k, l, m, n, o, p, rfl, ⟨ba, bb, bc, bd, be, bf, bg, bh⟩, bi, bj, bk, bl, bm, bn, bo, bp⟩ := sq4 hh
    refine ⟨⟨rfl, by simp [swapped], by simp [swapped, *]⟩, ?_⟩
    show lapT 4 [[e, f, g, h], [a, b, c, d], [i, j, k, l], [m, n, o, p]] = _
    rw [lapT4, lapT4]
    simp only [lap4, lap3, lap2]
    grind
  | n + 5, _, hn, _ => omega
theorem lap_upright {n B : Nat} {M : List (List Int)} (h2 : 2 ≤ n) (hn : n ≤ 4) (hh : Sq n B M) : Sq n B (upright M) ∧ lapT n (upright M) = lapT n M := by
  match n, h2, hn, hh with
  | 2, _, _, hh =>
    obtain ⟨a, b, c, d, rfl, ba, bb, bc, bd⟩ := sq2 hh
    rw [show upright [[a, b], [c, d]] = [[a, c], [b, d]] from rfl]
    refine ⟨⟨rfl, by simp, by simp [*]⟩, ?_⟩
    rw [lapT2, lapT2]
    simp only [lap2]
    grind
  | 3, _, _, hh =>
    obtain ⟨a, b, c, d, e, f, g, h, i, rfl, ba, bb, bc, bd, be, bf, bg, bh, bi⟩ := sq3 hh
    rw [show upright [[a, b, c], [d, e, f], [g, h, i]] = [[a, d, g], [b, e, h], [c, f, i]] from rfl]
    refine ⟨⟨rfl, by simp, by simp [*]⟩, ?_⟩
    rw [lapT3, lapT3]
    simp only [lap3, lap2]
    grind
  | 4, _, _, hh =>
    obtain ⟨a, b, c, d, e, f, g, h, i, j, k, l, m, n, o, p, rfl, ⟨ba, bb, bc, bd, be, bf, bg, bh⟩, bi, bj, bk, bl, bm, bn, bo, bp⟩ := sq4 hh
    rw [show upright [[a, b, c, d], [e, f, g, h], [i, j, k, l], [m, n, o, p]] = [[a, e, i, m], [b, f, j, n], [c, g, k, o], [d, h, l, p]] from rfl]
    refine ⟨⟨rfl, by simp, by simp [*]⟩, ?_⟩
    rw [lapT4, lapT4]
    simp only [lap4, lap3, lap2]
    grind
  | n + 5, _, hn, _ => omega
theorem B50.mul {k l : Nat} {x y : Int} (a : B50 k x) (b : B50 l y) : B50 (k + l) (x * y) := by
  unfold B50
  rw [Int.natAbs_mul, Nat.pow_add]
  exact Nat.mul_le_mul a b
theorem lap_timed {n : Nat} {M : List (List Int)} {t : Int} (h1 : 1 ≤ n) (hn : n ≤ 4) (ht : B50 10 t) (hh : Sq n 50 M) : Sq n 60 (timed t M) ∧ lapT n (timed t M) = t * lapT n M := by
  have bt : ∀ {x}, B50 50 x → B50 60 (t * x) := fun b => (B50.mul ht b).mono (by decide)
  have bu : ∀ {x}, B50 50 x → B50 60 x := fun b => b.mono (by decide)
  match n, h1, hn, hh with
  | 1, _, _, hh =>
    obtain ⟨a, rfl, ba⟩ := sq1 hh
    refine ⟨⟨rfl, by simp [timed], by simp [timed, bt ba]⟩, ?_⟩
    show lapT 1 [[t * a]] = _
    rw [lapT1, lapT1]
  | 2, _, _, hh =>
    obtain ⟨a, b, c, d, rfl, ba, bb, bc, bd⟩ := sq2 hh
    refine ⟨⟨rfl, by simp [timed], by simp [timed, bt ba, bt bb, bu bc, bu bd]⟩, ?_⟩
    show lapT 2 [[t * a, t * b], [c, d]] = _
    rw [lapT2, lapT2]
    simp only [lap2]
    grind
  | 3, _, _, hh =>
    obtain ⟨a, b, c, d, e, f, g, h, i, rfl, ba, bb, bc, bd, be, bf, bg, bh, bi⟩ := sq3 hh
    refine ⟨⟨rfl, by simp [timed], by simp [timed, bt ba, bt bb, bt bc, bu bd, bu be, bu bf, bu bg, bu bh, bu bi]⟩, ?_⟩
    show lapT 3 [[t * a, t * b, t * c], [d, e, f], [g, h, i]] = _
    rw [lapT3, lapT3]
    simp only [lap3, lap2]
    grind
  | 4, _, _, hh =>
    obtain ⟨a, b, c, d, e, f, g, h, i, j, k, l, m, n, o, p, rfl, ⟨ba, bb, bc, bd, be, bf, bg, bh⟩, bi, bj, bk, bl, bm, bn, bo, bp⟩ := sq4 hh
    refine ⟨⟨rfl, by simp [timed], by simp [timed, bt ba, bt bb, bt bc, bt bd, bu be, bu bf, bu bg, bu bh, bu bi, bu bj, bu bk, bu bl, bu bm, bu bn, bu bo, bu bp]⟩, ?_⟩
    show lapT 4 [[t * a, t * b, t * c, t * d], [e, f, g, h], [i, j, k, l], [m, n, o, p]] = _
    rw [lapT4, lapT4]
    simp only [lap4, lap3, lap2]
    grind
  | n + 5, _, hn, _ => omega
section
variable {P : Program} {w : World} {K : PySem.W.Frag} {mg : Str → Option Value} {base : Heap} {aR : Addr}
/-- data that is a table of integers -/
def IsTab (d : PyData) (M : List (List Int)) : Prop := isSeq d = true ∧ (itemsD d).length = M.length ∧ ∀ (i : Nat) r m, (itemsD d)[i]? = some r → M[i]? = some m → isSeq r = true ∧ itemsD r = m.map PyData.int
def okTab (d : PyData) : Bool := isSeq d && (itemsD d).all fun r => isLine r (itemsD d).length
theorem all_ints (m : List Int) : (m.map PyData.int).all isInt = true := by
  simp [List.all_eq_true, isInt]
theorem isTab_ok {d : PyData} {M : List (List Int)} {n B : Nat} (h : IsTab d M) (s : Sq n B M) : okTab d = true := by
  obtain ⟨h1, h2, h3⟩ := h
  obtain ⟨s1, s2, s3⟩ := s
  unfold okTab
  rw [h1, Bool.true_and, List.all_eq_true]
  intro r hr
  obtain ⟨i, hi, e⟩ := List.getElem_of_mem hr
  have hi2 : i < M.length := by omega
  obtain ⟨k1, k2⟩ := h3 i r M[i] (by rw [List.getElem?_eq_getElem hi, e]) (List.getElem?_eq_getElem hi2)
  unfold isLine
  rw [k1, k2, all_ints, List.length_map, s2 _ (List.getElem_mem hi2), h2, s1]
  simp
def ECls (CR : Addr) (v : V) (E : XK) (H : Hp) : Prop := ∀ H' dx, Same H H' → H' dx = none → E (.ref CR) (some dx) (upd H' dx (.xd [("value", v)]))
def spDet (CR : Addr) : Sp := fun vs H Q E => ∃ v d, vs = [v] ∧ Dt Z0 H v d ∧ (itemsD d).length ≤ 100 ∧ (∀ r ∈ itemsD d, (itemsD r).length ≤ 1000) ∧
  ((∃ n M, n ≤ 4 ∧ Sq n 60 M ∧ IsTab d M ∧ ∀ H', Same H H' → Q (.int (lapT n M)) H') ∨ (okTab d = false ∧ ECls CR v E H))
abbrev s_determinant : Stmt := top 8
abbrev N_determinant : List Str := ["table", "row", "rows", "sign", "ahead", "at", "lead", "entry", "other"]
theorem sc_determinant : FnScope N_determinant ["table"] (defScope s_determinant) := ⟨rfl, rfl, rfl, by decide +kernel, rfl, by decide +kernel, by decide +kernel⟩
abbrev XValue (P : Program) (w : World) (K : PySem.W.Frag) (mg : Str → Option Value) (base : Heap) (x : Str) (CI : Addr) : Prop := XRz P w K mg base x CI 1 (sp1n "value" CI)
theorem St50.shape {n : Nat} {M : List (List Int)} {s p due : Int} (h : St50 n M s p due) : M.length = n ∧ n ≤ 4 ∧ (∀ r ∈ M, r.length = n) ∧ (∀ r ∈ M, ∀ x ∈ r, B50 487 x) ∧ B50 487 p ∧ (0 < n → p ≠ 0) := by
  match n, h with
  | 0, h =>
    obtain ⟨rfl, _, b, _⟩ := h
    exact ⟨rfl, by decide, by simp, by simp, b, fun z => absurd z (by decide)⟩
  | 1, h =>
    obtain ⟨x, rfl, _, b, p0, bp, _⟩ := h
    exact ⟨rfl, by decide, by simp, by simp [b], bp, fun _ => p0⟩
  | 2, h =>
    obtain ⟨a, b, c, d, D, rfl, e1, e2, ⟨ba, bb, bc, bd⟩, p0, bp, hs⟩ := h
    have m : ∀ {x}, B50 243 x → B50 487 x := fun z => z.mono (by decide)
    exact ⟨rfl, by decide, by simp, by simp [m ba, m bb, m bc, m bd], bp, fun _ => p0⟩
  | 3, h =>
    obtain ⟨a, b, c, d, e, f, g, h, i, D, rfl, e1, e2, ⟨ba, bb, bc, bd, be, bf, bg, bh, bi⟩, _, p0, bp, hs⟩ := h
    have m : ∀ {x}, B50 121 x → B50 487 x := fun z => z.mono (by decide)
    exact ⟨rfl, by decide, by simp, by simp [m ba, m bb, m bc, m bd, m be, m bf, m bg, m bh, m bi], bp, fun _ => p0⟩
  | 4, h =>
    obtain ⟨a, b, c, d, e, f, g, h, i, j, k, l, m, n, o, q, rfl, e2, rfl, ⟨ba, bb, bc, bd, be, bf, bg, bh⟩, ⟨bi, bj, bk, bl, bm, bn, bo, bq⟩, hs⟩ := h
    have mo : ∀ {x}, B50 60 x → B50 487 x := fun z => z.mono (by decide)
    exact ⟨rfl, by decide, by simp, by simp [mo ba, mo bb, mo bc, mo bd, mo be, mo bf, mo bg, mo bh, mo bi, mo bj, mo bk, mo bl, mo bm, mo bn, mo bo, mo bq], by unfold B50; decide, fun _ => by decide⟩
  | n + 5, h => exact h.elim
theorem B50.sm {x : Int} (h : B50 487 x) : Sm x := by
  unfold B50 at h
  have : (2 : Nat) ^ 487 < 2 ^ 600 := by decide
  exact ⟨by omega, by omega⟩
theorem leadOf_at {xs : List Int} {i : Nat} (h : leadOf xs = some i) : i < xs.length := by
  induction xs generalizing i with
  | nil => cases h
  | cons x xs ih =>
    unfold leadOf at h
    split at h
    · obtain ⟨j, e, rfl⟩ := Option.map_eq_some_iff.mp h
      have := ih e
      simp only [List.length_cons]
      omega
    · cases h
      simp
def mu50 : St → Hp → Nat := fun σ H => match σ with
  | [_, _, some (.ref R), _, _, _, _, _, _] => match H R with
    | some (.lst xs) => xs.length
    | _ => 0
  | _ => 0
theorem dtab_get {Z : Addr → Prop} {H : Hp} {xs : List V} {M : List (List Int)} (h : DtAll Z H xs (M.map dRow)) {i : Nat} {x : V} (e : xs[i]? = some x) : ∃ a m, M[i]? = some m ∧ x = .ref a ∧ H a = some (.lst (m.map V.int)) ∧ ¬ Z a := by
  obtain ⟨d, e1, dt⟩ := h.get e
  rw [List.getElem?_map] at e1
  obtain ⟨m, e2, rfl⟩ := Option.map_eq_some_iff.mp e1
  obtain ⟨a, rfl, h1, h2⟩ := Dt.row_inv (ns := m) dt
  exact ⟨a, m, e2, rfl, h1, h2⟩
theorem at_map {m : List Int} {i : Nat} {x : Int} (h : m[i]? = some x) : atI (m.map V.int) (i : Int) = some (.int x) := atI_nat (by rw [List.getElem?_map, h]; rfl)
theorem head_at {m : List Int} (h : 0 < m.length) : m[0]? = some (m.headD 0) := by
  cases m with
  | nil => simp at h
  | cons x m => rfl
theorem ok_determinant {CR : Addr} (h : Has K mg "determinant" s_determinant ["table"]) (T : Txt K mg aR) (XR : XValue P w K mg base "InvalidRows" CR) (O_lead_of : Ok P w K mg base 1 "lead_of" ["row"] (spLead K)) (O_is_line : Ok P w K mg base 2 "is_line" ["value", "many"] spLine) :
    OkX P w K mg base 3 "determinant" ["table"] (spDet CR) := by
  obtain ⟨f, fd, g, b, F⟩ := h
  refine ⟨f, fd, g, F.kp, b, F.okX sc_determinant (fun vs H Q E h => ?_) (fun cdv A outer s H vs Q E hr h => ?_)⟩
  · obtain ⟨v, d, rfl, _⟩ := h
    rfl
  · obtain ⟨v, d, rfl, hd, few, few2, z⟩ := h
    refine ⟨_, (pss_cons (ps_if (PW.pt (pw_or (pt_not (pt_val (pe_callB call_isiT (by rfl) T.isinstance bb_isinstance (pa_cons (pv 0) (pa_cons (pe_tup (pa_cons (pe_bltn (v := .ty "list") (by rfl) T.list bb_list rfl) (pa_cons (pe_bltn (v := .ty "tuple") (by rfl) T.tuple bb_tuple rfl) pa_nil))) pa_nil))))) (pw_or1 (pt_not (pt_val (pe_callB (allT rfl) (by rfl) T.all bb_all (pa_cons (pe_lc (own := [("row", 1)]) (g := (gName 1)) (tt := tYes) rfl sc_determinant.nd (pi_seq (pv 0)) (blkOk_by (N := N_determinant) (sc := defScope s_determinant) (by decide +kernel)) (fun _ _ _ _ _ => (pg_name (i := 1) sc_determinant.nd rfl (by first | exact Or.inl rfl | exact Or.inr rfl))) (fun _ _ _ _ _ => pts_nil) (fun _ _ _ _ _ => (pe_cO O_is_line (hr.mono (by decide)) pass0 rfl (pa_cons (pv 1) (pa_cons (pe_callB lenT (by rfl) T.len bb_len (pa_cons (pv 0) pa_nil)) pa_nil))))) pa_nil)))))))
        (pss_one (ps_raiseN XR (hr.mono (by decide)) rfl (takes_of rfl rfl rfl rfl) rfl (pa_cons (pv 0) pa_nil)))
        pss_nil)
      (pss_cons (ps_setLc (i := 2) (own := [("row", 1)]) (g := (gName 1)) (tt := tYes) rfl sc_determinant.nd rfl rfl (sw_true rfl rfl rfl (by decide +kernel)) (pi_seq (pv 0)) (blkOk_by (N := N_determinant) (sc := defScope s_determinant) (by decide +kernel)) (fun _ _ _ _ _ => (pg_name (i := 1) sc_determinant.nd rfl (by first | exact Or.inl rfl | exact Or.inr rfl))) (fun _ _ _ _ _ => pts_nil) (fun _ _ _ _ _ => (pe_callTy listT (by rfl) T.list bb_list (pa_cons (pv 1) pa_nil))))
      (pss_cons (ps_set (i := 3) sc_determinant.nd rfl (.inl rfl) pe_int)
      (pss_cons (ps_set (i := 4) sc_determinant.nd rfl (.inr rfl) pe_int)
      (pss_cons (ps_while (passes_of rfl) (pt_cmpR (neD hr.units) (pv 2) (pe_lst pa_nil) (nomark _))
        (pss_cons (ps_set (i := 5) sc_determinant.nd rfl (.inl rfl) (pe_cO O_lead_of (hr.mono (by decide)) pass0 rfl (pa_cons (pe_lc (own := [("row", 1)]) (g := (gName 1)) (tt := tYes) rfl sc_determinant.nd (pi_seq (pv 2)) (blkOk_by (N := N_determinant) (sc := defScope s_determinant) (by decide +kernel)) (fun _ _ _ _ _ => (pg_name (i := 1) sc_determinant.nd rfl (by first | exact Or.inl rfl | exact Or.inr rfl))) (fun _ _ _ _ _ => pts_nil) (fun _ _ _ _ _ => (pe_ix ixl (pv 1) pe_int (fun _ _ => rfl)))) pa_nil)))
        (pss_cons (ps_if (pt_cmpR op_isN (pv 5) pe_non (nomark _))
          (pss_one (ps_ret pe_int))
          pss_nil)
        (pss_cons (ps_set (i := 6) sc_determinant.nd rfl (.inr rfl) (pe_ix ixl (pv 2) (pv 5) (fun _ _ => rfl)))
        (C8.pss_cut (ps_if (pt_cmpR op_eq (pe_op op_modN (pv 5) pe_int) pe_int (nomark _))
          (pss_one (ps_set (i := 3) sc_determinant.nd rfl (.inl rfl) (pe_un un_neg (pv 3))))
          pss_nil)
        (pss_cons (ps_setLc (i := 2) (own := [("row", 1)]) (g := (gName 1)) (tt := tYes) rfl sc_determinant.nd rfl rfl (sw_true rfl rfl rfl (by decide +kernel)) (pi_seq (pe_op op_cat (pe_slice sll (pv 2) po_none (po_some (pv 5))) (pe_slice sll (pv 2) (po_some (pe_op op_add (pv 5) pe_int)) po_none))) (blkOk_by (N := N_determinant) (sc := defScope s_determinant) (by decide +kernel)) (fun _ _ _ _ _ => (pg_name (i := 1) sc_determinant.nd rfl (by first | exact Or.inl rfl | exact Or.inr rfl))) (fun _ _ _ _ _ => pts_nil) (fun _ _ _ _ _ => (by exact pe_lc (own := [("entry", 7), ("other", 8)]) (g := _) (tt := tYes) rfl sc_determinant.nd (pi_zipT (by rfl) T.zip (pa_cons (pe_slice sll (pv 1) (po_some pe_int) po_none) (pa_cons (pe_slice sll (pv 6) (po_some pe_int) po_none) pa_nil))) (blkOk_by rfl) (fun _ _ _ _ _ => (pgT (n := 2) (by rfl) (pgs_cons (pg_name (i := 7) sc_determinant.nd rfl (by first | exact Or.inl rfl | exact Or.inr rfl)) (pgs_cons (pg_name (i := 8) sc_determinant.nd rfl (by first | exact Or.inl rfl | exact Or.inr rfl)) pgs_nil)))) (fun _ _ _ _ _ => pts_nil) (fun _ _ _ _ _ => (pe_op op_divS (pe_op op_sub (pe_op op_mulS (pe_ix ixl (pv 6) pe_int (fun _ _ => rfl)) (pv 7)) (pe_op op_mulS (pe_ix ixl (pv 1) pe_int (fun _ _ => rfl)) (pv 8))) (pv 4))))))
        (pss_one (ps_set (i := 4) sc_determinant.nd rfl (.inr rfl) (pe_ix ixl (pv 6) pe_int (fun _ _ => rfl))))))))))
      (pss_one (ps_ret (pe_op op_mulS (pv 3) (pv 4))))))))), ?_⟩
    refine ⟨_, rfl, (by show 2 ≤ sizeLine; decide), fun t ht => ?_⟩
    have s1 : Same H (upd H t (.tup [.ty "list", .ty "tuple"])) := Same.new ht
    have d1 := hd.fr (Fr.of s1)
    refine ⟨_, _, _, _, _, _, rfl, upd_same, pairedLT, d1.ty, d1.kSeq, _, rfl, ?_⟩
    generalize upd H t (.tup [.ty "list", .ty "tuple"]) = H1 at s1 d1 ⊢
    -- what the raise asks
    have bad : ∀ H2, Same H H2 → okTab d = false → ∀ dx, H2 dx = none → E (.ref CR) (some dx) (upd H2 dx (.xd [("value", v)])) := by
      intro H2 s2 ok dx hx
      rcases z with ⟨n, M, _, sq, it, _⟩ | ⟨_, q⟩
      · rw [isTab_ok it sq] at ok
        cases ok
      · exact q H2 dx s2 hx
    cases e : isSeq d with
    | false =>
      refine iteT ?_
      refine ⟨_, rfl, rfl, (by simp), flies1 fun dx hx => bad _ s1 ?_ dx hx⟩
      unfold okTab
      rw [e]
      rfl
    | true =>
      refine iteF ?_
      obtain ⟨a, xs, rfl, dx, ha, _⟩ := d1.seq e
      have hl := dx.len
      obtain ⟨o, ho, ha'⟩ : ∃ o, (o = .lst xs ∨ o = .tup xs) ∧ H1 a = some o := ha.elim (fun h => ⟨_, .inl rfl, h⟩) fun h => ⟨_, .inr rfl, h⟩
      have sqa : ∀ {H2}, Same H1 H2 → Sq_ H2 a xs := fun s2 => ha.imp (fun h => s2 _ _ h) fun h => s2 _ _ h
      refine ⟨_, rfl, a, xs, o, rfl, ho, ha', fun J w D hD => ?_⟩
      refine lc_vals w Z0 (fun _ => True) ((itemsD d).map fun r => V.bl (isLine r (itemsD d).length)) (by simp [hl]) hD id True.intro (fun _ _ _ _ => True.intro) (by rw [hl]; exact Nat.lt_of_le_of_lt few (by decide)) (fun H f => f _ _ ha' id) ?_ ?_
      · intro i x k H2 H3 Qk ek f _ _ y q
        obtain ⟨rfl, ex⟩ := y
        rw [List.getElem?_map] at ek
        obtain ⟨di, e1, rfl⟩ := Option.map_eq_some_iff.mp ek
        obtain ⟨d', e2, dt⟩ := dx.get ex
        rw [e1] at e2
        cases e2
        refine ⟨rfl, _, rfl, _, rfl, a, xs, rfl, sqa f.same, ?_⟩
        refine ⟨_, di, _, rfl, dt.fr f, few2 _ (List.mem_of_getElem? e1), fun H' s' => ?_⟩
        rw [hl]
        exact q _ (Fr.of s') True.intro
      · intro H4 f _ hD4
        refine ⟨D, (itemsD d).map (fun r => isLine r (itemsD d).length), rfl, by rw [hD4, List.map_map]; rfl, ?_⟩
        refine ⟨_, rfl, ?_⟩
        have ea : ((itemsD d).map fun r => isLine r (itemsD d).length).all id = okTab d := by
          unfold okTab
          rw [e, Bool.true_and, List.all_map]
          rfl
        rw [ea]
        cases ok : okTab d with
        | false =>
          refine iteT ?_
          exact ⟨_, rfl, rfl, (by simp), flies1 fun dx hx => bad _ (s1.trans f.same) ok dx hx⟩
        | true =>
          refine iteF ?_
          rcases z with ⟨n, M, n4, sq, ⟨t1, t2, t3⟩, q⟩ | ⟨ok2, _⟩
          · -- the rows, as lists
            refine ⟨_, rfl, a, xs, o, rfl, ho, f _ _ ha' id, fun J w D2 hD2 => ?_⟩
            have dx4 : DtAll Z0 H4 xs (itemsD d) := dx.fr f
            refine lc_dat w Z0 (fun _ => True) (M.map dRow) (by rw [hl, t2, List.length_map]) hD2 id True.intro (fun _ _ _ _ => True.intro) (by rw [hl]; exact Nat.lt_of_le_of_lt few (by decide)) (fun H f2 => f2 _ _ (f _ _ ha' id) id) ?_ ?_
            · intro i x dm H5 H6 Qk em f2 _ ne y q2
              obtain ⟨rfl, ex⟩ := y
              rw [List.getElem?_map] at em
              obtain ⟨m, e1, rfl⟩ := Option.map_eq_some_iff.mp em
              obtain ⟨d', e2, dt⟩ := (dx4.fr f2).get ex
              obtain ⟨u1, u2⟩ := t3 i d' m e2 e1
              obtain ⟨ra, ys, rfl, dy, hy, _⟩ := dt.seq u1
              rw [u2] at dy
              have ey := dy.ints_eq
              subst ey
              refine ⟨rfl, _, rfl, ra, _, rfl, hy, fun p np => ?_⟩
              exact q2 _ _ (Fr.new np) True.intro (.lst upd_same (zu_ne id (ne p np)) (DtAll.ints m))
            · intro H5 ys f2 _ hD5 dy
              have f5 : Fr Z0 H1 H5 := f.trans f2
              refine while_by (fun σ H' => ∃ R n M' s p x5 x6, Fr Z0 H1 H' ∧ σ = [some (.ref a), none, some (.ref R), some (.int s), some (.int p), x5, x6, none, none] ∧ Dt Z0 H' (.ref R) (dTab M') ∧ St50 n M' s p (lapT M.length M)) (fun σ H' => mu50 σ H')
                ⟨D2, M.length, M, 1, 1, none, none, f5, rfl, .lst hD5 id (DtAll.mono' (fun _ m => .inl m) dy), start50 (by rw [sq.1]; exact n4) (by rw [sq.1]; exact sq)⟩ ?_ ?_
              · rintro σ H6 ⟨R, n6, M6, s6, p6, x5, x6, f6, rfl, dR, st⟩
                refine ⟨_, rfl, (by show 0 ≤ sizeLine; decide), fun l0 hl0 => ?_⟩
                have s7 : Same H6 (upd H6 l0 (.lst [])) := Same.new hl0
                refine ⟨_, .list [], Z0, Z0, dR.fr (Fr.of s7), .lst upd_same id .nil, (shp_tab _).ok, (shp_list (n := 0) (by simp)).ok, _, rfl, ?_⟩
                have dR7 := dR.fr (Fr.of s7)
                have f7 : Fr Z0 H1 (upd H6 l0 (.lst [])) := f6.trans (Fr.of s7)
                generalize upd H6 l0 (.lst []) = H7 at s7 dR7 f7 ⊢
                rw [show dTab M6 = .list (M6.map dRow) from rfl, eqv_nil]
                obtain ⟨sh1, sh2, sh3, sh4, sh5, sh6⟩ := st.shape
                cases n6 with
                | zero =>
                  obtain ⟨rfl, e7, b7, s7'⟩ := st
                  refine iteF ?_
                  refine ⟨_, rfl, _, rfl, _, _, rfl, rfl, ⟨by rcases s7' with rfl | rfl <;> exact ⟨by decide, by decide⟩, b7.sm⟩, ?_⟩
                  show Q (.int (s6 * p6)) H7
                  rw [e7, sq.1]
                  exact q H7 (s1.trans f7.same)
                | succ k =>
                  have ne7 : (M6.map dRow).isEmpty = false := by
                    cases M6 with
                    | nil => simp at sh1
                    | cons r M6 => rfl
                  rw [ne7]
                  refine iteT ?_
                  obtain ⟨_, xs6, eR, hR, _, dx6⟩ := Dt.lst_inv (ds := M6.map dRow) dR7
                  cases eR
                  have hl6 : xs6.length = k + 1 := by rw [dx6.len, List.length_map, sh1]
                  -- the rows' first entries
                  refine ⟨_, rfl, R, xs6, _, rfl, .inl rfl, hR, fun J w D8 hD8 => ?_⟩
                  refine lc_ints w Z0 (fun _ => True) (heads M6) (by rw [hl6]; simp [heads, sh1]) hD8 id True.intro (fun _ _ _ _ => True.intro) (by rw [hl6]; exact Nat.lt_of_le_of_lt (Nat.le_trans sh2 (by decide : 4 ≤ 1000)) (by decide)) (fun H f2 => f2 _ _ hR id) ?_ ?_
                  · intro i x kk H8 H9 Qk ek f8 _ ne y q2
                    obtain ⟨rfl, ex⟩ := y
                    obtain ⟨ra, m, em, rfl, hm, _⟩ := dtab_get dx6 ex
                    have ek' : kk = m.headD 0 := by
                      unfold heads at ek
                      rw [List.getElem?_map, em] at ek
                      exact (Option.some.inj ek).symm
                    subst ek'
                    have lm := sh3 m (List.mem_of_getElem? em)
                    exact ⟨rfl, _, rfl, ra, _, 0, _, rfl, rfl, f8 _ _ hm id, at_map (i := 0) (head_at (by omega)), q2 _ Fr.refl True.intro⟩
                  · intro H8 f8 _ hD8'
                    refine ⟨D8, heads M6, rfl, hD8', fun H9 s9 => ?_⟩
                    have f9 : Fr Z0 H7 H9 := f8.trans (Fr.of s9)
                    have tn := turn50 st
                    unfold Tn50 at tn
                    unfold leadV
                    cases el : leadOf (heads M6) with
                    | none =>
                      rw [el] at tn
                      refine ⟨_, rfl, rfl, _, rfl, iteP rfl ?_⟩
                      show Q (.int 0) H9
                      have := q H9 (s1.trans (f7.trans f9).same)
                      rw [← sq.1, tn] at this
                      exact this
                    | some i =>
                      rw [el] at tn
                      obtain ⟨hi, st'⟩ := tn
                      refine ⟨_, rfl, rfl, _, rfl, iteN (by simp) ?_⟩
                      have hi6 : i < xs6.length := by omega
                      obtain ⟨la, lm, em, elx, hlm, _⟩ := dtab_get dx6 (List.getElem?_eq_getElem hi6)
                      have hR9 := f9 _ _ hR id
                      refine ⟨_, rfl, _, rfl, R, xs6, (i : Int), _, rfl, rfl, hR9, atI_nat (List.getElem?_eq_getElem hi6), ?_⟩
                      rw [elx]
                      refine ⟨fun σ' H' => σ' = [some (.ref a), none, some (.ref R), some (.int (sgn50 i s6)), some (.int p6), some (.int (i : Nat)), some (.ref la), none, none] ∧ H' = H9, ?_, ?_⟩
                      · refine ⟨_, rfl, _, _, rfl, rfl, (by show (2 : Int) ≠ 0; decide), rfl, _, rfl, ?_⟩
                        refine ite2 (fun c => ?_) (fun c => ?_)
                        · refine ⟨_, rfl, _, rfl, ?_, rfl⟩
                          have : sgn50 i s6 = -s6 := by
                            unfold sgn50
                            rw [if_pos (of_veq c)]
                          rw [this]
                          rfl
                        · refine ⟨?_, rfl⟩
                          have : sgn50 i s6 = s6 := by
                            unfold sgn50
                            rw [if_neg (of_vne c)]
                          rw [this]
                          rfl
                      rintro _ H9 ⟨rfl, rfl⟩
                      -- the rows that come next
                      refine ⟨_, rfl, _, rfl, _, rfl, R, xs6, rfl, hR9, fun q1 nq1 => ?_⟩
                      rw [cut_to]
                      have f10 : Fr Z0 H9 (upd H9 q1 (.lst (xs6.take i))) := Fr.new nq1
                      have e10 : (upd H9 q1 (.lst (xs6.take i))) q1 = some (.lst (xs6.take i)) := upd_same
                      generalize upd H9 q1 (.lst (xs6.take i)) = H10 at f10 e10 ⊢
                      refine ⟨_, rfl, _, rfl, _, _, rfl, rfl, _, rfl, R, xs6, rfl, f10 _ _ hR9 id, fun q2 nq2 => ?_⟩
                      rw [show ((i : Nat) : Int) + 1 = ((i + 1 : Nat) : Int) by omega, cut_from]
                      have f11 : Fr Z0 H10 (upd H10 q2 (.lst (xs6.drop (i + 1)))) := Fr.new nq2
                      have e11 : (upd H10 q2 (.lst (xs6.drop (i + 1)))) q2 = some (.lst (xs6.drop (i + 1))) := upd_same
                      generalize upd H10 q2 (.lst (xs6.drop (i + 1))) = H11 at f11 e11 ⊢
                      refine ⟨q1, q2, _, _, rfl, rfl, f11 _ _ e10 id, e11, (by rw [List.length_take, List.length_drop]; exact Nat.le_trans (by omega : _ ≤ 4) (by decide)), fun q3 nq3 => ?_⟩
                      have f12 : Fr Z0 H11 (upd H11 q3 (.lst (xs6.take i ++ xs6.drop (i + 1)))) := Fr.new nq3
                      have e12 : (upd H11 q3 (.lst (xs6.take i ++ xs6.drop (i + 1)))) q3 = some (.lst (xs6.take i ++ xs6.drop (i + 1))) := upd_same
                      generalize upd H11 q3 (.lst (xs6.take i ++ xs6.drop (i + 1))) = H12 at f12 e12 ⊢
                      have f7_12 : Fr Z0 H7 H12 := ((f9.trans f10).trans f11).trans f12
                      have hlen : (xs6.take i ++ xs6.drop (i + 1)).length = k := by
                        rw [List.length_append, List.length_take, List.length_drop]
                        omega
                      have dM : DtAll Z0 H12 (xs6.take i ++ xs6.drop (i + 1)) ((M6.take i ++ M6.drop (i + 1)).map dRow) := by
                        rw [List.map_append, List.map_take, List.map_drop]
                        exact ((dx6.fr f7_12).take i).append ((dx6.fr f7_12).drop (i + 1))
                      have hlm12 := f7_12 _ _ hlm id
                      refine ⟨q3, _, _, rfl, .inl rfl, e12, fun J w D13 hD13 => ?_⟩
                      have hsub : ∀ m ∈ M6.take i ++ M6.drop (i + 1), m ∈ M6 := by
                        intro m hm
                        rcases List.mem_append.mp hm with h | h
                        · exact List.mem_of_mem_take h
                        · exact List.mem_of_mem_drop h
                      have elm : (M6.getD i []) = lm := by rw [List.getD_eq_getElem?_getD, em]; rfl
                      have lmem : lm ∈ M6 := List.mem_of_getElem? em
                      have llen := sh3 lm lmem
                      refine lc_dat w Z0 (fun _ => True) ((nextRows M6 i p6).map dRow) (by rw [hlen, List.length_map, nextRows, List.length_map, List.length_append, List.length_take, List.length_drop]; omega) hD13 id True.intro (fun _ _ _ _ => True.intro) (by rw [hlen]; exact Nat.lt_of_le_of_lt (by omega : k ≤ 4) (by decide)) (fun H f2 => f2 _ _ e12 id) ?_ ?_
                      · intro j x dm Hx H13 Qk edm f13 _ ne y q2'
                        obtain ⟨rfl, ex⟩ := y
                        obtain ⟨ra, m, em2, rfl, hm, _⟩ := dtab_get dM ex
                        have edm' : dm = dRow (nextRow lm p6 m) := by
                          rw [List.getElem?_map, nextRows, List.getElem?_map, em2, elm] at edm
                          exact (Option.some.inj edm).symm
                        subst edm'
                        have mmem := hsub m (List.mem_of_getElem? em2)
                        have mlen := sh3 m mmem
                        refine ⟨rfl, ?_⟩
                        refine ⟨_, rfl, _, rfl, ra, _, rfl, f13 _ _ hm id, fun r1 nr1 => ?_⟩
                        rw [cut_one]
                        have f14 : Fr Z0 H13 (upd H13 r1 (.lst ((m.map V.int).drop 1))) := Fr.new nr1
                        have e14 : (upd H13 r1 (.lst ((m.map V.int).drop 1))) r1 = some (.lst ((m.map V.int).drop 1)) := upd_same
                        generalize upd H13 r1 (.lst ((m.map V.int).drop 1)) = H14 at f14 e14 ⊢
                        have f12_14 : Fr Z0 H12 H14 := f13.trans f14
                        refine ⟨_, rfl, _, rfl, la, _, rfl, f12_14 _ _ hlm12 id, fun r2 nr2 => ?_⟩
                        rw [cut_one]
                        have f15 : Fr Z0 H14 (upd H14 r2 (.lst ((lm.map V.int).drop 1))) := Fr.new nr2
                        have e15 : (upd H14 r2 (.lst ((lm.map V.int).drop 1))) r2 = some (.lst ((lm.map V.int).drop 1)) := upd_same
                        generalize upd H14 r2 (.lst ((lm.map V.int).drop 1)) = H15 at f15 e15 ⊢
                        have f12_15 : Fr Z0 H12 H15 := f12_14.trans f15
                        refine ⟨r1, r2, _, _, rfl, f15 _ _ e14 id, e15, fun J2 w2 D16 hD16 => ?_⟩
                        have nD : D16 ≠ D13 := ne D16 (by
                          cases h : H13 D16 with
                          | none => rfl
                          | some u => rw [(f14.trans f15) _ _ h id] at hD16; cases hD16)
                        refine lc_ints w2 Z0 (fun _ => True) (nextRow lm p6 m) ?_ hD16 id True.intro (fun _ _ _ _ => True.intro) ?_ (fun H f2 => ⟨f2 _ _ (f15 _ _ e14 id) id, f2 _ _ e15 id⟩) ?_ ?_
                        · unfold nextRow
                          rw [List.length_zipWith, List.length_drop, List.length_drop, List.length_map, List.length_map, List.length_tail, List.length_tail]
                        · rw [List.length_drop, List.length_drop, List.length_map, List.length_map]
                          exact Nat.lt_of_le_of_lt (by omega : _ ≤ 4) (by decide)
                        · intro c x kk Hy H16 Qk2 ek f16 _ ne2 y q3'
                          obtain ⟨T6, x1, x2, rfl, nT, rfl, ex1, ex2⟩ := y
                          have ex1 : ((m.map V.int).drop 1)[c]? = some x1 := ex1
                          have ex2 : ((lm.map V.int).drop 1)[c]? = some x2 := ex2
                          rw [List.getElem?_drop, List.getElem?_map] at ex1 ex2
                          obtain ⟨e, ee, rfl⟩ := Option.map_eq_some_iff.mp ex1
                          obtain ⟨o', eo, rfl⟩ := Option.map_eq_some_iff.mp ex2
                          have ekk : kk = nx1 (lm.headD 0) (m.headD 0) p6 e o' := by
                            unfold nextRow at ek
                            rw [List.getElem?_zipWith, List.getElem?_tail, List.getElem?_tail, Nat.add_comm c 1, ee, eo] at ek
                            exact (Option.some.inj ek).symm
                          subst ekk
                          have bE : Sm e := (sh4 m mmem _ (List.mem_of_getElem? ee)).sm
                          have bO : Sm o' := (sh4 lm lmem _ (List.mem_of_getElem? eo)).sm
                          have hm0 := head_at (m := m) (by omega)
                          have hl0 := head_at (m := lm) (by omega)
                          have bM : Sm (m.headD 0) := (sh4 m mmem _ (List.mem_of_getElem? hm0)).sm
                          have bL : Sm (lm.headD 0) := (sh4 lm lmem _ (List.mem_of_getElem? hl0)).sm
                          have fT : Fr Z0 Hy (upd Hy T6 (.tup [.int e, .int o'])) := Fr.new nT
                          refine ⟨T6, _, rfl, upd_same, rfl, _, _, rfl, _, _, rfl, rfl, rfl, ?_⟩
                          refine ⟨_, rfl, la, _, 0, _, rfl, rfl, fT _ _ ((f12_15.trans f16) _ _ hlm12 id) id, at_map (i := 0) hl0, _, rfl, _, _, rfl, rfl, ⟨bL, bE⟩, ?_⟩
                          refine ⟨_, rfl, ra, _, 0, _, rfl, rfl, fT _ _ ((((f13.trans f14).trans f15).trans f16) _ _ hm id) id, at_map (i := 0) hm0, _, rfl, _, _, rfl, rfl, ⟨bM, bO⟩, ?_⟩
                          refine ⟨_, _, rfl, rfl, _, rfl, _, _, rfl, rfl, ⟨sh6 (by omega), sh5.sm⟩, ?_⟩
                          exact q3' _ fT True.intro
                        · intro H16 f16 _ hD16'
                          exact q2' _ _ ((f14.trans f15).trans f16) True.intro (.lst hD16' (zu_ne id nD) (DtAll.ints _))
                      · intro H13 ys13 f13 _ hD13' dy13
                        have hl0 := head_at (m := lm) (by omega)
                        refine ⟨_, rfl, la, _, 0, _, rfl, rfl, f13 _ _ hlm12 id, at_map (i := 0) hl0, ?_⟩
                        refine ⟨⟨D13, k, nextRows M6 i p6, sgn50 i s6, lm.headD 0, _, _, f7.trans (f7_12.trans f13), rfl, .lst hD13' id (DtAll.mono' (fun _ m => .inl m) dy13), ?_⟩, ?_⟩
                        · rw [elm] at st'
                          exact st'
                        · show mu50 [some (.ref a), none, some (.ref D13), _, _, _, _, _, _] H13 < mu50 [_, _, some (.ref R), _, _, _, _, _, _] H6
                          obtain ⟨_, xs0, eR0, hR0, _, dx0⟩ := Dt.lst_inv (ds := M6.map dRow) dR
                          cases eR0
                          show (match H13 D13 with | some (.lst xs) => xs.length | _ => 0) < (match H6 R with | some (.lst xs) => xs.length | _ => 0)
                          rw [hD13', hR0]
                          show ys13.length < xs0.length
                          rw [dx0.len, dy13.len, List.length_map, List.length_map, nextRows, List.length_map, List.length_append, List.length_take, List.length_drop]
                          omega
              · rintro σ H6 Qa Qb kq ⟨x, e1, e2, h⟩
                refine ⟨x, e1, e2, fun l hl => ?_⟩
                obtain ⟨d1, d2, Z1, Z2, h1, h2, h3, h4, b1, h5, h6⟩ := h l hl
                exact ⟨d1, d2, Z1, Z2, h1, h2, h3, h4, b1, h5, kq _ _ h6⟩
          · rw [ok] at ok2
            cases ok2
end
theorem foldl_bd (f : Nat → Int) (C : Nat) : ∀ (L : List Nat) (a : Int), (∀ j ∈ L, (f j).natAbs ≤ C) → (L.foldl (fun acc j => acc + f j) a).natAbs ≤ a.natAbs + L.length * C
  | [], a, _ => by simp
  | j :: L, a, h => by
    rw [List.foldl_cons]
    have h1 := foldl_bd f C L (a + f j) fun k hk => h k (List.mem_cons_of_mem _ hk)
    have h2 := h j List.mem_cons_self
    have h3 : (a + f j).natAbs ≤ a.natAbs + (f j).natAbs := Int.natAbs_add_le _ _
    rw [List.length_cons, Nat.succ_mul]
    omega
theorem sgn_nat (j : Nat) : (1 - 2 * ((j : Int).fmod 2)).natAbs = 1 := by
  have h1 := Int.fmod_nonneg_of_pos (j : Int) (show (0 : Int) < 2 by decide)
  have h2 := Int.fmod_lt_of_pos (j : Int) (show (0 : Int) < 2 by decide)
  omega
theorem minor_sq {n B j : Nat} {M : List (List Int)} (h : Sq (n + 1) B M) (hj : j < n + 1) : Sq n B (minorOf M j) := by
  obtain ⟨h1, h2, h3⟩ := h
  refine ⟨by simp [minorOf, h1], fun r hr => ?_, fun r hr x hx => ?_⟩
  · obtain ⟨m, hm, rfl⟩ := List.mem_map.mp hr
    have := h2 m (List.mem_of_mem_drop hm)
    rw [List.length_append, List.length_take, List.length_drop]
    omega
  · obtain ⟨m, hm, rfl⟩ := List.mem_map.mp hr
    have hm := List.mem_of_mem_drop hm
    rcases List.mem_append.mp hx with h | h
    · exact h3 m hm x (List.mem_of_mem_take h)
    · exact h3 m hm x (List.mem_of_mem_drop h)
theorem entry_bd {n B j : Nat} {M : List (List Int)} (h : Sq (n + 1) B M) (hj : j < n + 1) : ∃ r, M[0]? = some r ∧ r[j]? = some ((M.headD []).getD j 0) ∧ B50 B ((M.headD []).getD j 0) := by
  obtain ⟨h1, h2, h3⟩ := h
  cases M with
  | nil => simp at h1
  | cons r M =>
    have hl := h2 r List.mem_cons_self
    have hj2 : j < r.length := by omega
    refine ⟨r, rfl, ?_, ?_⟩
    · show r[j]? = some (r.getD j 0)
      rw [List.getD_eq_getElem?_getD, List.getElem?_eq_getElem hj2]
      rfl
    · show B50 B (r.getD j 0)
      rw [List.getD_eq_getElem?_getD, List.getElem?_eq_getElem hj2]
      exact h3 r List.mem_cons_self _ (List.getElem_mem hj2)
theorem lapT_bd {B : Nat} : ∀ (n : Nat) (M : List (List Int)), n ≤ 4 → Sq n B M → B50 (n * (B + 3)) (lapT n M)
  | 0, M, _, _ => by
    unfold lapT B50
    rw [Nat.zero_mul]
    decide
  | n + 1, M, hn, h => by
    unfold lapT
    have key := foldl_bd (fun j : Nat => (1 - 2 * ((j : Int).fmod 2)) * ((M.headD []).getD j 0) * lapT n (minorOf M j)) (2 ^ B * 2 ^ (n * (B + 3))) (List.range (n + 1)) 0 fun j hj => by
      have hj := List.mem_range.mp hj
      obtain ⟨_, _, _, b1⟩ := entry_bd h hj
      have b2 := lapT_bd n (minorOf M j) (by omega) (minor_sq h hj)
      rw [Int.natAbs_mul, Int.natAbs_mul, sgn_nat, Nat.one_mul]
      exact Nat.mul_le_mul b1 b2
    unfold B50
    refine Nat.le_trans key ?_
    rw [List.length_range, ← Nat.pow_add]
    have e : (n + 1) * (B + 3) = (B + n * (B + 3)) + 3 := by rw [Nat.succ_mul]; omega
    rw [e, Nat.pow_add 2 (B + n * (B + 3)) 3]
    have : (n + 1) * 2 ^ (B + n * (B + 3)) ≤ 8 * 2 ^ (B + n * (B + 3)) := Nat.mul_le_mul_right _ (by omega)
    omega
theorem lapT_sm {n : Nat} {M : List (List Int)} (hn : n ≤ 4) (h : Sq n 60 M) : Sm (lapT n M) := by
  have := (lapT_bd n M hn h).mono (show n * (60 + 3) ≤ 487 by omega)
  exact this.sm
def lapSum (n : Nat) (M : List (List Int)) (i : Nat) : Int := (List.range i).foldl (fun acc (j : Nat) => acc + (1 - 2 * ((j : Int).fmod 2)) * ((M.headD []).getD j 0) * lapT n (minorOf M j)) 0
theorem lapSum_succ (n : Nat) (M : List (List Int)) (i : Nat) : lapSum n M (i + 1) = lapSum n M i + (1 - 2 * ((i : Int).fmod 2)) * ((M.headD []).getD i 0) * lapT n (minorOf M i) := by
  unfold lapSum
  rw [List.range_succ, List.foldl_append]
  rfl
section
variable {P : Program} {w : World} {K : PySem.W.Frag} {mg : Str → Option Value} {base : Heap} {aR : Addr}
abbrev s__law_expanded : Stmt := top 13
abbrev N__law_expanded : List Str := ["_law_table_here", "_law_found", "_law_place", "_law_rest", "_law_row"]
theorem sc__law_expanded : FnScope N__law_expanded ["_law_table_here"] (defScope s__law_expanded) := ⟨rfl, rfl, rfl, by decide +kernel, rfl, by decide +kernel, by decide +kernel⟩
def spExp (n : Nat) : Sp := fun vs H Q _ => ∃ v M, vs = [v] ∧ Dt Z0 H v (dTab M) ∧ Sq n 60 M ∧ n ≤ 4 ∧ ∀ H', Same H H' → Q (.int (lapT n M)) H'
theorem fn__law_expanded {f : Addr} {fd : FuncData} (g : mg "_law_expanded" = some (.ref f)) (b : Binds K fd ["_law_table_here"] []) (F : Fun K "_law_expanded" "_law_expanded" s__law_expanded f fd) (T : Txt K mg aR) : ∀ n : Nat, FnOk P w K mg base CX0 (n + 1) f fd ["_law_table_here"] (spExp n)
  | 0 => by
    refine F.ok sc__law_expanded (fun vs H Q E h => ?_) (fun cdv A outer s H vs Q E hr h => ?_)
    · obtain ⟨v, M, rfl, _⟩ := h
      rfl
    · obtain ⟨v, M, rfl, hd, sq, n4, q⟩ := h
      refine ⟨_, (pss_cons (ps_if (pt_cmpR (eqD hr.units) (pv 0) (pe_lst pa_nil) (nomark _))
        (pss_one (ps_ret pe_int))
        pss_nil) (pss_cons ps_never (pss_cons ps_never (pss_one ps_never)))), ?_⟩
      refine ⟨_, rfl, (by show 0 ≤ sizeLine; decide), fun l0 hl0 => ?_⟩
      have s1 : Same H (upd H l0 (.lst [])) := Same.new hl0
      have hd1 := hd.fr (Fr.of s1)
      refine ⟨_, .list [], Z0, Z0, hd1, .lst upd_same id .nil, (shp_tab _).ok, (shp_list (n := 0) (by simp)).ok, _, rfl, ?_⟩
      have eM := List.eq_nil_of_length_eq_zero sq.1
      subst eM
      exact q _ s1
  | n + 1 => by
    have O__law_expanded : Ok P w K mg base (n + 1) "_law_expanded" ["_law_table_here"] (spExp n) := ⟨f, fd, g, F.kp, b, fn__law_expanded g b F T n⟩
    refine F.ok sc__law_expanded (fun vs H Q E h => ?_) (fun cdv A outer s H vs Q E hr h => ?_)
    · obtain ⟨v, M, rfl, _⟩ := h
      rfl
    · obtain ⟨v, M, rfl, hd, sq, n4, q⟩ := h
      refine ⟨_, (pss_cons (ps_if (pt_cmpR (eqD hr.units) (pv 0) (pe_lst pa_nil) (nomark _))
        (pss_one (ps_ret pe_int))
        pss_nil)
      (pss_cons (ps_set (i := 1) sc__law_expanded.nd rfl (.inl rfl) pe_int)
      (pss_cons (ps_for PassesOwn.never rfl (pi_range1 (by rfl) T.range (pa_cons (pe_callB lenT (by rfl) T.len bb_len (pa_cons (pv 0) pa_nil)) pa_nil)) (pg_name (i := 2) sc__law_expanded.nd rfl (.inr rfl))
        (pss_cons (ps_setLc (i := 3) (own := [("_law_row", 4)]) (g := (gName 4)) (tt := tYes) rfl sc__law_expanded.nd rfl rfl (sw_true rfl rfl rfl (by decide +kernel)) (pi_seq (pe_slice sll (pv 0) (po_some pe_int) po_none)) (blkOk_by (N := N__law_expanded) (sc := defScope s__law_expanded) (by decide +kernel)) (fun _ _ _ _ _ => (pg_name (i := 4) sc__law_expanded.nd rfl (.inl rfl))) (fun _ _ _ _ _ => pts_nil) (fun _ _ _ _ _ => (pe_op op_cat (pe_slice sll (pv 4) po_none (po_some (pv 2))) (pe_slice sll (pv 4) (po_some (pe_op op_add (pv 2) pe_int)) po_none))))
        (pss_one (ps_set (i := 1) sc__law_expanded.nd rfl (.inl rfl) (pe_op op_add (pv 1) (pe_op op_mulS (pe_op op_mulS (pe_op op_sub pe_int (pe_op op_mulS pe_int (pe_op op_modN (pe_callTy call_int1 (by rfl) T.int bb_int (pa_cons (pv 2) pa_nil)) pe_int))) (pe_ix ixl (pe_ix ixl (pv 0) pe_int (fun _ _ => rfl)) (pv 2) (fun _ _ => rfl))) (pe_cO O__law_expanded (hr.mono (by omega)) pass0 rfl (pa_cons (pv 3) pa_nil))))))))
      (pss_one (ps_ret (pv 1)))))), ?_⟩
      obtain ⟨aM, xs, rfl, ha, _, dx⟩ := Dt.lst_inv (ds := M.map dRow) hd
      have hl : xs.length = n + 1 := by rw [dx.len, List.length_map, sq.1]
      refine ⟨_, rfl, (by show 0 ≤ sizeLine; decide), fun l0 hl0 => ?_⟩
      have s1 : Same H (upd H l0 (.lst [])) := Same.new hl0
      have hd1 := hd.fr (Fr.of s1)
      refine ⟨_, .list [], Z0, Z0, hd1, .lst upd_same id .nil, (shp_tab _).ok, (shp_list (n := 0) (by simp)).ok, _, rfl, ?_⟩
      generalize upd H l0 (.lst []) = H1 at s1 hd1 ⊢
      rw [show dTab M = .list (M.map dRow) from rfl, eqv_nil, show (M.map dRow).isEmpty = false by
        cases M with
        | nil => simp [Sq] at sq
        | cons r M => rfl]
      refine iteF ?_
      refine ⟨_, rfl, aM, xs, rfl, .inl (s1 _ _ ha), (n + 1 : Nat), by rw [hl], by omega, by omega, ?_⟩
      refine for_it walk_range (fun i σ H' => i ≤ n + 1 ∧ Same H H' ∧ ∃ x2 x3, σ = [some (.ref aM), some (.int (lapSum n M i)), x2, x3, none]) ⟨Nat.zero_le _, s1, none, none, rfl⟩ (fun _ _ _ _ _ => True.intro) ?_ ?_
      · rintro i x σ H2 H3 hi ⟨_, s2, x2, x3, rfl⟩ ⟨rfl, rfl⟩
        have hi : i < n + 1 := hi
        show gName 2 (V.int (0 + ((i : Nat) : Int))) _ _ _
        rw [Int.zero_add]
        have ha2 := s2 _ _ ha
        refine ⟨_, rfl, _, rfl, aM, xs, rfl, ha2, fun q1 nq1 => ?_⟩
        rw [cut_one]
        have f3 : Fr Z0 H3 (upd H3 q1 (.lst (xs.drop 1))) := Fr.new nq1
        have e3 : (upd H3 q1 (.lst (xs.drop 1))) q1 = some (.lst (xs.drop 1)) := upd_same
        generalize upd H3 q1 (.lst (xs.drop 1)) = H4 at f3 e3 ⊢
        have s4 : Same H H4 := s2.trans f3.same
        have dM : DtAll Z0 H4 (xs.drop 1) ((M.drop 1).map dRow) := by
          rw [List.map_drop]
          exact (dx.fr (Fr.of s4)).drop 1
        have hlen : (xs.drop 1).length = n := by rw [List.length_drop]; omega
        refine ⟨q1, _, _, rfl, .inl rfl, e3, fun J w D hD => ?_⟩
        have sqm := minor_sq sq hi
        refine lc_dat w Z0 (fun _ => True) ((minorOf M i).map dRow) (by rw [hlen, List.length_map]; exact sqm.1) hD id True.intro (fun _ _ _ _ => True.intro) (by rw [hlen]; exact Nat.lt_of_le_of_lt (by omega : n ≤ 4) (by decide)) (fun H f2 => f2 _ _ e3 id) ?_ ?_
        · intro j x dm Hx H5 Qk edm f5 _ ne y q2
          obtain ⟨rfl, ex⟩ := y
          obtain ⟨ra, m, em, rfl, hm, _⟩ := dtab_get dM ex
          have edm' : dm = dRow (m.take i ++ m.drop (i + 1)) := by
            unfold minorOf at edm
            rw [List.getElem?_map, List.getElem?_map, em] at edm
            exact (Option.some.inj edm).symm
          subst edm'
          have lm := sq.2.1 m (List.mem_of_mem_drop (List.mem_of_getElem? em))
          refine ⟨rfl, ?_⟩
          refine ⟨_, rfl, _, rfl, _, rfl, ra, _, rfl, f5 _ _ hm id, fun p1 np1 => ?_⟩
          rw [cut_to, ← List.map_take]
          have f6 : Fr Z0 H5 (upd H5 p1 (.lst ((m.take i).map V.int))) := Fr.new np1
          have e6 : (upd H5 p1 (.lst ((m.take i).map V.int))) p1 = some (.lst ((m.take i).map V.int)) := upd_same
          generalize upd H5 p1 (.lst ((m.take i).map V.int)) = H6 at f6 e6 ⊢
          refine ⟨_, rfl, _, rfl, _, _, rfl, rfl, _, rfl, ra, _, rfl, f6 _ _ (f5 _ _ hm id) id, fun p2 np2 => ?_⟩
          rw [show ((i : Nat) : Int) + 1 = ((i + 1 : Nat) : Int) by omega, cut_from, ← List.map_drop]
          have f7 : Fr Z0 H6 (upd H6 p2 (.lst ((m.drop (i + 1)).map V.int))) := Fr.new np2
          have e7 : (upd H6 p2 (.lst ((m.drop (i + 1)).map V.int))) p2 = some (.lst ((m.drop (i + 1)).map V.int)) := upd_same
          generalize upd H6 p2 (.lst ((m.drop (i + 1)).map V.int)) = H7 at f7 e7 ⊢
          refine ⟨p1, p2, _, _, rfl, rfl, f7 _ _ e6 id, e7, (by rw [List.length_map, List.length_map, List.length_take, List.length_drop]; exact Nat.le_trans (by omega : _ ≤ 5) (by decide)), fun p3 np3 => ?_⟩
          rw [← List.map_append]
          have n3 : p3 ≠ D := ne p3 (by
            cases h : H5 p3 with
            | none => rfl
            | some u => rw [(f6.trans f7) _ _ h id] at np3; cases np3)
          exact q2 _ _ ((f6.trans f7).trans (Fr.new np3)) True.intro (.lst upd_same (zu_ne id n3) (DtAll.ints _))
        · intro H5 ys f5 _ hD5 dy
          have s5 : Same H H5 := s4.trans f5.same
          obtain ⟨r0, em0, ej, bj⟩ := entry_bd sq hi
          have hx0 : 0 < xs.length := by omega
          obtain ⟨r0a, m0, em0', er0, hr0, _⟩ := dtab_get dx (List.getElem?_eq_getElem hx0)
          rw [em0] at em0'
          cases em0'
          have bj' : Sm ((M.headD []).getD i 0) := (bj.mono (by decide : 60 ≤ 487)).sm
          have sgn : Sm (1 - 2 * ((i : Int).fmod 2)) := by
            have := sgn_nat i
            exact ⟨by omega, by omega⟩
          have smod : Sm ((i : Int).fmod 2) := by
            have := sgn_nat i
            exact ⟨by omega, by omega⟩
          have sprod : Sm ((1 - 2 * ((i : Int).fmod 2)) * ((M.headD []).getD i 0)) := by
            have : B50 487 ((1 - 2 * ((i : Int).fmod 2)) * ((M.headD []).getD i 0)) := by
              have b := bj.mono (by decide : 60 ≤ 487)
              unfold B50 at b ⊢
              rw [Int.natAbs_mul, sgn_nat, Nat.one_mul]
              exact b
            exact this.sm
          refine ⟨_, rfl, _, rfl, .inl ⟨_, rfl, _, _, rfl, rfl, (by show (2 : Int) ≠ 0; decide), _, _, rfl, rfl, ⟨⟨by decide, by decide⟩, smod⟩, _, _, rfl, rfl, ?_⟩⟩
          refine ⟨_, rfl, aM, xs, 0, _, rfl, rfl, s5 _ _ ha, atI_nat (j := 0) (List.getElem?_eq_getElem hx0), _, rfl, ?_⟩
          rw [er0]
          refine ⟨r0a, _, (i : Int), _, rfl, rfl, s5 _ _ hr0, at_map ej, _, _, rfl, rfl, ⟨sgn, bj'⟩, ?_⟩
          refine ⟨_, rfl, _, minorOf M i, rfl, .lst hD5 id (DtAll.mono' (fun _ m => .inl m) dy), sqm, by omega, fun H6 s6 => ?_⟩
          refine ⟨_, _, rfl, rfl, ⟨sprod, lapT_sm (by omega) sqm⟩, _, _, rfl, rfl, by omega, s5.trans s6, some (.int (i : Nat)), some (.ref D), ?_⟩
          rw [lapSum_succ]
          rfl
      · rintro σ H2 ⟨_, s2, x2, x3, rfl⟩
        exact ⟨_, rfl, q H2 s2⟩
def spExpA : Sp := fun vs H Q E => ∃ n, n ≤ 4 ∧ spExp n vs H Q E
theorem ok__law_expanded (h : Has K mg "_law_expanded" s__law_expanded ["_law_table_here"]) (T : Txt K mg aR) : Ok P w K mg base 5 "_law_expanded" ["_law_table_here"] spExpA := by
  obtain ⟨f, fd, g, b, F⟩ := h
  refine ⟨f, fd, g, F.kp, b, ⟨fun vs H Q E ⟨n, n4, h⟩ => (fn__law_expanded (P := P) (w := w) (base := base) g b F T n).len vs H Q E h, ?_⟩⟩
  rintro A outer s H args us vs Q E hr e0 bt r ⟨n, n4, h⟩
  exact (fn__law_expanded g b F T n).run A outer s H args us vs Q E (hr.mono (by omega)) e0 bt r h
end
section
variable {P : Program} {w : World} {K : PySem.W.Frag} {mg : Str → Option Value} {base : Heap} {aR : Addr}
abbrev s__law_table : Stmt := top 14
abbrev N__law_table : List Str := ["_law_pool_here", "_law_many", "_law_wide", "_law_most", "_law_table_here", "_law_column", "_law_row", "_law_times", "_law_one"]
theorem sc__law_table : FnScope N__law_table ["_law_pool_here"] (defScope s__law_table) := ⟨rfl, rfl, rfl, by decide +kernel, rfl, by decide +kernel, by decide +kernel⟩
def spTable : Sp := fun vs H Q _ => ∃ pp, vs = [.ref pp] ∧ PoolAt H pp ∧ ∀ n M t H', n ≤ 4 → Sq n 50 M → Dt (Zp pp) H' (.ref t) (dTab M) → PoolAt H' pp → Keep pp H H' → Q (.ref t) H'
theorem Sq.mono {n B C : Nat} {M : List (List Int)} (h : Sq n B M) (z : B ≤ C) : Sq n C M := ⟨h.1, h.2.1, fun r hr x hx => (h.2.2 r hr x hx).mono z⟩
theorem Fr.free {Z : Addr → Prop} {H H' : Hp} {D : Addr} (f : Fr Z H H') (z : ¬ Z D) (h : H' D = none) : H D = none := by
  cases e : H D with
  | none => rfl
  | some o =>
    rw [f _ _ e z] at h
    cases h
theorem rows_of {Z : Addr → Prop} {H : Hp} {n B : Nat} {xs : List V} (hx : xs.length = n) (h : ∀ (j : Nat) (y : V), xs[j]? = some y → ∃ m, (m.length = n ∧ ∀ k ∈ m, B50 B k) ∧ Dt Z H y (dRow m)) : ∃ M, Sq n B M ∧ DtAll Z H xs (M.map dRow) := by
  obtain ⟨M, hl, hr⟩ := choose_list (R := fun y m => (m.length = n ∧ ∀ k ∈ m, B50 B k) ∧ Dt Z H y (dRow m)) xs h
  refine ⟨M, ⟨by omega, fun r hr' => ?_, fun r hr' => ?_⟩, DtAll.of_get (by simp [hl]) fun i v d e1 e2 => ?_⟩
  · obtain ⟨y, _, z, _⟩ := mem_of_pair hl hr hr'
    exact z.1
  · obtain ⟨y, _, z, _⟩ := mem_of_pair hl hr hr'
    exact z.2
  · rw [List.getElem?_map] at e2
    obtain ⟨m, e3, rfl⟩ := Option.map_eq_some_iff.mp e2
    exact (hr i v m e1 e3).2
theorem ok__law_table (h : Has K mg "_law_table" s__law_table ["_law_pool_here"]) (T : Txt K mg aR) (O__law_draw : Ok P w K mg base 1 "_law_draw" ["_law_pool_here", "_law_many"] spDraw) : Ok P w K mg base 2 "_law_table" ["_law_pool_here"] spTable := by
  obtain ⟨f, fd, g, b, F⟩ := h
  refine ⟨f, fd, g, F.kp, b, F.ok sc__law_table (fun vs H Q E h => ?_) (fun cdv A outer s H vs Q E hr h => ?_)⟩
  · obtain ⟨pp, rfl, _⟩ := h
    rfl
  · obtain ⟨pp, rfl, hP, q⟩ := h
    refine ⟨_, (pss_cons (ps_asg (pe_tup (pa_cons (pe_cO O__law_draw (hr.mono (by decide)) pass0 rfl (pa_cons (pv 0) (pa_cons pe_int pa_nil))) (pa_cons (pe_cmpR op_eq (pe_cO O__law_draw (hr.mono (by decide)) pass0 rfl (pa_cons (pv 0) (pa_cons pe_int pa_nil))) pe_int (nomark _)) pa_nil))) (pgT (n := 2) (by rfl) (pgs_cons (pg_name (i := 1) sc__law_table.nd rfl (.inr rfl)) (pgs_cons (pg_name (i := 2) sc__law_table.nd rfl (.inl rfl)) pgs_nil))))
      (C8.pss_cut (ps_set (i := 3) sc__law_table.nd rfl (.inr rfl) (pe_ifExp (pt_val (pv 2)) (pe_op op_pow pe_int pe_int) pe_int))
      (pss_cons (ps_setLc (i := 4) (own := [("_law_row", 6)]) (g := (gName 6)) (tt := tYes) rfl sc__law_table.nd rfl rfl (sw_true rfl rfl rfl (by decide +kernel)) (pi_range1 (by rfl) T.range (pa_cons (pv 1) pa_nil)) (blkOk_by (N := N__law_table) (sc := defScope s__law_table) (by decide +kernel)) (fun _ _ _ _ _ => (pg_name (i := 6) sc__law_table.nd rfl (by first | exact Or.inl rfl | exact Or.inr rfl))) (fun _ _ _ _ _ => pts_nil) (fun _ _ _ _ _ => (by exact pe_lc (own := [("_law_column", 5)]) (g := (gName 5)) (tt := tYes) rfl sc__law_table.nd (pi_range1 (by rfl) T.range (pa_cons (pv 1) pa_nil)) (blkOk_by rfl) (fun _ _ _ _ _ => (pg_name (i := 5) sc__law_table.nd rfl (by first | exact Or.inl rfl | exact Or.inr rfl))) (fun _ _ _ _ _ => pts_nil) (fun _ _ _ _ _ => (pe_op op_sub (pe_cO O__law_draw (hr.mono (by decide)) pass0 rfl (pa_cons (pv 0) (pa_cons (pe_op op_add (pe_op op_mulS pe_int (pv 3)) pe_int) pa_nil))) (pv 3))))))
      (pss_cons (ps_if (PW.pt (pw_and (pt_cmpR op_gt (pv 1) pe_int (nomark _)) (pw_and1 (pt_cmpR op_eq (pe_cO O__law_draw (hr.mono (by decide)) pass0 rfl (pa_cons (pv 0) (pa_cons pe_int pa_nil))) pe_int (nomark _)))))
        (pss_cons (ps_set (i := 7) sc__law_table.nd rfl (.inr rfl) (pe_op op_sub (pe_cO O__law_draw (hr.mono (by decide)) pass0 rfl (pa_cons (pv 0) (pa_cons pe_int pa_nil))) pe_int))
        (pss_one (ps_asg (pe_lc (own := [("_law_one", 8)]) (g := (gName 8)) (tt := tYes) rfl sc__law_table.nd (pi_seq (pe_ix ixl (pv 4) pe_int (fun _ _ => rfl))) (blkOk_by (N := N__law_table) (sc := defScope s__law_table) (by decide +kernel)) (fun _ _ _ _ _ => (pg_name (i := 8) sc__law_table.nd rfl (.inl rfl))) (fun _ _ _ _ _ => pts_nil) (fun _ _ _ _ _ => (pe_op op_mulS (pv 7) (pv 8)))) (pg_sub (pv 4) (pe_un un_neg pe_int) set_list))))
        pss_nil)
      (pss_one (ps_ret (pv 4))))))), ?_⟩
    refine ⟨_, rfl, pp, 5, rfl, by decide, ⟨by decide, by decide⟩, hP, fun n0 H1 n0l n0h P1 k1 => ?_⟩
    obtain ⟨n, rfl⟩ : ∃ n : Nat, n0 = n := ⟨n0.toNat, (Int.toNat_of_nonneg n0l).symm⟩
    have n4 : n ≤ 4 := by omega
    refine ⟨_, rfl, pp, 4, rfl, by decide, ⟨by decide, by decide⟩, P1, fun c H2 c0 c1 P2 k2 => ?_⟩
    refine ⟨rfl, (by show 2 ≤ sizeLine; decide), fun t0 ht0 => ?_⟩
    refine ⟨t0, _, rfl, upd_same, rfl, _, _, rfl, _, _, rfl, rfl, ?_⟩
    have P3 : PoolAt (upd H2 t0 (.tup [.int n, .bl (decide (V.int c = V.int 0))])) pp := P2.same (Same.new ht0)
    have k3 : Fr (Zp pp) H (upd H2 t0 (.tup [.int n, .bl (decide (V.int c = V.int 0))])) := ((k1.fr.trans k2.fr)).trans (Fr.new ht0)
    generalize upd H2 t0 (.tup [.int n, .bl (decide (V.int c = V.int 0))]) = H3 at P3 k3 ⊢
    refine ⟨fun σ' H' => H' = H3 ∧ ∃ mo : Int, 0 ≤ mo ∧ mo ≤ 10 ^ 12 ∧ σ' = [some (.ref pp), some (.int n), some (.bl (decide (V.int c = V.int 0))), some (.int mo), none, none, none, none, none], ?_, ?_⟩
    · refine ⟨_, rfl, _, rfl, ?_⟩
      refine ite2 (fun cc => ?_) (fun cc => ?_)
      · exact ⟨_, _, rfl, rfl, ⟨by decide, by decide, by decide⟩, rfl, 10 ^ 12, by decide, by decide, rfl⟩
      · exact ⟨rfl, 3, by decide, by decide, rfl⟩
    rintro _ H3 ⟨rfl, mo, m0, m1, rfl⟩
    refine ⟨_, rfl, _, rfl, by omega, by omega, fun D hD => ?_⟩
    have zD := P3.zp hD
    have few : (n : Int).toNat < sizeLine := Nat.lt_of_le_of_lt (by omega : (n : Int).toNat ≤ 4) (by decide)
    refine lc_acc walk_range (Zp pp) (fun H => PoolAt H pp) (fun i y H => ∃ m : List Int, (m.length = n ∧ ∀ k ∈ m, B50 40 k) ∧ Dt (Zu (Zp pp) D) H y (dRow m)) hD zD P3 (fun H l z n => z.upd' n) (fun i y H H' _ ⟨m, z1, z2⟩ f => ⟨m, z1, z2.fr f⟩) few (fun _ _ => True.intro) ?_ ?_
    · rintro i x H4 H5 Qk hi f4 P4 ne ⟨rfl, rfl⟩ q2
      refine ⟨rfl, ?_⟩
      refine ⟨_, rfl, _, rfl, by omega, by omega, fun D2 hD2 => ?_⟩
      have zD2 := P4.zp hD2
      refine lc_acc walk_range (Zp pp) (fun H => PoolAt H pp) (fun i y H => ∃ k, y = .int k ∧ B50 40 k) hD2 zD2 P4 (fun H l z n => z.upd' n) (fun i y H H' _ z f => z) few (fun _ _ => True.intro) ?_ ?_
      · rintro j x H6 H7 Qk2 hj f6 P6 ne2 ⟨rfl, rfl⟩ q3
        refine ⟨rfl, ?_⟩
        refine ⟨_, rfl, _, rfl, _, _, rfl, rfl, ⟨⟨by decide, by decide⟩, ⟨by omega, by omega⟩⟩, _, _, rfl, rfl, pp, _, rfl, by omega, ⟨by omega, by omega⟩, P6, fun dd H8 d0 d1 P8 k8 => ?_⟩
        refine ⟨_, rfl, _, _, rfl, rfl, ?_⟩
        exact q3 _ _ k8.fr P8 ⟨_, rfl, by unfold B50; omega⟩
      · intro H6 xs f6 P6 hD6 hl hr
        obtain ⟨ks, rfl, hk, hb⟩ := ints_of hr
        exact q2 _ _ f6 P6 ⟨ks, ⟨by rw [hk, hl]; omega, hb⟩, .lst hD6 (zu_ne zD2 (ne D2 hD2)) (DtAll.ints _)⟩
    intro H4 xs f4 P4 hD4 hl hr
    have hl : xs.length = n := by omega
    obtain ⟨M, sq, dM⟩ := rows_of hl hr
    have k4 : Fr (Zp pp) H H4 := k3.trans f4
    -- the last row, at times
    refine ⟨_, rfl, _, _, rfl, rfl, _, rfl, ?_⟩
    have plain : ∀ H', Fr (Zp pp) H4 H' → PoolAt H' pp → Q (.ref D) H' := fun H' f P' => q n M D H' n4 (sq.mono (by decide)) (.lst (f _ _ hD4 zD) zD (DtAll.mono' (fun _ m => .inl m) (dM.fr f.zu))) P' (k4.trans f)
    refine ite2 (fun c1 => ?_) (fun c1 => ?_)
    · have hn : 0 < n := by
        have := of_decide_eq_true c1
        omega
      refine ⟨_, rfl, pp, 4, rfl, by decide, ⟨by decide, by decide⟩, P4, fun e H5 e0 e1 P5 k5 => ?_⟩
      refine ⟨rfl, _, rfl, ?_⟩
      refine ite2 (fun c2 => ?_) (fun c2 => ?_)
      · refine ⟨_, rfl, pp, 5, rfl, by decide, ⟨by decide, by decide⟩, P5, fun tm H6 t0 t1 P6 k6 => ?_⟩
        refine ⟨_, _, rfl, rfl, ?_⟩
        have f6 : Fr (Zp pp) H4 H6 := k5.fr.trans k6.fr
        have hx0 : 0 < xs.length := by omega
        obtain ⟨r0, m0', em0, er0, hr0, z0⟩ := dtab_get dM (List.getElem?_eq_getElem hx0)
        have hr06 := f6.zu _ _ hr0 z0
        refine ⟨_, rfl, D, xs, 0, _, rfl, rfl, f6 _ _ hD4 zD, atI_nat (j := 0) (List.getElem?_eq_getElem hx0), ?_⟩
        rw [er0]
        refine ⟨r0, _, _, rfl, .inl rfl, hr06, fun J w D3 hD3 => ?_⟩
        have m0m : m0' ∈ M := List.mem_of_getElem? em0
        have m0l := sq.2.1 m0' m0m
        have zD3 := P6.zp hD3
        refine lc_ints w (Zp pp) (fun H => PoolAt H pp) (m0'.map fun x => (tm - 2) * x) (by simp) hD3 zD3 P6 (fun H l z n => z.upd' n) (by rw [List.length_map]; exact Nat.lt_of_le_of_lt (by omega : _ ≤ 4) (by decide)) (fun H f => f _ _ hr06 (fun m => z0 (.inl m))) ?_ ?_
        · rintro j x k H7 H8 Qk ek f7 P7 ne ⟨rfl, ex⟩ q3
          rw [List.getElem?_map] at ek ex
          obtain ⟨k1, ek1, rfl⟩ := Option.map_eq_some_iff.mp ek
          rw [ek1] at ex
          cases ex
          have bk : Sm k1 := ((sq.2.2 m0' m0m k1 (List.mem_of_getElem? ek1)).mono (by decide : 40 ≤ 487)).sm
          exact ⟨rfl, _, rfl, _, rfl, _, _, rfl, rfl, ⟨⟨by omega, by omega⟩, bk⟩, q3 _ Fr.refl P7⟩
        · intro H7 f7 P7 hD7
          have hD47 := f7 _ _ (f6 _ _ hD4 zD) zD
          refine ⟨_, rfl, _, rfl, D, xs, -1, n - 1, rfl, rfl, hD47, ?_, ?_⟩
          · unfold ixN
            rw [hl, if_neg (by decide), if_pos (by omega)]
            congr 1
            omega
          refine ⟨_, rfl, ?_⟩
          have dM7 : DtAll (Zu (Zp pp) D) H7 xs (M.map dRow) := (dM.fr f6.zu).fr f7.zu
          have nD3 : D3 ≠ D := fun e => by
            have := f6 _ _ hD4 zD
            rw [e, this] at hD3
            cases hD3
          have dR : Dt (Zu (Zp pp) D) H7 (.ref D3) (dRow (m0'.map fun x => (tm - 2) * x)) := .lst hD7 (zu_ne zD3 nD3) (DtAll.ints _)
          refine q n (M.set (n - 1) (m0'.map fun x => (tm - 2) * x)) D _ n4 ⟨by rw [List.length_set]; exact sq.1, fun r hr' => ?_, fun r hr' x hx => ?_⟩ (.lst upd_same zD ?_) (P7.upd' zD) ?_
          · rcases List.mem_or_eq_of_mem_set hr' with h | rfl
            · exact sq.2.1 r h
            · rw [List.length_map]
              exact m0l
          · rcases List.mem_or_eq_of_mem_set hr' with h | rfl
            · exact (sq.2.2 r h x hx).mono (by decide)
            · obtain ⟨k1, hk1, rfl⟩ := List.mem_map.mp hx
              have h1 := sq.2.2 m0' m0m k1 hk1
              have h2 : B50 5 (tm - 2) := by unfold B50; omega
              exact (B50.mul h2 h1).mono (by decide)
          · have z : DtAll (Zu (Zp pp) D) (upd H7 D (.lst (xs.set (n - 1) (.ref D3)))) (xs.set (n - 1) (.ref D3)) ((M.set (n - 1) (m0'.map fun x => (tm - 2) * x)).map dRow) := by
              rw [List.map_set]
              exact (dM7.set dR).fr Fr.at_zu
            exact DtAll.mono' (fun _ m => .inl m) z
          · exact Fr.on ((k4.trans f6).trans f7) (k3.free zD hD)
      · refine ⟨_, rfl, ?_⟩
        exact plain _ k5.fr P5
    · refine ⟨_, rfl, ?_⟩
      exact plain _ Fr.refl P4
end
section
variable {P : Program} {w : World} {K : PySem.W.Frag} {mg : Str → Option Value} {base : Heap} {aR : Addr}
/-- what the text's top has of the class InvalidRows -/
structure RTx (K : PySem.W.Frag) (mg : Str → Option Value) (CR : Addr) : Prop where
  mR : mg "InvalidRows" = some (.ref CR)
  eRR : PySem.W.exmOne K (.ref CR) (.ref CR) = some true
  xf : XfC K CR
  nv : PySem.W.findIn K (.ref CR) "value" = some none
abbrev s__law_refused : Stmt := top 15
abbrev N__law_refused : List Str := ["_law_value", "e"]
theorem sc__law_refused : FnScope N__law_refused ["_law_value"] (defScope s__law_refused) := ⟨rfl, rfl, rfl, by decide +kernel, rfl, by decide +kernel, by decide +kernel⟩
def spRefused : Sp := fun vs H Q _ => ∃ v d, vs = [v] ∧ Dt Z0 H v d ∧ (itemsD d).length ≤ 100 ∧ (∀ r ∈ itemsD d, (itemsD r).length ≤ 1000) ∧ okTab d = false ∧ SeqAt.shaped d = true ∧ ∀ H', Same H H' → Q (.bl true) H'
def tsR (K : PySem.W.Frag) (CR : Addr) (v : V) (d : PyData) : Addr → Value → Option Addr → TS := fun a kd dd D τ G => τ.length = 2 → τ[0]? = some (some v) ∧ τ[1]? = some (some (.ref a)) ∧ kd = .ref CR ∧ ∃ (dx : Addr), dd = some dx ∧ G dx = some (.xd [("value", v)]) ∧ Dt Z0 G v d ∧ SeqAt.shaped d = true ∧ D.rt (.bl true) G
theorem PSs.len {X : Cx} {st : List Stmt} {t : TS} (h : PSs X st t) : PSs X st (fun D τ H => τ.length = X.N.length → t D τ H) := ⟨fun pins s σ H D I w => h.run pins s σ H D I (w I.len)⟩
theorem PSs.imp {X : Cx} {st : List Stmt} {t t' : TS} (h : PSs X st t) (k : ∀ D τ H, t' D τ H → t D τ H) : PSs X st t' := ⟨fun pins s σ H D I w => h.run pins s σ H D I (k _ _ _ w)⟩
theorem ok__law_refused {CR : Addr} (h : Has K mg "_law_refused" s__law_refused ["_law_value"]) (R : RTx K mg CR) (O_determinant : OkX P w K mg base 3 "determinant" ["table"] (spDet CR)) : Ok P w K mg base 4 "_law_refused" ["_law_value"] spRefused := by
  obtain ⟨f, fd, g, b, F⟩ := h
  refine ⟨f, fd, g, F.kp, b, F.ok sc__law_refused (fun vs H Q E h => ?_) (fun cdv A outer s H vs Q E hr h => ?_)⟩
  · obtain ⟨v, d, rfl, _⟩ := h
    rfl
  · obtain ⟨v, d, rfl, hd, few, few2, bad, shp, q⟩ := h
    obtain ⟨fD, fdD, gD, kpD, bD, GD⟩ := O_determinant
    refine ⟨_, pss_cons (ps_tryN rfl rfl sc__law_refused.nd (out := fun _ _ _ _ => False) (l := [⟨.ref CR, some 1, tsR K CR v d⟩]) ?tk (fun W ps xe tk _ => pss_one (ps_expr (pe_callS GD (hr.mono (by decide)) rfl gD kpD bD (fun σ => passAt tk σ) (pa_cons (pv 0) pa_nil))))
      (.named (i := 1) ⟨rfl, by decide +kernel, .inl R.mR⟩ rfl rfl ?su .nil)) (pss_one (ps_ret pe_bl)), ?_⟩
    case tk =>
      exact fun _ _ z => by
        obtain ⟨a, B, sI, pins1, τ1, G1, kd, dd, rfl, J1, nb, up, sky, free, os, ag, wish⟩ := z
        exact wish.elim
    case su =>
      intro a ob kd dd ps zc isF
      refine PSs.imp (PSs.len (pss_one (ps_ret (pe_cmpR (eqD hr.units) (pe_xf R.xf R.nv zc isF (pv 1)) (pv 0) (nomark _))))) ?_
      intro D τ G w1 len
      obtain ⟨e0, e1, rfl, dx, rfl, ed, dt, sh, q⟩ := w1 len
      refine ⟨_, e1, rfl, rfl, dx, _, v, rfl, ed, rfl, v, e0, d, d, Z0, Z0, dt, dt, sh, sh, ?_⟩
      rw [SeqAt.eqv_refl _ (SeqAt.canLay_of_shaped sh)]
      exact q
    refine ⟨_, rfl, v, d, rfl, hd, few, few2, .inr ⟨bad, fun H' dx s' hx => ?_⟩⟩
    refine ⟨true, R.eRR, fun _ a na len => ?_, (fun z => nomatch z)⟩
    have s2 : Same H (upd H' dx (.xd [("value", v)])) := s'.trans (Same.new hx)
    exact ⟨rfl, rfl, rfl, dx, rfl, upd_same, hd.fr (Fr.of s2), shp, q _ s2⟩
abbrev s__law_integer : Stmt := top 16
theorem sc__law_integer : FnScope ["_law_value", "_law_due"] ["_law_value", "_law_due"] (defScope s__law_integer) := ⟨rfl, rfl, rfl, by decide +kernel, rfl, by decide +kernel, by decide +kernel⟩
def spInteger : Sp := fun vs H Q _ => ∃ i j : Int, vs = [.int i, .int j] ∧ i = j ∧ Q (.bl true) H
theorem ok__law_integer (h : Has K mg "_law_integer" s__law_integer ["_law_value", "_law_due"]) (T : Txt K mg aR) : Ok P w K mg base 1 "_law_integer" ["_law_value", "_law_due"] spInteger := by
  obtain ⟨f, fd, g, b, F⟩ := h
  refine ⟨f, fd, g, F.kp, b, F.ok sc__law_integer (fun vs H Q E h => ?_) (fun cdv A outer s H vs Q E hr h => ?_)⟩
  · obtain ⟨i, j, rfl, _⟩ := h
    rfl
  · obtain ⟨i, j, rfl, rfl, q⟩ := h
    refine ⟨_, (pss_one (ps_ret (pe_and (pe_callB call_isi (by rfl) T.isinstance bb_isinstance (pa_cons (pv 0) (pa_cons (pe_bltn (v := .ty "int") (by rfl) T.int bb_int rfl) pa_nil))) (pe_and (pe_not (pe_callB call_isi (by rfl) T.isinstance bb_isinstance (pa_cons (pv 0) (pa_cons (pe_bltn (v := .ty "bool") (by rfl) T.bool bb_bool rfl) pa_nil)))) (pe_one (pe_cmpR op_eq (pv 0) (pv 1) (nomark _))))))), ?_⟩
    refine ⟨_, rfl, _, _, _, _, _, rfl, .ty _, .base (.int _), kIntInt, _, rfl, iteT ?_⟩
    refine ⟨_, rfl, _, _, _, _, _, rfl, .ty _, .base (.int _), kIntBool, _, rfl, _, rfl, iteT ?_⟩
    refine ⟨_, rfl, _, rfl, rfl, ?_⟩
    rw [veq rfl]
    exact q
end
section
variable {P : Program} {w : World} {K : PySem.W.Frag} {mg : Str → Option Value} {base : Heap} {aR : Addr}
theorem isTab_l (M : List (List Int)) : IsTab (dTab M) M := ⟨rfl, by simp [itemsD, dTab], fun i r m e1 e2 => by
  have e1 : (M.map dRow)[i]? = some r := e1
  rw [List.getElem?_map, e2] at e1
  cases e1
  exact ⟨rfl, rfl⟩⟩
def dRowT (r : List Int) : PyData := .tuple (r.map PyData.int)
def dTabT (M : List (List Int)) : PyData := .tuple (M.map dRowT)
theorem isTab_t (M : List (List Int)) : IsTab (dTabT M) M := ⟨rfl, by simp [itemsD, dTabT], fun i r m e1 e2 => by
  have e1 : (M.map dRowT)[i]? = some r := e1
  rw [List.getElem?_map, e2] at e1
  cases e1
  exact ⟨rfl, rfl⟩⟩
theorem few_l {n B : Nat} {M : List (List Int)} (s : Sq n B M) (n4 : n ≤ 4) : (itemsD (dTab M)).length ≤ 100 ∧ ∀ r ∈ itemsD (dTab M), (itemsD r).length ≤ 1000 := by
  refine ⟨by simp [itemsD, dTab, s.1]; omega, fun r hr => ?_⟩
  obtain ⟨m, hm, rfl⟩ := List.mem_map.mp (show r ∈ M.map dRow from hr)
  have := s.2.1 m hm
  simp [itemsD, dRow]
  omega
theorem few_t {n B : Nat} {M : List (List Int)} (s : Sq n B M) (n4 : n ≤ 4) : (itemsD (dTabT M)).length ≤ 100 ∧ ∀ r ∈ itemsD (dTabT M), (itemsD r).length ≤ 1000 := by
  refine ⟨by simp [itemsD, dTabT, s.1]; omega, fun r hr => ?_⟩
  obtain ⟨m, hm, rfl⟩ := List.mem_map.mp (show r ∈ M.map dRowT from hr)
  have := s.2.1 m hm
  simp [itemsD, dRowT]
  omega
/-- what determinant asks of a good table -/
theorem det_l {CR : Addr} {H : Hp} {Q : VK} {E : XK} {v : V} {n : Nat} {M : List (List Int)} {Z : Addr → Prop} (n4 : n ≤ 4) (s : Sq n 60 M) (h : Dt Z H v (dTab M)) (q : ∀ H', Same H H' → Q (.int (lapT n M)) H') : spDet CR [v] H Q E :=
  ⟨v, dTab M, rfl, h.z0, (few_l s n4).1, (few_l s n4).2, .inl ⟨n, M, n4, s, isTab_l M, q⟩⟩
theorem det_t {CR : Addr} {H : Hp} {Q : VK} {E : XK} {v : V} {n : Nat} {M : List (List Int)} {Z : Addr → Prop} (n4 : n ≤ 4) (s : Sq n 60 M) (h : Dt Z H v (dTabT M)) (q : ∀ H', Same H H' → Q (.int (lapT n M)) H') : spDet CR [v] H Q E :=
  ⟨v, dTabT M, rfl, h.z0, (few_t s n4).1, (few_t s n4).2, .inl ⟨n, M, n4, s, isTab_t M, q⟩⟩
/-- a value that is no table, as data -/
def BadD (d : PyData) : Prop := okTab d = false ∧ SeqAt.shaped d = true ∧ (itemsD d).length ≤ 100 ∧ ∀ r ∈ itemsD d, (itemsD r).length ≤ 1000
theorem bad_of {ds : List PyData} (l : ds.length ≤ 100) (h : ∀ r ∈ ds, Shp 3 r ∧ (itemsD r).length ≤ 1000) {r : PyData} (hr : r ∈ ds) (b : isLine r ds.length = false) : BadD (.list ds) := by
  refine ⟨?_, (shp_list fun r hr => (h r hr).1).ok, l, fun r hr => (h r hr).2⟩
  unfold okTab
  have : (itemsD (.list ds)).all (fun r => isLine r (itemsD (.list ds)).length) = false := by
    rw [List.all_eq_false]
    exact ⟨r, hr, by rw [show (itemsD (.list ds)).length = ds.length from rfl, b]; decide⟩
  rw [this, Bool.and_false]
theorem line_len {m : List Int} {k : Int} (h : (m.length : Int) ≠ k) : isLine (dRow m) k = false := by
  unfold isLine
  rw [show ((itemsD (dRow m)).length : Int) = m.length by simp [itemsD, dRow], decide_eq_false h]
  simp
theorem line_odd {m : List Int} {o : PyData} {k : Int} (h : isInt o = false) : isLine (.list (m.map PyData.int ++ [o])) k = false := by
  unfold isLine
  have : (itemsD (.list (m.map PyData.int ++ [o]))).all isInt = false := by
    rw [List.all_eq_false]
    exact ⟨o, by simp [itemsD], by rw [h]; decide⟩
  rw [this]
  simp
theorem row_few {m : List Int} (h : m.length ≤ 1000) : Shp 3 (dRow m) ∧ (itemsD (dRow m)).length ≤ 1000 := ⟨(shp_row m).mono (by decide), by simpa [itemsD, dRow] using h⟩
def oddD : List PyData := [.bool true, .none, .str "1", .list [.int 1]]
theorem odd_ok {o : PyData} (h : o ∈ oddD) : Shp 2 o ∧ isInt o = false := by
  simp only [oddD, List.mem_cons, List.not_mem_nil, or_false] at h
  rcases h with rfl | rfl | rfl | rfl
  · exact ⟨shp_bool.mono (by decide), rfl⟩
  · exact ⟨shp_none.mono (by decide), rfl⟩
  · exact ⟨⟨by decide +kernel, by simp [PyData.depth]⟩, rfl⟩
  · exact ⟨(shp_row [1]).mono (by decide), rfl⟩
theorem shp_odd {m : List Int} {o : PyData} (h : Shp 2 o) : Shp 3 (.list (m.map PyData.int ++ [o])) := shp_list fun d hd => by
  rcases List.mem_append.mp hd with h' | h'
  · obtain ⟨i, _, rfl⟩ := List.mem_map.mp h'
    exact shp_int.mono (by decide)
  · simp at h'
    subst h'
    exact h
theorem at_m1 {α : Type} {xs : List α} (h : 0 < xs.length) : atI xs (-1) = xs[xs.length - 1]? := by
  unfold atI ixN
  rw [if_neg (by decide), if_pos (by omega)]
  show xs[(-1 + (xs.length : Int)).toNat]? = _
  rw [show (-1 + (xs.length : Int)).toNat = xs.length - 1 by omega]
def Bad (pp : Addr) (H : Hp) (v : V) : Prop := ∃ d, Dt (Zp pp) H v d ∧ BadD d
theorem Bad.fr {pp : Addr} {H H' : Hp} {v : V} (h : Bad pp H v) (f : Fr (Zp pp) H H') : Bad pp H' v := by
  obtain ⟨d, a, b⟩ := h
  exact ⟨d, a.fr f, b⟩
/-- rows and one more -/
theorem bad_last {M : List (List Int)} {n : Nat} {r : PyData} (s : Sq n 50 M) (n4 : n ≤ 4) {k : Nat} (h : Shp 3 r ∧ (itemsD r).length ≤ 1000) (b : isLine r ((M.take k).length + 1 : Nat) = false) : BadD (.list ((M.take k).map dRow ++ [r])) := by
  have l := s.1
  refine bad_of (r := r) (by simp; omega) (fun x hx => ?_) (by simp) (by rw [show ((M.take k).map dRow ++ [r]).length = (M.take k).length + 1 by simp]; exact b)
  rcases List.mem_append.mp hx with h' | h'
  · obtain ⟨m, hm, rfl⟩ := List.mem_map.mp h'
    have := s.2.1 m (List.mem_of_mem_take hm)
    exact row_few (by omega)
  · simp at h'
    subst h'
    exact h
def spLaw (K : PySem.W.Frag) : Sp := fun vs H Q _ => ∃ (a : Addr) (ns : List Int), vs = [.ref a] ∧ SqL K H a (ns.map V.int) ∧ ns.length ≤ 63 ∧ ∀ H', Q (.bl true) H'
abbrev s_law : Stmt := top 17
abbrev N_law : List Str := ["_law_script", "_law_k", "_law_pool_here", "_law_table_here", "_law_handed", "_law_row", "_law_due", "_law_swapped", "_law_upright", "_law_column", "_law_times", "_law_one", "_law_wrong", "_law_odd"]
theorem sc_law : FnScope N_law ["_law_script"] (defScope s_law) := ⟨rfl, rfl, rfl, by decide +kernel, rfl, by decide +kernel, by decide +kernel⟩
theorem ok_law {CR f : Addr} {fd : FuncData} (F : Fun K "law" "law" s_law f fd) (T : Txt K mg aR) (O__law_pool : Ok P w K mg base 1 "_law_pool" ["_law_script", "_law_k"] (spPool K)) (O__law_draw : Ok P w K mg base 1 "_law_draw" ["_law_pool_here", "_law_many"] spDraw)
    (O__law_table : Ok P w K mg base 2 "_law_table" ["_law_pool_here"] spTable) (O__law_expanded : Ok P w K mg base 5 "_law_expanded" ["_law_table_here"] spExpA) (O_determinant : OkX P w K mg base 3 "determinant" ["table"] (spDet CR))
    (O__law_refused : Ok P w K mg base 4 "_law_refused" ["_law_value"] spRefused) (O__law_integer : Ok P w K mg base 1 "_law_integer" ["_law_value", "_law_due"] spInteger) : FnOk P w K mg base CX0 6 f fd ["_law_script"] (spLaw K) := by
  refine F.ok sc_law (fun vs H Q E h => ?_) (fun cdv A outer s H vs Q E hr h => ?_)
  · obtain ⟨a, ns, rfl, _⟩ := h
    rfl
  · obtain ⟨a, ns, rfl, hS, hlen, q⟩ := h
    refine ⟨_, (pss_cons (ps_for PassesOwn.never rfl (pi_range1 (by rfl) T.range (pa_cons (pe_callB (call_max2 rfl) (by rfl) T.max bb_max (pa_cons pe_int (pa_cons (pe_callB (call_min2 rfl) (by rfl) T.min bb_min (pa_cons (pe_callB call_len_seq (by rfl) T.len bb_len (pa_cons (pv 0) pa_nil)) (pa_cons pe_int pa_nil))) pa_nil))) pa_nil)) (pg_name (i := 1) sc_law.nd rfl (.inl rfl))
        (pss_cons (ps_set (i := 2) sc_law.nd rfl (.inl rfl) (pe_cO O__law_pool (hr.mono (by decide)) pass0 rfl (pa_cons (pv 0) (pa_cons (pv 1) pa_nil))))
        (pss_cons (ps_set (i := 3) sc_law.nd rfl (.inr rfl) (pe_cO O__law_table (hr.mono (by decide)) pass0 rfl (pa_cons (pv 2) pa_nil)))
        (pss_cons (ps_setLc (i := 4) (own := [("_law_row", 5)]) (g := (gName 5)) (tt := tYes) rfl sc_law.nd rfl rfl (sw_true rfl rfl rfl (by decide +kernel)) (pi_seq (pv 3)) (blkOk_by (N := N_law) (sc := defScope s_law) (by decide +kernel)) (fun _ _ _ _ _ => (pg_name (i := 5) sc_law.nd rfl (by first | exact Or.inl rfl | exact Or.inr rfl))) (fun _ _ _ _ _ => pts_nil) (fun _ _ _ _ _ => (pe_callTy listT (by rfl) T.list bb_list (pa_cons (pv 5) pa_nil))))
        (pss_cons (ps_set (i := 6) sc_law.nd rfl (.inl rfl) (pe_cO O__law_expanded (hr.mono (by decide)) pass0 rfl (pa_cons (pv 3) pa_nil)))
        (pss_cons (ps_if (PW.pt (pw_or (pt_not (pt_val (pe_cO O__law_integer (hr.mono (by decide)) pass0 rfl (pa_cons (pe_cX O_determinant (hr.mono (by decide)) passL rfl (pa_cons (pv 4) pa_nil)) (pa_cons (pv 6) pa_nil))))) (pw_or1 (pt_cmpR (neD hr.units) (pv 4) (pv 3) (nomark _)))))
          (pss_one (ps_ret pe_bl))
          pss_nil)
        (pss_cons (ps_if (pt_not (pt_val (pe_cO O__law_integer (hr.mono (by decide)) pass0 rfl (pa_cons (pe_cX O_determinant (hr.mono (by decide)) passL rfl (pa_cons (pe_callTy tupT (by rfl) T.tuple bb_tuple (pa_cons (pe_lc (own := [("_law_row", 5)]) (g := (gName 5)) (tt := tYes) rfl sc_law.nd (pi_seq (pv 3)) (blkOk_by (N := N_law) (sc := defScope s_law) (by decide +kernel)) (fun _ _ _ _ _ => (pg_name (i := 5) sc_law.nd rfl (by first | exact Or.inl rfl | exact Or.inr rfl))) (fun _ _ _ _ _ => pts_nil) (fun _ _ _ _ _ => (pe_callTy tupT (by rfl) T.tuple bb_tuple (pa_cons (pv 5) pa_nil)))) pa_nil)) pa_nil)) (pa_cons (pv 6) pa_nil)))))
          (pss_one (ps_ret pe_bl))
          pss_nil)
        (C8.pss_cut (ps_if (pt_cmpR op_gt (pe_callB lenT (by rfl) T.len bb_len (pa_cons (pv 3) pa_nil)) pe_int (nomark _))
          (pss_cons (ps_set (i := 7) sc_law.nd rfl (.inl rfl) (pe_op op_cat (pe_lst (pa_cons (pe_ix ixl (pv 3) pe_int (fun _ _ => rfl)) (pa_cons (pe_ix ixl (pv 3) pe_int (fun _ _ => rfl)) pa_nil))) (pe_slice sll (pv 3) (po_some pe_int) po_none)))
          (pss_cons (ps_setLc (i := 8) (own := [("_law_column", 9)]) (g := (gName 9)) (tt := tYes) rfl sc_law.nd rfl rfl (sw_true rfl rfl rfl (by decide +kernel)) (pi_range1 (by rfl) T.range (pa_cons (pe_callB lenT (by rfl) T.len bb_len (pa_cons (pv 3) pa_nil)) pa_nil)) (blkOk_by (N := N_law) (sc := defScope s_law) (by decide +kernel)) (fun _ _ _ _ _ => (pg_name (i := 9) sc_law.nd rfl (by first | exact Or.inl rfl | exact Or.inr rfl))) (fun _ _ _ _ _ => pts_nil) (fun _ _ _ _ _ => (by exact pe_lc (own := [("_law_row", 5)]) (g := (gName 5)) (tt := tYes) rfl sc_law.nd (pi_seq (pv 3)) (blkOk_by rfl) (fun _ _ _ _ _ => (pg_name (i := 5) sc_law.nd rfl (by first | exact Or.inl rfl | exact Or.inr rfl))) (fun _ _ _ _ _ => pts_nil) (fun _ _ _ _ _ => (pe_ix ixl (pv 5) (pv 9) (fun _ _ => rfl))))))
          (pss_one (ps_if (PW.pt (pw_or (pt_cmpR op_ne (pe_cX O_determinant (hr.mono (by decide)) passL rfl (pa_cons (pv 7) pa_nil)) (pe_op op_sub pe_int (pv 6)) (nomark _)) (pw_or1 (pt_cmpR op_ne (pe_cX O_determinant (hr.mono (by decide)) passL rfl (pa_cons (pv 8) pa_nil)) (pv 6) (nomark _)))))
            (pss_one (ps_ret pe_bl))
            pss_nil))))
          pss_nil)
        (pss_one (ps_if (pt_cmpR (neD hr.units) (pv 3) (pe_lst pa_nil) (nomark _))
          (pss_cons (ps_set (i := 10) sc_law.nd rfl (.inr rfl) (pe_op op_sub (pe_cO O__law_draw (hr.mono (by decide)) pass0 rfl (pa_cons (pv 2) (pa_cons pe_int pa_nil))) pe_int))
          (pss_cons (ps_if (pt_cmpR op_ne (pe_cX O_determinant (hr.mono (by decide)) passL rfl (pa_cons (pe_op op_cat (pe_lst (pa_cons (pe_lc (own := [("_law_one", 11)]) (g := (gName 11)) (tt := tYes) rfl sc_law.nd (pi_seq (pe_ix ixl (pv 3) pe_int (fun _ _ => rfl))) (blkOk_by (N := N_law) (sc := defScope s_law) (by decide +kernel)) (fun _ _ _ _ _ => (pg_name (i := 11) sc_law.nd rfl (by first | exact Or.inl rfl | exact Or.inr rfl))) (fun _ _ _ _ _ => pts_nil) (fun _ _ _ _ _ => (pe_op op_mulS (pv 10) (pv 11)))) pa_nil)) (pe_slice sll (pv 3) (po_some pe_int) po_none)) pa_nil)) (pe_op op_mulS (pv 10) (pv 6)) (nomark _))
            (pss_one (ps_ret pe_bl))
            pss_nil)
          (pss_cons (ps_set (i := 12) sc_law.nd rfl (.inl rfl) (pe_lst (pa_cons (pe_op op_cat (pv 3) (pe_lst (pa_cons (pe_ix ixl (pv 3) pe_int (fun _ _ => rfl)) pa_nil))) (pa_cons (pe_lc (own := [("_law_row", 5)]) (g := (gName 5)) (tt := tYes) rfl sc_law.nd (pi_seq (pv 3)) (blkOk_by (N := N_law) (sc := defScope s_law) (by decide +kernel)) (fun _ _ _ _ _ => (pg_name (i := 5) sc_law.nd rfl (by first | exact Or.inl rfl | exact Or.inr rfl))) (fun _ _ _ _ _ => pts_nil) (fun _ _ _ _ _ => (pe_op op_cat (pv 5) (pe_lst (pa_cons pe_int pa_nil))))) (pa_cons (pe_op op_cat (pe_slice sll (pv 3) po_none (po_some (pe_un un_neg pe_int))) (pe_lst (pa_cons (pe_slice sll (pe_ix ixl (pv 3) (pe_un un_neg pe_int) (fun _ _ => rfl)) (po_some pe_int) po_none) pa_nil))) pa_nil)))))
          (pss_cons (ps_set (i := 12) sc_law.nd rfl (.inl rfl) (pe_op op_cat (pv 12) (pe_lc (own := [("_law_odd", 13)]) (g := (gName 13)) (tt := tYes) rfl sc_law.nd (pi_seq (pe_lst (pa_cons pe_bl (pa_cons pe_non (pa_cons pe_str (pa_cons (pe_lst (pa_cons pe_int pa_nil)) pa_nil)))))) (blkOk_by (N := N_law) (sc := defScope s_law) (by decide +kernel)) (fun _ _ _ _ _ => (pg_name (i := 13) sc_law.nd rfl (by first | exact Or.inl rfl | exact Or.inr rfl))) (fun _ _ _ _ _ => pts_nil) (fun _ _ _ _ _ => (pe_op op_cat (pe_slice sll (pv 3) po_none (po_some (pe_un un_neg pe_int))) (pe_lst (pa_cons (pe_op op_cat (pe_slice sll (pe_ix ixl (pv 3) (pe_un un_neg pe_int) (fun _ _ => rfl)) po_none (po_some (pe_un un_neg pe_int))) (pe_lst (pa_cons (pv 13) pa_nil))) pa_nil)))))))
          (pss_one (ps_if (pt_not (pt_val (pe_callB (allT rfl) (by rfl) T.all bb_all (pa_cons (pe_lc (own := [("_law_one", 11)]) (g := (gName 11)) (tt := tYes) rfl sc_law.nd (pi_seq (pe_op op_cat (pv 12) (pe_lst (pa_cons pe_non (pa_cons pe_int (pa_cons (pe_op op_cat (pe_slice sll (pv 3) po_none (po_some (pe_un un_neg pe_int))) (pe_lst (pa_cons pe_int pa_nil))) pa_nil)))))) (blkOk_by (N := N_law) (sc := defScope s_law) (by decide +kernel)) (fun _ _ _ _ _ => (pg_name (i := 11) sc_law.nd rfl (by first | exact Or.inl rfl | exact Or.inr rfl))) (fun _ _ _ _ _ => pts_nil) (fun _ _ _ _ _ => (pe_cO O__law_refused (hr.mono (by decide)) pass0 rfl (pa_cons (pv 11) pa_nil)))) pa_nil))))
            (pss_one (ps_ret pe_bl))
            pss_nil))))))
          pss_nil))))))))))
      (pss_one (ps_ret pe_bl))), ?_⟩
    refine ⟨_, rfl, a, _, rfl, .inl hS, _, _, rfl, _, _, rfl, ?_⟩
    rw [List.length_map]
    have hn : ∃ n : Int, n = (if (if (12 : Int) < (ns.length : Int) then (12 : Int) else (ns.length : Int)) > 1 then (if (12 : Int) < (ns.length : Int) then (12 : Int) else (ns.length : Int)) else 1) ∧ 0 ≤ n ∧ n ≤ 12 := by
      refine ⟨_, rfl, ?_, ?_⟩ <;> split <;> split <;> omega
    obtain ⟨nt, en, n0, n1⟩ := hn
    rw [← en]
    refine ⟨nt, rfl, by omega, by omega, for_range (n := nt.toNat) (fun i σ H' => Same H H' ∧ ∃ v1 v2 v3 v4 v5 v6 v7 v8 v9 v10 v11 v12 v13 : Option V, σ = [some (.ref a), v1, v2, v3, v4, v5, v6, v7, v8, v9, v10, v11, v12, v13]) ⟨fun _ _ e => e, none, none, none, none, none, none, none, none, none, none, none, none, none, rfl⟩ ?_ ?_⟩
    · rintro i σ H1 hi ⟨s1, v1, v2, v3, v4, v5, v6, v7, v8, v9, v10, v11, v12, v13, rfl⟩
      refine ⟨_, rfl, _, rfl, a, ns, i, by rw [Int.zero_add]; rfl, s1.seq hS, by omega, fun pp H2 s2 hpp P2 => ?_⟩
      have npp : H1 pp = none := hpp
      refine ⟨_, rfl, pp, rfl, P2, fun n M t H3 n4 sq dM P3 k3 => ?_⟩
      have sq6 : Sq n 60 M := sq.mono (by decide)
      have base0 : ∀ {H'}, Fr (Zp pp) H3 H' → Same H H' := fun {H'} f b o e => (k3.fr.trans f) b o (s2 b o (s1 b o e)) (fun m => by
        have := s1 b o e
        rw [show b = pp from m, npp] at this
        cases this)
      obtain ⟨t', xs, et, ht, zt, dx⟩ := Dt.lst_inv (ds := M.map dRow) dM
      cases et
      have hl : xs.length = n := by rw [dx.len, List.length_map, sq.1]
      have few : xs.length < sizeLine := Nat.lt_of_le_of_lt (by omega : xs.length ≤ 4) (by decide)
      -- a copy
      refine ⟨_, rfl, t, xs, _, rfl, .inl rfl, ht, fun J w D hD => ?_⟩
      have zD := P3.zp hD
      refine lc_dat w (Zp pp) (fun H => PoolAt H pp) (M.map dRow) (by rw [List.length_map, hl, sq.1]) hD zD P3 (fun H l z n => z.upd' n) few (fun H f => f _ _ ht zt) ?_ ?_
      · rintro j x dm Hx H5 Qk edm f5 P5 ne ⟨rfl, ex⟩ q2
        obtain ⟨ra, m, em, rfl, hm, zm⟩ := dtab_get dx ex
        rw [List.getElem?_map, em] at edm
        cases edm
        refine ⟨rfl, _, rfl, ra, _, rfl, .inl (f5 _ _ hm zm), fun p np => ?_⟩
        exact q2 _ _ (Fr.new np) (P5.same (Same.new np)) (.lst upd_same (zu_ne (P5.zp np) (ne p np)) (DtAll.ints m))
      intro H4 ys f4 P4 hD4 dy
      have dM4 := dM.fr f4
      have dC4 : Dt (Zp pp) H4 (.ref D) (dTab M) := .lst hD4 zD (DtAll.mono' (fun _ m => .inl m) dy)
      refine ⟨_, rfl, n, n4, _, M, rfl, dM4.z0, sq6, n4, fun H5 s5 => ?_⟩
      have f5 : Fr (Zp pp) H3 H5 := f4.trans (Fr.of s5)
      refine ⟨_, rfl, _, dTab M, rfl, (dC4.fr (Fr.of s5)).z0, (few_l sq6 n4).1, (few_l sq6 n4).2, .inl ⟨n, M, n4, sq6, isTab_l M, fun H6 s6 => ?_⟩⟩
      have f6 : Fr (Zp pp) H3 H6 := f5.trans (Fr.of s6)
      refine ⟨_, rfl, _, _, rfl, rfl, ?_⟩
      refine ⟨_, rfl, iteF ?_⟩
      refine ⟨_, rfl, _, rfl, dTab M, dTab M, Zp pp, Zp pp, (dC4.fr (Fr.of s5)).fr (Fr.of s6), dM.fr f6, (shp_tab M).ok, (shp_tab M).ok, _, rfl, ?_⟩
      rw [SeqAt.eqv_refl _ (shp_tab M).1]
      refine iteF ?_
      have P6 : PoolAt H6 pp := (P4.same s5).same s6
      -- as tuples
      have ht6 := f6 _ _ ht zt
      have dx6 := dx.fr f6
      refine ⟨_, rfl, t, xs, _, rfl, .inl rfl, ht6, fun J w D2 hD2 => ?_⟩
      have zD2 := P6.zp hD2
      refine lc_dat w (Zp pp) (fun H => PoolAt H pp) (M.map dRowT) (by rw [List.length_map, hl, sq.1]) hD2 zD2 P6 (fun H l z n => z.upd' n) few (fun H f => f _ _ ht6 zt) ?_ ?_
      · rintro j x dm Hx H7 Qk edm f7 P7 ne ⟨rfl, ex⟩ q2
        obtain ⟨ra, m, em, rfl, hm, zm⟩ := dtab_get dx6 ex
        rw [List.getElem?_map, em] at edm
        cases edm
        refine ⟨rfl, _, rfl, ra, _, rfl, .inl ⟨f7 _ _ hm zm, fun p np => ?_⟩⟩
        exact q2 _ _ (Fr.new np) (P7.same (Same.new np)) (.tup upd_same (zu_ne (P7.zp np) (ne p np)) (DtAll.ints m))
      intro H7 zs f7 P7 hD7 dz
      refine ⟨D2, zs, rfl, .inl ⟨hD7, fun p7 np7 => ?_⟩⟩
      obtain ⟨H8, s8, e8, h8⟩ := gen (.tup zs) np7
      rw [h8]
      clear h8
      have P8 := P7.same s8
      have dT8 : Dt (Zp pp) H8 (.ref p7) (dTabT M) := .tup e8 (P7.zp np7) (DtAll.mono' (fun _ m => .inl m) (dz.fr (Fr.of s8)))
      refine ⟨_, dTabT M, rfl, dT8.z0, (few_t sq6 n4).1, (few_t sq6 n4).2, .inl ⟨n, M, n4, sq6, isTab_t M, fun H9 s9 => ?_⟩⟩
      refine ⟨_, rfl, _, _, rfl, rfl, ?_⟩
      refine ⟨_, rfl, iteF ?_⟩
      have f9 : Fr (Zp pp) H3 H9 := ((f6.trans f7).trans (Fr.of s8)).trans (Fr.of s9)
      have P9 : PoolAt H9 pp := P8.same s9
      have ht9 := f9 _ _ ht zt
      have dx9 := dx.fr f9
      refine ⟨fun σ' H' => Fr (Zp pp) H3 H' ∧ PoolAt H' pp ∧ ∃ u7 u8 : Option V, σ' = [some (.ref a), some (.int (0 + (i : Nat))), some (.ref pp), some (.ref t), some (.ref D), v5, some (.int (lapT n M)), u7, u8, v9, v10, v11, v12, v13], ?_, ?_⟩
      · refine ⟨_, rfl, t, xs, rfl, .inl ht9, _, _, rfl, rfl, _, rfl, ?_⟩
        refine ite2 (fun c1 => ?_) (fun c1 => ?_)
        · have n2 : 2 ≤ n := by
            have := of_decide_eq_true c1
            omega
          have hx1 : 1 < xs.length := by omega
          have hx0 : 0 < xs.length := by omega
          obtain ⟨d1, ed1, dt1⟩ := dx9.get (List.getElem?_eq_getElem hx1)
          obtain ⟨d0, ed0, dt0⟩ := dx9.get (List.getElem?_eq_getElem hx0)
          have em1 : d1 = dRow (M.getD 1 []) := by
            rw [List.getElem?_map] at ed1
            obtain ⟨m, e, rfl⟩ := Option.map_eq_some_iff.mp ed1
            rw [List.getD_eq_getElem?_getD, e]
            rfl
          have em0 : d0 = dRow (M.getD 0 []) := by
            rw [List.getElem?_map] at ed0
            obtain ⟨m, e, rfl⟩ := Option.map_eq_some_iff.mp ed0
            rw [List.getD_eq_getElem?_getD, e]
            rfl
          subst em1 em0
          refine ⟨_, rfl, t, xs, 1, _, rfl, rfl, ht9, atI_nat (j := 1) (List.getElem?_eq_getElem hx1), _, rfl, t, xs, 0, _, rfl, rfl, ht9, atI_nat (j := 0) (List.getElem?_eq_getElem hx0), (by show 2 ≤ sizeLine; decide), fun p1 np1 => ?_⟩
          obtain ⟨H10, s10, e10, h10⟩ := gen (.lst [xs[1], xs[0]]) np1
          rw [h10]
          clear h10
          refine ⟨_, rfl, _, rfl, t, xs, rfl, s10 _ _ ht9, fun p2 np2 => ?_⟩
          rw [cut_two]
          obtain ⟨H11, s11, e11, h11⟩ := gen (.lst (xs.drop 2)) np2
          rw [h11]
          clear h11
          refine ⟨p1, p2, _, _, rfl, rfl, s11 _ _ e10, e11, (by rw [List.length_drop]; exact Nat.le_trans (by show 2 + (xs.length - 2) ≤ 4; omega) (by decide)), fun p3 np3 => ?_⟩
          obtain ⟨H12, s12, e12, h12⟩ := gen (.lst ([xs[1], xs[0]] ++ xs.drop 2)) np3
          rw [h12]
          clear h12
          have s9_12 : Same H9 H12 := (s10.trans s11).trans s12
          have P11 := (P9.same s10).same s11
          have dSw : Dt (Zp pp) H12 (.ref p3) (dTab (swapped M)) := by
            refine .lst e12 (P11.zp np3) ?_
            unfold swapped
            rw [List.map_append, List.map_drop]
            exact DtAll.append (.cons (dt1.fr (Fr.of s9_12)) (.cons (dt0.fr (Fr.of s9_12)) .nil)) ((dx9.fr (Fr.of s9_12)).drop 2)
          obtain ⟨sqS, lapS⟩ := lap_swapped n2 n4 sq6
          obtain ⟨sqU, lapU⟩ := lap_upright n2 n4 sq6
          -- upright
          have P12 := P11.same s12
          have f12 := f9.trans (Fr.of s9_12)
          have ht12 := f12 _ _ ht zt
          have dx12 := dx.fr f12
          refine ⟨_, rfl, t, xs, rfl, .inl ht12, (n : Int), by rw [hl], by omega, by omega, fun D13 hD13 => ?_⟩
          have zD13 := P12.zp hD13
          refine lc_dat walk_range (Zp pp) (fun H => PoolAt H pp) ((upright M).map dRow) (by rw [List.length_map, sqU.1]; omega) hD13 zD13 P12 (fun H l z n => z.upd' n) (Nat.lt_of_le_of_lt (by omega : (n : Int).toNat ≤ 4) (by decide)) (fun _ _ => True.intro) ?_ ?_
          · rintro j x dm Hx H13 Qk edm f13 P13 ne ⟨rfl, rfl⟩ q2
            show gName 9 (V.int (0 + ((j : Nat) : Int))) _ _ _
            rw [show (0 + ((j : Nat) : Int)) = j from Int.zero_add _]
            refine ⟨rfl, ?_⟩
            have ht13 := f13 _ _ ht12 zt
            have hj : j < M.length := by
              have := (List.getElem?_eq_some_iff.mp edm).1
              rw [List.length_map, sqU.1] at this
              rw [sq.1]
              exact this
            have edm' : dm = dRow (M.map fun r => r.getD j 0) := by
              unfold upright at edm
              rw [List.getElem?_map, List.getElem?_map, List.getElem?_range hj] at edm
              exact (Option.some.inj edm).symm
            subst edm'
            refine ⟨_, rfl, t, xs, _, rfl, .inl rfl, ht13, fun J2 w2 D14 hD14 => ?_⟩
            have zD14 := P13.zp hD14
            refine lc_ints w2 (Zp pp) (fun H => PoolAt H pp) (M.map fun r => r.getD j 0) (by rw [List.length_map, hl, sq.1]) hD14 zD14 P13 (fun H l z n => z.upd' n) few (fun H f => f _ _ ht13 zt) ?_ ?_
            · rintro c x kk Hy H14 Qk2 ek f14 P14 ne2 ⟨rfl, ex⟩ q3
              obtain ⟨ra, m, em, rfl, hm, zm⟩ := dtab_get dx12 ex
              rw [List.getElem?_map, em] at ek
              cases ek
              have hm14 := f14 _ _ (f13 _ _ hm zm) zm
              have lm := sq.2.1 m (List.mem_of_getElem? em)
              have hjm : j < m.length := by rw [lm, ← sq.1]; exact hj
              have ej : m[j]? = some (m.getD j 0) := by
                rw [List.getD_eq_getElem?_getD, List.getElem?_eq_getElem hjm]
                rfl
              exact ⟨rfl, _, rfl, _, rfl, ra, _, (j : Int), _, rfl, rfl, hm14, at_map ej, q3 _ Fr.refl P14⟩
            · intro H14 f14 P14 hD14'
              exact q2 _ _ f14 P14 (.lst hD14' (zu_ne zD14 (ne D14 hD14)) (DtAll.ints _))
          intro H13 us f13 P13 hD13' du
          have dU : Dt (Zp pp) H13 (.ref D13) (dTab (upright M)) := .lst hD13' zD13 (DtAll.mono' (fun _ m => .inl m) du)
          refine ⟨_, rfl, _, dTab (swapped M), rfl, (dSw.fr f13).z0, (few_l sqS n4).1, (few_l sqS n4).2, .inl ⟨n, _, n4, sqS, isTab_l _, fun H14 s14 => ?_⟩⟩
          rw [lapS]
          refine ⟨_, rfl, _, _, rfl, rfl, rfl, _, rfl, iteN (by simp [Int.zero_sub]) ?_⟩
          refine ⟨_, rfl, _, dTab (upright M), rfl, (dU.fr (Fr.of s14)).z0, (few_l sqU n4).1, (few_l sqU n4).2, .inl ⟨n, _, n4, sqU, isTab_l _, fun H15 s15 => ?_⟩⟩
          rw [lapU]
          refine ⟨_, rfl, rfl, _, rfl, iteN (by simp) ?_⟩
          exact ⟨((f12.trans f13).trans (Fr.of s14)).trans (Fr.of s15), (P13.same s14).same s15, _, _, rfl⟩
        · exact ⟨f9, P9, v7, v8, rfl⟩
      rintro _ H10 ⟨f10, P10, u7, u8, rfl⟩
      refine ⟨_, rfl, (by show 0 ≤ sizeLine; decide), fun l0 hl0 => ?_⟩
      obtain ⟨H11, s11, e11, h11⟩ := gen (.lst []) hl0
      rw [h11]
      clear h11
      have P11 := P10.same s11
      have f11 := f10.trans (Fr.of s11)
      refine ⟨dTab M, .list [], Zp pp, Z0, dM.fr f11, .lst e11 id .nil, (shp_tab M).ok, (shp_list (n := 0) (by simp)).ok, _, rfl, ?_⟩
      rw [show dTab M = .list (M.map dRow) from rfl, eqv_nil]
      by_cases hn0 : n = 0
      · have eM : M = [] := List.eq_nil_of_length_eq_zero (by rw [sq.1, hn0])
        subst eM
        refine iteF ?_
        exact ⟨base0 f11, _, _, _, _, _, _, _, _, _, _, _, _, _, rfl⟩
      rw [show (M.map dRow).isEmpty = false by
        cases M with
        | nil => exact absurd sq.1.symm hn0
        | cons r M => rfl]
      refine iteT ?_
      have n1' : 1 ≤ n := by omega
      have hx0 : 0 < xs.length := by omega
      refine ⟨_, rfl, pp, 2001, rfl, by decide, ⟨by decide, by decide⟩, P11, fun tm0 H12 t0 t1 P12 k12 => ?_⟩
      refine ⟨_, _, rfl, rfl, ?_⟩
      obtain ⟨tm, etm⟩ : ∃ tm : Int, tm = tm0 - 1000 := ⟨_, rfl⟩
      show gName 10 (V.int (tm0 - 1000)) _ _ _
      rw [← etm]
      have btm : B50 10 tm := by unfold B50; omega
      have stm : Sm tm := (btm.mono (by decide : 10 ≤ 487)).sm
      have f12 := f11.trans k12.fr
      have ht12 := f12 _ _ ht zt
      have dx12 := dx.fr f12
      obtain ⟨r0, m0, em0, er0, hr0, z0⟩ := dtab_get dx12 (List.getElem?_eq_getElem hx0)
      refine ⟨_, rfl, t, xs, 0, _, rfl, rfl, ht12, atI_nat (j := 0) (List.getElem?_eq_getElem hx0), ?_⟩
      rw [er0]
      refine ⟨r0, _, _, rfl, .inl rfl, hr0, fun J w D3 hD3 => ?_⟩
      have zD3 := P12.zp hD3
      have m0m : m0 ∈ M := List.mem_of_getElem? em0
      have m0l := sq.2.1 m0 m0m
      refine lc_ints w (Zp pp) (fun H => PoolAt H pp) (m0.map fun x => tm * x) (by simp) hD3 zD3 P12 (fun H l z n => z.upd' n) (by rw [List.length_map]; exact Nat.lt_of_le_of_lt (by omega : _ ≤ 4) (by decide)) (fun H f => f _ _ hr0 z0) ?_ ?_
      · rintro j x k Hx H13 Qk ek f13 P13 ne ⟨rfl, ex⟩ q3
        rw [List.getElem?_map] at ek ex
        obtain ⟨k1, ek1, rfl⟩ := Option.map_eq_some_iff.mp ek
        rw [ek1] at ex
        cases ex
        have bk : Sm k1 := ((sq.2.2 m0 m0m k1 (List.mem_of_getElem? ek1)).mono (by decide : 50 ≤ 487)).sm
        exact ⟨rfl, _, rfl, _, rfl, _, _, rfl, rfl, ⟨stm, bk⟩, q3 _ Fr.refl P13⟩
      intro H13 f13 P13 hD13
      refine ⟨(by show 1 ≤ sizeLine; decide), fun p1 np1 => ?_⟩
      obtain ⟨H14, s14, e14, h14⟩ := gen (.lst [.ref D3]) np1
      rw [h14]
      clear h14
      have ht14 := s14 _ _ (f13 _ _ ht12 zt)
      refine ⟨_, rfl, _, rfl, t, xs, rfl, ht14, fun p2 np2 => ?_⟩
      rw [cut_one]
      obtain ⟨H15, s15, e15, h15⟩ := gen (.lst (xs.drop 1)) np2
      rw [h15]
      clear h15
      refine ⟨p1, p2, _, _, rfl, rfl, s15 _ _ e14, e15, (by rw [List.length_drop]; exact Nat.le_trans (by show 1 + (xs.length - 1) ≤ 4; omega) (by decide)), fun p3 np3 => ?_⟩
      obtain ⟨H16, s16, e16, h16⟩ := gen (.lst ([.ref D3] ++ xs.drop 1)) np3
      rw [h16]
      clear h16
      have s13_16 : Same H13 H16 := (s14.trans s15).trans s16
      have P15 := (P13.same s14).same s15
      have em0g : M.getD 0 [] = m0 := by rw [List.getD_eq_getElem?_getD, em0]; rfl
      have dTm : Dt (Zp pp) H16 (.ref p3) (dTab (timed tm M)) := by
        refine .lst e16 (P15.zp np3) ?_
        unfold timed
        rw [List.map_append, List.map_drop, em0g]
        exact DtAll.append (.cons (.lst (s13_16 _ _ hD13) zD3 (DtAll.ints _)) .nil) (((dx12.fr f13).fr (Fr.of s13_16)).drop 1)
      obtain ⟨sqT, lapT'⟩ := lap_timed n1' n4 btm sq
      refine ⟨_, dTab (timed tm M), rfl, dTm.z0, (few_l sqT n4).1, (few_l sqT n4).2, .inl ⟨n, _, n4, sqT, isTab_l _, fun H17 s17 => ?_⟩⟩
      rw [lapT']
      refine ⟨_, rfl, _, rfl, _, _, rfl, rfl, ⟨stm, lapT_sm n4 sq6⟩, rfl, _, rfl, iteN (by simp) ?_⟩
      have f17 : Fr (Zp pp) H3 H17 := ((f12.trans f13).trans (Fr.of s13_16)).trans (Fr.of s17)
      have P17 : PoolAt H17 pp := (P15.same s16).same s17
      have ht17 := f17 _ _ ht zt
      have dx17 := dx.fr f17
      have hxl : n - 1 < xs.length := by omega
      obtain ⟨la, lm, eml, elx, _, zla⟩ := dtab_get dx17 (List.getElem?_eq_getElem hxl)
      have lml := sq.2.1 lm (List.mem_of_getElem? eml)
      have at1 : atI xs (-1) = some (.ref la) := by rw [at_m1 hx0, hl, List.getElem?_eq_getElem hxl, elx]
      obtain ⟨fa, fm, emf, efx, _, zfa⟩ := dtab_get dx17 (List.getElem?_eq_getElem hx0)
      have at0 : atI xs 0 = some (.ref fa) := by rw [← efx]; exact atI_nat (j := 0) (List.getElem?_eq_getElem hx0)
      have dRef : ∀ {H'} {k : Nat} {m : List Int} {ra : Addr}, Fr (Zp pp) H17 H' → xs[k]? = some (.ref ra) → M[k]? = some m → Dt (Zp pp) H' (.ref ra) (dRow m) := by
        intro H' k m ra f ex em
        obtain ⟨d, e, dt⟩ := dx17.get ex
        rw [List.getElem?_map, em] at e
        cases e
        exact dt.fr f
      have hRow : ∀ {H'} {k : Nat} {m : List Int} {ra : Addr}, Fr (Zp pp) H17 H' → xs[k]? = some (.ref ra) → M[k]? = some m → H' ra = some (.lst (m.map V.int)) := by
        intro H' k m ra f ex em
        obtain ⟨a', e, h1, h2⟩ := Dt.row_inv (dRef f ex em)
        cases e
        exact h1
      have exl : xs[n - 1]? = some (.ref la) := by rw [List.getElem?_eq_getElem hxl, elx]
      have ex0 : xs[0]? = some (.ref fa) := by rw [List.getElem?_eq_getElem hx0, efx]
      have dxs : ∀ {H'} (k : Nat), Fr (Zp pp) H17 H' → DtAll (Zp pp) H' (xs.take k) ((M.take k).map dRow) := by
        intro H' k f
        rw [List.map_take]
        exact (dx17.fr f).take k
      have dlast : xs.dropLast = xs.take (n - 1) := by rw [List.dropLast_eq_take, hl]
      have tl : (M.take (n - 1)).length = n - 1 := by rw [List.length_take, sq.1]; omega
      -- one row more
      refine ⟨_, rfl, _, rfl, t, xs, 0, _, rfl, rfl, ht17, at0, (by show 1 ≤ sizeLine; decide), fun p1 np1 => ?_⟩
      obtain ⟨H18, s18, e18, h18⟩ := gen (.lst [.ref fa]) np1
      rw [h18]
      clear h18
      refine ⟨t, p1, xs, _, rfl, rfl, s18 _ _ ht17, e18, (by show xs.length + 1 ≤ sizeLine; exact Nat.le_trans (by omega : _ ≤ 5) (by decide)), fun p2 np2 => ?_⟩
      obtain ⟨H19, s19, e19, h19⟩ := gen (.lst (xs ++ [.ref fa])) np2
      rw [h19]
      clear h19
      have P18 := P17.same s18
      have P19 := P18.same s19
      have f19 : Fr (Zp pp) H17 H19 := Fr.of (s18.trans s19)
      have bad1 : Bad pp H19 (.ref p2) := by
        refine ⟨.list ((M.take n).map dRow ++ [dRow fm]), .lst e19 (P18.zp np2) ?_, bad_last sq n4 (row_few (by have := sq.2.1 fm (List.mem_of_getElem? emf); omega)) (line_len (by
          have := sq.2.1 fm (List.mem_of_getElem? emf)
          rw [List.length_take, sq.1]
          omega))⟩
        have := dxs n f19
        rw [List.take_of_length_le (by omega)] at this
        exact this.append (.cons (dRef f19 ex0 emf) .nil)
      -- an entry more in each row
      have ht19 := f19 _ _ ht17 zt
      refine ⟨_, rfl, t, xs, _, rfl, .inl rfl, ht19, fun J2 w2 D20 hD20 => ?_⟩
      have zD20 := P19.zp hD20
      refine lc_dat w2 (Zp pp) (fun H => PoolAt H pp) (M.map fun m => dRow (m ++ [1])) (by rw [List.length_map, hl, sq.1]) hD20 zD20 P19 (fun H l z n => z.upd' n) few (fun H f => f _ _ ht19 zt) ?_ ?_
      · rintro j x dm Hx H20 Qk edm f20 P20 ne ⟨rfl, ex⟩ q2
        obtain ⟨ra, m, em, rfl, hm, zm⟩ := dtab_get (dx17.fr f19) ex
        rw [List.getElem?_map, em] at edm
        cases edm
        have lm' := sq.2.1 m (List.mem_of_getElem? em)
        refine ⟨rfl, _, rfl, (by show 1 ≤ sizeLine; decide), fun q1 nq1 => ?_⟩
        refine ⟨ra, q1, _, _, rfl, rfl, up (f20 _ _ hm zm) nq1, upd_same, (by rw [List.length_map]; exact Nat.le_trans (by show m.length + 1 ≤ 5; omega) (by decide)), fun q3 nq3 => ?_⟩
        have nD : q3 ≠ D20 := ne q3 (by
          cases h : H20 q3 with
          | none => rfl
          | some u => rw [up h nq1] at nq3; cases nq3)
        refine q2 _ _ ((Fr.new nq1).trans (Fr.new nq3)) ((P20.same (Same.new nq1)).same (Same.new nq3)) (.lst upd_same (zu_ne ((P20.same (Same.new nq1)).zp nq3) nD) ?_)
        rw [show [V.int 1] = [1].map V.int from rfl, ← List.map_append]
        exact DtAll.ints _
      intro H20 ys20 f20 P20 hD20' dy20
      have bad2 : Bad pp H20 (.ref D20) := by
        refine ⟨.list (M.map fun m => dRow (m ++ [1])), .lst hD20' zD20 (DtAll.mono' (fun _ m => .inl m) dy20), bad_of (r := dRow (fm ++ [1])) (by simp [sq.1]; omega) (fun r hr => ?_) (List.mem_map.mpr ⟨fm, List.mem_of_getElem? emf, rfl⟩) (line_len ?_)⟩
        · obtain ⟨m, hm, rfl⟩ := List.mem_map.mp hr
          have := sq.2.1 m hm
          exact row_few (by simp; omega)
        · have := sq.2.1 fm (List.mem_of_getElem? emf)
          simp [sq.1]
          omega
      have f20' : Fr (Zp pp) H17 H20 := f19.trans f20
      have ht20 := f20' _ _ ht17 zt
      -- the last row shorter
      refine ⟨_, rfl, _, rfl, _, rfl, t, xs, rfl, ht20, fun p3 np3 => ?_⟩
      rw [cut_last, dlast]
      obtain ⟨H21, s21, e21, h21⟩ := gen (.lst (xs.take (n - 1))) np3
      rw [h21]
      clear h21
      have f21 := f20'.trans (Fr.of s21)
      refine ⟨_, rfl, _, rfl, t, xs, -1, _, rfl, rfl, s21 _ _ ht20, at1, _, rfl, la, _, rfl, hRow f21 exl eml, fun p4 np4 => ?_⟩
      rw [cut_one, ← List.map_drop]
      obtain ⟨H22, s22, e22, h22⟩ := gen (.lst ((lm.drop 1).map V.int)) np4
      rw [h22]
      clear h22
      refine ⟨(by show 1 ≤ sizeLine; decide), fun p5 np5 => ?_⟩
      obtain ⟨H23, s23, e23, h23⟩ := gen (.lst [.ref p4]) np5
      rw [h23]
      clear h23
      refine ⟨p3, p5, _, _, rfl, rfl, s23 _ _ (s22 _ _ e21), e23, (by rw [List.length_take]; exact Nat.le_trans (by show min (n - 1) xs.length + 1 ≤ 5; omega) (by decide)), fun p6 np6 => ?_⟩
      obtain ⟨H24, s24, e24, h24⟩ := gen (.lst (xs.take (n - 1) ++ [.ref p4])) np6
      rw [h24]
      clear h24
      have P21 := P20.same s21
      have P22 := P21.same s22
      have P23 := P22.same s23
      have P24 := P23.same s24
      have f24 : Fr (Zp pp) H20 H24 := Fr.of (((s21.trans s22).trans s23).trans s24)
      have bad3 : Bad pp H24 (.ref p6) := by
        refine ⟨.list ((M.take (n - 1)).map dRow ++ [dRow (lm.drop 1)]), .lst e24 (P23.zp np6) ((dxs _ (f20'.trans f24)).append (.cons (.lst (s24 _ _ (s23 _ _ e22)) (P21.zp np4) (DtAll.ints _)) .nil)), bad_last sq n4 (row_few (by rw [List.length_drop]; omega)) (line_len (by rw [List.length_drop, tl]; omega))⟩
      refine ⟨(by show 3 ≤ sizeLine; decide), fun p7 np7 => ?_⟩
      obtain ⟨H25, s25, e25, h25⟩ := gen (.lst [.ref p2, .ref D20, .ref p6]) np7
      rw [h25]
      clear h25
      have P25 := P24.same s25
      have f25 : Fr (Zp pp) H17 H25 := (f20'.trans f24).trans (Fr.of s25)
      have b1 := bad1.fr ((f20.trans f24).trans (Fr.of s25))
      have b2 := bad2.fr (f24.trans (Fr.of s25))
      have b3 := bad3.fr (Fr.of s25)
      -- an odd entry at the end
      refine ⟨_, rfl, (by show 1 ≤ sizeLine; decide), fun p8 np8 => ?_⟩
      obtain ⟨H26, s26, e26, h26⟩ := gen (.lst [.int 1]) np8
      rw [h26]
      clear h26
      refine ⟨(by show 4 ≤ sizeLine; decide), fun p9 np9 => ?_⟩
      obtain ⟨H27, s27, e27, h27⟩ := gen (.lst [.bl true, .non, .str "1", .ref p8]) np9
      rw [h27]
      clear h27
      have P26 := P25.same s26
      have P27 := P26.same s27
      have f27 := (f25.trans (Fr.of s26)).trans (Fr.of s27)
      have dOdd : DtAll (Zp pp) H27 [.bl true, .non, .str "1", .ref p8] oddD := .cons (.bl _) (.cons .non (.cons (.str _) (.cons (.lst (s27 _ _ e26) (P25.zp np8) (.cons (.int _) .nil)) .nil)))
      refine ⟨p9, _, _, rfl, .inl rfl, e27, fun J3 w3 D28 hD28 => ?_⟩
      have zD28 := P27.zp hD28
      refine lc_dat w3 (Zp pp) (fun H => PoolAt H pp) (oddD.map fun o => .list ((M.take (n - 1)).map dRow ++ [.list ((lm.take (n - 1)).map PyData.int ++ [o])])) (by simp [oddD]) hD28 zD28 P27 (fun H l z n => z.upd' n) (by show 4 < sizeLine; decide) (fun H f => f _ _ e27 (P26.zp np9)) ?_ ?_
      · rintro j x dm Hx H28 Qk edm f28 P28 ne ⟨rfl, ex⟩ q2
        rw [List.getElem?_map] at edm
        obtain ⟨o, eo, rfl⟩ := Option.map_eq_some_iff.mp edm
        obtain ⟨o', eo', dto⟩ := dOdd.get ex
        rw [eo] at eo'
        cases eo'
        have f28' := f27.trans f28
        have ht28 := f28' _ _ ht17 zt
        refine ⟨rfl, ?_⟩
        refine ⟨_, rfl, _, rfl, _, rfl, t, xs, rfl, ht28, fun q1 nq1 => ?_⟩
        rw [cut_last, dlast]
        obtain ⟨H29, s29, e29, h29⟩ := gen (.lst (xs.take (n - 1))) nq1
        rw [h29]
        clear h29
        have f29 := f28'.trans (Fr.of s29)
        refine ⟨_, rfl, _, rfl, t, xs, -1, _, rfl, rfl, s29 _ _ ht28, at1, _, rfl, _, rfl, la, _, rfl, hRow f29 exl eml, fun q2' nq2 => ?_⟩
        rw [cut_last, List.dropLast_eq_take, List.length_map, lml, ← List.map_take]
        obtain ⟨H30, s30, e30, h30⟩ := gen (.lst ((lm.take (n - 1)).map V.int)) nq2
        rw [h30]
        clear h30
        refine ⟨_, rfl, (by show 1 ≤ sizeLine; decide), fun q3 nq3 => ?_⟩
        obtain ⟨H31, s31, e31, h31⟩ := gen (.lst [x]) nq3
        rw [h31]
        clear h31
        refine ⟨q2', q3, _, _, rfl, rfl, s31 _ _ e30, e31, (by rw [List.length_map, List.length_take]; exact Nat.le_trans (by show min (n - 1) lm.length + 1 ≤ 5; omega) (by decide)), fun q4 nq4 => ?_⟩
        obtain ⟨H32, s32, e32, h32⟩ := gen (.lst ((lm.take (n - 1)).map V.int ++ [x])) nq4
        rw [h32]
        clear h32
        refine ⟨(by show 1 ≤ sizeLine; decide), fun q5 nq5 => ?_⟩
        obtain ⟨H33, s33, e33, h33⟩ := gen (.lst [.ref q4]) nq5
        rw [h33]
        clear h33
        have s29_33 := (((s29.trans s30).trans s31).trans s32).trans s33
        refine ⟨q1, q5, _, _, rfl, rfl, (((s30.trans s31).trans s32).trans s33) _ _ e29, e33, (by rw [List.length_take]; exact Nat.le_trans (by show min (n - 1) xs.length + 1 ≤ 5; omega) (by decide)), fun q6 nq6 => ?_⟩
        obtain ⟨H34, s34, e34, h34⟩ := gen (.lst (xs.take (n - 1) ++ [.ref q4])) nq6
        rw [h34]
        clear h34
        have s28_34 := s29_33.trans s34
        have P33 := P28.same s29_33
        have nD : ∀ {q : Addr} {H' : Hp}, Same H28 H' → H' q = none → q ≠ D28 := fun {q H'} s h => ne q (by
          cases h' : H28 q with
          | none => rfl
          | some u => rw [s _ _ h'] at h; cases h)
        have P31 := P28.same ((s29.trans s30).trans s31)
        have f34 := f28'.trans (Fr.of s28_34)
        have dL : Dt (Zu (Zp pp) D28) H34 (.ref q4) (.list ((lm.take (n - 1)).map PyData.int ++ [o])) := by
          refine .lst (s34 _ _ (s33 _ _ e32)) (zu_ne (P31.zp nq4) (nD ((s29.trans s30).trans s31) nq4)) ((DtAll.ints _).append (.cons ?_ .nil))
          exact ((dto.off hD28).fr f28.zu).fr (Fr.of s28_34)
        refine q2 _ _ (Fr.of s28_34) (P28.same s28_34) (.lst e34 (zu_ne (P33.zp nq6) (nD s29_33 nq6)) (DtAll.append ?_ (.cons dL .nil)))
        have := (dxs (n - 1) f27)
        exact ((DtAll.off' hD28 this).fr f28.zu).fr (Fr.of s28_34)
      intro H28 ws28 f28 P28 hD28' dw28
      have f28' := f27.trans f28
      have hw28 : ws28.length = 4 := by rw [dw28.len]; simp [oddD]
      refine ⟨p7, D28, _, _, rfl, rfl, (f28 _ _ (s27 _ _ (s26 _ _ e25)) (P24.zp np7)), hD28', (by rw [hw28]; show 3 + 4 ≤ sizeLine; decide), fun p10 np10 => ?_⟩
      obtain ⟨H29, s29, e29, h29⟩ := gen (.lst ([.ref p2, .ref D20, .ref p6] ++ ws28)) np10
      rw [h29]
      clear h29
      have f25_29 : Fr (Zp pp) H25 H29 := ((Fr.of (s26.trans s27)).trans f28).trans (Fr.of s29)
      have bw : ∀ v ∈ [V.ref p2, .ref D20, .ref p6] ++ ws28, Bad pp H29 v := by
        intro v hv
        rcases List.mem_append.mp hv with h | h
        · simp only [List.mem_cons, List.not_mem_nil, or_false] at h
          rcases h with rfl | rfl | rfl
          · exact b1.fr f25_29
          · exact b2.fr f25_29
          · exact b3.fr f25_29
        · obtain ⟨j, hj, ej⟩ := List.getElem_of_mem h
          obtain ⟨d, ed, dt⟩ := dw28.get (List.getElem?_eq_getElem hj)
          rw [List.getElem?_map] at ed
          obtain ⟨o, eo, rfl⟩ := Option.map_eq_some_iff.mp ed
          obtain ⟨so, io⟩ := odd_ok (List.mem_of_getElem? eo)
          rw [← ej]
          exact ⟨_, (dt.un).fr (Fr.of s29), bad_last sq n4 ⟨shp_odd so, by simp [itemsD]; omega⟩ (line_odd io)⟩
      -- all of them, and three more
      have P29 := P28.same s29
      have f29 : Fr (Zp pp) H17 H29 := f25.trans f25_29
      have ht29 := f29 _ _ ht17 zt
      refine ⟨_, rfl, _, rfl, _, rfl, _, rfl, t, xs, rfl, ht29, fun q1 nq1 => ?_⟩
      rw [cut_last, dlast]
      obtain ⟨H30, s30, e30, h30⟩ := gen (.lst (xs.take (n - 1))) nq1
      rw [h30]
      clear h30
      refine ⟨(by show 1 ≤ sizeLine; decide), fun q2 nq2 => ?_⟩
      obtain ⟨H31, s31, e31, h31⟩ := gen (.lst [.int 5]) nq2
      rw [h31]
      clear h31
      refine ⟨q1, q2, _, _, rfl, rfl, s31 _ _ e30, e31, (by rw [List.length_take]; exact Nat.le_trans (by show min (n - 1) xs.length + 1 ≤ 5; omega) (by decide)), fun q3 nq3 => ?_⟩
      obtain ⟨H32, s32, e32, h32⟩ := gen (.lst (xs.take (n - 1) ++ [.int 5])) nq3
      rw [h32]
      clear h32
      refine ⟨(by show 3 ≤ sizeLine; decide), fun q4 nq4 => ?_⟩
      obtain ⟨H33, s33, e33, h33⟩ := gen (.lst [.non, .int 3, .ref q3]) nq4
      rw [h33]
      clear h33
      have s29_33 := ((s30.trans s31).trans s32).trans s33
      have P33 := P29.same s29_33
      refine ⟨p10, q4, _, _, rfl, rfl, s29_33 _ _ e29, e33, (by rw [List.length_append, hw28]; show 3 + 4 + 3 ≤ sizeLine; decide), fun q5 nq5 => ?_⟩
      obtain ⟨H34, s34, e34, h34⟩ := gen (.lst ([.ref p2, .ref D20, .ref p6] ++ ws28 ++ [.non, .int 3, .ref q3])) nq5
      rw [h34]
      clear h34
      have P34 := P33.same s34
      have s29_34 := s29_33.trans s34
      have bAll : ∀ v ∈ [V.ref p2, .ref D20, .ref p6] ++ ws28 ++ [.non, .int 3, .ref q3], Bad pp H34 v := by
        intro v hv
        rcases List.mem_append.mp hv with h | h
        · exact (bw v h).fr (Fr.of s29_34)
        · simp only [List.mem_cons, List.not_mem_nil, or_false] at h
          rcases h with rfl | rfl | rfl
          · exact ⟨.none, .non, rfl, (shp_none).ok, by simp [itemsD], by simp [itemsD]⟩
          · exact ⟨.int 3, .int 3, rfl, (shp_int).ok, by simp [itemsD], by simp [itemsD]⟩
          · refine ⟨.list ((M.take (n - 1)).map dRow ++ [.int 5]), .lst ((s33.trans s34) _ _ e32) (((P29.same s30).same s31).zp nq3) ((dxs _ (f29.trans (Fr.of s29_34))).append (.cons (.int _) .nil)), bad_last sq n4 ⟨shp_int.mono (by decide), by simp [itemsD]⟩ (by unfold isLine; simp [isSeq])⟩
      refine ⟨q5, _, _, rfl, .inl rfl, e34, fun J4 w4 D35 hD35 => ?_⟩
      have zD35 := P34.zp hD35
      have lAll : ([V.ref p2, V.ref D20, V.ref p6] ++ ws28 ++ [V.non, V.int 3, V.ref q3]).length = 10 := by simp [hw28]
      refine lc_vals w4 (Zp pp) (fun H => PoolAt H pp) (List.replicate 10 (V.bl true)) (by rw [lAll, List.length_replicate]) hD35 zD35 P34 (fun H l z n => z.upd' n) (by rw [lAll]; decide) (fun H f => f _ _ e34 (P33.zp nq5)) ?_ ?_
      · rintro j x k Hx H35 Qk ek f35 P35 ne ⟨rfl, ex⟩ q2
        obtain ⟨d, dt, b1', b2', b3', b4'⟩ := (bAll x (List.mem_of_getElem? ex)).fr f35
        have ek2 : k = V.bl true := by
          have := List.mem_of_getElem? ek
          exact (List.mem_replicate.mp this).2
        subst ek2
        exact ⟨rfl, _, rfl, x, d, rfl, dt.z0, b3', b4', b1', b2', fun H' s' => q2 _ (Fr.of s') (P35.same s')⟩
      intro H35 f35 P35 hD35'
      refine ⟨D35, List.replicate 10 true, rfl, by rw [hD35']; rfl, ?_⟩
      refine ⟨_, rfl, iteF ?_⟩
      exact ⟨base0 (((f17.trans f29).trans (Fr.of s29_34)).trans f35), _, _, _, _, _, _, _, _, _, _, _, _, _, rfl⟩
    · rintro σ H1 ⟨s1, _⟩
      exact q H1
end
section
variable {P : Program} {w : World} {K : PySem.W.Frag} {mg : Str → Option Value} {base : Heap}
abbrev si_InvalidRows : Stmt := inClass (top 1) 0
theorem sci_InvalidRows : FnScope ["self", "value"] ["self", "value"] (defScope si_InvalidRows) := ⟨rfl, rfl, rfl, by decide +kernel, rfl, by decide +kernel, by decide +kernel⟩
theorem in_InvalidRows {C fI : Addr} {fd : FuncData} (F : Fun K "__init__" "InvalidRows.__init__" si_InvalidRows fI fd) (L : Cl K C fI [.type "ValueError", .type "Exception", .type "BaseException", .type "object"] "ValueError.__new__" ["value"]) (m : mg "InvalidRows" = some (.ref C)) : XRz P w K mg base "InvalidRows" C 1 (sp1n "value" C) := by
  obtain ⟨oc, od, kV, doc, pm, an, cdv, ct, osl, rfl, lk, hcd⟩ := F.ex
  refine ⟨fI, _, ["self", "value"], "ValueError", "ValueError.__new__", "ValueError.__init__", [.type "ValueError", .type "Exception", .type "BaseException", .type "object"], PySem.F.excBase_ValueError, L.T, m, F.ok sci_InvalidRows (fun vs H Q E h => ?_) (fun cdv A outer s H vs Q E hr h => ?_),
    ⟨fun s us ws _ l1 l2 => match us, ws, l1, l2 with | [_, _], [], _, _ => .of_eq rfl, fun r _ => r⟩, L.look.xf.exC, L.ty⟩
  · obtain ⟨a, v, rfl, _⟩ := h
    rfl
  · obtain ⟨a, v, rfl, ea, q⟩ := h
    refine ⟨_, pss_one (ps_xst PySem.F.store_ValueError (newId := "ValueError.__new__") (pv 0) (pv 1)), ?_⟩
    exact ⟨_, rfl, _, rfl, a, C, fI, rfl, L.T, L.no _ (by simp), .inl ⟨ea, q⟩⟩
end
theorem all_mk {l : PySem.W.OpenLaw} {w : World} {K : PySem.W.Frag} {h : Heap} {mg : Str → Option Value} {fa fL C_InvalidRows : Addr} {oc kV doc pm cd ct : Value} {od an : Option Addr} {osl : Array (Option Value)} (X : K.In h) (G : h.Ns mainGlobals mg) (hfa : mg "law" = some (.ref fa))
    (D_is_integer : Has K mg "is_integer" s_is_integer ["value"])
    (D_lead_of : Has K mg "lead_of" s_lead_of ["row"])
    (D_is_line : Has K mg "is_line" s_is_line ["value", "many"])
    (D_determinant : Has K mg "determinant" s_determinant ["table"])
    (D__law_pool : Has K mg "_law_pool" s__law_pool ["_law_script", "_law_k"])
    (D__law_draw : Has K mg "_law_draw" s__law_draw ["_law_pool_here", "_law_many"])
    (D__law_expanded : Has K mg "_law_expanded" s__law_expanded ["_law_table_here"])
    (D__law_table : Has K mg "_law_table" s__law_table ["_law_pool_here"])
    (D__law_refused : Has K mg "_law_refused" s__law_refused ["_law_value"])
    (D__law_integer : Has K mg "_law_integer" s__law_integer ["_law_value", "_law_due"])
    (N_InvalidRows : CIn K "InvalidRows" "InvalidRows.__init__" si_InvalidRows C_InvalidRows [.type "ValueError", .type "Exception", .type "BaseException", .type "object"] "ValueError.__new__" ["value"])
    (xRR : PySem.W.exmOne K (.ref C_InvalidRows) (.ref C_InvalidRows) = some true)
    (z0 : PySem.W.nsIn K mainGlobals "isinstance" = some none)
    (z1 : PySem.W.nsIn K mainGlobals "int" = some none)
    (z2 : PySem.W.nsIn K mainGlobals "bool" = some none)
    (z3 : PySem.W.nsIn K mainGlobals "len" = some none)
    (z4 : PySem.W.nsIn K mainGlobals "range" = some none)
    (z5 : PySem.W.nsIn K mainGlobals "max" = some none)
    (z6 : PySem.W.nsIn K mainGlobals "min" = some none)
    (z7 : PySem.W.nsIn K mainGlobals "list" = some none)
    (z8 : PySem.W.nsIn K mainGlobals "tuple" = some none)
    (z9 : PySem.W.nsIn K mainGlobals "all" = some none)
    (z10 : PySem.W.nsIn K mainGlobals "enumerate" = some none)
    (z11 : PySem.W.nsIn K mainGlobals "zip" = some none)
    (aL : PySem.W.nsIn K mainGlobals "law" = some (some (.ref fL))) (lL : K.lookup fL = some ⟨oc, od, .func (PySem.W.fnOf "law" "law" (defArgs s_law) (defBody s_law) (defScope s_law) .none kV doc pm an cd ct), osl⟩) (cL : PySem.W.codeIn K cd "law" = true) (kL : PySem.W.keepIn K (.ref fL) = true) :
    ∃ fd : FuncData, (∀ (s : Shared) (v : Value), BindsTo s fd ⟨[v], []⟩ [("_law_script", v)]) ∧ ∀ base : Heap, K.In base → base.Ns mainGlobals mg → FnOk l.prog w K mg base CX0 6 fa fd ["_law_script"] (spLaw K) := by
  have e := hfa.symm.trans (PySem.W.mg_of X G aL)
  cases e
  have fr : ∀ {y : Str}, PySem.W.nsIn K mainGlobals y = some none → mg y = none := fun z => PySem.W.mg_none_of X G z
  have T : Txt K mg 0 := ⟨fr z0, fr z1, fr z2, fr z3, fr z4, fr z5, fr z6, fr z7, fr z8, fr z9, fr z10, fr z11⟩
  obtain ⟨fI_InvalidRows, dI_InvalidRows, aI_InvalidRows, FI_InvalidRows, LI_InvalidRows⟩ := N_InvalidRows
  have m_InvalidRows := PySem.W.mg_of X G aI_InvalidRows
  refine ⟨PySem.W.fnOf "law" "law" (defArgs s_law) (defBody s_law) (defScope s_law) .none kV doc pm an cd ct, fun s v => .of_eq rfl, fun base _ _ => ?_⟩
  have X_InvalidRows := in_InvalidRows (P := l.prog) (w := w) (base := base) FI_InvalidRows LI_InvalidRows m_InvalidRows
  have R : RTx K mg C_InvalidRows := ⟨m_InvalidRows, xRR, LI_InvalidRows.look.xf, LI_InvalidRows.no _ (by simp)⟩
  have O1 := ok_is_integer (P := l.prog) (w := w) (base := base) (aR := 0) D_is_integer T
  have O2 := ok_lead_of (P := l.prog) (w := w) (base := base) (aR := 0) D_lead_of T
  have O3 := ok_is_line (P := l.prog) (w := w) (base := base) (aR := 0) D_is_line T O1
  have O4 := ok_determinant (P := l.prog) (w := w) (base := base) (aR := 0) D_determinant T X_InvalidRows O2 O3
  have O5 := ok__law_pool (P := l.prog) (w := w) (base := base) (aR := 0) D__law_pool T
  have O6 := ok__law_draw (P := l.prog) (w := w) (base := base) (aR := 0) D__law_draw T
  have O7 := ok__law_expanded (P := l.prog) (w := w) (base := base) (aR := 0) D__law_expanded T
  have O8 := ok__law_table (P := l.prog) (w := w) (base := base) (aR := 0) D__law_table T O6
  have O9 := ok__law_refused (P := l.prog) (w := w) (base := base) D__law_refused R O4
  have O10 := ok__law_integer (P := l.prog) (w := w) (base := base) (aR := 0) D__law_integer T
  exact ok_law (aR := 0) (fun_mk (st := s_law) lL cL kL) T O5 O6 O8 O7 O4 O9 O10
theorem walk {l : PySem.W.OpenLaw} {q : Program} {loose : List Str} {XP : (Str → Option Value) → Heap → Prop} {YP : World → Heap → Prop} {d : DefRec} {K : Params → PySem.W.Frag} (hn : l.most = some 63) (hdf : d.params.defaults = [])
    (hY : ∀ (w : World) (h : Heap), YP w h → (K w.params).In h)
    (F : ∀ (w : World) (mg : Str → Option Value) (fa : Addr) (h : Heap), (K w.params).In h → h.Ns mainGlobals mg → mg d.name = some (.ref fa) →
      ∃ fd : FuncData, (∀ (s : Shared) (u : Value), BindsTo s fd ⟨[u], []⟩ [("_law_script", u)]) ∧ ∀ base : Heap, (K w.params).In base → base.Ns mainGlobals mg → FnOk l.prog w (K w.params) mg base CX0 6 fa fd ["_law_script"] (spLaw (K w.params))) :
    PySem.W.WalkO q loose XP YP l.row.toRowW d [] (fun f vs => PySem.call f vs) :=
  L2.walk_of (n := 63) (k := 6) (x := "_law_script") (CX := fun _ => CX0) (sp := fun w => spLaw (K w.params)) hn (by decide) hdf ⟨rfl, by decide, by decide⟩ hY F (fun _ _ a ns hl _ hS => ⟨a, ns, rfl, hS, hl, fun _ => rfl⟩) fun _ _ _ _ _ z => z
end W1
open PySem PySem.W PyProof.Rows
set_option maxRecDepth 100000 in
set_option maxHeartbeats 0 in
theorem PySem.Challenge.cw_twodivisions_k50_determinants_holds : PySem.Challenge.rw_twodivisions_k50_determinants.Holds := by
  w_on; o_law; k_head; (case hw => w_witness2)
  k_fill
  refine W1.walk (l := PySem.Challenge.rw_twodivisions_k50_determinants) rfl rfl (fun w h Y => PySem.W.kIn_of Y) ?F
  case F =>
    intro w mg fa h KX G hmg
    refine' W1.all_mk KX G hmg ?D_is_integer ?D_lead_of ?D_is_line ?D_determinant ?D__law_pool ?D__law_draw ?D__law_expanded ?D__law_table ?D__law_refused ?D__law_integer ?N_InvalidRows ?xRR ?z0 ?z1 ?z2 ?z3 ?z4 ?z5 ?z6 ?z7 ?z8 ?z9 ?z10 ?z11 ?aL ?lL ?cL ?kL
    (case D_is_integer => (refine' W1.has_mk KX G (fun _ _ _ _ _ _ us hl => match us, hl with | [_], _ => rfl) ?a ?l ?c ?k; (case a => k_is); (case l => k_is); (case c => k_is); (case k => k_is)))
    (case D_lead_of => (refine' W1.has_mk KX G (fun _ _ _ _ _ _ us hl => match us, hl with | [_], _ => rfl) ?a ?l ?c ?k; (case a => k_is); (case l => k_is); (case c => k_is); (case k => k_is)))
    (case D_is_line => (refine' W1.has_mk KX G (fun _ _ _ _ _ _ us hl => match us, hl with | [_, _], _ => rfl) ?a ?l ?c ?k; (case a => k_is); (case l => k_is); (case c => k_is); (case k => k_is)))
    (case D_determinant => (refine' W1.has_mk KX G (fun _ _ _ _ _ _ us hl => match us, hl with | [_], _ => rfl) ?a ?l ?c ?k; (case a => k_is); (case l => k_is); (case c => k_is); (case k => k_is)))
    (case D__law_pool => (refine' W1.has_mk KX G (fun _ _ _ _ _ _ us hl => match us, hl with | [_, _], _ => rfl) ?a ?l ?c ?k; (case a => k_is); (case l => k_is); (case c => k_is); (case k => k_is)))
    (case D__law_draw => (refine' W1.has_mk KX G (fun _ _ _ _ _ _ us hl => match us, hl with | [_, _], _ => rfl) ?a ?l ?c ?k; (case a => k_is); (case l => k_is); (case c => k_is); (case k => k_is)))
    (case D__law_expanded => (refine' W1.has_mk KX G (fun _ _ _ _ _ _ us hl => match us, hl with | [_], _ => rfl) ?a ?l ?c ?k; (case a => k_is); (case l => k_is); (case c => k_is); (case k => k_is)))
    (case D__law_table => (refine' W1.has_mk KX G (fun _ _ _ _ _ _ us hl => match us, hl with | [_], _ => rfl) ?a ?l ?c ?k; (case a => k_is); (case l => k_is); (case c => k_is); (case k => k_is)))
    (case D__law_refused => (refine' W1.has_mk KX G (fun _ _ _ _ _ _ us hl => match us, hl with | [_], _ => rfl) ?a ?l ?c ?k; (case a => k_is); (case l => k_is); (case c => k_is); (case k => k_is)))
    (case D__law_integer => (refine' W1.has_mk KX G (fun _ _ _ _ _ _ us hl => match us, hl with | [_, _], _ => rfl) ?a ?l ?c ?k; (case a => k_is); (case l => k_is); (case c => k_is); (case k => k_is)))
    (case N_InvalidRows => (refine' W1.cin_mk ?YInvalidRowsa ?YInvalidRowsb ?YInvalidRowsl ?YInvalidRowsc ?YInvalidRowsk ?YInvalidRowsg1 ?YInvalidRowsg2 ?YInvalidRowst ?YInvalidRowsu ?YInvalidRowsv ?YInvalidRowsw; (case YInvalidRowsa => k_is); (case YInvalidRowsb => k_is); (case YInvalidRowsl => k_is); (case YInvalidRowsc => k_is); (case YInvalidRowsk => k_is); (case YInvalidRowsg1 => k_is); (case YInvalidRowsg2 => k_is); (case YInvalidRowst => kernel_rfl); (case YInvalidRowsu => kernel_rfl); (case YInvalidRowsv => kernel_rfl); (case YInvalidRowsw => kernel_rfl)))
    (case xRR => kernel_rfl)
    (case z0 => k_is); (case z1 => k_is); (case z2 => k_is); (case z3 => k_is); (case z4 => k_is); (case z5 => k_is); (case z6 => k_is); (case z7 => k_is); (case z8 => k_is); (case z9 => k_is); (case z10 => k_is); (case z11 => k_is)
    (case aL => k_is); (case lL => k_is); (case cL => k_is); (case kL => k_is)
