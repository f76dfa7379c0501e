import PyProof.Rows.All
import Wide.All
import OpenK.AllK
import Wide.FinOn
import HandS.Base
import HandS.Call
import HandS.Ends
import HandS.Words
import PyProof.ReprReads
import PyProof.ReprRoads
import HandS.List
import HandS.Dict
import KE.KExcIs
import KE.KExcInit
import HandS.Exc
import HandS.ExcInit
import HandS.IsInst
import HandS.Defaults
import HandS.WordsList
import HandS.WordsExc
import HandS.ExcOwn
import HandS.ExcValue
import HandS.ForMost
import HandS.TryMany
import HandS.HotCalls
import HandS.Iter
import HandS.Comp
import PyProof.ReprLen
import KE.KStateDown
import HandS.Head0
import HandS.Head1
import HandS.Head2
import HandS.HeadHook1
import PySem.Challenge.RW_wornsteps_k10_errors_made
set_option Elab.async false
set_option linter.all false
set_option maxRecDepth 100000
set_option maxHeartbeats 2000000
/-! Promises of defs that ask for repr: they are called where no repr is under way (guards empty), and call others so. -/
namespace L2
open PySem PySem.Spec PyProof.Rows
/-- no repr is under way -/
def Quiet (A : Around) : Prop := A.guards = some []
structure FnG (P : Program) (w : World) (K : PySem.W.Frag) (mg : Str → Option Value) (base : Heap) (CX : CXT) (k : Nat) (f : Addr) (fd : FuncData) (ps : List Str) (sp : Sp) : Prop where
  len : ∀ vs H Q E, sp vs H Q E → vs.length = ps.length
  run : ∀ (A : Around) (outer : List Env) (s : Shared) (H : Hp) (args : Args) (us : List Value) (vs : List V) (Q : VK) (E : XK), Quiet A → Room k A → Env0 P w K mg base A outer s H → BindsTo s fd args (ps.zip us) → Vals vs us → sp vs H Q E →
    codeAny (model P w) A (.call (.ref f) args) (CR CX outer P w H s Q E) s
theorem FnOk.quiet {P : Program} {w : World} {K : PySem.W.Frag} {mg : Str → Option Value} {base : Heap} {CX : CXT} {k : Nat} {f : Addr} {fd : FuncData} {ps : List Str} {sp : Sp} (F : FnOk P w K mg base CX k f fd ps sp) : FnG P w K mg base CX k f fd ps sp :=
  ⟨F.len, fun A outer s H args us vs Q E _ => F.run A outer s H args us vs Q E⟩
theorem Quiet.deeper {A : Around} (q : Quiet A) (env : Env) : Quiet (A.deeper env) := q
section
variable {CX : CXT} {P : Program} {w : World} {K : PySem.W.Frag} {mg : Str → Option Value} {base : Heap} {k : Nat} {f : Addr} {N ps : List Str} {sp : Sp}
/-- a def whose body keeps the promise where no repr is under way -/
theorem fn_ofG {name qual : Str} {params : Arguments} {body : List Stmt} {scope : Scope} {dV kV doc pm cdv ct oc : Value} {an od : Option Addr} {osl : Array (Option Value)}
    (lk : K.lookup f = some ⟨oc, od, .func (PySem.W.fnOf name qual params body scope dV kV doc pm an cdv ct), osl⟩) (hcd : PySem.W.codeIn K cdv qual = true) (S : FnScope N ps scope) (len : ∀ vs H Q E, sp vs H Q E → vs.length = ps.length)
    (hbody : ∀ (A : Around) (outer : List Env) (s : Shared) (H : Hp) (vs : List V) (Q : VK) (E : XK), Quiet A → Room k (A.deeper (envOfC qual scope s.heap.objs.size f cdv)) → sp vs H Q E →
      ∃ t, PSs (cxOf CX P w K mg base N qual scope f cdv A outer s H E) body t ∧ t { nx := fun _ H' => Q .non H', rt := Q } (start N vs) H) :
    FnG P w K mg base CX (k + 1) f (PySem.W.fnOf name qual params body scope dV kV doc pm an cdv ct) ps sp := by
  constructor
  · exact len
  intro A outer s H args us vs Q E hg hr e0 hb r hsp
  have hl := len _ _ _ _ hsp
  have kept : ∀ b o, base.get? b = some o → s.heap.get? b = some o := fun b o e => (e0.bs b o e).1
  have KX := e0.mod.kin.keeps kept
  have lim := e0.mod.nolimit.keeps kept
  have kinds : ∀ y ∈ ps.zip us, scope.names.lookup y.1 = some .local ∨ (scope.names.lookup y.1 = some .cell ∧ ((cellsFrom (s.heap.objs.size + 1) scope.names []).lookup y.1).isSome = true) := by
    rintro ⟨n, v⟩ hy
    rcases S.par n (List.of_mem_zip hy).1 with q | q
    · exact .inl q
    · exact .inr ⟨q, PySem.W.cellsFrom_some _ _ _ (.inl q)⟩
  refine codeAny_call_function hr.depth (KX _ _ lk) rfl S.co S.gen rfl (PySem.W.codeRec_of KX hcd) (hb _ _ _ _ (wpAny_newFunctionEnv_cells S.kind kinds fun env he s1 x => ?_))
  subst he
  obtain ⟨t, ht, hq⟩ := hbody A outer s H vs Q E hg (hr.deeper _) hsp
  refine ⟨lim.keeps x.toInCall.keep, codeAny_func (wpAny_mono (ht.run [] s1 (start N vs) H _ (inv_start S hr.hd e0 hl r x) hq) (fun fl s' hs => ?_) fun e s' hs => hs)⟩
  match fl, hs with
  | .ret u, ⟨v, σ', H', J, rv, q⟩ => exact ⟨v, H', J.os, J.bare, J.base, J.hok, rv, q⟩
  | .next, ⟨σ', H', J, q⟩ => exact ⟨V.non, H', J.os, J.bare, J.base, J.hok, rfl, q⟩
  | .brk, ⟨_, _, _, q⟩ => exact False.elim q
  | .cont, ⟨_, _, _, q⟩ => exact False.elim q
/-- the same by the text's places -/
theorem Fun.okG {x qual : Str} {st : Stmt} {fd : FuncData} (F : Fun K x qual st f fd) (S : FnScope N ps (defScope st)) (len : ∀ vs H Q E, sp vs H Q E → vs.length = ps.length)
    (hbody : ∀ (cdv : Value) (A : Around) (outer : List Env) (s : Shared) (H : Hp) (vs : List V) (Q : VK) (E : XK), Quiet A → Room k (A.deeper (envOfC qual (defScope st) s.heap.objs.size f cdv)) → sp vs H Q E →
      ∃ t, PSs (cxOf CX0 P w K mg base N qual (defScope st) f cdv A outer s H E).nox (defBody st) t ∧ t { nx := fun _ H' => Q .non H', rt := Q } (start N vs) H) : FnG P w K mg base CX0 (k + 1) f fd ps sp := by
  obtain ⟨oc, od, kV, doc, pm, an, cdv, ct, osl, rfl, lk, hcd⟩ := F.ex
  exact fn_ofG lk hcd S len fun A outer s H vs Q E hg hr hsp => let ⟨t, h, q⟩ := hbody cdv A outer s H vs Q E hg hr hsp; ⟨t, h.nox, q⟩
end
section
variable {X : Cx} {CX : CXT} {k : Nat} {f : Addr} {fd : FuncData} {ps : List Str} {sp : Sp} {E : XK} {x : Str} {p pos : Pos} {e : Expr} {es : List Expr} {t : TA} {ds : List Value} {dvs : List V}
theorem run_fnG {pins : List (Addr × Obj)} {σ : St} {H : Hp} {s : Shared} {Q : VK} {us : List Value} {vs : List V} (F : FnG X.prog X.w X.K X.mg X.base CX k f fd ps sp) (hg : Quiet X.A) (hr : Room k X.A) (hb : Binds X.K fd ps ds) (hd : Vals dvs ds) (hx : Passes CX X E)
    (I : Inv X pins σ H s) (r : Vals vs us) (h : sp (vs ++ dvs) H Q E) : wpAny (model X.prog X.w) X.A (call (.ref f) us) (EP X pins σ Q) X.xe s := by
  have r2 := r.append hd
  have hl := r2.length.symm.trans (F.len _ _ _ _ h)
  refine wpAny_call (codeAny_mono (F.run X.A X.stack s H ⟨us, []⟩ (us ++ ds) (vs ++ dvs) Q E hg hr I.env0 (hb s us I.kIn hl) r2 h) fun r s' hq => ?_)
  match r, hq with
  | .error e, hq => exact hx pins σ H s e s' I hq
  | .ok (.ret u), hq => exact I.after hq
  | .ok .next, hq => exact False.elim hq
  | .ok .brk, hq => exact False.elim hq
  | .ok .cont, hq => exact False.elim hq
/-- f(e, ..) -/
theorem pe_callG (F : FnG X.prog X.w X.K X.mg X.base CX k f fd ps sp) (hq : Quiet X.A) (hr : Room k X.A) (hg : Gl X x) (hm : X.mg x = some (.ref f)) (hk : PySem.W.keepIn X.K (.ref f) = true) (hb : Binds X.K fd ps ds) (hd : Vals dvs ds) (hx : Passes CX X E)
    (ha : PA X (e :: es) t) (hdb : (x == ("__debug__" : Str)) = false := by decide) (he : starEach (e :: es) X.env = (false, eval e X.env) :: starEach es X.env := by rfl) (hpl : (backTo pos (starEach es X.env)).any (·.1) = false := by rfl) :
    PE X (.Call (.Name x p) (e :: es) [] pos) (tCall sp dvs E t) :=
  ⟨fun pins s σ H Q I h => wpAny_Call_Name_kw (ld_glob I hg hm (PySem.W.callWith_K (h₀ := X.base) I.ok.mod.kin hk (thn (ha.run pos pins s σ H _ I h) fun us s1 ⟨vs, H1, I1, r, q⟩ => ⟨I1.kIn, run_fnG F hq hr hb hd hx I1 r q⟩) he hpl) hdb)⟩
theorem pe_callG0 (F : FnG X.prog X.w X.K X.mg X.base CX k f fd ps sp) (hq : Quiet X.A) (hr : Room k X.A) (hg : Gl X x) (hm : X.mg x = some (.ref f)) (hk : PySem.W.keepIn X.K (.ref f) = true) (hb : Binds X.K fd ps ds) (hd : Vals dvs ds) (hx : Passes CX X E)
    (hdb : (x == ("__debug__" : Str)) = false := by decide) : PE X (.Call (.Name x p) [] [] pos) (tCall sp dvs E tNil) :=
  ⟨fun pins s σ H Q I h => wpAny_Call_Name_kw (ld_glob I hg hm (PySem.W.callWith_K0 I.kIn hk (run_fnG (us := []) F hq hr hb hd hx I .nil h)) hdb)⟩
end
end L2
set_option Elab.async false
set_option linter.all false
set_option maxRecDepth 100000
set_option maxHeartbeats 2000000
/-! The end of a law row where the law's def asks for repr. -/
namespace L2
open PySem PySem.Spec PyProof.Rows
section
variable {P : Program} {w : World} {K : PySem.W.Frag} {mg mb : Str → Option Value} {CX : CXT} {k : Nat} {fa a : Addr} {fd : FuncData} {x : Str} {sp : Sp} {s1 : Shared} {vs : List Value} {ns : List Int}
/-- from an abstract heap that tracks the script at most -/
theorem law_coreG (KX : K.In s1.heap) (hns : s1.heap.Ns mainGlobals mg) (hb : s1.heap.Ns builtinsNs mb) (hbb : ∀ x : Str, x ≠ "__name__" → mb x = bootBuiltins x) (hlim : s1.heap.NoLimit) (hg : s1.gens = #[])
    (ha : s1.heap.get? a = some { cls := .type "list", data := .seq vs.toArray }) (hr : Room k callerA) (F : ∀ base : Heap, K.In base → base.Ns mainGlobals mg → FnG P w K mg base CX k fa fd [x] sp) (hbind : ∀ (s : Shared) (u : Value), BindsTo s fd ⟨[u], []⟩ [(x, u)])
    (hCX : ∀ H e s', CX [] H s1 (fun _ _ _ => False) e s' → False) (H : Hp) (hO : Only H) (hsp : sp [.ref a] H (fun v _ => v = .bl true) fun _ _ _ => False) (hok : HOk P w H s1.heap) (hA : ∀ b, H b ≠ none → b = a) (hK : H a ≠ none → K.lookup a = none) :
    codeAny (model P w) callerA (.call (.ref fa) ⟨[.ref a], []⟩) (fun r s' => r = .ok (.ret (.bool true)) ∧ OldK s1.heap s'.heap ∧ s'.os = s1.os ∧ AllBare s'.gens) s1 := by
  have away : ∀ {b : Addr}, b ≠ a → H b = none := fun {b} nb => by
    cases q : H b with
    | none => rfl
    | some u => exact absurd (hA b (by rw [q]; exact nofun)) nb
  have hid : ∀ {b : Addr} {o : Obj}, s1.heap.get? b = some o → H b = none → (hidT s1.heap H).get? b = some o := fun e n => hidT_get e n
  have nsK : ∀ {b : Addr} {m : Str → Option Value}, s1.heap.Ns b m → (hidT s1.heap H).Ns b m := by
    rintro b m ⟨o, es, ep, e, d, r⟩
    have nb : b ≠ a := fun z => by
      rw [z, ha] at e
      cases e
      exact nomatch (show Data.seq vs.toArray 0 = Data.dict es ep from d)
    exact ⟨o, es, ep, hid e (away nb), d, r⟩
  have kb : K.In (hidT s1.heap H) := fun b o e => hid (KX b o e) (by
    cases q : H b with
    | none => rfl
    | some u =>
      have z := hA b (by rw [q]; exact nofun)
      subst z
      rw [hK (by rw [q]; exact nofun)] at e
      cases e)
  have md : Mod K mg (hidT s1.heap H) := ⟨kb, nsK hns, ⟨mb, nsK hb, hbb⟩, hlim.elim fun mc z => ⟨mc, nsK z.1, z.2⟩⟩
  have e0 : Env0 P w K mg (hidT s1.heap H) callerA [] s1 H := ⟨rfl, md, fun b o e => of_hidT e, Nat.le_of_eq (hidT_size _ _), trivial, fun b hb => absurd (show b ∈ ([] : List Addr) from hb) (by simp), hok, .of_eq hg⟩
  refine codeAny_mono ((F _ kb (nsK hns)).run callerA [] s1 H ⟨[.ref a], []⟩ [.ref a] [.ref a] _ _ rfl hr e0 (hbind s1 (.ref a)) (.cons rfl .nil) hsp) fun r s' h => ?_
  match r, h with
  | .error e, h => exact (hCX H e s' h).elim
  | .ok .next, h => exact False.elim h
  | .ok .brk, h => exact False.elim h
  | .ok .cont, h => exact False.elim h
  | .ok (.ret u), ⟨v, H', os, bare, un, hok', r', q⟩ =>
    subst q
    cases (show u = Value.bool true from r')
    refine ⟨rfl, OldK.of_keep fun b o e => ?_, os, bare⟩
    cases q : H b with
    | none => exact un.keep b o e q (fun z => absurd (show b ∈ ([] : List Addr) from z) (by simp)) (by simp)
    | some u =>
      rcases hO b with z | ⟨ob, xs, z⟩
      · rw [q] at z
        cases z
      · obtain ⟨e1, _⟩ := hok b _ z
        obtain ⟨e2, _⟩ := hok' b _ (un.frzs b ob _ z)
        rw [e] at e1
        cases e1
        exact e2
theorem law_callG (KX : K.In s1.heap) (hns : s1.heap.Ns mainGlobals mg) (hb : s1.heap.Ns builtinsNs mb) (hbb : ∀ x : Str, x ≠ "__name__" → mb x = bootBuiltins x) (hlim : s1.heap.NoLimit) (hg : s1.gens = #[])
    (ha : s1.heap.get? a = some { cls := .type "list", data := .seq vs.toArray }) (hi : IntsAre vs ns) (hl : ns.length ≤ sizeLine) (hr : Room k callerA) (F : ∀ base : Heap, K.In base → base.Ns mainGlobals mg → FnG P w K mg base CX k fa fd [x] sp) (hbind : ∀ (s : Shared) (u : Value), BindsTo s fd ⟨[u], []⟩ [(x, u)])
    (hsp : ∀ H : Hp, Only H → SqL K H a (ns.map V.int) → sp [.ref a] H (fun v _ => v = .bl true) fun _ _ _ => False) (hCX : ∀ H e s', CX [] H s1 (fun _ _ _ => False) e s' → False) :
    codeAny (model P w) callerA (.call (.ref fa) ⟨[.ref a], []⟩) (fun r s' => r = .ok (.ret (.bool true)) ∧ OldK s1.heap s'.heap ∧ s'.os = s1.os ∧ AllBare s'.gens) s1 := by
  have rv := vals_ints hi
  have lv := hi.length
  cases hk : K.lookup a with
  | some o =>
    have e := KX a o hk
    rw [ha] at e
    cases e
    have only : Only fun _ => none := fun _ => .inl rfl
    exact law_coreG KX hns hb hbb hlim hg ha hr F hbind hCX (fun _ => none) only (hsp _ only (.inr ⟨_, vs.toArray, _, hk, rfl, rfl, rfl, by rw [List.size_toArray, lv]; exact hl, by simpa using rv⟩)) (fun b u z => nomatch (show (none : Option HO) = some u from z)) (fun b z => absurd rfl z) fun z => absurd rfl z
  | none =>
    let H : Hp := fun b => if b = a then some (.frz { cls := .type "list", data := .seq vs.toArray } (.lst (ns.map V.int))) else none
    have at_a : H a = some (.frz { cls := .type "list", data := .seq vs.toArray } (.lst (ns.map V.int))) := if_pos rfl
    have at_b : ∀ {b : Addr}, b ≠ a → H b = none := fun nb => if_neg nb
    have only : Only H := fun b => by
      by_cases e : b = a
      · exact .inr ⟨_, _, by rw [e]; exact at_a⟩
      · exact .inl (at_b e)
    refine law_coreG KX hns hb hbb hlim hg ha hr F hbind hCX H only (hsp _ only (.inl (.inr ⟨_, at_a⟩))) (fun b u z => ?_) (fun b z => ?_) fun _ => hk
    · by_cases e : b = a
      · subst e
        rw [at_a] at z
        cases z
        exact ⟨ha, by rw [List.length_map]; exact hl, vs, _, rv, ha⟩
      · rw [at_b e] at z
        cases z
    · by_cases e : b = a
      · exact e
      · exact absurd (at_b e) z
end
/-- what k_head leaves, from the law's promise -/
theorem walk_ofG {l : PySem.W.OpenLaw} {n k : Nat} {q : Program} {loose : List Str} {XP : (Str → Option Value) → Heap → Prop} {YP : World → Heap → Prop} {d : DefRec} {K : Params → PySem.W.Frag} {CX : World → CXT} {sp : World → Sp} {x : Str}
    (hn : l.most = some n) (hn2 : n ≤ sizeLine) (hdf : d.params.defaults = []) (hr : Room k callerA) (hY : ∀ (w : World) (h : Heap), YP w h → (K w.params).In h)
    (F : ∀ (w : World) (mg : Str → Option Value) (fa : Addr) (h : Heap), (K w.params).In h → h.Ns mainGlobals mg → mg d.name = some (.ref fa) → ∃ fd : FuncData, (∀ (s : Shared) (u : Value), BindsTo s fd ⟨[u], []⟩ [(x, u)]) ∧
      ∀ base : Heap, (K w.params).In base → base.Ns mainGlobals mg → FnG l.prog w (K w.params) mg base (CX w) k fa fd [x] (sp w))
    (hsp : ∀ (w : World) (H : Hp) (a : Addr) (ns : List Int), ns.length ≤ n → Only H → SqL (K w.params) H a (ns.map V.int) → sp w [.ref a] H (fun v _ => v = .bl true) fun _ _ _ => False)
    (hCX : ∀ (w : World) (H : Hp) (s : Shared) (e : Value) (s' : Shared), CX w [] H s (fun _ _ _ => False) e s' → False) : PySem.W.WalkO q loose XP YP l.row.toRowW d [] (fun f vs => PySem.call f vs) := by
  refine Att.attach_call hn hdf fun w s0 s1 mg mb fa o pm cd doc a vs ns G Y ho hd hcd hmg hobj hints hlen hg => ?_
  obtain ⟨fd, hb, hF⟩ := F w mg fa _ (hY w _ Y) G.T.g hmg
  exact law_callG (hY w _ Y) G.T.g G.T.b G.T.builtins G.T.nolimit hg hobj hints (Nat.le_trans hlen hn2) hr hF hb (fun H hO hS => hsp w H a ns hlen hO hS) fun H e s' => hCX w H s1 e s'
end L2
set_option Elab.async false
set_option linter.all false
set_option maxRecDepth 100000
set_option maxHeartbeats 4000000
/-! repr of a list of data of any depth (lists, tuples, dicts with int and text keys), where no repr is under way. -/
namespace L2
open PySem PySem.Spec PyProof.Rows
def keyD : Key → PyData
  | .inl i => .int i
  | .inr x => .str x
mutual
/-- what a value holds, as data -/
inductive Dq (H : Hp) : V → PyData → Prop
  | non : Dq H .non .none
  | bl (b : Bool) : Dq H (.bl b) (.bool b)
  | int (i : Int) : Dq H (.int i) (.int i)
  | str (x : Str) : Dq H (.str x) (.str x)
  | lst {a : Addr} {xs : List V} {ds : List PyData} : H a = some (.lst xs) → DqAll H xs ds → Dq H (.ref a) (.list ds)
  | tup {a : Addr} {xs : List V} {ds : List PyData} : H a = some (.tup xs) → DqAll H xs ds → Dq H (.ref a) (.tuple ds)
  | dic {a : Addr} {kvs : List (Key × V)} {kds : List (PyData × PyData)} : H a = some (.dK kvs) → DqKv H kvs kds → Dq H (.ref a) (.dict kds)
inductive DqAll (H : Hp) : List V → List PyData → Prop
  | nil : DqAll H [] []
  | cons {v : V} {vs : List V} {d : PyData} {ds : List PyData} : Dq H v d → DqAll H vs ds → DqAll H (v :: vs) (d :: ds)
inductive DqKv (H : Hp) : List (Key × V) → List (PyData × PyData) → Prop
  | nil : DqKv H [] []
  | cons {k : Key} {v : V} {kvs : List (Key × V)} {d : PyData} {kds : List (PyData × PyData)} : Dq H v d → DqKv H kvs kds → DqKv H ((k, v) :: kvs) ((keyD k, d) :: kds)
end
mutual
theorem Dq.same {H H' : Hp} (s : Same H H') : ∀ {v : V} {d : PyData}, Dq H v d → Dq H' v d
  | _, _, .non => .non
  | _, _, .bl b => .bl b
  | _, _, .int i => .int i
  | _, _, .str x => .str x
  | _, _, .lst h a => .lst (s _ _ h) (DqAll.same s a)
  | _, _, .tup h a => .tup (s _ _ h) (DqAll.same s a)
  | _, _, .dic h a => .dic (s _ _ h) (DqKv.same s a)
theorem DqAll.same {H H' : Hp} (s : Same H H') : ∀ {vs : List V} {ds : List PyData}, DqAll H vs ds → DqAll H' vs ds
  | _, _, .nil => .nil
  | _, _, .cons h t => .cons (Dq.same s h) (DqAll.same s t)
theorem DqKv.same {H H' : Hp} (s : Same H H') : ∀ {kvs : List (Key × V)} {kds : List (PyData × PyData)}, DqKv H kvs kds → DqKv H' kvs kds
  | _, _, .nil => .nil
  | _, _, .cons h t => .cons (Dq.same s h) (DqKv.same s t)
end
theorem DqAll.rep {H : Hp} {v : V} {d : PyData} (h : Dq H v d) : ∀ n, DqAll H (List.replicate n v) (List.replicate n d)
  | 0 => .nil
  | n + 1 => .cons h (DqAll.rep h n)
/-- the keys and the values of a dict's entries, side by side -/
theorem pairs_split {P : Program} {w : World} : ∀ {es : List DictEntry} {kvs : List (Key × V)} {vs : List (Key × Value)}, KV kvs vs → Pairs (mixKind P w) es vs →
    (∀ h : Heap, ReadsAll h (es.map (·.key)) (kvs.map fun p => keyD p.1) []) ∧ Vals (kvs.map (·.2)) (es.map (·.val))
  | _, _, _, .nil, .nil => ⟨fun _ => .nil, .nil⟩
  | e :: es, (k, v) :: kvs, (k', u) :: vs, .cons r rs, .cons hk hv ps => by
    obtain ⟨a, b⟩ := pairs_split rs ps
    obtain ⟨e1, ru⟩ := r
    dsimp only at e1 ru hv hk
    subst e1
    refine ⟨fun h => ?_, .cons (show RelV v e.val by rw [hv]; exact ru) b⟩
    have one : Reads h e.key (keyD k) [] := by
      rcases keyIs_shape (k := k) (v := e.key) hk with ⟨i, t, rfl, q⟩ | ⟨x, t, rfl, q⟩
      · rw [q]; exact .int i t
      · rw [q]; exact .str x t
    exact ReadsAll.cons (as := []) (bs := []) one (a h)
section
variable {X : Cx} {pins : List (Addr × Obj)} {σ : St} {H : Hp} {s : Shared} {prog : Program} {w : World}
theorem keys_of : ∀ {kvs : List (Key × V)} {kds : List (PyData × PyData)}, DqKv H kvs kds → (kvs.map fun p => keyD p.1) = kds.map (·.1) ∧ DqAll H (kvs.map (·.2)) (kds.map (·.2))
  | _, _, .nil => ⟨rfl, .nil⟩
  | _, _, .cons h t => by
    obtain ⟨a, b⟩ := keys_of t
    exact ⟨by rw [List.map_cons, List.map_cons, a], .cons h b⟩
mutual
theorem Dq.reads (I : Inv X pins σ H s) : ∀ {v : V} {d : PyData} {u : Value}, Dq H v d → RelV v u → ∃ as, Reads s.heap u d as
  | _, _, _, .non, r => by cases r; exact ⟨_, .none⟩
  | _, _, _, .bl b, r => by cases r; exact ⟨_, .bool b⟩
  | _, _, _, .int i, r => by obtain ⟨t, rfl⟩ := r; exact ⟨_, .int i t⟩
  | _, _, _, .str x, r => by obtain ⟨t, rfl⟩ := r; exact ⟨_, .str x t⟩
  | _, _, _, .lst h t, r => by
    cases r
    obtain ⟨_, its, n, rv, ho⟩ := I.hok _ _ h
    obtain ⟨as, ra⟩ := DqAll.reads I t rv
    exact ⟨_, .list ho rfl rfl ra⟩
  | _, _, _, .tup h t, r => by
    cases r
    obtain ⟨_, its, rv, o, ho, hc, n, hd⟩ := I.hok _ _ h
    obtain ⟨as, ra⟩ := DqAll.reads I t rv
    exact ⟨_, .tuple ho hc hd ra⟩
  | _, _, _, .dic h t, r => by
    cases r
    obtain ⟨_, _, vs, rk, o, es, ep, ho, hx, hd, _, ps, _⟩ := I.hok _ _ h
    obtain ⟨ka, va⟩ := pairs_split rk ps
    obtain ⟨bs, rb⟩ := DqKv.reads I t va
    exact ⟨_, .dict ho hx.1 hd (by rw [← (keys_of t).1]; exact ka s.heap) rb⟩
theorem DqAll.reads (I : Inv X pins σ H s) : ∀ {vs : List V} {ds : List PyData} {us : List Value}, DqAll H vs ds → Vals vs us → ∃ as, ReadsAll s.heap us ds as
  | _, _, _, .nil, .nil => ⟨_, .nil⟩
  | _, _, _, .cons h t, .cons r rs => by
    obtain ⟨as, a⟩ := Dq.reads I h r
    obtain ⟨bs, b⟩ := DqAll.reads I t rs
    exact ⟨_, .cons a b⟩
theorem DqKv.reads (I : Inv X pins σ H s) : ∀ {kvs : List (Key × V)} {kds : List (PyData × PyData)} {us : List Value}, DqKv H kvs kds → Vals (kvs.map (·.2)) us → ∃ as, ReadsAll s.heap us (kds.map (·.2)) as
  | _, _, _, .nil, .nil => ⟨_, .nil⟩
  | _, _, _, .cons h t, .cons r rs => by
    obtain ⟨as, a⟩ := Dq.reads I h r
    obtain ⟨bs, b⟩ := DqKv.reads I t rs
    exact ⟨_, .cons a b⟩
end
mutual
/-- the text of each, from the model -/
theorem Dq.shows (I : Inv X pins σ H s) : ∀ {v : V} {d : PyData} {u : Value}, Dq H v d → RelV v u → d.showable = true → d.shown.length ≤ sizeLine → ∃ bs, ReadAtMost s.heap d.depth bs ∧ ReprK prog w bs s.heap d.depth u d.shown
  | _, _, _, .non, r, _, _ => by
    cases r
    exact ⟨[], (fun _ h => nomatch h), by simp only [PyData.shown]; exact .of_is ReprIs.none _ _ _⟩
  | _, _, _, .bl b, r, _, _ => by
    cases r
    exact ⟨[], (fun _ h => nomatch h), by simp only [PyData.shown]; exact .of_is (ReprIs.bool b) _ _ _⟩
  | _, _, _, .int i, r, hs, _ => by
    obtain ⟨t, rfl⟩ := r
    exact ⟨[], (fun _ h => nomatch h), by simp only [PyData.shown]; exact .of_is (ReprIs.int t (by simpa [PyData.showable] using hs)) _ _ _⟩
  | _, _, _, .str x, r, _, hz => by
    obtain ⟨t, rfl⟩ := r
    exact ⟨[], (fun _ h => nomatch h), by simp only [PyData.shown]; exact .of_is (ReprIs.str x t (by simpa only [PyData.shown] using hz)) _ _ _⟩
  | _, _, _, .lst (a := a) (ds := ds) h t, r, hs, hz => by
    obtain ⟨as0, rd⟩ := Dq.reads I (.lst h t) r
    cases r
    have hz' : (listText (PyData.shownAll ds)).length ≤ sizeLine := by simpa only [PyData.shown] using hz
    obtain ⟨_, its, n, rv, ho⟩ := I.hok _ _ h
    obtain ⟨bs, hb, hk⟩ := DqAll.shows I t rv (by simpa [PyData.showable] using hs) (fun x hx => Nat.le_trans (listText_mem_le hx) hz')
    have hna : a ∉ bs := not_mem_of_deeper rd (by simp only [PyData.depth]; omega) hb
    refine ⟨a :: bs, .cons rd (by simp only [PyData.depth]; omega) hb, ?_⟩
    simp only [PyData.depth, PyData.shown]
    cases its with
    | nil =>
      rw [List.eq_nil_of_length_eq_zero hk.length_eq, listText_nil]
      exact ReprK.listEmpty ho rfl rfl
    | cons x l => exact ReprK.list ho rfl rfl hna (by simpa using hk.length_eq) (fun i y e => hk.item i y (by simpa using e))
  | _, _, _, .tup (a := a) (ds := ds) h t, r, hs, hz => by
    obtain ⟨as0, rd⟩ := Dq.reads I (.tup h t) r
    cases r
    have hz' : (tupleText (PyData.shownAll ds)).length ≤ sizeLine := by simpa only [PyData.shown] using hz
    obtain ⟨_, its, rv, o, ho, hc, n, hd⟩ := I.hok _ _ h
    obtain ⟨bs, hb, hk⟩ := DqAll.shows I t rv (by simpa [PyData.showable] using hs) (fun x hx => Nat.le_trans (tupleText_mem_le hx) hz')
    have hna : a ∉ bs := not_mem_of_deeper rd (by simp only [PyData.depth]; omega) hb
    refine ⟨a :: bs, .cons rd (by simp only [PyData.depth]; omega) hb, ?_⟩
    simp only [PyData.depth, PyData.shown]
    exact ReprK.tuple ho hc hd hna hk
  | _, _, _, .dic (a := a) (kvs := kvs) (kds := kds) h t, r, hs, hz => by
    obtain ⟨as0, rd⟩ := Dq.reads I (.dic h t) r
    cases r
    have hz' : (dictText (PyData.shownKv kds)).length ≤ sizeLine := by simpa only [PyData.shown] using hz
    obtain ⟨_, hsys, vs, rk, o, es, ep, ho, hx, hd, _, ps, _⟩ := I.hok _ _ h
    obtain ⟨ka, va⟩ := pairs_split rk ps
    obtain ⟨hs1, hs2⟩ := PyData.showableKv_split kds (by simpa [PyData.showable] using hs)
    have kr : ReadsAll s.heap (es.toList.map (·.key)) (kds.map (·.1)) [] := by rw [← (keys_of t).1]; exact ka s.heap
    obtain ⟨b1, hb1, k1⟩ := ReprAllK.of_readsAll (prog := prog) (w := w) kr hs1 (fun _ => by simp) (fun x hx => by
      obtain ⟨p, hp, hl⟩ := PyData.shownKv_key_le kds x hx
      exact Nat.le_trans hl (Nat.le_trans (dictText_mem_le hp) hz'))
    obtain ⟨b2, hb2, k2⟩ := DqKv.shows I t va hs2 (fun x hx => by
      obtain ⟨p, hp, hl⟩ := PyData.shownKv_val_le kds x hx
      exact Nat.le_trans hl (Nat.le_trans (dictText_mem_le hp) hz'))
    have hb : ReadAtMost s.heap (PyData.depthKv kds) (b1 ++ b2) := (hb1.mono (PyData.depthAll_keys_le kds)).append (hb2.mono (PyData.depthAll_vals_le kds))
    have hna : a ∉ b1 ++ b2 := not_mem_of_deeper rd (by simp only [PyData.depth]; omega) hb
    refine ⟨a :: (b1 ++ b2), .cons rd (by simp only [PyData.depth]; omega) hb, ?_⟩
    simp only [PyData.depth, PyData.shown, PyData.shownKv_eq]
    exact ReprK.dict ho hx.1 hd hsys hna (ReprEntriesK.of_two es.toList _ _ (k1.more_le (fun b hb => List.mem_append_left _ hb) (PyData.depthAll_keys_le kds)) (k2.more_le (fun b hb => List.mem_append_right _ hb) (PyData.depthAll_vals_le kds)))
theorem DqAll.shows (I : Inv X pins σ H s) : ∀ {vs : List V} {ds : List PyData} {us : List Value}, DqAll H vs ds → Vals vs us → PyData.showableAll ds = true → (∀ t ∈ PyData.shownAll ds, t.length ≤ sizeLine) →
    ∃ bs, ReadAtMost s.heap (PyData.depthAll ds) bs ∧ ReprAllK prog w bs s.heap (PyData.depthAll ds) us (PyData.shownAll ds)
  | _, _, _, .nil, .nil, _, _ => ⟨[], (fun _ h => nomatch h), by simp only [PyData.shownAll]; exact .nil⟩
  | _, _, _, .cons (d := d) (ds := ds) h t, .cons r rs, hs, hz => by
    have hs' : d.showable = true ∧ PyData.showableAll ds = true := by simpa [PyData.showableAll] using hs
    obtain ⟨b1, hb1, k1⟩ := Dq.shows I h r hs'.1 (hz _ (by simp only [PyData.shownAll]; exact List.mem_cons_self ..))
    obtain ⟨b2, hb2, k2⟩ := DqAll.shows I t rs hs'.2 (fun x hx => hz x (by simp only [PyData.shownAll]; exact List.mem_cons_of_mem _ hx))
    refine ⟨b1 ++ b2, (hb1.mono (by simp only [PyData.depthAll]; omega)).append (hb2.mono (by simp only [PyData.depthAll]; omega)), ?_⟩
    simp only [PyData.depthAll, PyData.shownAll]
    exact .cons ((k1.more fun b hb => List.mem_append_left _ hb).level_le (Nat.le_max_left _ _)) (k2.more_le (fun b hb => List.mem_append_right _ hb) (Nat.le_max_right _ _))
theorem DqKv.shows (I : Inv X pins σ H s) : ∀ {kvs : List (Key × V)} {kds : List (PyData × PyData)} {us : List Value}, DqKv H kvs kds → Vals (kvs.map (·.2)) us → PyData.showableAll (kds.map (·.2)) = true → (∀ t ∈ PyData.shownAll (kds.map (·.2)), t.length ≤ sizeLine) →
    ∃ bs, ReadAtMost s.heap (PyData.depthAll (kds.map (·.2))) bs ∧ ReprAllK prog w bs s.heap (PyData.depthAll (kds.map (·.2))) us (PyData.shownAll (kds.map (·.2)))
  | _, _, _, .nil, .nil, _, _ => ⟨[], (fun _ h => nomatch h), by simp only [List.map_nil, PyData.shownAll]; exact .nil⟩
  | _, _, _, .cons (d := d) (kds := kds) h t, .cons r rs, hs, hz => by
    have hs' : d.showable = true ∧ PyData.showableAll (kds.map (·.2)) = true := by simpa [PyData.showableAll] using hs
    obtain ⟨b1, hb1, k1⟩ := Dq.shows I h r hs'.1 (hz _ (by simp only [List.map_cons, PyData.shownAll]; exact List.mem_cons_self ..))
    obtain ⟨b2, hb2, k2⟩ := DqKv.shows I t rs hs'.2 (fun x hx => hz x (by simp only [List.map_cons, PyData.shownAll]; exact List.mem_cons_of_mem _ hx))
    refine ⟨b1 ++ b2, (hb1.mono (by simp only [List.map_cons, PyData.depthAll]; omega)).append (hb2.mono (by simp only [List.map_cons, PyData.depthAll]; omega)), ?_⟩
    simp only [List.map_cons, PyData.depthAll, PyData.shownAll]
    exact .cons ((k1.more fun b hb => List.mem_append_left _ hb).level_le (Nat.le_max_left _ _)) (k2.more_le (fun b hb => List.mem_append_right _ hb) (Nat.le_max_right _ _))
end
end
/-- repr of a list -/
def rReprL : List V → Hp → VK → Prop := fun xs H Q => ∃ (a : Addr) (vs : List V) (ds : List PyData), xs = [.ref a] ∧ H a = some (.lst vs) ∧ DqAll H vs ds ∧ PyData.showableAll ds = true ∧ PyData.depthAll ds ≤ 60 ∧ (listText (PyData.shownAll ds)).length ≤ sizeLine ∧
  Q (.str (listText (PyData.shownAll ds))) H
theorem call_reprL {X : Cx} (hg : Quiet X.A) (hu : X.A.units + 64 < cLine) : CallR X (.builtin "repr") rReprL := by
  intro pins s σ H xs us Q I r h
  obtain ⟨a, vs, ds, rfl, ha, dq, hs, hd, hz, q⟩ := h
  obtain ⟨u, rfl, ru⟩ := vals1 r
  obtain ⟨as0, rd⟩ := Dq.reads I (.lst ha dq) ru
  cases ru
  obtain ⟨_, its, n, rv, ho⟩ := I.hok _ _ ha
  obtain ⟨bs, hb, hk⟩ := DqAll.shows (prog := X.prog) (w := X.w) I dq rv hs (fun x hx => Nat.le_trans (listText_mem_le hx) hz)
  have hna : a ∉ bs := not_mem_of_deeper rd (by simp only [PyData.depth]; omega) hb
  refine call_repr_slot (by omega) ⟨_, ho, rfl⟩ F.slot_list_repr.toG ?_
  have fin : ∀ h' t tk, (∀ b o, s.heap.get? b = some o → h'.get? b = some o) → ∃ (x : Str) (t' : Tok), Value.str (listText (PyData.shownAll ds)) t = .str x t' ∧ EP X pins σ Q (.str (listText (PyData.shownAll ds)) t) { s with heap := h', toks := tk } :=
    fun h' t tk k => ⟨_, _, rfl, .str _, H, I.kept k, ⟨t, rfl⟩, q⟩
  cases its with
  | nil =>
    rw [List.eq_nil_of_length_eq_zero hk.length_eq, listText_nil] at fin
    exact call_list_repr_empty ⟨_, ho, rfl⟩ ho rfl (fin s.heap _ _ fun _ _ e => e)
  | cons x l => exact call_list_reprK ho rfl rfl hna (by simpa using hk.length_eq) (fun i y e => hk.item i y (by simpa using e)) (show X.A.in1.guards = some [] from hg) (fun b _ => Clear.nil b) (by show X.A.units + 1 + _ < cLine; omega) (fun b o e => e) fin hz
end L2
set_option Elab.async false
set_option linter.all false
set_option maxRecDepth 100000
set_option maxHeartbeats 4000000
/-! An exception class of the program's own, over any built-in class, its own `__init__` a def: made by position and by keywords. -/
namespace PySem
namespace XM
open PySem.W PySem.Calls PyProof.Rows PySem.HandSPX Builtin
section
variable {M : Model} {prog : Program} {w : World} {A : Around} {E : Value → Shared → Prop} {R : Result → Shared → Prop} {hp : Heap} {gs : Array GenState} {dr : Drawn} {tk : Nat} {os : OsState}
variable {nm qn : Str} {C N : Addr} {bs bm mB : List Value} {hdc ab : Bool} {sn : List Str} {sub : List Value} {col : Option Bool} {dd : Option Addr} {k0 k1 k2 k3 k5 : Option Value} {B nId iId : String} {rest : List Value} {kw : List (Str × Value)}
/-- the look ahead of `__new__` -/
theorem ck_new (F : ExcBaseFacts B nId iId mB) (sm : ∀ X : String, bm.contains (.type X) = mB.contains (.type X)) {Q : Unit → Shared → Prop}
    (cC : hp.get? C = some (excClassObj nm qn C N bs bm hdc sn sub ab col dd k0 k1 k2 k3 k5 nId)) (q : Q () ⟨hp, gs, dr, tk, os⟩) :
    wpAny M A (checkBuiltinCall nId { pos := .ref C :: rest, kw := kw }) Q E ⟨hp, gs, dr, tk, os⟩ := by
  have inB : (Value.ref C :: bm).contains (.type B) = true := by rw [List.contains_cons, sm, F.hasB, Bool.or_true]
  have ns := F.noStar
  simp only [checkBuiltinCall, F.newKind, F.newSplit, F.newRow]
  repeat (first
    | with_reducible refine wpAny_loadPart_at cC ?_
    | (with_reducible refine wpAny_isSubtype_exc cC ?_; rw [inB])
    | with_reducible refine wpAny_staticBase_exc cC ?_
    | with_reducible refine wpAny_madeBy_exc cC ?_
    | simp only [bne_self_eq_false, Bool.false_eq_true, if_false]
    | wp_step)
  exact q
/-- `__new__` itself -/
theorem run_new (F : ExcBaseFacts B nId iId mB) (sm : ∀ X : String, bm.contains (.type X) = mB.contains (.type X)) (cC : hp.get? C = some (excClassObj nm qn C N bs bm hdc sn sub ab col dd k0 k1 k2 k3 k5 nId)) (room : rest.length ≤ sizeLine)
    (q : R (.ok (.ret (.ref (hp.objs.size + 1)))) ⟨(hp.push (kdv_tup rest)).push (excO C hp.objs.size), gs, dr, tk, os⟩) :
    codeAny (model prog w) A (.builtin nId { pos := .ref C :: rest, kw := kw }) R ⟨hp, gs, dr, tk, os⟩ := by
  have ends := F.ends
  have inB : (Value.ref C :: bm).contains (.type B) = true := by rw [List.contains_cons, sm, F.hasB, Bool.or_true]
  have inA : (Value.ref C :: bm).contains (.type "AttributeError") = false := by rw [List.contains_cons, sm, F.noAttr]; rfl
  have inN : (Value.ref C :: bm).contains (.type "NameError") = false := by rw [List.contains_cons, sm, F.noName]; rfl
  refine codeAny_builtinAt F.entry ?_
  unfold Builtin.«BaseException.__new__»
  refine wpAt_bind ?_
  show wpAt _ _ _ (stack >>= _) _ _ _
  refine wpAt_bind (wpAt_stack fun p below => wpAt_of_wpAny ?_)
  wp_walk
  refine wpAt_of_wpAny ?_
  rw [F.owner]
  repeat (first
    | with_reducible refine wpAny_madeHere_exc F.canon cC ?_
    | with_reducible refine wpAny_loadPart_at cC ?_
    | (with_reducible refine wpAny_isSubtype_exc cC ?_; first | rw [inB] | rw [inA] | rw [inN])
    | wp_step)
  show R _ _
  rw [Heap.size_push]
  exact q
/-- `type.__call__` -/
theorem run_type (F : ExcBaseFacts B nId iId mB) (sm : ∀ X : String, bm.contains (.type X) = mB.contains (.type X)) {fI : Addr} {Q : Fin → Shared → Prop} (cC : hp.get? C = some (excClassObj nm qn C N bs bm hdc sn sub ab col dd k0 k1 k2 k3 k5 nId))
    (li : W.Looks (model prog w) hp (typeLookup (.ref C) "__init__") (some (.ref fI))) (lb : ∀ self, W.Looks (model prog w) hp (bindSpecial (.ref fI) self) (.ref fI, [self])) (room : rest.length ≤ sizeLine)
    (q : codeAny (model prog w) A (.call (.ref fI) { pos := .ref (hp.objs.size + 1) :: rest, kw := kw })
      (fun r s' => match r with | .ok (.ret v) => v = .none ∧ Q (.done (.ret (.ref (hp.objs.size + 1)))) s' | .ok _ => False | .error x => E x s') ⟨(hp.push (kdv_tup rest)).push (excO C hp.objs.size), gs, dr, tk, os⟩) :
    wpAny (model prog w) A (Builtin.«type.__call__» { pos := .ref C :: rest, kw := kw }) Q E ⟨hp, gs, dr, tk, os⟩ := by
  repeat (first | with_reducible refine wpAny_loadPart_at cC ?_ | with_reducible refine wpAny_madeBy_exc cC ?_ | wp_step)
  refine codeAny_call_builtin_code (Code.quiet_builtin _ F.quiet) (ck_new F sm cC ?_)
  refine run_new F sm cC room ?_
  show wpAny _ _ _ _ _ _
  have keep : ∀ b o, hp.get? b = some o → ((hp.push (kdv_tup rest)).push (excO C hp.objs.size)).get? b = some o := fun b o e => Heap.get?_push_of_some _ (Heap.get?_push_of_some _ e)
  have c1 := keep _ _ cC
  have ge : ((hp.push (kdv_tup rest)).push (excO C hp.objs.size)).get? (hp.objs.size + 1) = some (excO C hp.objs.size) := by heap_get
  have self : (Value.ref C :: bm).contains (.ref C) = true := by simp
  have li1 := li.keeps keep
  have lb1 := (lb (.ref (hp.objs.size + 1))).keeps keep
  unfold isInstance
  repeat (first | with_reducible refine wpAny_loadPart_at ge ?_ | (with_reducible refine wpAny_isSubtype_exc c1 ?_; rw [self]) | wp_step)
  show wpAny _ _ (typeLookup (.ref C) _) _ _ _
  refine li1.at ?_
  refine wpAny_holding (wpAny_bind (lb1.at ?_))
  refine wpAny_bind (wpAny_call (codeAny_mono q fun r s' z => ?_))
  rcases r with x | (v | _ | _ | _) <;> first | exact z | exact z.elim | skip
  obtain ⟨rfl, z⟩ := z
  first | exact wpAny_pure (wpAny_pure z) | (wp_walk; exact z)
end
end XM
end PySem
set_option Elab.async false
set_option linter.all false
set_option maxRecDepth 100000
set_option maxHeartbeats 4000000
/-! Exceptions of the program's own as values: made (by position, by keywords), a field stored, read, isinstance. -/
namespace PySem
namespace XM
open PySem.W PySem.Calls PyProof.Rows PySem.HandSPX Builtin
/-- what the written part says of an exception class (with an `__init__` of its own or of a built-in's) -/
structure XC (K : Frag) (C : Addr) : Prop where
  base : ∃ (B nId iId : String) (mB : List Value), ExcBaseFacts B nId iId mB ∧ StoreFacts B mB "object.__setattr__" "object" ∧ excInitIn K C mB nId = true ∧ excOver K C mB = true
  sa : findIn K (.ref C) "__setattr__" = some (some (.builtin "object.__setattr__"))
  hd : hasDictIn K C = true
  ex : subIn K (.ref C) (.type "BaseException") = some true
  ty : typeIn K (.ref C) = some (.type "type")
  kp : keepIn K (.ref C) = true
  ga : findIn K (.ref C) "__getattribute__" = some (some (.builtin "BaseException.__getattribute__"))
  gg : findIn K (.ref C) "__getattr__" = some none
  cl : findIn K (.ref C) "__class__" = some (some (.builtin "object.__class__"))
  mo : mroIn K C (.type "object") = some true
  gt : specialIn K (.builtin "object.__class__") "__get__" = some (some (.builtin "getset_descriptor.__get__"))
  tk : takesIn K (.builtin "object.__class__") = some true
section
variable {prog : Program} {w : World} {A : Around} {E : Value → Shared → Prop} {R : Result → Shared → Prop} {hp : Heap} {gs : Array GenState} {dr : Drawn} {tk : Nat} {os : OsState} {K : Frag} {C fI : Addr} {rest : List Value} {kw : List (Str × Value)}
/-- the look ahead of `type.__call__` -/
theorem ck_type {M : Model} {nm qn : Str} {N : Addr} {bs bm : List Value} {hdc ab : Bool} {sn : List Str} {sub : List Value} {col : Option Bool} {dd : Option Addr} {k0 k1 k2 k3 k5 : Option Value} {nId : String} {Q : Unit → Shared → Prop}
    (cC : hp.get? C = some (excClassObj nm qn C N bs bm hdc sn sub ab col dd k0 k1 k2 k3 k5 nId)) (q : Q () ⟨hp, gs, dr, tk, os⟩) : wpAny M A (checkBuiltinCall "type.__call__" { pos := .ref C :: rest, kw := kw }) Q E ⟨hp, gs, dr, tk, os⟩ := by
  have f3 := tc_sub
  have ty : (⟨hp, gs, dr, tk, os⟩ : Shared).TypeIs (.ref C) "type" := ⟨_, cC, rfl⟩
  simp only [checkBuiltinCall, tc_kind, tc_split]
  repeat (any_goals (first | assumption | with_reducible refine wpAny_loadPart_at cC ?_ | with_reducible refine wpAny_onRaise ?_ | with_reducible refine wpAny_map ?_ | wp_step))
/-- C(.., k = v): the fresh object at the place behind its args, then `__init__` -/
theorem call_made (T : XC K C) (X : K.In hp) (hi : findIn K (.ref C) "__init__" = some (some (.ref fI))) (hf : isFn K (.ref fI) = true) (room : rest.length ≤ sizeLine)
    (q : codeAny (model prog w) (A.under (.builtin "type.__call__" ⟨.ref C :: rest, kw⟩)) (.call (.ref fI) ⟨.ref (hp.objs.size + 1) :: rest, kw⟩) (W.InitBack (hp.objs.size + 1) R)
      ⟨(hp.push (kdv_tup rest)).push (excO C hp.objs.size), gs, dr, tk, os⟩) :
    codeAny (model prog w) A (.call (.ref C) ⟨rest, kw⟩) R ⟨hp, gs, dr, tk, os⟩ := by
  obtain ⟨B, nId, iId, mB, FB, _, qi, _⟩ := T.base
  obtain ⟨nm, N', qn, bs, bm, hdct, sn, sub, ab, col, dd, k0, k1, k2, k3, k5, hC, hT⟩ := excInit_of X qi
  obtain ⟨oI, hoI, hcI⟩ : ∃ oI, hp.get? fI = some oI ∧ oI.cls = .type "function" := by
    obtain ⟨o, ho, hc⟩ := Option.map_eq_some_iff.mp (show (K.lookup fI).map (·.cls) = some (.type "function") from beq_iff_eq.mp hf)
    exact ⟨o, X _ _ ho, hc⟩
  have li : Looks (model prog w) hp (typeLookup (.ref C) "__init__") (some (.ref fI)) := looks_findIn X hi
  have lb : ∀ self, Looks (model prog w) hp (bindSpecial (.ref fI) self) (.ref fI, [self]) := fun self => exc_bind hoI hcI self
  have f1 := tc_lookup
  have f2 := tc_bind (.ref C)
  have f3 := tc_sub
  have ty : (⟨hp, gs, dr, tk, os⟩ : Shared).TypeIs (.ref C) "type" := ⟨_, hC, rfl⟩
  refine codeAny_of_tree ?_
  show wpAny _ _ (callAny (.ref C) _) _ _ _
  repeat (any_goals (first | assumption | with_reducible refine wpAny_loadPart_at hC ?_ | wp_step))
  refine ⟨rfl, ?_⟩
  refine codeAny_call_builtin_at (Code.quiet_builtin _ (by decide +kernel)) entry_typeCall ?_
  refine ck_type hC ?_
  refine run_type FB hT hC li lb room ?_
  refine codeAny_mono q fun r s' z => ?_
  rcases r with x | (v | _ | _ | _) <;> exact z
end
end XM
end PySem
set_option Elab.async false
set_option linter.all false
set_option maxRecDepth 100000
set_option maxHeartbeats 4000000
/-! The same over the hand layer. -/
namespace L2
open PySem PySem.Spec PyProof.Rows PySem.XM Builtin Builtin.ObjectAttr
theorem taker_none {K : PySem.W.Frag} {C : Addr} {f : Str} (h : PySem.W.findIn K (.ref C) f = some none) : PySem.W.takerIn K C f = some none := by
  unfold PySem.W.takerIn
  rw [h]
  rfl
section
variable {X : Cx} {pins : List (Addr × Obj)} {σ : St} {H : Hp} {s : Shared} {a C dx : Addr} {f : Str} {y : V} {u : Value} {fs : List (Str × V)} {Q : Unit → Shared → Prop} {E : Value → Shared → Prop} {A : Around}
/-- self.f = y: the first store lays the dict -/
theorem xst_first (T : XC X.K C) (I : Inv X pins σ H s) (e : H a = some (exo a C none)) (hno : PySem.W.findIn X.K (.ref C) f = some none) (ry : RelV y u)
    (h : ∀ dx s', H dx = none → dx ≠ a → Inv X pins σ (upd (upd H dx (exd dx [(f, y)])) a (exo a C (some dx))) s' → Q () s') : wpAny (model X.prog X.w) A (setAttr (.ref a) f u) Q E s := by
  obtain ⟨B, nId, iId, mB, FB, SB, qi, qo⟩ := T.base
  obtain ⟨t1, ho⟩ := exo_at I.hok e
  have KI := I.kIn
  obtain ⟨hp, g, d, t, os⟩ := s
  have J0 : PySem.W.InstAt hp a { cls := .ref C, dict := none, data := .fields #[.ref t1, .none, .none, .none, .bool false, .none] } C none := ⟨ho, rfl, rfl, trivial⟩
  refine PySem.W.set_plain KI (od := none) J0 T.sa ?_
  refine PySem.W.osa_openX (od := none) SB KI J0 qo (taker_none hno) fun b => ?_
  obtain ⟨cd, hc, hd'⟩ := PySem.W.any_some T.hd
  refine wpAny_bind (wpAny_pure (wpAny_bind (PySem.W.instanceDict_exc ho (PySem.W.looks_clsIn KI hc) hd' ?_)))
  have hxs : a ≠ hp.objs.size := Nat.ne_of_lt (Heap.lt_size ho)
  show wpAny _ _ (storeInDict hp.objs.size _ f u) _ _ _
  refine PySem.HandSPX.store_in_new ⟨_, #[], _, (Heap.get?_update_ne _ _ _ _ hxs.symm).trans (Heap.get?_push_at rfl rfl), rfl, fun e he => absurd he (by simp), fun _ => rfl⟩ fun h' tk' hn hs => ?_
  have ho1 : (hp.push { cls := .type "dict", data := .dict #[] }).get? a = some { cls := .ref C, dict := none, data := .fields #[.ref t1, .none, .none, .none, .bool false, .none] } := Heap.get?_push_of_some _ ho
  have hx : h'.get? a = some { cls := .ref C, dict := some hp.objs.size, data := .fields #[.ref t1, .none, .none, .none, .bool false, .none] } := (hs.2 a hxs).trans (Heap.get?_update_self _ ho1 rfl)
  have k : ∀ b o, b ≠ a → hp.get? b = some o → h'.get? b = some o := fun b o hb hbo =>
    (hs.2 b (Nat.ne_of_lt (Heap.lt_size hbo))).trans ((Heap.get?_update_ne _ _ _ _ hb).trans (Heap.get?_push_of_some _ hbo))
  have hnd : H hp.objs.size = none := I.hok.fresh (Nat.le_refl _)
  have old : ∀ {b : Addr} {o : Obj}, hp.get? b = some o → b ≠ hp.objs.size := fun {b o} q => Nat.ne_of_lt (Heap.lt_size q)
  have na : ∀ {b : Addr}, H b = none → b ≠ a := fun {b} n z => by
    rw [z, e] at n
    cases n
  have un : Un X.fs [] H (upd (upd H hp.objs.size (exd hp.objs.size [(f, y)])) a (exo a C (some hp.objs.size))) hp h' := by
    constructor
    · exact fun b o q n _ _ => k b o (na n) q
    · exact fun b o q n _ _ => ⟨o.slots, k b o (na n) q⟩
    · intro b o q n _
      rw [upd_ne (na n), upd_ne (old q), n]
    · intro b o q _
      by_cases hb : b = a
      · exact ⟨_, by rw [hb]; exact hx⟩
      · exact ⟨o, k b o hb q⟩
    · intro b xs q
      rw [upd_ne (at_ne e q exo_tup), upd_ne (ne_of_none q hnd), q]
    · intro b o v q
      rw [upd_ne (at_ne e q exo_frz), upd_ne (ne_of_none q hnd), q]
    · intro b ps q
      exact ⟨#[], by rw [upd_ne (at_ne e q exo_tbl), upd_ne (ne_of_none q hnd), q]; simp⟩
  refine h hp.objs.size _ hnd hxs.symm (I.un (t' := tk') un fun b o q => ?_)
  by_cases hb : b = a
  · subst hb
    rw [upd_same] at q
    cases q
    exact exo_ok hx
  · rw [upd_ne hb] at q
    by_cases hd : b = hp.objs.size
    · subst hd
      rw [upd_same] at q
      cases q
      exact exd_ok hn (relO_put (fs := []) ry fun g => True.intro)
    · rw [upd_ne hd] at q
      refine (I.hok b o q).stay (fun c v hc z => k c v ?_ z) (fun c hc => ?_) (fun c xs hc => ?_)
      · rcases hc with hc | hc
        · rw [hc]; exact hb
        · exact at_ne e hc exo_own
      · rw [upd_ne (at_ne e hc exo_own), upd_ne (ne_of_none hc hnd), hc]
      · rw [upd_ne (at_ne e hc exo_tup), upd_ne (ne_of_none hc hnd), hc]
/-- a further field -/
theorem xst_more (T : XC X.K C) (I : Inv X pins σ H s) (e : H a = some (exo a C (some dx))) (ed : H dx = some (exd dx fs)) (hl : fs.length ≤ 900) (hno : PySem.W.findIn X.K (.ref C) f = some none) (ry : RelV y u)
    (h : ∀ s', Inv X pins σ (upd H dx (exd dx ((f, y) :: fs))) s' → Q () s') : wpAny (model X.prog X.w) A (setAttr (.ref a) f u) Q E s := by
  obtain ⟨B, nId, iId, mB, FB, SB, qi, qo⟩ := T.base
  obtain ⟨t1, ho⟩ := exo_at I.hok e
  obtain ⟨mA, hns, rel⟩ := exd_at I.hok ed
  have hw := within_of rel
  have KI := I.kIn
  obtain ⟨hp, g, d, t, os⟩ := s
  obtain ⟨oD, _, _, hoD, _, _⟩ := hns.count hw
  have J0 : PySem.W.InstAt hp a { cls := .ref C, dict := some dx, data := .fields #[.ref t1, .none, .none, .none, .bool false, .none] } C (some oD) := ⟨ho, rfl, rfl, hoD⟩
  refine PySem.W.set_plain KI (od := some oD) J0 T.sa ?_
  refine PySem.W.osa_openX (od := some oD) SB KI J0 qo (taker_none hno) fun b => ?_
  obtain ⟨cd, hc, hd'⟩ := PySem.W.any_some T.hd
  refine wpAny_bind (wpAny_pure (wpAny_bind (wpAny_bind (wpAny_loadPart ho (wpAny_bind ((PySem.W.looks_clsIn KI hc).at ?_))))))
  rw [hd']
  refine wpAny_pure (a := some dx) ?_
  show wpAny _ _ (storeInDict dx _ f u) _ _ _
  refine PySem.OEX.store_in_old hns hw (by rw [List.length_map]; omega) fun h' tk' hn hs => ?_
  have k : ∀ b o, b ≠ dx → hp.get? b = some o → h'.get? b = some o := fun b o hb hbo => (hs.2 b hb).trans hbo
  have th : ∃ o, h'.get? dx = some o := by
    obtain ⟨o, _, _, e', _⟩ := hn
    exact ⟨o, e'⟩
  exact h _ (I.write (t' := tk') (x := dx) (e := dx) (o := exd dx ((f, y) :: fs)) (by rw [ed]; exact True.intro) (.inl rfl) k th (exd_ok hn (relO_put ry rel)))
end
end L2
set_option Elab.async false
set_option linter.all false
set_option maxRecDepth 100000
set_option maxHeartbeats 4000000
/-! Exceptions as values: the rules. -/
namespace L2
open PySem PySem.Spec PyProof.Rows PySem.XM Builtin Builtin.ObjectAttr
/-- at a stands an exception of the class at C with the fields fs -/
def ExnAt (H : Hp) (a C : Addr) (fs : List (Str × V)) : Prop := (fs = [] ∧ H a = some (exo a C none)) ∨ ∃ dx, H a = some (exo a C (some dx)) ∧ H dx = some (exd dx fs)
theorem ExnAt.same {H H' : Hp} {a C : Addr} {fs : List (Str × V)} (x : ExnAt H a C fs) (s : Same H H') : ExnAt H' a C fs := by
  rcases x with ⟨e, h⟩ | ⟨dx, h1, h2⟩
  · exact .inl ⟨e, s _ _ h⟩
  · exact .inr ⟨dx, s _ _ h1, s _ _ h2⟩
theorem ExnAt.there {H : Hp} {a C : Addr} {fs : List (Str × V)} (x : ExnAt H a C fs) : ∃ o, H a = some o := by
  rcases x with ⟨_, h⟩ | ⟨_, h, _⟩ <;> exact ⟨_, h⟩
theorem Same.new {H : Hp} {a : Addr} {o : HO} (h : H a = none) : Same H (upd H a o) := fun b u e => by
  rw [upd_ne (ne_of_none e h)]
  exact e
/-- C(e, .., k = v, ..) as a value, C's own `__init__` keeping sp -/
def tMkX (C : Addr) (n m : Nat) (sp : Sp) (gV : List V → List V → List V) (t tk : TA) : TE := fun σ H Q => t σ H fun vs H1 => tk σ H1 fun zs H2 => vs.length = n ∧ zs.length = m ∧ ∀ a, H2 a = none →
  sp (gV (.ref a :: vs) zs) (upd H2 a (exo a C none)) (fun v H3 => v = .non ∧ Q (.ref a) H3) E0
section
variable {X : Cx} {CX : CXT} {k n : Nat} {f C : Addr} {fd : FuncData} {ps ks : List Str} {sp : Sp} {x : Str} {p pos : Pos} {e : Expr} {es : List Expr} {kws : List Keyword} {t tk : TA} {g : List Value → List Value → List Value} {gV : List V → List V → List V}
theorem run_mkX {pins : List (Addr × Obj)} {σ : St} {H : Hp} {s : Shared} {Q : VK} {us ws : List Value} {vs zs : List V} (T : XC X.K C) (iC : PySem.W.findIn X.K (.ref C) "__init__" = some (some (.ref f))) (fI : PySem.W.isFn X.K (.ref f) = true)
    (F : FnOk X.prog X.w X.K X.mg X.base CX k f fd ps sp) (hr : Room (k + 1) X.A) (hb : KBn X.K fd ps (n + 1) ks g gV) (hx : Passes CX X E0) (I : Inv X pins σ H s) (r : Vals vs us) (rz : Vals zs ws) (l1 : vs.length = n) (l2 : zs.length = ks.length) (hn : n ≤ 1000)
    (h : ∀ a, H a = none → sp (gV (.ref a :: vs) zs) (upd H a (exo a C none)) (fun v H3 => v = .non ∧ Q (.ref a) H3) E0) :
    wpAny (model X.prog X.w) X.A (call (.ref C) us (ks.zip ws)) (EP X pins σ Q) X.xe s := by
  have KI := I.kIn
  obtain ⟨hp, gs, d, tk, os⟩ := s
  have sz : hp.objs.size ≤ hp.objs.size + 1 := Nat.le_succ _
  have hq := h (hp.objs.size + 1) (I.hok.fresh sz)
  have kk : ∀ b o, hp.get? b = some o → ((hp.push (PySem.W.kdv_tup us)).push (PySem.HandSPX.excO C hp.objs.size)).get? b = some o := fun b o z => Heap.get?_push_of_some _ (Heap.get?_push_of_some _ z)
  have hget : ((hp.push (PySem.W.kdv_tup us)).push (PySem.HandSPX.excO C hp.objs.size)).get? (hp.objs.size + 1) = some (PySem.HandSPX.excO C hp.objs.size) := by heap_get
  have I2 : Inv X pins σ (upd H (hp.objs.size + 1) (exo (hp.objs.size + 1) C none)) ⟨(hp.push (PySem.W.kdv_tup us)).push (PySem.HandSPX.excO C hp.objs.size), gs, d, tk, os⟩ := by
    exact I.laid (t' := tk) (h' := (hp.push (PySem.W.kdv_tup us)).push (PySem.HandSPX.excO C hp.objs.size)) kk sz (exo_ok hget)
  have r2 := hb.rel (Paired.cons (show RelV (V.ref (hp.objs.size + 1)) (Value.ref (hp.objs.size + 1)) from rfl) r) rz
  have n1 : (Value.ref (hp.objs.size + 1) :: us).length = n + 1 := by rw [List.length_cons, ← r.length, l1]
  have hus : us.length ≤ sizeLine := by
    rw [← r.length, l1, sizeLine_eq]
    omega
  refine wpAny_call (call_made T KI iC fI hus (codeAny_mono (F.run _ X.stack _ _ ⟨Value.ref (hp.objs.size + 1) :: us, ks.zip ws⟩ (g (Value.ref (hp.objs.size + 1) :: us) ws) _ _ E0 (hr.make C us (ks.zip ws)) (I2.env0.make C us (ks.zip ws))
    (hb.to _ (Value.ref (hp.objs.size + 1) :: us) ws I2.kIn n1 (rz.length.symm.trans l2)) r2 hq) fun r s' z => ?_))
  cases r with
  | error e => exact hx pins σ _ _ e s' I2 z
  | ok fl =>
    cases fl with
    | ret u =>
      obtain ⟨v, H', I3, rv, ev, q3⟩ := I2.after z
      subst ev
      exact ⟨rv, ⟨V.ref (hp.objs.size + 1), H', I3, rfl, q3⟩⟩
    | next => exact False.elim z
    | brk => exact False.elim z
    | cont => exact False.elim z
/-- C(e, ..) -/
theorem pe_mkX (T : XC X.K C) (iC : PySem.W.findIn X.K (.ref C) "__init__" = some (some (.ref f))) (fI : PySem.W.isFn X.K (.ref f) = true) (F : FnOk X.prog X.w X.K X.mg X.base CX k f fd ps sp) (hr : Room (k + 1) X.A) (hn : n ≤ 1000) (hg : Gl X x) (hm : X.mg x = some (.ref C))
    (hb : KBn X.K fd ps (n + 1) [] g gV) (hx : Passes CX X E0) (ha : PA X (e :: es) t) (hdb : (x == ("__debug__" : Str)) = false := by decide)
    (he : starEach (e :: es) X.env = (false, eval e X.env) :: starEach es X.env := by rfl) (hpl : (backTo pos (starEach es X.env)).any (·.1) = false := by rfl) : PE X (.Call (.Name x p) (e :: es) [] pos) (tMkX C n 0 sp gV t tNil) := by
  refine ⟨fun pins s σ H Q I h => wpAny_Call_Name_kw (ld_glob I hg hm ?_ hdb)⟩
  refine PySem.W.callWith_K (h₀ := X.base) I.ok.mod.kin T.kp (thn (ha.run pos pins s σ H _ I h) fun us s1 ⟨vs, H1, I1, r, l1, _, q⟩ => ⟨I1.kIn, ?_⟩) he hpl
  exact run_mkX (ks := []) (ws := []) (zs := []) T iC fI F hr hb hx I1 r .nil l1 rfl hn q
/-- C(k = v, ..) -/
theorem pe_mkXk (T : XC X.K C) (iC : PySem.W.findIn X.K (.ref C) "__init__" = some (some (.ref f))) (fI : PySem.W.isFn X.K (.ref f) = true) (F : FnOk X.prog X.w X.K X.mg X.base CX k f fd ps sp) (hr : Room (k + 1) X.A) (hg : Gl X x) (hm : X.mg x = some (.ref C))
    (hb : KBn X.K fd ps 1 ks g gV) (hx : Passes CX X E0) (hkw : PK X kws tk) (hall : (backToKw pos (keywordEach kws X.env)).all (·.1.isSome) = true := by rfl) (hks : (backToKw pos (keywordEach kws X.env)).filterMap (·.1) = ks := by rfl)
    (hdb : (x == ("__debug__" : Str)) = false := by decide) (hpl : ((backTo pos (starEach [] X.env)).any (·.1) || (backToKw pos (keywordEach kws X.env)).any (·.1.isNone)) = false := by rfl) :
    PE X (.Call (.Name x p) [] kws pos) (tMkX C 0 ks.length sp gV tNil tk) := by
  refine ⟨fun pins s σ H Q I h => wpAny_Call_Name_kw (ld_glob I hg hm ?_ hdb)⟩
  refine PySem.W.callWith_KW0 (h₀ := X.base) I.ok.mod.kin T.kp hall (thn (hkw.run pos pins s σ H _ I h) fun ws s2 ⟨zs, H2, I2, rz, l1, l2, q2⟩ => ⟨I2.kIn, ?_⟩) hpl
  rw [hks]
  exact run_mkX (us := []) (vs := []) T iC fI F hr hb hx I2 .nil rz rfl l2 (Nat.zero_le _) q2
end
/-- self.f = e in an `__init__` -/
def tXst (K : PySem.W.Frag) (f : Str) (to te : TE) : TS := fun D σ H => te σ H fun y H1 => to σ H1 fun x H2 => ∃ a C : Addr, x = .ref a ∧ XC K C ∧ PySem.W.findIn K (.ref C) f = some none ∧
  ((H2 a = some (exo a C none) ∧ ∀ dx, H2 dx = none → dx ≠ a → D.nx σ (upd (upd H2 dx (exd dx [(f, y)])) a (exo a C (some dx)))) ∨
    ∃ (dx : Addr) (fs : List (Str × V)), H2 a = some (exo a C (some dx)) ∧ H2 dx = some (exd dx fs) ∧ fs.length ≤ 900 ∧ D.nx σ (upd H2 dx (exd dx ((f, y) :: fs))))
/-- o.f, o an exception -/
def tXf (K : PySem.W.Frag) (f : Str) (te : TE) : TE := fun σ H Q => te σ H fun x H1 => ∃ (a C : Addr) (fs : List (Str × V)) (v : V), x = .ref a ∧ XC K C ∧ PySem.W.findIn K (.ref C) f = some none ∧ ExnAt H1 a C fs ∧ fs.lookup f = some v ∧ Q v H1
/-- isinstance(o, c), o an exception -/
def rIsX (K : PySem.W.Frag) : List V → Hp → VK → Prop := fun xs H Q => ∃ (a C : Addr) (fs : List (Str × V)) (c : V) (u : Value) (b : Bool), xs = [.ref a, c] ∧ XC K C ∧ ExnAt H a C fs ∧ ClsV c u ∧ PySem.W.kitOne K (.ref C) u = some b ∧ Q (.bl b) H
theorem ExnAt.inst {X : Cx} {pins : List (Addr × Obj)} {σ : St} {H : Hp} {s : Shared} {a C : Addr} {fs : List (Str × V)} (I : Inv X pins σ H s) (x : ExnAt H a C fs) :
    ∃ (ox : Obj) (od : Option Obj), PySem.W.InstAt s.heap a ox C od ∧ ∀ f v, fs.lookup f = some v → ∃ o u, od = some o ∧ PySem.W.lookIn f o = some (some u) ∧ RelV v u := by
  rcases x with ⟨rfl, h⟩ | ⟨dx, h1, h2⟩
  · obtain ⟨t1, ho⟩ := exo_at I.hok h
    exact ⟨_, none, ⟨ho, rfl, rfl, trivial⟩, fun f v z => nomatch z⟩
  · obtain ⟨t1, ho⟩ := exo_at I.hok h1
    obtain ⟨mA, hns, rel⟩ := exd_at I.hok h2
    obtain ⟨od, hod, hl⟩ := lookIn_ns hns
    refine ⟨_, some od, ⟨ho, rfl, rfl, hod⟩, fun f v z => ?_⟩
    obtain ⟨u, hu, ru⟩ := RelO.some_of (v := v) (o := mA f) (by rw [← z]; exact rel f)
    exact ⟨od, u, rfl, by rw [hl, hu], ru⟩
section
variable {X : Cx} {o e : Expr} {to te : TE} {f : Str} {p' pos : Pos}
theorem ps_xst (ho : PE X o to) (he : PE X e te) (hs : swapsWith e (some (.Attribute o f p')) pos.line X.env = pure false := by rfl) : PS X (.Assign [.Attribute o f p'] e pos) (tXst X.K f to te) := by
  refine ⟨fun pins s σ H D I h => ?_⟩
  refine plainObj_wpAny_Assign_Attribute (thn (he.run pins s σ H _ I h) fun v s1 ⟨y, H1, I1, r1, q1⟩ => thn (ho.run pins s1 σ H1 _ I1 q1) fun u s2 ⟨x, H2, I2, r2, a, C, ex, T, hno, q⟩ => ?_) hs
  subst ex
  cases r2
  rcases q with ⟨ea, q⟩ | ⟨dx, fs, ea, ed, hl, q⟩
  · exact xst_first T I2 ea hno r1 fun dx s' n ne J => ⟨σ, _, J, q dx n ne⟩
  · exact xst_more T I2 ea ed hl hno r1 fun s' J => ⟨σ, _, J, q⟩
theorem pe_xf (he : PE X e te) (hb : attributeBase e f X.env (eval e X.env) = eval e X.env := by rfl) : PE X (.Attribute e f pos) (tXf X.K f te) := by
  refine ⟨fun pins s σ H Q I h => attr_of hb (thn (he.run pins s σ H _ I h) fun u s1 ⟨x, H1, I1, rx, a, C, fs, v, ex, T, hno, xe, hl, q⟩ => ?_)⟩
  subst ex
  cases rx
  obtain ⟨ox, od, J, look⟩ := xe.inst I1
  obtain ⟨ob, u, rfl, lk, ru⟩ := look f v hl
  exact PySem.HandSPX.exc_get I1.kIn J T.ga T.gg T.ex (PySem.W.findObj_own T.hd hno rfl lk) (handed_of ru) ⟨v, H1, I1.tok _, ru, q⟩
theorem call_isX : CallR X (.builtin "isinstance") (rIsX X.K) := by
  intro pins s σ H xs us Q I r h
  obtain ⟨a, C, fs, c, u, b, rfl, T, xe, k, e, q⟩ := h
  obtain ⟨u1, u2, rfl, r1, r2⟩ := vals2 r
  have e2 := k.eq r2
  subst e2
  cases r1
  obtain ⟨ox, od, J, _⟩ := xe.inst I
  obtain ⟨cd, hc, _⟩ := PySem.W.any_some T.hd
  exact PySem.W.kia_one (PySem.W.kitx_exc (by rw [hc]; rfl) T.ga T.gg T.ex T.cl T.gt T.tk T.mo) I.kIn J e (fun z => nomatch z) fun tk => ⟨.bl b, H, I.tok tk, rfl, q⟩
end
end L2
set_option Elab.async false
set_option linter.all false
set_option maxRecDepth 100000
set_option maxHeartbeats 4000000
/-! Exceptions of the program's own: raised; without an `__init__` of their own. -/
namespace L2
open PySem PySem.Spec PyProof.Rows PySem.XM Builtin Builtin.ObjectAttr
/-- raise C(e, ..): what is wished of the exception that leaves -/
def tMkR (C : Addr) (n : Nat) (sp : Sp) (gV : List V → List V → List V) (t : TA) : St → Hp → XK → Prop := fun σ H Q => t σ H fun vs H1 => vs.length = n ∧ ∀ a, H1 a = none → sp (gV (.ref a :: vs) []) (upd H1 a (exo a C none))
  (fun v H2 => v = .non ∧ ∃ (d : Addr) (fs : List (Str × V)), H2 a = some (exo a C (some d)) ∧ H2 d = some (exd d fs) ∧ H1 d = none ∧ Q (.ref C) (some d) (upd (del H2 a) d (.xd fs))) E0
section
variable {X : Cx} {CX : CXT} {k n : Nat} {f C : Addr} {fd : FuncData} {ps : List Str} {sp : Sp} {x : Str} {p pos : Pos} {e : Expr} {es : List Expr} {t : TA} {g : List Value → List Value → List Value} {gV : List V → List V → List V}
theorem pmk_mkX (T : XC X.K C) (iC : PySem.W.findIn X.K (.ref C) "__init__" = some (some (.ref f))) (fI : PySem.W.isFn X.K (.ref f) = true) (F : FnOk X.prog X.w X.K X.mg X.base CX k f fd ps sp) (hr : Room (k + 1) X.A) (hn : n ≤ 1000) (hg : Gl X x) (hm : X.mg x = some (.ref C))
    (hb : KBn X.K fd ps (n + 1) [] g gV) (hx : Passes CX X E0) (ha : PA X (e :: es) t) (hdb : (x == ("__debug__" : Str)) = false := by decide)
    (he : starEach (e :: es) X.env = (false, eval e X.env) :: starEach es X.env := by rfl) (hpl : (backTo pos (starEach es X.env)).any (·.1) = false := by rfl) : PMk X (.Call (.Name x p) (e :: es) [] pos) (tMkR C n sp gV t) := by
  intro pins s σ H Q I h
  refine wpAny_Call_Name_kw (ld_glob I hg hm ?_ hdb)
  refine PySem.W.callWith_K (h₀ := X.base) I.ok.mod.kin T.kp (thn (ha.run pos pins s σ H _ I h) fun us s1 ⟨vs, H1, I1, r, l1, q1⟩ => ⟨I1.kIn, ?_⟩) he hpl
  show wpAny _ _ (call (.ref C) us) _ _ _
  have KI := I1.kIn
  obtain ⟨hp, gs, d, tk, os⟩ := s1
  have sz : hp.objs.size ≤ hp.objs.size + 1 := Nat.le_succ _
  have hq := q1 (hp.objs.size + 1) (I1.hok.fresh sz)
  have kk : ∀ b o, hp.get? b = some o → ((hp.push (PySem.W.kdv_tup us)).push (PySem.HandSPX.excO C hp.objs.size)).get? b = some o := fun b o z => Heap.get?_push_of_some _ (Heap.get?_push_of_some _ z)
  have hget : ((hp.push (PySem.W.kdv_tup us)).push (PySem.HandSPX.excO C hp.objs.size)).get? (hp.objs.size + 1) = some (PySem.HandSPX.excO C hp.objs.size) := by heap_get
  have I2 : Inv X pins σ (upd H1 (hp.objs.size + 1) (exo (hp.objs.size + 1) C none)) ⟨(hp.push (PySem.W.kdv_tup us)).push (PySem.HandSPX.excO C hp.objs.size), gs, d, tk, os⟩ := by
    exact I1.laid (t' := tk) (h' := (hp.push (PySem.W.kdv_tup us)).push (PySem.HandSPX.excO C hp.objs.size)) kk sz (exo_ok hget)
  have r2 := hb.rel (Paired.cons (show RelV (V.ref (hp.objs.size + 1)) (Value.ref (hp.objs.size + 1)) from rfl) r) (zs := []) (ws := []) .nil
  have n1 : (Value.ref (hp.objs.size + 1) :: us).length = n + 1 := by rw [List.length_cons, ← r.length, l1]
  have hus : us.length ≤ sizeLine := by
    rw [← r.length, l1, sizeLine_eq]
    omega
  refine wpAny_call (call_made T KI iC fI hus (codeAny_mono (F.run _ X.stack _ _ ⟨Value.ref (hp.objs.size + 1) :: us, []⟩ (g (Value.ref (hp.objs.size + 1) :: us) []) _ _ E0 (hr.make C us []) (I2.env0.make C us [])
    (hb.to _ (Value.ref (hp.objs.size + 1) :: us) [] I2.kIn n1 rfl) r2 hq) fun r s' z => ?_))
  cases r with
  | error e => exact hx pins σ _ _ e s' I2 z
  | ok fl =>
    cases fl with
    | ret u =>
      obtain ⟨v, H2, os2, bare2, un2, hok2, rv, ev, dd, fs, ea, ed, hd1, q2⟩ := z
      subst ev
      obtain ⟨h2, gg2, dd2, tt2, oo2⟩ := s'
      exact ⟨rv, mk_end (raises_own T.ex T.ty) I1 sz kk un2 hok2 os2 bare2 ea ed hd1 q2⟩
    | next => exact False.elim z
    | brk => exact False.elim z
    | cont => exact False.elim z
variable {mB : List Value} {B nId iId : String}
/-- C(), C without an `__init__` of its own -/
theorem pe_mkX0 (F : ExcBaseFacts B nId iId mB) (q : PySem.W.excIn X.K C mB nId = true) (kC : PySem.W.keepIn X.K (.ref C) = true) (hg : Gl X x) (hm : X.mg x = some (.ref C)) (hdb : (x == ("__debug__" : Str)) = false := by decide) :
    PE X (.Call (.Name x p) [] [] pos) (fun _ H Q => ∀ a, H a = none → Q (.ref a) (upd H a (exo a C none))) := by
  refine ⟨fun pins s σ H Q I h => wpAny_Call_Name_kw (ld_glob I hg hm ?_ hdb)⟩
  refine PySem.W.callWith_K0 I.kIn kC ?_
  show wpAny _ _ (call (.ref C) []) _ _ _
  obtain ⟨bm, N, nm, qn, bs, hdct, sn, sub, ab, col, dd, k0, k1, k2, k3, k5, mN, hC, hN, hni, T⟩ := exc_obj I.kIn q
  refine wpAny_call_exc_subT F T hC hN hni (fun h' a hm => ?_) (Nat.zero_le _)
  have hn : H a = none := I.hok.gone hm.new
  obtain ⟨t, ht, _, _⟩ := hm.there
  exact ⟨.ref a, upd H a (exo a C none), I.laidN hm.keeps hm.new hn (exo_ok ht), rfl, h a hn⟩
/-- raise C() of such a class -/
theorem pmk_mkX0 (F : ExcBaseFacts B nId iId mB) (q : PySem.W.excIn X.K C mB nId = true) (kC : PySem.W.keepIn X.K (.ref C) = true) (r : Raises X (.ref C)) (hg : Gl X x) (hm : X.mg x = some (.ref C)) (hdb : (x == ("__debug__" : Str)) = false := by decide) :
    PMk X (.Call (.Name x p) [] [] pos) (fun _ H Q => Q (.ref C) none H) := by
  intro pins s σ H Q I h
  refine wpAny_Call_Name_kw (ld_glob I hg hm ?_ hdb)
  refine PySem.W.callWith_K0 I.kIn kC ?_
  show wpAny _ _ (call (.ref C) []) _ _ _
  obtain ⟨bm, N, nm, qn, bs, hdct, sn, sub, ab, col, dd, k0, k1, k2, k3, k5, mN, hC, hN, hni, T⟩ := exc_obj I.kIn q
  exact wpAny_call_exc_subT F T hC hN hni (fun h' a hm => mk_of I hm r h (I.hok.gone hm.new)) (Nat.zero_le _)
end
end L2
set_option Elab.async false
set_option linter.all false
set_option maxRecDepth 100000
set_option maxHeartbeats 4000000
/-! Exception classes whose `__init__` keeps one or two arguments under their own names: what the written part says of one, and its call. -/
namespace L2
open PySem PySem.Spec PyProof.Rows PySem.XM Builtin Builtin.ObjectAttr
/-- self.f = v -/
def spI1 (K : PySem.W.Frag) (f : Str) : Sp := fun vs H Q _ => ∃ (a C : Addr) (v : V), vs = [.ref a, v] ∧ XC K C ∧ PySem.W.findIn K (.ref C) f = some none ∧ H a = some (exo a C none) ∧
  ∀ dx, H dx = none → dx ≠ a → Q .non (upd (upd H dx (exd dx [(f, v)])) a (exo a C (some dx)))
/-- self.f = v; self.g = u -/
def spI2 (K : PySem.W.Frag) (f g : Str) : Sp := fun vs H Q _ => ∃ (a C : Addr) (v u : V), vs = [.ref a, v, u] ∧ XC K C ∧ PySem.W.findIn K (.ref C) f = some none ∧ PySem.W.findIn K (.ref C) g = some none ∧ H a = some (exo a C none) ∧
  ∀ dx, H dx = none → dx ≠ a → Q .non (upd (upd (upd H dx (exd dx [(f, v)])) a (exo a C (some dx))) dx (exd dx [(g, u), (f, v)]))
section
variable {P : Program} {w : World} {K : PySem.W.Frag} {mg : Str → Option Value} {base : Heap} {fI : Addr} {fd : FuncData} {q f g : Str} {st : Stmt} {p1 p2 p3 p4 q1 q2 q3 q4 : Pos}
theorem ok_init1 (F : Fun K "__init__" q st fI fd) (sc : FnScope ["self", f] ["self", f] (defScope st)) (hb : defBody st = [.Assign [.Attribute (.Name "self" p1) f p2] (.Name f p3) p4]) (v0 : Vis (defScope st) "self") (v1 : Vis (defScope st) f)
    (n1 : (f == ("__debug__" : Str)) = false := by decide +kernel) (n2 : (f == ("__classdict__" : Str)) = false := by decide +kernel) : FnOk P w K mg base CX0 1 fI fd ["self", f] (spI1 K f) := by
  refine F.ok sc (fun vs H Q E h => ?_) (fun cdv A outer s H vs Q E hr h => ?_)
  · obtain ⟨a, C, v, rfl, _⟩ := h
    rfl
  · obtain ⟨a, C, v, rfl, T, hn, ha, k⟩ := h
    rw [hb]
    exact ⟨_, pss_one (ps_xst (pv 0 rfl v0) (pv 1 rfl v1 n1 n2)), _, rfl, _, rfl, a, C, rfl, T, hn, .inl ⟨ha, fun dx hd ne => k dx hd ne⟩⟩
theorem ok_init2 (F : Fun K "__init__" q st fI fd) (sc : FnScope ["self", f, g] ["self", f, g] (defScope st)) (hb : defBody st = [.Assign [.Attribute (.Name "self" p1) f p2] (.Name f p3) p4, .Assign [.Attribute (.Name "self" q1) g q2] (.Name g q3) q4])
    (v0 : Vis (defScope st) "self") (v1 : Vis (defScope st) f) (v2 : Vis (defScope st) g) (n1 : (f == ("__debug__" : Str)) = false := by decide +kernel) (n2 : (f == ("__classdict__" : Str)) = false := by decide +kernel)
    (m1 : (g == ("__debug__" : Str)) = false := by decide +kernel) (m2 : (g == ("__classdict__" : Str)) = false := by decide +kernel) : FnOk P w K mg base CX0 1 fI fd ["self", f, g] (spI2 K f g) := by
  refine F.ok sc (fun vs H Q E h => ?_) (fun cdv A outer s H vs Q E hr h => ?_)
  · obtain ⟨a, C, v, u, rfl, _⟩ := h
    rfl
  · obtain ⟨a, C, v, u, rfl, T, hn, hm, ha, k⟩ := h
    rw [hb]
    refine ⟨_, pss_cons (ps_xst (pv 0 rfl v0) (pv 1 rfl v1 n1 n2)) (pss_one (ps_xst (pv 0 rfl v0) (pv 2 rfl v2 m1 m2))), _, rfl, _, rfl, a, C, rfl, T, hn, .inl ⟨ha, fun dx hd ne => ?_⟩⟩
    exact ⟨_, rfl, _, rfl, a, C, rfl, T, hm, .inr ⟨dx, _, upd_same, by rw [upd_ne ne, upd_same], by show 1 ≤ 900; decide, k dx hd ne⟩⟩
end
/-- a class over `__init__(self, f)` -/
structure New1 (P : Program) (w : World) (K : PySem.W.Frag) (mg : Str → Option Value) (base : Heap) (x f : Str) (C : Addr) : Prop where
  t : XC K C
  n : PySem.W.findIn K (.ref C) f = some none
  m : mg x = some (.ref C)
  i : ∃ fI fd, PySem.W.findIn K (.ref C) "__init__" = some (some (.ref fI)) ∧ PySem.W.isFn K (.ref fI) = true ∧ FnOk P w K mg base CX0 1 fI fd ["self", f] (spI1 K f) ∧ KBn K fd ["self", f] 2 [] (fun us _ => us) (fun vs _ => vs) ∧ KBn K fd ["self", f] 1 [f] (fun us ws => us ++ ws) (fun vs zs => vs ++ zs)
/-- a class over `__init__(self, f, g)` -/
structure New2 (P : Program) (w : World) (K : PySem.W.Frag) (mg : Str → Option Value) (base : Heap) (x f g : Str) (C : Addr) : Prop where
  t : XC K C
  n : PySem.W.findIn K (.ref C) f = some none
  o : PySem.W.findIn K (.ref C) g = some none
  m : mg x = some (.ref C)
  i : ∃ fI fd, PySem.W.findIn K (.ref C) "__init__" = some (some (.ref fI)) ∧ PySem.W.isFn K (.ref fI) = true ∧ FnOk P w K mg base CX0 1 fI fd ["self", f, g] (spI2 K f g) ∧ KBn K fd ["self", f, g] 3 [] (fun us _ => us) (fun vs _ => vs) ∧
    KBn K fd ["self", f, g] 1 [g, f] (fun us ws => us ++ ws.reverse) (fun vs zs => vs ++ zs.reverse)
def tNew1 (C : Addr) (f : Str) (te : TE) : TE := fun σ H Q => te σ H fun v H1 => ∀ a H2, Same H1 H2 → H1 a = none → ExnAt H2 a C [(f, v)] → Q (.ref a) H2
def tNew2 (C : Addr) (f g : Str) (ta tb : TE) : TE := fun σ H Q => ta σ H fun v H1 => tb σ H1 fun u H2 => ∀ a H3, Same H2 H3 → H2 a = none → ExnAt H3 a C [(g, u), (f, v)] → Q (.ref a) H3
/-- C(g = .., f = ..): the second field's value is reckoned first -/
def tNew2k (C : Addr) (f g : Str) (tb ta : TE) : TE := fun σ H Q => tb σ H fun u H1 => ta σ H1 fun v H2 => ∀ a H3, Same H2 H3 → H2 a = none → ExnAt H3 a C [(g, u), (f, v)] → Q (.ref a) H3
section
variable {X : Cx} {C : Addr} {x f g : Str} {p pos k1 k2 : Pos} {e e2 : Expr} {te ta tb : TE}
theorem same_made {H1 : Hp} {a dx C : Addr} {fs : List (Str × V)} (h : H1 a = none) (hd : upd H1 a (exo a C none) dx = none) (ne : dx ≠ a) : Same H1 (upd (upd (upd H1 a (exo a C none)) dx (exd dx fs)) a (exo a C (some dx))) := fun b o q => by
  have na : b ≠ a := ne_of_none q h
  have nd : b ≠ dx := fun z => by
    rw [z] at q
    rw [upd_ne ne, q] at hd
    cases hd
  rw [upd_ne na, upd_ne nd, upd_ne na, q]
theorem spI1_of {K : PySem.W.Frag} {H1 : Hp} {Q : VK} {a : Addr} {v : V} {E : XK} (T : XC K C) (n : PySem.W.findIn K (.ref C) f = some none) (h : H1 a = none) (q : ∀ a H2, Same H1 H2 → H1 a = none → ExnAt H2 a C [(f, v)] → Q (.ref a) H2) :
    spI1 K f [.ref a, v] (upd H1 a (exo a C none)) (fun z H3 => z = .non ∧ Q (.ref a) H3) E :=
  ⟨a, C, v, rfl, T, n, upd_same, fun dx hd ne => ⟨rfl, q a _ (same_made h hd ne) h (.inr ⟨dx, upd_same, by rw [upd_ne ne, upd_same]⟩)⟩⟩
theorem spI2_of {K : PySem.W.Frag} {H1 : Hp} {Q : VK} {a : Addr} {v u : V} {E : XK} (T : XC K C) (n : PySem.W.findIn K (.ref C) f = some none) (o : PySem.W.findIn K (.ref C) g = some none) (h : H1 a = none) (q : ∀ a H2, Same H1 H2 → H1 a = none → ExnAt H2 a C [(g, u), (f, v)] → Q (.ref a) H2) :
    spI2 K f g [.ref a, v, u] (upd H1 a (exo a C none)) (fun z H3 => z = .non ∧ Q (.ref a) H3) E :=
  ⟨a, C, v, u, rfl, T, n, o, upd_same, fun dx hd ne => ⟨rfl, q a _ (fun b ob z => by
    have nd : b ≠ dx := fun y => by
      rw [y] at z
      rw [upd_ne ne, z] at hd
      cases hd
    rw [upd_ne nd]
    exact same_made h hd ne b ob z) h (.inr ⟨dx, by rw [upd_ne (Ne.symm ne), upd_same], upd_same⟩)⟩⟩
theorem pe_new1 (O : New1 X.prog X.w X.K X.mg X.base x f C) (hr : Room 2 X.A) (hg : Gl X x) (he : PE X e te) (hdb : (x == ("__debug__" : Str)) = false := by decide) (hs : starEach (e :: []) X.env = (false, eval e X.env) :: starEach [] X.env := by rfl) :
    PE X (.Call (.Name x p) [e] [] pos) (tNew1 C f te) := by
  obtain ⟨fI, fd, i1, i2, F, b1, _⟩ := O.i
  refine ⟨fun pins s σ H Q I h => wpAny_Call_Name_kw (ld_glob I hg O.m ?_ hdb)⟩
  have hA : PA X [e] (tCons te tNil) := pa_cons (hs := hs) he pa_nil
  refine PySem.W.callWith_K (h₀ := X.base) I.ok.mod.kin O.t.kp (thn (hA.run pos pins s σ H (fun vs H1 => match vs with | [v] => ∀ a H2, Same H1 H2 → H1 a = none → ExnAt H2 a C [(f, v)] → Q (.ref a) H2 | _ => False) I h) fun us s1 ⟨vs, H1, I1, r, q⟩ => ⟨I1.kIn, ?_⟩) hs (by rfl)
  match vs, r, q with
  | [v], r, q => exact run_mkX (n := 1) (ks := []) (ws := []) (zs := []) O.t i1 i2 F hr b1 pass0 I1 r .nil rfl rfl (by decide) fun a ha => spI1_of O.t O.n ha q
theorem pe_new1k (O : New1 X.prog X.w X.K X.mg X.base x f C) (hr : Room 2 X.A) (hg : Gl X x) (he : PE X e te) (hdb : (x == ("__debug__" : Str)) = false := by decide) : PE X (.Call (.Name x p) [] [⟨some f, e, k1⟩] pos) (tNew1 C f te) := by
  obtain ⟨fI, fd, i1, i2, F, _, b1⟩ := O.i
  refine ⟨fun pins s σ H Q I h => wpAny_Call_Name_kw (ld_glob I hg O.m ?_ hdb)⟩
  have hK : PK X [⟨some f, e, k1⟩] (tCons te tNil) := pk_cons he pk_nil
  refine PySem.W.callWith_KW0 (h₀ := X.base) I.ok.mod.kin O.t.kp (by rfl) (thn (hK.run pos pins s σ H (fun vs H1 => match vs with | [v] => ∀ a H2, Same H1 H2 → H1 a = none → ExnAt H2 a C [(f, v)] → Q (.ref a) H2 | _ => False) I h) fun ws s1 ⟨vs, H1, I1, r, q⟩ => ⟨I1.kIn, ?_⟩) (by rfl)
  match vs, r, q with
  | [v], r, q => exact run_mkX (n := 0) (us := []) (vs := []) O.t i1 i2 F hr b1 pass0 I1 .nil r rfl rfl (by decide) fun a ha => spI1_of O.t O.n ha q
theorem pe_new2 (O : New2 X.prog X.w X.K X.mg X.base x f g C) (hr : Room 2 X.A) (hg : Gl X x) (ha : PE X e ta) (hb : PE X e2 tb) (hdb : (x == ("__debug__" : Str)) = false := by decide) (hs : starEach (e :: [e2]) X.env = (false, eval e X.env) :: starEach [e2] X.env := by rfl)
    (hs2 : starEach (e2 :: []) X.env = (false, eval e2 X.env) :: starEach [] X.env := by rfl) : PE X (.Call (.Name x p) [e, e2] [] pos) (tNew2 C f g ta tb) := by
  obtain ⟨fI, fd, i1, i2, F, b1, _⟩ := O.i
  refine ⟨fun pins s σ H Q I h => wpAny_Call_Name_kw (ld_glob I hg O.m ?_ hdb)⟩
  have hA : PA X [e, e2] (tCons ta (tCons tb tNil)) := pa_cons (hs := hs) ha (pa_cons (hs := hs2) hb pa_nil)
  refine PySem.W.callWith_K (h₀ := X.base) I.ok.mod.kin O.t.kp (thn (hA.run pos pins s σ H (fun vs H1 => match vs with | [v, u] => ∀ a H2, Same H1 H2 → H1 a = none → ExnAt H2 a C [(g, u), (f, v)] → Q (.ref a) H2 | _ => False) I h) fun us s1 ⟨vs, H1, I1, r, q⟩ => ⟨I1.kIn, ?_⟩) hs (by rw [hs2]; rfl)
  match vs, r, q with
  | [v, u], r, q => exact run_mkX (n := 2) (ks := []) (ws := []) (zs := []) O.t i1 i2 F hr b1 pass0 I1 r .nil rfl rfl (by decide) fun a ha => spI2_of O.t O.n O.o ha q
theorem pe_new2k (O : New2 X.prog X.w X.K X.mg X.base x f g C) (hr : Room 2 X.A) (hg : Gl X x) (hb : PE X e2 tb) (ha : PE X e ta) (hdb : (x == ("__debug__" : Str)) = false := by decide) : PE X (.Call (.Name x p) [] [⟨some g, e2, k1⟩, ⟨some f, e, k2⟩] pos) (tNew2k C f g tb ta) := by
  obtain ⟨fI, fd, i1, i2, F, _, b1⟩ := O.i
  refine ⟨fun pins s σ H Q I h => wpAny_Call_Name_kw (ld_glob I hg O.m ?_ hdb)⟩
  have hK : PK X [⟨some g, e2, k1⟩, ⟨some f, e, k2⟩] (tCons tb (tCons ta tNil)) := pk_cons hb (pk_cons ha pk_nil)
  refine PySem.W.callWith_KW0 (h₀ := X.base) I.ok.mod.kin O.t.kp (by rfl) (thn (hK.run pos pins s σ H (fun vs H1 => match vs with | [u, v] => ∀ a H2, Same H1 H2 → H1 a = none → ExnAt H2 a C [(g, u), (f, v)] → Q (.ref a) H2 | _ => False) I h) fun ws s1 ⟨vs, H1, I1, r, q⟩ => ⟨I1.kIn, ?_⟩) (by rfl)
  match vs, r, q with
  | [u, v], r, q => exact run_mkX (n := 0) (us := []) (vs := []) O.t i1 i2 F hr b1 pass0 I1 .nil r rfl rfl (by decide) fun a ha => spI2_of O.t O.n O.o ha q
end
end L2
set_option Elab.async false
set_option linter.all false
set_option maxRecDepth 100000
set_option maxHeartbeats 4000000
/-! What every law's own text draws by: a pot of two numbers. -/
namespace L2
open PySem PySem.Spec PyProof.Rows
/-- the built-in names that are not bound by the text -/
structure Bl (mg : Str → Option Value) : Prop where
  len : mg "len" = none
  abs : mg "abs" = none
  max : mg "max" = none
  min : mg "min" = none
  int : mg "int" = none
  divmod : mg "divmod" = none
  range : mg "range" = none
  repr : mg "repr" = none
  all : mg "all" = none
  any : mg "any" = none
  enumerate : mg "enumerate" = none
  isinstance : mg "isinstance" = none
/-- a pot at p -/
def Pot (H : Hp) (p : Addr) : Prop := ∃ a b : Int, H p = some (.lst [.int a, .int b]) ∧ 0 ≤ a ∧ 0 ≤ b ∧ b < 2147483648
/-- all but p is as it was -/
def But (p : Addr) (H H' : Hp) : Prop := ∀ b o, b ≠ p → H b = some o → H' b = some o
theorem But.refl (p : Addr) (H : Hp) : But p H H := fun _ _ _ h => h
theorem But.trans {p : Addr} {H H1 H2 : Hp} (a : But p H H1) (b : But p H1 H2) : But p H H2 := fun c o n h => b c o n (a c o n h)
theorem But.same {p : Addr} {H H1 H2 : Hp} (a : But p H H1) (b : Same H1 H2) : But p H H2 := fun c o n h => b c o (a c o n h)
theorem Same.but {p : Addr} {H H1 H2 : Hp} (a : Same H H1) (b : But p H1 H2) : But p H H2 := fun c o n h => b c o n (a c o h)
theorem Pot.same {H H' : Hp} {p : Addr} (x : Pot H p) (s : Same H H') : Pot H' p := by
  obtain ⟨a, b, h, r⟩ := x
  exact ⟨a, b, s _ _ h, r⟩
/-- draw(pot, sides): a digit below sides -/
def spDraw : Sp := fun vs H Q _ => ∃ (p : Addr) (n : Int), vs = [.ref p, .int n] ∧ Pot H p ∧ 1 ≤ n ∧ n < 1000000 ∧ ∀ H' i, But p H H' → Pot H' p → 0 ≤ i → i < n → Q (.int i) H'
/-- pot(script, k) -/
def spPot (K : PySem.W.Frag) : Sp := fun vs H Q _ => ∃ (a : Addr) (ns : List Int) (k : Nat), vs = [.ref a, .int (k : Int)] ∧ SqL K H a (ns.map V.int) ∧ k ≤ 100 ∧ ∀ H' p, Same H H' → H p = none → Pot H' p → Q (.ref p) H'
/-- pick(pot, some): one of a list -/
def spPick : Sp := fun vs H Q _ => ∃ (p l : Addr) (xs : List V), vs = [.ref p, .ref l] ∧ Pot H p ∧ l ≠ p ∧ H l = some (.lst xs) ∧ 1 ≤ xs.length ∧ xs.length ≤ 1000 ∧ ∀ (H' : Hp) (i : Nat) (x : V), But p H H' → Pot H' p → xs[i]? = some x → Q x H'
end L2
set_option Elab.async false
set_option linter.all false
set_option maxRecDepth 100000
set_option maxHeartbeats 4000000
namespace K10
open PySem PySem.Spec PyProof.Rows L2
def top (i : Nat) : Stmt := PySem.Challenge.pw_wornsteps_k10_errors_made.main.body.getD i (.Pass ⟨0, 0, 0, 0⟩)
abbrev sPot : Stmt := top 40
abbrev sDraw : Stmt := top 41
abbrev sPick : Stmt := top 42
section
variable {P : Program} {w : World} {K : PySem.W.Frag} {mg : Str → Option Value} {base : Heap}
theorem scPot : FnScope ["_law_script", "_law_k", "_law_cell"] ["_law_script", "_law_k"] (defScope sPot) := ⟨rfl, rfl, rfl, by decide +kernel, rfl, by decide +kernel, by decide +kernel⟩
theorem scDraw : FnScope ["_law_pot_here", "_law_sides", "_law_digit"] ["_law_pot_here", "_law_sides"] (defScope sDraw) := ⟨rfl, rfl, rfl, by decide +kernel, rfl, by decide +kernel, by decide +kernel⟩
theorem scPick : FnScope ["_law_pot_here", "_law_some"] ["_law_pot_here", "_law_some"] (defScope sPick) := ⟨rfl, rfl, rfl, by decide +kernel, rfl, by decide +kernel, by decide +kernel⟩
theorem ok_draw {f : Addr} {fd : FuncData} (F : Fun K "_law_draw" "_law_draw" sDraw f fd) (B : Bl mg) : FnOk P w K mg base CX0 1 f fd ["_law_pot_here", "_law_sides"] spDraw := by
  refine F.ok scDraw (fun vs H Q E h => ?_) (fun cdv A outer s H vs Q E hr h => ?_)
  · obtain ⟨p, n, rfl, _⟩ := h
    rfl
  · obtain ⟨p, n, rfl, ⟨a, b, hp, ha, hb, hb2⟩, n1, n2, k⟩ := h
    refine ⟨_, pss_cons (ps_if (pt_cmpR op_gt (pe_ix ix_list (pv 0) pe_int (fun _ _ => rfl)) pe_int (nomark _))
        (pss_cons (ps_asg (pe_callB call_divmod (by rfl) B.divmod boot_divmod (pa_cons (pe_ix ix_list (pv 0) pe_int (fun _ _ => rfl)) (pa_cons (pv 1) pa_nil)))
            (pg_tup rfl (pgs_cons (pg_sub (pv 0) pe_int set_list (fun _ => rfl)) (pgs_cons (pg_name (i := 2) scDraw.nd rfl (.inl rfl)) pgs_nil))))
          (pss_one (ps_ret (pv 2)))) pss_nil)
      (pss_cons (ps_asg (pe_op op_mod (pe_callTy call_int1 (by rfl) B.int boot_int (pa_cons (pe_op op_add (pe_op op_mul (pe_ix ix_list (pv 0) pe_int (fun _ _ => rfl)) pe_int) pe_int) pa_nil)) pe_int)
          (pg_sub (pv 0) pe_int set_list (fun _ => rfl)))
      (pss_one (ps_ret (pe_op op_mod (pe_callTy call_int1 (by rfl) B.int boot_int (pa_cons (pe_op op_fdiv (pe_op op_mod (pe_callTy call_int1 (by rfl) B.int boot_int (pa_cons (pe_op op_mul (pe_ix ix_list (pv 0) pe_int (fun _ _ => rfl)) (pe_ix ix_list (pv 0) pe_int (fun _ _ => rfl))) pa_nil)) pe_int) pe_int) pa_nil)) (pv 1))))), ?_⟩
    refine ⟨_, rfl, p, _, 0, _, rfl, rfl, SqL.of hp, rfl, _, _, rfl, rfl, _, rfl, ?_⟩
    refine ite2 (fun c => ?_) (fun c => ?_)
    · refine ⟨_, rfl, p, _, 0, _, rfl, rfl, SqL.of hp, rfl, _, rfl, a, n, rfl, ⟨by omega, by omega⟩, fun t ht => ?_⟩
      have ntp : p ≠ t := ne_of_none hp ht
      refine ⟨t, _, rfl, SqT.of upd_same, rfl, ?_⟩
      refine ⟨_, _, rfl, _, rfl, p, _, 0, 0, rfl, rfl, (by rw [upd_ne ntp]; exact hp), rfl, _, _, rfl, rfl, ?_⟩
      refine ⟨_, rfl, k _ _ (fun c o nc e => ?_) ⟨a / n, b, upd_same, Int.ediv_nonneg ha (by omega), hb, hb2⟩ (Int.emod_nonneg _ (by omega)) (Int.emod_lt_of_pos _ (by omega))⟩
      rw [upd_ne nc, upd_ne (ne_of_none e ht)]
      exact e
    · refine ⟨_, rfl, p, _, 1, _, rfl, rfl, SqL.of hp, rfl, _, _, rfl, rfl, .inr ⟨by decide, by decide⟩, _, _, rfl, rfl, .inl ⟨_, rfl, _, _, rfl, rfl, (by show (0 : Int) < 2147483563; decide), ?_⟩⟩
      have e0 : 0 ≤ (b * 39971 + 11031) % 2147483563 := Int.emod_nonneg _ (by decide)
      have e1 : (b * 39971 + 11031) % 2147483563 < 2147483563 := Int.emod_lt_of_pos _ (by decide)
      refine ⟨_, rfl, p, _, 1, 1, rfl, rfl, hp, rfl, ?_⟩
      refine ⟨_, rfl, p, _, 1, _, rfl, rfl, SqL.of upd_same, rfl, _, rfl, p, _, 1, _, rfl, rfl, SqL.of upd_same, rfl, _, _, rfl, rfl, .inl ⟨by omega, by omega⟩, .inl ⟨_, rfl, _, _, rfl, rfl, (by show (0 : Int) < 2147483543; decide), ?_⟩⟩
      refine ⟨_, _, rfl, rfl, ⟨by decide, by decide⟩, .inl ⟨_, rfl, _, rfl, _, _, rfl, rfl, (by omega), ?_⟩⟩
      exact k _ _ (fun c o nc e => by rw [upd_ne nc]; exact e) ⟨a, _, upd_same, ha, e0, by omega⟩ (Int.emod_nonneg _ (by omega)) (Int.emod_lt_of_pos _ (by omega))
theorem ok_pot {f : Addr} {fd : FuncData} (F : Fun K "_law_pot" "_law_pot" sPot f fd) (B : Bl mg) : FnOk P w K mg base CX0 1 f fd ["_law_script", "_law_k"] (spPot K) := by
  refine F.ok scPot (fun vs H Q E h => ?_) (fun cdv A outer s H vs Q E hr h => ?_)
  · obtain ⟨a, ns, n, rfl, _⟩ := h
    rfl
  · obtain ⟨a, ns, n, rfl, hS, hn, k⟩ := h
    refine ⟨_, pss_cons (ps_set (i := 2) scPot.nd rfl (.inl rfl) (pe_ifExp (pt_cmpR op_lt (pv 1) (pe_callB call_len_seq (by rfl) B.len PySem.boot_len (pa_cons (pv 0) pa_nil)) (nomark _))
        (pe_callB call_abs (by rfl) B.abs boot_abs (pa_cons (pe_ix ix_list (pv 0) (pv 1) (fun _ _ => rfl)) pa_nil)) (pe_op op_add (pe_op op_mul pe_int (pv 1)) pe_int)))
      (pss_one (ps_ret (pe_lst (pa_cons (pe_callB (call_max2 rfl) (by rfl) B.max boot_max (pa_cons pe_int (pa_cons (pe_op op_sub (pv 2) (pe_op op_pow pe_int pe_int)) pa_nil)))
        (pa_cons (pe_op op_add (pe_op op_mod (pe_callTy call_int1 (by rfl) B.int boot_int (pa_cons (pe_op op_add (pe_op op_add (pe_op op_mul (pe_op op_mod (pe_callTy call_int1 (by rfl) B.int boot_int (pa_cons (pv 2) pa_nil)) pe_int) pe_int) (pe_op op_mul pe_int (pv 1))) pe_int) pa_nil)) pe_int) pe_int) pa_nil))))), ?_⟩
    have fin : ∀ z : Int, (tRet (tLst (tCons (tCB (fun xs H Q => ∃ i j, xs = [.int i, .int j] ∧ Q (.int (if j > i then j else i)) H) (tCons (tC (.int 0)) (tCons (tOp (rI0 fun i j => .int (i - j)) (tVar 2) (tOp (rI CPow fun i j => .int (i ^ j.toNat)) (tC (.int 10)) (tC (.int 18)))) tNil)))
        (tCons (tOp (rI0 fun i j => .int (i + j)) (tOp (rI (fun _ j => 0 < j) fun i j => .int (i % j)) (tCB (fun xs H Q => (∃ i, xs = [.int i] ∧ Q (.int i) H) ∨ ∃ k, xs = [.bl k] ∧ Q (.int (if k then 1 else 0)) H)
          (tCons (tOp (rI0 fun i j => .int (i + j)) (tOp (rI0 fun i j => .int (i + j)) (tOp (rI CMul fun i j => .int (i * j)) (tOp (rI (fun _ j => 0 < j) fun i j => .int (i % j)) (tCB (fun xs H Q => (∃ i, xs = [.int i] ∧ Q (.int i) H) ∨ ∃ k, xs = [.bl k] ∧ Q (.int (if k then 1 else 0)) H) (tCons (tVar 2) tNil)) (tC (.int 2147483549))) (tC (.int 47019)))
            (tOp (rI CMul fun i j => .int (i * j)) (tC (.int 5597)) (tVar 1))) (tC (.int 31))) tNil)) (tC (.int 2147483579))) (tC (.int 1))) tNil)))) { nx := fun _ H' => Q .non H', rt := Q } [some (.ref a), some (.int (n : Int)), some (.int z)] H := by
      intro z
      refine ⟨_, rfl, _, _, rfl, rfl, ⟨by decide, by decide, by decide⟩, _, _, rfl, rfl, _, _, rfl, ?_⟩
      refine ⟨_, rfl, .inl ⟨_, rfl, _, _, rfl, rfl, (by show (0 : Int) < 2147483549; decide), _, _, rfl, rfl, .inr ⟨by decide, by decide⟩, _, rfl, _, _, rfl, rfl, .inl ⟨by decide, by decide⟩, _, _, rfl, rfl, _, _, rfl, rfl, .inl ⟨_, rfl, _, _, rfl, rfl, (by show (0 : Int) < 2147483579; decide), ?_⟩⟩⟩
      refine ⟨_, _, rfl, rfl, Nat.le_of_lt (small1000 (show 2 ≤ 1000 by decide)), fun p hp => ?_⟩
      have m0 := Int.emod_nonneg (z % 2147483549 * 47019 + 5597 * (n : Int) + 31) (show (2147483579 : Int) ≠ 0 by decide)
      have m1 := Int.emod_lt_of_pos (z % 2147483549 * 47019 + 5597 * (n : Int) + 31) (show (0 : Int) < 2147483579 by decide)
      refine k _ p (Same.new hp) hp ⟨_, _, upd_same, ?_, by omega, by omega⟩
      split <;> omega
    refine ⟨_, rfl, _, rfl, a, _, rfl, .inl hS, _, _, rfl, rfl, _, rfl, ?_⟩
    refine ite2 (fun c => ?_) (fun c => ?_)
    · have c' := of_decide_eq_true c
      rw [List.length_map] at c'
      have hlt : n < ns.length := by omega
      refine ⟨_, rfl, _, rfl, a, _, (n : Int), .int ns[n], rfl, rfl, hS, atI_nat (by rw [List.getElem?_map, List.getElem?_eq_getElem hlt]; rfl), ns[n], rfl, fin _⟩
    · exact ⟨_, rfl, _, _, rfl, rfl, .inl ⟨by decide, by decide⟩, _, _, rfl, rfl, fin _⟩
theorem ok_pick {f fD : Addr} {fd fdD : FuncData} (F : Fun K "_law_pick" "_law_pick" sPick f fd) (B : Bl mg) (FD : Fun K "_law_draw" "_law_draw" sDraw fD fdD) (bD : Binds K fdD ["_law_pot_here", "_law_sides"] []) (mD : mg "_law_draw" = some (.ref fD)) :
    FnOk P w K mg base CX0 2 f fd ["_law_pot_here", "_law_some"] spPick := by
  have GD : FnOk P w K mg base CX0 1 fD fdD ["_law_pot_here", "_law_sides"] spDraw := ok_draw FD B
  refine F.ok scPick (fun vs H Q E h => ?_) (fun cdv A outer s H vs Q E hr h => ?_)
  · obtain ⟨p, l, xs, rfl, _⟩ := h
    rfl
  · obtain ⟨p, l, xs, rfl, hP, nlp, hl, l1, l2, k⟩ := h
    refine ⟨_, pss_one (ps_ret (pe_ix ix_list (pv 1) (pe_call GD hr rfl mD FD.kp bD .nil pass0 (pa_cons (pv 0) (pa_cons (pe_callB call_len_seq (by rfl) B.len PySem.boot_len (pa_cons (pv 1) pa_nil)) pa_nil))) (fun _ _ => rfl))), ?_⟩
    refine ⟨_, rfl, _, rfl, _, rfl, l, _, rfl, .inl (SqL.of hl), p, _, rfl, hP, by omega, by omega, fun H' i bt pt i0 i1 => ?_⟩
    obtain ⟨j, rfl⟩ := Int.eq_ofNat_of_zero_le i0
    have hj : j < xs.length := by omega
    exact ⟨l, xs, _, _, rfl, rfl, SqL.of (bt _ _ nlp hl), atI_nat (List.getElem?_eq_getElem hj), k H' j _ bt pt (List.getElem?_eq_getElem hj)⟩
end
end K10
set_option Elab.async false
set_option linter.all false
set_option maxRecDepth 100000
set_option maxHeartbeats 4000000
namespace L2
open PySem PySem.Spec PyProof.Rows PySem.XM Builtin.Str
/-- an exception of the class at C without an `__init__` of its own -/
structure New0 (K : PySem.W.Frag) (mg : Str → Option Value) (x : Str) (C : Addr) : Prop where
  t : XC K C
  m : mg x = some (.ref C)
  b : ∃ (B nId iId : String) (mB : List Value), ExcBaseFacts B nId iId mB ∧ PySem.W.excIn K C mB nId = true
def tNew0 (C : Addr) : TE := fun _ H Q => ∀ a H2, Same H H2 → H a = none → ExnAt H2 a C [] → Q (.ref a) H2
theorem pe_new0 {X : Cx} {x : Str} {C : Addr} {p pos : Pos} (O : New0 X.K X.mg x C) (hg : Gl X x) (hdb : (x == ("__debug__" : Str)) = false := by decide) : PE X (.Call (.Name x p) [] [] pos) (tNew0 C) := by
  obtain ⟨B, nId, iId, mB, F, q⟩ := O.b
  exact ⟨fun pins s σ H Q I h => (pe_mkX0 F q O.t.kp hg O.m hdb).run pins s σ H Q I fun a ha => h a _ (Same.new ha) ha (.inl ⟨rfl, upd_same⟩)⟩
/-- [isinstance(e, c), ..] over written classes -/
def tIsL (K : PySem.W.Frag) (i : Nat) : List V → TA
  | [] => tNil
  | c :: cs => tCons (tCB (rIsX K) (tCons (tVar i) (tCons (tC c) tNil))) (tIsL K i cs)
/-- how a class stands to the classes cs -/
def Stands (K : PySem.W.Frag) (C : Addr) (cs : List V) (bs : List Bool) : Prop := Paired (fun c b => ∃ u, ClsV c u ∧ PySem.W.kitOne K (.ref C) u = some b) cs bs
theorem isL_read {K : PySem.W.Frag} {i : Nat} {σ : St} {H : Hp} {a C : Addr} {fs : List (Str × V)} (hs : σ[i]? = some (some (.ref a))) (T : XC K C) (x : ExnAt H a C fs) : ∀ {cs : List V} {bs : List Bool} {Q : List V → Hp → Prop}, Stands K C cs bs → Q (bs.map V.bl) H → tIsL K i cs σ H Q
  | _, _, _, .nil, q => q
  | c :: cs, b :: bs, Q, .cons ⟨u, k, e⟩ r, q => ⟨_, hs, a, C, fs, c, u, b, rfl, T, x, k, e, isL_read hs T x (Q := fun zs H2 => Q (V.bl b :: zs) H2) r q⟩
/-- 'w' * n: some text of that length -/
theorem fold_size (c : Array Nat) : ∀ (n : Nat) (a : Array Nat), ((List.replicate n c).foldl (· ++ ·) a).size = a.size + n * c.size
  | 0, a => by simp
  | n + 1, a => by
    rw [List.replicate_succ, List.foldl_cons, fold_size c n, Array.size_append, Nat.succ_mul]
    omega
theorem op_mul_strI {X : Cx} : OpR X (binaryOp .Mult) (fun x y H Q => ∃ (z : Str) (n : Int), x = .str z ∧ y = .int n ∧ 2 ≤ n ∧ n < 1000 ∧ 1 ≤ z.length ∧ z.length ≤ 1000 ∧ Q (.str ⟨(List.replicate n.toNat z.cps).foldl (· ++ ·) #[]⟩) H) := by
  intro pins s σ H x y v u Q I rx ry h
  obtain ⟨z, n, rfl, rfl, n0, n1, z0, z1, q⟩ := h
  obtain ⟨t, rfl⟩ := rx
  obtain ⟨t', rfl⟩ := ry
  have a1 : ¬ n < 1 := by omega
  have a2 : (n == 1 || z.length == 0) = false := by
    rw [Bool.or_eq_false_iff]
    exact ⟨beq_eq_false_iff_ne.mpr (by omega), beq_eq_false_iff_ne.mpr (by omega)⟩
  refine PySem.P.mul_str ?_ (fun _ _ => ?_) (fun _ _ => ?_) ?_
  · rw [decide_eq_false (by omega), decide_eq_false (by omega)]
    rfl
  · have h1 : (1000 : Int) ≤ (2 ^ 63 - 1) / n := by
      rw [Int.le_ediv_iff_mul_le (by omega)]
      omega
    omega
  · have h2 : z.length * n.toNat ≤ 1000 * 1000 := Nat.mul_le_mul z1 (by omega)
    have e := sizeLine_eq
    unfold Builtin.Str.tooLong
    exact decide_eq_false (by omega)
  · rw [if_neg a1, a2, if_neg Bool.false_ne_true]
    have fs := fold_size z.cps n.toNat #[]
    rw [show (#[] : Array Nat).size = 0 from rfl, Nat.zero_add] at fs
    have h2 : n.toNat * z.cps.size ≤ 1000 * 1000 := Nat.mul_le_mul (by omega) z1
    have e := sizeLine_eq
    exact ⟨(show Array.size _ ≤ sizeLine by rw [fs]; omega), ⟨.str _, H, I.tok _, ⟨_, rfl⟩, q⟩⟩
end L2
set_option Elab.async false
set_option linter.all false
set_option maxRecDepth 100000
set_option maxHeartbeats 4000000
namespace K10
open PySem PySem.Spec PyProof.Rows L2 PySem.XM
abbrev sGrounds : Stmt := top 43
abbrev sGround : Stmt := top 44
abbrev sThing : Stmt := top 45
/-- the four families and their built-in bases -/
def famC (S M T L : Addr) : List V := [.ref S, .ref M, .ref T, .ref L, .ty "ValueError", .ty "LookupError", .ty "RuntimeError", .ty "ArithmeticError"]
def famB (i : Nat) : List Bool := [i == 0, i == 1, i == 2, i == 3, i == 0, i == 1, i == 2, i == 3]
/-- the names of the families -/
structure Fam (mg : Str → Option Value) (S M T L : Addr) : Prop where
  s : mg "StairError" = some (.ref S)
  m : mg "MissingError" = some (.ref M)
  t : mg "StateError" = some (.ref T)
  l : mg "LimitError" = some (.ref L)
  ve : mg "ValueError" = none
  le : mg "LookupError" = none
  re : mg "RuntimeError" = none
  ae : mg "ArithmeticError" = none
section
variable {P : Program} {w : World} {K : PySem.W.Frag} {mg : Str → Option Value} {base : Heap} {S M T L : Addr}
/-- grounds(e): where e's class stands -/
def spGrounds (K : PySem.W.Frag) (S M T L : Addr) : Sp := fun vs H Q _ => ∃ (a C : Addr) (fs : List (Str × V)) (bs : List Bool), vs = [.ref a] ∧ XC K C ∧ ExnAt H a C fs ∧ Stands K C (famC S M T L) bs ∧ bs.length = 8 ∧ ∀ H' l, Same H H' → H l = none → H' l = some (.lst (bs.map V.bl)) → Q (.ref l) H'
theorem go_setL {ta : TA} {i : Nat} {u : TS} {D : Ends} {σ : L2.St} {H : Hp} (h : ta σ H fun xs H1 => xs.length ≤ sizeLine ∧ ∀ p, H1 p = none → u D (σ.set i (some (.ref p))) (upd H1 p (.lst xs))) : tSeq (tAsg (tLst ta) (gName i)) u D σ H := h
theorem go_setC {ta : TA} {i j : Nat} {u : TS} {D : Ends} {σ : L2.St} {H : Hp} (x : V) (hx : σ[j]? = some (some x)) (h : ta σ H fun zs H1 => zs.length ≤ sizeLine ∧ ∀ q, H1 q = none → rCat x (.ref q) (upd H1 q (.lst zs)) fun v H2 => u D (σ.set i (some v)) H2) :
    tSeq (tAsg (tOp rCat (tVar j) (tLst ta)) (gName i)) u D σ H := ⟨x, hx, h⟩
theorem go_retC {ta : TA} {j : Nat} {D : Ends} {σ : L2.St} {H : Hp} (x : V) (hx : σ[j]? = some (some x)) (h : ta σ H fun zs H1 => zs.length ≤ sizeLine ∧ ∀ q, H1 q = none → rCat x (.ref q) (upd H1 q (.lst zs)) D.rt) :
    tRet (tOp rCat (tVar j) (tLst ta)) D σ H := ⟨x, hx, h⟩
theorem Stands.take {C : Addr} {cs ds : List V} : ∀ {bs : List Bool}, Stands K C (cs ++ ds) bs → ∃ b1 b2, bs = b1 ++ b2 ∧ Stands K C cs b1 ∧ Stands K C ds b2 := by
  induction cs with
  | nil => exact fun {bs} h => ⟨[], bs, rfl, .nil, h⟩
  | cons c cs ih =>
    intro bs h
    cases h with
    | cons r t =>
      obtain ⟨b1, b2, e, h1, h2⟩ := ih t
      exact ⟨_ :: b1, b2, by rw [e]; rfl, .cons r h1, h2⟩
theorem scGrounds : FnScope ["_law_e", "_law_found"] ["_law_e"] (defScope sGrounds) := ⟨rfl, rfl, rfl, by decide +kernel, rfl, by decide +kernel, by decide +kernel⟩
theorem ok_grounds {f : Addr} {fd : FuncData} (F : Fun K "_law_grounds" "_law_grounds" sGrounds f fd) (B : Bl mg) (G : Fam mg S M T L) : FnOk P w K mg base CX0 1 f fd ["_law_e"] (spGrounds K S M T L) := by
  refine F.ok scGrounds (fun vs H Q E h => ?_) (fun cdv A outer s H vs Q E hr h => ?_)
  · obtain ⟨a, C, fs, bs, rfl, _⟩ := h
    rfl
  · obtain ⟨a, C, fs, bs, rfl, T0, x, st, hb, k⟩ := h
    have isA : ∀ {X : Cx} {c : Expr} {v : V} {p1 p2 pos : Pos} (hX : X.N[0]? = some ("_law_e" : Str)) (hv : Vis X.env.scope "_law_e") (hg : Gl X "isinstance") (hm : X.mg "isinstance" = none) (hc : PE X c (tC v))
        (h1 : starEach [.Name "_law_e" p2, c] X.env = (false, eval (.Name "_law_e" p2) X.env) :: starEach [c] X.env) (h2 : starEach [c] X.env = (false, eval c X.env) :: starEach [] X.env),
        PE X (.Call (.Name "isinstance" p1) [.Name "_law_e" p2, c] [] pos) (tCB (rIsX X.K) (tCons (tVar 0) (tCons (tC v) tNil))) := fun hX hv hg hm hc h1 h2 =>
      pe_callB call_isX hg hm boot_isinstance (pa_cons (hs := h1) (pv 0 hX hv) (pa_cons (hs := h2) hc pa_nil)) (by decide) (by decide) h1 (by rw [h2]; rfl)
    refine ⟨_, pss_cons (ps_set (i := 1) scGrounds.nd rfl (.inl rfl) (pe_lst (t := tIsL K 0 [.ref S, .ref M, .ref T]) (pa_cons (isA rfl (.inl rfl) (by rfl) B.isinstance (pe_glob (v := .ref S) (by rfl) G.s rfl) rfl rfl) (pa_cons (isA rfl (.inl rfl) (by rfl) B.isinstance (pe_glob (v := .ref M) (by rfl) G.m rfl) rfl rfl) (pa_cons (isA rfl (.inl rfl) (by rfl) B.isinstance (pe_glob (v := .ref T) (by rfl) G.t rfl) rfl rfl) pa_nil)))))
      (pss_cons (ps_set (i := 1) scGrounds.nd rfl (.inl rfl) (pe_op op_cat (pv 1) (pe_lst (t := tIsL K 0 [.ref L, .ty "ValueError", .ty "LookupError"]) (pa_cons (isA rfl (.inl rfl) (by rfl) B.isinstance (pe_glob (v := .ref L) (by rfl) G.l rfl) rfl rfl) (pa_cons (isA rfl (.inl rfl) (by rfl) B.isinstance (pe_bltn (v := .ty "ValueError") (by rfl) G.ve (by decide +kernel) rfl) rfl rfl) (pa_cons (isA rfl (.inl rfl) (by rfl) B.isinstance (pe_bltn (v := .ty "LookupError") (by rfl) G.le (by decide +kernel) rfl) rfl rfl) pa_nil))))))
      (pss_one (ps_ret (pe_op op_cat (pv 1) (pe_lst (t := tIsL K 0 [.ty "RuntimeError", .ty "ArithmeticError"]) (pa_cons (isA rfl (.inl rfl) (by rfl) B.isinstance (pe_bltn (v := .ty "RuntimeError") (by rfl) G.re (by decide +kernel) rfl) rfl rfl) (pa_cons (isA rfl (.inl rfl) (by rfl) B.isinstance (pe_bltn (v := .ty "ArithmeticError") (by rfl) G.ae (by decide +kernel) rfl) rfl rfl) pa_nil))))))), ?_⟩
    obtain ⟨b1, br, rfl, s1, sr⟩ := Stands.take (cs := [.ref S, .ref M, .ref T]) st
    obtain ⟨b2, b3, rfl, s2, s3⟩ := Stands.take (cs := [.ref L, .ty "ValueError", .ty "LookupError"]) sr
    have l1 : b1.length = 3 := (Paired.length s1).symm
    have l2 : b2.length = 3 := (Paired.length s2).symm
    have l3 : b3.length = 2 := (Paired.length s3).symm
    have big : ∀ {n : Nat}, n ≤ 1000 → n ≤ sizeLine := fun h => Nat.le_of_lt (small1000 h)
    refine go_setL (isL_read rfl T0 x s1 ⟨big (by rw [List.length_map]; omega), fun p hp => ?_⟩)
    have sm1 := Same.new (o := .lst (b1.map V.bl)) hp
    refine go_setC (.ref p) rfl (isL_read rfl T0 (x.same sm1) s2 ⟨big (by rw [List.length_map]; omega), fun q hq => ?_⟩)
    have sm2 := Same.new (o := .lst (b2.map V.bl)) hq
    refine ⟨p, q, _, _, rfl, rfl, sm2 _ _ upd_same, upd_same, big (by rw [List.length_map, List.length_map]; omega), fun r hr' => ?_⟩
    have sm3 := Same.new (o := .lst (b1.map V.bl ++ b2.map V.bl)) hr'
    refine go_retC (.ref r) rfl (isL_read rfl T0 (x.same (sm1.trans (sm2.trans sm3))) s3 ⟨big (by rw [List.length_map]; omega), fun t ht => ?_⟩)
    have sm4 := Same.new (o := .lst (b3.map V.bl)) ht
    refine ⟨r, t, _, _, rfl, rfl, sm4 _ _ upd_same, upd_same, big (by rw [List.length_append, List.length_map, List.length_map, List.length_map]; omega), fun u hu => ?_⟩
    have sm5 := Same.new (o := .lst (b1.map V.bl ++ b2.map V.bl ++ b3.map V.bl)) hu
    have all := sm1.trans (sm2.trans (sm3.trans (sm4.trans sm5)))
    exact k _ u all ((sm1.trans (sm2.trans (sm3.trans sm4))).free hu) (by rw [upd_same, List.map_append, List.map_append, List.append_assoc])
end
end K10
set_option Elab.async false
set_option linter.all false
set_option maxRecDepth 100000
set_option maxHeartbeats 4000000
namespace K10
open PySem PySem.Spec PyProof.Rows L2 PySem.XM
/-- data that a law draws: its text is short -/
structure Okd (z : PyData) : Prop where
  s : z.showable = true
  d : z.depth ≤ 3
  l : z.shown.length ≤ 100
/-- a drawn value, away from the pot at p -/
def Odd (p : Addr) (H : Hp) (v : V) (d : PyData) : Prop := Okd d ∧ ∃ D : Hp, (∀ b o, D b = some o → b ≠ p ∧ H b = some o) ∧ Dq D v d
theorem Odd.but {p : Addr} {H H' : Hp} {v : V} {d : PyData} (x : Odd p H v d) (s : But p H H') : Odd p H' v d := by
  obtain ⟨o, D, h, q⟩ := x
  exact ⟨o, D, fun b u e => ⟨(h b u e).1, s b u (h b u e).1 (h b u e).2⟩, q⟩
theorem Odd.dq {p : Addr} {H : Hp} {v : V} {d : PyData} (x : Odd p H v d) : Dq H v d := by
  obtain ⟨o, D, h, q⟩ := x
  exact q.same fun b u e => (h b u e).2
abbrev rest (p : Addr) (H : Hp) : Hp := fun b => if b = p then none else H b
theorem Odd.mk {p : Addr} {H : Hp} {v : V} {d : PyData} (o : Okd d) (q : Dq (rest p H) v d) : Odd p H v d := ⟨o, rest p H, fun b u e => by
  by_cases h : b = p
  · exact nomatch (show (none : Option HO) = some u from by rw [← e]; exact (if_pos h).symm)
  · exact ⟨h, by rw [← e]; exact (if_neg h).symm⟩, q⟩
/-- ground(way) -/
def spGround : Sp := fun vs H Q _ => ∃ i : Nat, vs = [.int (i : Int)] ∧ i < 4 ∧ ∀ H' l, Same H H' → H l = none → H' l = some (.lst ((famB i).map V.bl)) → Q (.ref l) H'
/-- thing(pot, turn) -/
def spThing : Sp := fun vs H Q _ => ∃ (p : Addr) (n : Nat), vs = [.ref p, .int (n : Int)] ∧ Pot H p ∧ 2 ≤ n ∧ n ≤ 9 ∧ ∀ H' v d, But p H H' → Pot H' p → Odd p H' v d → Q v H'
section
variable {P : Program} {w : World} {K : PySem.W.Frag} {mg : Str → Option Value} {base : Heap}
theorem yes_go {te : TE} {σ : L2.St} {H : Hp} {R : V → Hp → Prop} {N : Hp → Prop} (h : te σ H R) : tYes σ H fun b H3 => if b = true then te σ H3 R else N H3 := by
  show if true = true then te σ H R else N H
  rw [if_pos rfl]
  exact h
theorem scGround : FnScope ["_law_way", "_law_spot"] ["_law_way"] (defScope sGround) := ⟨rfl, rfl, rfl, by decide +kernel, rfl, by decide +kernel, by decide +kernel⟩
theorem ok_ground {f : Addr} {fd : FuncData} (F : Fun K "_law_ground" "_law_ground" sGround f fd) (B : Bl mg) : FnOk P w K mg base CX0 1 f fd ["_law_way"] spGround := by
  refine F.ok scGround (fun vs H Q E h => ?_) (fun cdv A outer s H vs Q E hr h => ?_)
  · obtain ⟨i, rfl, _⟩ := h
    rfl
  · obtain ⟨n, rfl, hn, k⟩ := h
    refine ⟨_, pss_one (ps_ret (pe_op op_rep (pe_lc (own := [("_law_spot", 1)]) (g := gName 1) (tt := tYes) rfl scGround.nd (pi_range1 (by rfl) B.range (pa_cons pe_int pa_nil)) (blkOk_by (N := ["_law_way", "_law_spot"]) (sc := defScope sGround) (by decide +kernel))
      (fun _ _ _ _ _ => pg_name (i := 1) scGround.nd rfl (.inl rfl)) (fun _ _ _ _ _ => pts_nil) (fun _ _ _ _ _ => pe_cmpR op_eq (pv 1) (pv 0) (nomark _))) pe_int)), ?_⟩
    refine ⟨4, rfl, by decide, by decide, fun D hD => lc_range (n := 4) (fun i H' => Same H H' ∧ H' D = some (.lst (((famB n).take i).map V.bl))) ⟨Same.new hD, upd_same⟩ (fun i H' hi ⟨sm, hd⟩ => ?_) (fun H' ⟨sm, hd⟩ => ?_)⟩
    · refine ⟨rfl, yes_go ⟨_, rfl, _, rfl, rfl, _, hd, small1000 (by rw [List.length_map, List.length_take]; omega), fun b o e => ?_, ?_⟩⟩
      · rw [upd_ne (ne_of_none e hD)]
        exact sm b o e
      · rw [upd_same]
        refine congrArg (fun l => some (HO.lst l)) ?_
        have e1 : (famB n)[i]? = some (decide (V.int (0 + (i : Int)) = V.int (n : Int))) := by
          match i, hi, n, hn with
          | 0, _, 0, _ | 0, _, 1, _ | 0, _, 2, _ | 0, _, 3, _ | 1, _, 0, _ | 1, _, 1, _ | 1, _, 2, _ | 1, _, 3, _ | 2, _, 0, _ | 2, _, 1, _ | 2, _, 2, _ | 2, _, 3, _ | 3, _, 0, _ | 3, _, 1, _ | 3, _, 2, _ | 3, _, 3, _ => rfl
        rw [List.take_succ, e1, List.map_append]
        rfl
    · refine ⟨D, 2, _, rfl, rfl, hd, by decide, by decide, by rw [List.length_map, List.length_take]; exact Nat.le_of_lt (small1000 (Nat.le_trans (Nat.mul_le_mul_right _ (Nat.min_le_left _ _)) (by decide))), fun p hp => ?_⟩
      refine k _ p (sm.trans (Same.new hp)) (sm.free hp) ?_
      rw [upd_same]
      match n, hn with
      | 0, _ | 1, _ | 2, _ | 3, _ => rfl
theorem scThing : FnScope ["_law_pot_here", "_law_turn"] ["_law_pot_here", "_law_turn"] (defScope sThing) := ⟨rfl, rfl, rfl, by decide +kernel, rfl, by decide +kernel, by decide +kernel⟩
/-- the text of n signs w -/
def ws (n : Nat) : Str := ⟨(List.replicate (n : Int).toNat ("w" : Str).cps).foldl (· ++ ·) #[]⟩
def odds (n : Nat) : List PyData := [.none, .int n, .str (ws n), .list [.int n, .list []], .tuple [.int n, .tuple []], .dict [(.int n, .dict [])], .bool true, .int (-(n : Int)), .int (10 ^ 20)]
theorem odds_ok {n : Nat} (h1 : 2 ≤ n) (h2 : n ≤ 9) : ∀ z ∈ odds n, Okd z := by
  have key : (odds n).all (fun z => z.showable && decide (z.depth ≤ 3) && decide (z.shown.length ≤ 100)) = true := by
    rcases (show n = 2 ∨ n = 3 ∨ n = 4 ∨ n = 5 ∨ n = 6 ∨ n = 7 ∨ n = 8 ∨ n = 9 by omega) with rfl | rfl | rfl | rfl | rfl | rfl | rfl | rfl <;> decide +kernel
  intro z hz
  have q := List.all_eq_true.mp key z hz
  rw [Bool.and_eq_true, Bool.and_eq_true] at q
  exact ⟨q.1.1, of_decide_eq_true q.1.2, of_decide_eq_true q.2⟩
/- ok_thing, the term and the first steps of its reading (the rest: seven new places, all unlike; pick; Odd.mk of each of the nine by odds_ok):
theorem ok_thing {f fP : Addr} {fd fdP : FuncData} (F : Fun K "_law_thing" "_law_thing" sThing f fd) (GP : FnOk P w K mg base CX0 2 fP fdP ["_law_pot_here", "_law_some"] spPick) (kP : PySem.W.keepIn K (.ref fP) = true) (bP : Binds K fdP ["_law_pot_here", "_law_some"] []) (mP : mg "_law_pick" = some (.ref fP)) :
    FnOk P w K mg base CX0 3 f fd ["_law_pot_here", "_law_turn"] spThing := by
  refine F.ok scThing (fun vs H Q E h => ?_) (fun cdv A outer s H vs Q E hr h => ?_)
  · obtain ⟨p, n, rfl, _⟩ := h
    rfl
  · obtain ⟨p, n, rfl, hP, n1, n2, k⟩ := h
    refine ⟨_, pss_one (ps_ret (pe_call GP hr rfl mP kP bP .nil pass0 (pa_cons (pv 0) (pa_cons (pe_lst (pa_cons pe_non (pa_cons (pv 1) (pa_cons (pe_op op_mul_strI pe_str (pv 1)) (pa_cons (pe_lst (pa_cons (pv 1) (pa_cons (pe_lst pa_nil) pa_nil)))
      (pa_cons (pe_tup (pa_cons (pv 1) (pa_cons (pe_tup pa_nil) pa_nil))) (pa_cons (pe_disp (pps_cons (pv 1) pe_dnewK pps_nil) rfl rfl (by intro z; cases z) (by decide)) (pa_cons pe_bl (pa_cons (pe_un un_neg (pv 1)) (pa_cons (pe_op op_pow pe_int pe_int) pa_nil)))))))))) pa_nil)))), ?_⟩
    have big : ∀ {m : Nat}, m ≤ 1000 → m ≤ sizeLine := fun h => Nat.le_of_lt (small1000 h)
    refine ⟨_, rfl, _, rfl, _, rfl, ("w" : Str), (n : Int), rfl, rfl, by omega, by omega, by decide +kernel, by decide +kernel, ?_⟩
    refine ⟨_, rfl, Nat.zero_le _, fun b hb => ⟨big (show 2 ≤ 1000 by decide), fun c hc => ?_⟩⟩
    refine ⟨_, rfl, Nat.zero_le _, fun d hd => ⟨big (show 2 ≤ 1000 by decide), fun e he => fun g hg => ⟨_, rfl, fun t ht => ?_⟩⟩⟩
-/
end
end K10
set_option Elab.async false
set_option linter.all false
set_option maxRecDepth 100000
set_option maxHeartbeats 4000000
namespace K10
open PySem PySem.Spec PyProof.Rows L2 PySem.XM
section
variable {P : Program} {w : World} {K : PySem.W.Frag} {mg : Str → Option Value} {base : Heap}
theorem thing_pick {H Y : Hp} {p l b c d e g t : Addr} {n : Nat} {Q : VK} {E : XK} (n1 : 2 ≤ n) (n2 : n ≤ 9) (hP : Pot H p) (s : Same H Y) (hb : Y b = some (.lst [])) (hc : Y c = some (.lst [.int (n : Int), .ref b])) (hd : Y d = some (.tup [])) (he : Y e = some (.tup [.int (n : Int), .ref d]))
    (hg : Y g = some (.dK [(.inl (n : Int), .ref t)])) (ht : Y t = some (.dK [])) (hl : Y l = none) (k : ∀ H' v d, But p H H' → Pot H' p → Odd p H' v d → Q v H') :
    spPick [.ref p, .ref l] (upd Y l (.lst [.non, .int (n : Int), .str (ws n), .ref c, .ref e, .ref g, .bl true, .int (-(n : Int)), .int (10 ^ (20 : Int).toNat)])) Q E := by
  obtain ⟨p0, p1, hp, pr⟩ := hP
  have yp := s _ _ hp
  have sl : Same Y (upd Y l (.lst [.non, .int (n : Int), .str (ws n), .ref c, .ref e, .ref g, .bl true, .int (-(n : Int)), .int (10 ^ (20 : Int).toNat)])) := Same.new hl
  have npl : l ≠ p := Ne.symm (ne_of_none yp hl)
  have off : ∀ {y : Addr} {o : HO}, Y y = some o → o ≠ .lst [.int p0, .int p1] → y ≠ p := fun q no z => by
    rw [z, yp] at q
    exact no (Option.some.inj q).symm
  refine ⟨p, l, _, rfl, ⟨p0, p1, sl _ _ yp, pr⟩, npl, upd_same, (by show 1 ≤ 9; decide), (by show 9 ≤ 1000; decide), fun H' i x bt pt hx => ?_⟩
  have bx : But p H H' := (Same.but (s.trans sl) (.refl p _)).trans bt
  have at_ : ∀ {y : Addr} {o : HO}, Y y = some o → o ≠ .lst [.int p0, .int p1] → rest p (upd Y l (.lst [.non, .int (n : Int), .str (ws n), .ref c, .ref e, .ref g, .bl true, .int (-(n : Int)), .int (10 ^ (20 : Int).toNat)])) y = some o := fun q no => by
    show (if _ = p then none else _) = _
    rw [if_neg (off q no)]
    exact sl _ _ q
  have fin : ∀ {v : V} {j : Nat} {z : PyData}, (odds n)[j]? = some z → Dq (rest p (upd Y l (.lst [.non, .int (n : Int), .str (ws n), .ref c, .ref e, .ref g, .bl true, .int (-(n : Int)), .int (10 ^ (20 : Int).toNat)]))) v z → Q v H' := fun e q =>
    k _ _ _ bx pt ((Odd.mk (odds_ok n1 n2 _ (List.mem_of_getElem? e)) q).but bt)
  have b1 := at_ hb nofun
  have c1 := at_ hc (fun z => by cases z)
  have d1 := at_ hd nofun
  have e1 := at_ he nofun
  have g1 := at_ hg nofun
  have t1 := at_ ht nofun
  match i, hx with
  | 0, hx => exact Option.some.inj hx ▸ fin (j := 0) rfl .non
  | 1, hx => exact Option.some.inj hx ▸ fin (j := 1) rfl (.int _)
  | 2, hx => exact Option.some.inj hx ▸ fin (j := 2) rfl (.str _)
  | 3, hx => exact Option.some.inj hx ▸ fin (j := 3) rfl (.lst c1 (.cons (.int _) (.cons (.lst b1 .nil) .nil)))
  | 4, hx => exact Option.some.inj hx ▸ fin (j := 4) rfl (.tup e1 (.cons (.int _) (.cons (.tup d1 .nil) .nil)))
  | 5, hx => exact Option.some.inj hx ▸ fin (j := 5) rfl (.dic g1 (.cons (.dic t1 .nil) .nil))
  | 6, hx => exact Option.some.inj hx ▸ fin (j := 6) rfl (.bl _)
  | 7, hx => exact Option.some.inj hx ▸ fin (j := 7) rfl (.int _)
  | 8, hx => exact Option.some.inj hx ▸ fin (j := 8) rfl (.int _)
  | i + 9, hx => exact nomatch hx
theorem ok_thing {f fP : Addr} {fd fdP : FuncData} (F : Fun K "_law_thing" "_law_thing" sThing f fd) (GP : FnOk P w K mg base CX0 2 fP fdP ["_law_pot_here", "_law_some"] spPick) (kP : PySem.W.keepIn K (.ref fP) = true) (bP : Binds K fdP ["_law_pot_here", "_law_some"] []) (mP : mg "_law_pick" = some (.ref fP)) :
    FnOk P w K mg base CX0 3 f fd ["_law_pot_here", "_law_turn"] spThing := by
  refine F.ok scThing (fun vs H Q E h => ?_) (fun cdv A outer s H vs Q E hr h => ?_)
  · obtain ⟨p, n, rfl, _⟩ := h
    rfl
  · obtain ⟨p, n, rfl, hP, n1, n2, k⟩ := h
    refine ⟨_, pss_one (ps_ret (pe_call GP hr rfl mP kP bP .nil pass0 (pa_cons (pv 0) (pa_cons (pe_lst (pa_cons pe_non (pa_cons (pv 1) (pa_cons (pe_op op_mul_strI pe_str (pv 1)) (pa_cons (pe_lst (pa_cons (pv 1) (pa_cons (pe_lst pa_nil) pa_nil)))
      (pa_cons (pe_tup (pa_cons (pv 1) (pa_cons (pe_tup pa_nil) pa_nil))) (pa_cons (pe_disp (pps_cons (pv 1) pe_dnewK pps_nil) rfl rfl (by intro z; cases z) (by decide)) (pa_cons pe_bl (pa_cons (pe_un un_neg (pv 1)) (pa_cons (pe_op op_pow pe_int pe_int) pa_nil)))))))))) pa_nil)))), ?_⟩
    have big : ∀ {m : Nat}, m ≤ 1000 → m ≤ sizeLine := fun h => Nat.le_of_lt (small1000 h)
    refine ⟨_, rfl, _, rfl, _, rfl, ("w" : Str), (n : Int), rfl, rfl, by omega, by omega, by decide +kernel, by decide +kernel, ?_⟩
    refine ⟨_, rfl, Nat.zero_le _, fun b hb => ⟨big (show 2 ≤ 1000 by decide), fun c hc => ?_⟩⟩
    refine ⟨_, rfl, Nat.zero_le _, fun d hd => ⟨big (show 2 ≤ 1000 by decide), fun e he => fun g hg => ⟨_, rfl, fun t ht => ?_⟩⟩⟩
    have hb1 : upd H b (.lst []) b = some (.lst []) := upd_same
    have hb2 := Same.new (o := .lst [V.int (n : Int), V.ref b]) hc _ _ hb1
    have hc2 : upd (upd H b (.lst [])) c (.lst [V.int (n : Int), V.ref b]) c = some (.lst [V.int (n : Int), V.ref b]) := upd_same
    have k3 := Same.new (o := .tup []) hd
    have hd3 : upd (upd (upd H b (.lst [])) c (.lst [V.int (n : Int), V.ref b])) d (.tup []) d = some (.tup []) := upd_same
    have k4 := Same.new (o := .tup [V.int (n : Int), V.ref d]) he
    have he4 : upd (upd (upd (upd H b (.lst [])) c (.lst [V.int (n : Int), V.ref b])) d (.tup [])) e (.tup [V.int (n : Int), V.ref d]) e = some (.tup [V.int (n : Int), V.ref d]) := upd_same
    have hb4 := k4 _ _ (k3 _ _ hb2)
    have hc4 := k4 _ _ (k3 _ _ hc2)
    have hd4 := k4 _ _ hd3
    have s4 : Same H (upd (upd (upd (upd H b (.lst [])) c (.lst [V.int (n : Int), V.ref b])) d (.tup [])) e (.tup [V.int (n : Int), V.ref d])) := (Same.new hb).trans ((Same.new hc).trans (k3.trans k4))
    revert hg ht
    generalize upd (upd (upd (upd H b (.lst [])) c (.lst [V.int (n : Int), V.ref b])) d (.tup [])) e (.tup [V.int (n : Int), V.ref d]) = X at hb4 hc4 hd4 he4 s4
    intro hg ht
    have k5 : Same X (upd X g (.dK [])) := Same.new hg
    have ngt : g ≠ t := ne_of_none (upd_same (H := X) (o := .dK [])) ht
    refine ⟨by rw [upd_ne ngt]; exact upd_same, [(.inl (n : Int), .ref t)], rfl, (by show 1 ≤ 15; decide), ?_⟩
    refine ⟨_, rfl, _, rfl, _, _, rfl, rfl, ⟨by decide, by decide, by decide⟩, ?_⟩
    have s5 : Same X (upd (upd (upd X g (.dK [])) t (.dK [])) g (.dK [(.inl (n : Int), .ref t)])) := fun x o q => by
      rw [upd_ne (ne_of_none q hg)]
      exact Same.new ht _ _ (k5 _ _ q)
    have ht5 : upd (upd (upd X g (.dK [])) t (.dK [])) g (.dK [(.inl (n : Int), .ref t)]) t = some (.dK []) := by
      rw [upd_ne (Ne.symm ngt)]
      exact upd_same
    have hg5 : upd (upd (upd X g (.dK [])) t (.dK [])) g (.dK [(.inl (n : Int), .ref t)]) g = some (.dK [(.inl (n : Int), .ref t)]) := upd_same
    refine ⟨big (show 9 ≤ 1000 by decide), fun l hl => ?_⟩
    exact thing_pick (E := E0) n1 n2 hP (s4.trans s5) (s5 _ _ hb4) (s5 _ _ hc4) (s5 _ _ hd4) (s5 _ _ he4) hg5 ht5 hl k
end
end K10
set_option Elab.async false
set_option linter.all false
set_option maxRecDepth 100000
set_option maxHeartbeats 4000000
namespace K10
open PySem PySem.Spec PyProof.Rows L2 PySem.XM
theorem Same.ne {H H' : Hp} {a b : Addr} {o : HO} (s : Same H H') (e : H a = some o) (n : H' b = none) : a ≠ b := fun z => by
  have q := s _ _ e
  rw [z, n] at q
  cases q
/-- found = found + [..]; ..; u -/
def tRest (u : TS) : List TA → TS
  | [] => u
  | ta :: r => tSeq (tAsg (tOp rCat (tVar 1) (tLst ta)) (gName 1)) (tRest u r)
section
variable {α : Type} {R : List α → List V → Hp → Prop} {P : Hp → Prop} {v : V}
/-- what a block of a chain says -/
def Blk (R : List α → List V → Hp → Prop) (P : Hp → Prop) (v : V) (b : TA × List α) : Prop := ∀ (σ : L2.St) (H : Hp) (Q : List V → Hp → Prop), σ[0]? = some (some v) → P H → (∀ zs H', Same H H' → R b.2 zs H' → Q zs H') → b.1 σ H Q
theorem big {n : Nat} (h : n ≤ 1000) : n ≤ sizeLine := Nat.le_of_lt (small1000 h)
theorem rest_read (mono : ∀ as xs H H', Same H H' → R as xs H → R as xs H') (app : ∀ as bs xs ys H, R as xs H → R bs ys H → R (as ++ bs) (xs ++ ys) H) (len : ∀ as xs H, R as xs H → xs.length = as.length) (Pm : ∀ H H', Same H H' → P H → P H') :
    ∀ (bl : List (TA × List α)) (_ : ∀ b ∈ bl, Blk R P v b) {D : Ends} {σ : L2.St} {H : Hp} {l : Addr} {as : List α} {xs : List V}, σ[0]? = some (some v) → 1 < σ.length → σ[1]? = some (some (.ref l)) → H l = some (.lst xs) → R as xs H → as.length + (bl.flatMap (·.2)).length ≤ 1000 → P H →
    (∀ H' l' xs', Same H H' → (l' = l ∨ H l' = none) → H' l' = some (.lst xs') → R (as ++ bl.flatMap (·.2)) xs' H' → D.rt (.ref l') H') → tRest (tRet (tVar 1)) (bl.map (·.1)) D σ H
  | [], hb, D, σ, H, l, as, xs, h0, hσ, h1, hl, r, hn, hP, k => ⟨_, h1, k H l xs (fun _ _ h => h) (.inl rfl) hl (by rw [List.flatMap_nil, List.append_nil]; exact r)⟩
  | b :: bl, hb, D, σ, H, l, as, xs, h0, hσ, h1, hl, r, hn, hP, k => by
    rw [List.flatMap_cons, List.length_append] at hn
    refine go_setC (.ref l) h1 (hb b List.mem_cons_self σ H _ h0 hP fun zs H1 s1 r1 => ⟨big (by rw [len _ _ _ r1]; omega), fun q hq => ?_⟩)
    have s2 : Same H1 (upd H1 q (.lst zs)) := Same.new hq
    have l0 := len _ _ _ r
    have l1 := len _ _ _ r1
    refine ⟨l, q, xs, zs, rfl, rfl, s2 _ _ (s1 _ _ hl), upd_same, big (by omega), fun t ht => ?_⟩
    have s3 : Same (upd H1 q (.lst zs)) (upd (upd H1 q (.lst zs)) t (.lst (xs ++ zs))) := Same.new ht
    have s := s1.trans (s2.trans s3)
    refine rest_read mono app len Pm bl (fun c hc => hb c (List.mem_cons_of_mem _ hc)) (l := t) (as := as ++ b.2) (xs := xs ++ zs) ?_ (by rw [List.length_set]; exact hσ) ?_ upd_same (app _ _ _ _ _ (mono _ _ _ _ s r) (mono _ _ _ _ (s2.trans s3) r1)) (by rw [List.length_append]; omega) (Pm _ _ s hP) ?_
    · rw [List.getElem?_set_ne (by decide)]
      exact h0
    · rw [List.getElem?_set_self hσ]
    · intro H' l' xs' s' hl' hx' r'
      refine k H' l' xs' (s.trans s') (.inr ?_) hx' (by rw [List.flatMap_cons, ← List.append_assoc]; exact r')
      rcases hl' with rfl | z
      · exact (s1.trans s2).free ht
      · exact s.free z
end
/-- lists of isinstance -/
def RIs (bs : List Bool) (xs : List V) (_ : Hp) : Prop := xs = bs.map V.bl
section
variable {K : PySem.W.Frag} {a C : Addr} {fs : List (Str × V)}
theorem blk_is (T : XC K C) {cs : List V} {bs : List Bool} (st : Stands K C cs bs) : Blk RIs (fun H => ExnAt H a C fs) (.ref a) (tIsL K 0 cs, bs) := fun σ H Q h0 x k => isL_read h0 T x st (k _ H (fun _ _ h => h) rfl)
end
/-- made exceptions: the class and the fields of each -/
def ExA (H : Hp) (c : Addr × List (Str × V)) (x : V) : Prop := ∃ a, x = .ref a ∧ ExnAt H a c.1 c.2
def RNew (cs : List (Addr × List (Str × V))) (xs : List V) (H : Hp) : Prop := Paired (ExA H) cs xs
/-- [C(v), ..] -/
def tNews : List (Addr × Str) → TA
  | [] => tNil
  | c :: r => tCons (tNew1 c.1 c.2 (tVar 0)) (tNews r)
def kept (v : V) (c : Addr × Str) : Addr × List (Str × V) := (c.1, [(c.2, v)])
theorem ExA.same {H H' : Hp} (s : Same H H') {c : Addr × List (Str × V)} {x : V} (e : ExA H c x) : ExA H' c x := by
  obtain ⟨a, rfl, q⟩ := e
  exact ⟨a, rfl, q.same s⟩
theorem RNew.same {H H' : Hp} (s : Same H H') : ∀ {cs : List (Addr × List (Str × V))} {xs : List V}, RNew cs xs H → RNew cs xs H'
  | _, _, .nil => .nil
  | _, _, .cons e r => .cons (e.same s) (RNew.same s r)
theorem RNew.app {H : Hp} : ∀ {cs ds : List (Addr × List (Str × V))} {xs ys : List V}, RNew cs xs H → RNew ds ys H → RNew (cs ++ ds) (xs ++ ys) H
  | _, _, _, _, .nil, q => q
  | _, _, _, _, .cons e r, q => .cons e (RNew.app r q)
theorem news_read {v : V} {σ : L2.St} (h0 : σ[0]? = some (some v)) : ∀ (cs : List (Addr × Str)) {H : Hp} {Q : List V → Hp → Prop}, (∀ xs H', Same H H' → RNew (cs.map (kept v)) xs H' → Q xs H') → tNews cs σ H Q
  | [], H, Q, k => k [] H (fun _ _ h => h) .nil
  | c :: cs, H, Q, k => ⟨v, h0, fun a H2 s n x => news_read h0 cs fun xs H' s' r => k _ H' (s.trans s') (.cons ⟨a, rfl, x.same s'⟩ r)⟩
theorem blk_new {v : V} (cs : List (Addr × Str)) : Blk RNew (fun _ => True) v (tNews cs, cs.map (kept v)) := fun σ H Q h0 _ k => news_read h0 cs k
end K10
set_option Elab.async false
set_option linter.all false
set_option maxRecDepth 100000
set_option maxHeartbeats 4000000
namespace K10
open PySem PySem.Spec PyProof.Rows L2 PySem.XM
abbrev sByV : Stmt := top 46
abbrev sByN : Stmt := top 47
abbrev sByP : Stmt := top 48
abbrev sSorts : Stmt := top 55
abbrev sStands : Stmt := top 56
def vN : List Str := ["InvalidSteps", "InvalidJump", "InvalidWay", "InvalidThing", "InvalidScore", "InvalidWays", "InvalidCount", "InvalidFlow", "InvalidRun", "InvalidMark", "InvalidMarks", "InvalidPrices", "InvalidMoves", "InvalidHabits", "InvalidShares", "InvalidClaim", "InvalidCommand", "InvalidJumps", "InvalidLengths", "InvalidBounds", "InvalidEnds", "InvalidText"]
def oN : List Str := ["OtherSteps", "OtherStair", "NotTogether", "NothingFits", "Endless", "NotBetween", "Unmeeting", "NothingToUndo", "CommandFailed", "UnknownWay", "NoSuch", "TooMany"]
def Named (mg : Str → Option Value) (ns : List Str) (C : Nat → Addr) : Prop := ∀ i, i < ns.length → mg (ns.getD i "") = some (.ref (C i))
def refs (C : Nat → Addr) (n : Nat) : List V := (List.range n).map fun i => .ref (C i)
section
variable {P : Program} {w : World} {K : PySem.W.Frag} {mg : Str → Option Value} {base : Heap} {C : Nat → Addr}
/-- sorts(e), stands(e) -/
def spIs (K : PySem.W.Frag) (cs : List V) : Sp := fun vs H Q _ => ∃ (a C : Addr) (fs : List (Str × V)) (bs : List Bool), vs = [.ref a] ∧ XC K C ∧ ExnAt H a C fs ∧ Stands K C cs bs ∧ ∀ H' l, Same H H' → H l = none → H' l = some (.lst (bs.map V.bl)) → Q (.ref l) H'
/-- by_value(odd) and its like -/
def spNews (cs : List (Addr × Str)) : Sp := fun vs H Q _ => ∃ v : V, vs = [v] ∧ ∀ H' l xs, Same H H' → H l = none → H' l = some (.lst xs) → RNew (cs.map (kept v)) xs H' → Q (.ref l) H'
/-- a def that is a chain -/
theorem chain_read {α : Type} {R : List α → List V → Hp → Prop} {Pr : Hp → Prop} {v : V} (mono : ∀ as xs H H', Same H H' → R as xs H → R as xs H') (app : ∀ as bs xs ys H, R as xs H → R bs ys H → R (as ++ bs) (xs ++ ys) H) (len : ∀ as xs H, R as xs H → xs.length = as.length) (Pm : ∀ H H', Same H H' → Pr H → Pr H')
    (b : TA × List α) (bl : List (TA × List α)) (hb : ∀ c ∈ b :: bl, Blk R Pr v c) {D : Ends} {σ : L2.St} {H : Hp} (h0 : σ[0]? = some (some v)) (hσ : 1 < σ.length) (hn : (b.2 ++ bl.flatMap (·.2)).length ≤ 1000) (hP : Pr H)
    (k : ∀ H' l' xs', Same H H' → H l' = none → H' l' = some (.lst xs') → R (b.2 ++ bl.flatMap (·.2)) xs' H' → D.rt (.ref l') H') : tSeq (tAsg (tLst b.1) (gName 1)) (tRest (tRet (tVar 1)) (bl.map (·.1))) D σ H := by
  rw [List.length_append] at hn
  refine go_setL (hb b List.mem_cons_self σ H _ h0 hP fun zs H1 s1 r1 => ⟨big (by rw [len _ _ _ r1]; omega), fun p hp => ?_⟩)
  have s2 : Same H1 (upd H1 p (.lst zs)) := Same.new hp
  refine rest_read mono app len Pm bl (fun c hc => hb c (List.mem_cons_of_mem _ hc)) (l := p) (as := b.2) (xs := zs) ?_ (by rw [List.length_set]; exact hσ) ?_ upd_same (mono _ _ _ _ s2 r1) hn (Pm _ _ (s1.trans s2) hP) ?_
  · rw [List.getElem?_set_ne (by decide)]
    exact h0
  · rw [List.getElem?_set_self hσ]
  · intro H' l' xs' s' hl' hx' r'
    refine k H' l' xs' ((s1.trans s2).trans s') ?_ hx' r'
    rcases hl' with rfl | z
    · exact s1.free hp
    · exact (s1.trans s2).free z
theorem scSorts : FnScope ["_law_e", "_law_found"] ["_law_e"] (defScope sSorts) := ⟨rfl, rfl, rfl, by decide +kernel, rfl, by decide +kernel, by decide +kernel⟩
theorem scStands : FnScope ["_law_e", "_law_found"] ["_law_e"] (defScope sStands) := ⟨rfl, rfl, rfl, by decide +kernel, rfl, by decide +kernel, by decide +kernel⟩
theorem scByV : FnScope ["_law_odd", "_law_found"] ["_law_odd"] (defScope sByV) := ⟨rfl, rfl, rfl, by decide +kernel, rfl, by decide +kernel, by decide +kernel⟩
theorem scByN : FnScope ["_law_odd", "_law_found"] ["_law_odd"] (defScope sByN) := ⟨rfl, rfl, rfl, by decide +kernel, rfl, by decide +kernel, by decide +kernel⟩
theorem scByP : FnScope ["_law_odd", "_law_found"] ["_law_odd"] (defScope sByP) := ⟨rfl, rfl, rfl, by decide +kernel, rfl, by decide +kernel, by decide +kernel⟩
theorem RIs.mono : ∀ (as : List Bool) (xs : List V) (H H' : Hp), Same H H' → RIs as xs H → RIs as xs H' := fun _ _ _ _ _ h => h
theorem RIs.app : ∀ (as bs : List Bool) (xs ys : List V) (H : Hp), RIs as xs H → RIs bs ys H → RIs (as ++ bs) (xs ++ ys) H := fun as bs xs ys H h g => by
  unfold RIs at *
  rw [h, g, List.map_append]
theorem RIs.len : ∀ (as : List Bool) (xs : List V) (H : Hp), RIs as xs H → xs.length = as.length := fun as xs H h => by
  unfold RIs at h
  rw [h, List.length_map]
theorem ok_sorts {f : Addr} {fd : FuncData} (F : Fun K "_law_sorts" "_law_sorts" sSorts f fd) (B : Bl mg) (N : Named mg vN C) : FnOk P w K mg base CX0 1 f fd ["_law_e"] (spIs K (refs C 22)) := by
  refine F.ok scSorts (fun vs H Q E h => ?_) (fun cdv A outer s H vs Q E hr h => ?_)
  · obtain ⟨a, C, fs, bs, rfl, _⟩ := h
    rfl
  · obtain ⟨a, D, fs, bs, rfl, T, x, st, k⟩ := h
    have is_ : ∀ {X : Cx} {c : Expr} {v : V} {p1 p2 pos : Pos} (hc : PE X c (tC v)) (h1 : starEach [.Name "_law_e" p2, c] X.env = (false, eval (.Name "_law_e" p2) X.env) :: starEach [c] X.env) (h2 : starEach [c] X.env = (false, eval c X.env) :: starEach [] X.env)
        (hX : X.N[0]? = some ("_law_e" : Str) := by rfl) (hv : Vis X.env.scope "_law_e" := by exact .inl rfl) (hg : Gl X "isinstance" := by rfl) (hm : X.mg "isinstance" = none := by exact B.isinstance),
        PE X (.Call (.Name "isinstance" p1) [.Name "_law_e" p2, c] [] pos) (tCB (rIsX X.K) (tCons (tVar 0) (tCons (tC v) tNil))) := fun hc h1 h2 hX hv hg hm =>
      pe_callB call_isX hg hm boot_isinstance (pa_cons (hs := h1) (pv 0 hX hv) (pa_cons (hs := h2) hc pa_nil)) (by decide) (by decide) h1 (by rw [h2]; rfl)
    refine ⟨_, pss_cons (ps_set (i := 1) scSorts.nd rfl (.inl rfl) (pe_lst (t := tIsL K 0 [.ref (C 0), .ref (C 1), .ref (C 2)]) (pa_cons (is_ (v := .ref (C 0)) (pe_glob (v := .ref (C 0)) (by rfl) (N 0 (by decide)) rfl) rfl rfl) (pa_cons (is_ (v := .ref (C 1)) (pe_glob (v := .ref (C 1)) (by rfl) (N 1 (by decide)) rfl) rfl rfl) (pa_cons (is_ (v := .ref (C 2)) (pe_glob (v := .ref (C 2)) (by rfl) (N 2 (by decide)) rfl) rfl rfl) pa_nil)))))
      (pss_cons (ps_set (i := 1) scSorts.nd rfl (.inl rfl) (pe_op op_cat (pv 1) (pe_lst (t := tIsL K 0 [.ref (C 3), .ref (C 4), .ref (C 5)]) (pa_cons (is_ (v := .ref (C 3)) (pe_glob (v := .ref (C 3)) (by rfl) (N 3 (by decide)) rfl) rfl rfl) (pa_cons (is_ (v := .ref (C 4)) (pe_glob (v := .ref (C 4)) (by rfl) (N 4 (by decide)) rfl) rfl rfl) (pa_cons (is_ (v := .ref (C 5)) (pe_glob (v := .ref (C 5)) (by rfl) (N 5 (by decide)) rfl) rfl rfl) pa_nil))))))
      (pss_cons (ps_set (i := 1) scSorts.nd rfl (.inl rfl) (pe_op op_cat (pv 1) (pe_lst (t := tIsL K 0 [.ref (C 6), .ref (C 7), .ref (C 8)]) (pa_cons (is_ (v := .ref (C 6)) (pe_glob (v := .ref (C 6)) (by rfl) (N 6 (by decide)) rfl) rfl rfl) (pa_cons (is_ (v := .ref (C 7)) (pe_glob (v := .ref (C 7)) (by rfl) (N 7 (by decide)) rfl) rfl rfl) (pa_cons (is_ (v := .ref (C 8)) (pe_glob (v := .ref (C 8)) (by rfl) (N 8 (by decide)) rfl) rfl rfl) pa_nil))))))
      (pss_cons (ps_set (i := 1) scSorts.nd rfl (.inl rfl) (pe_op op_cat (pv 1) (pe_lst (t := tIsL K 0 [.ref (C 9), .ref (C 10), .ref (C 11)]) (pa_cons (is_ (v := .ref (C 9)) (pe_glob (v := .ref (C 9)) (by rfl) (N 9 (by decide)) rfl) rfl rfl) (pa_cons (is_ (v := .ref (C 10)) (pe_glob (v := .ref (C 10)) (by rfl) (N 10 (by decide)) rfl) rfl rfl) (pa_cons (is_ (v := .ref (C 11)) (pe_glob (v := .ref (C 11)) (by rfl) (N 11 (by decide)) rfl) rfl rfl) pa_nil))))))
      (pss_cons (ps_set (i := 1) scSorts.nd rfl (.inl rfl) (pe_op op_cat (pv 1) (pe_lst (t := tIsL K 0 [.ref (C 12), .ref (C 13)]) (pa_cons (is_ (v := .ref (C 12)) (pe_glob (v := .ref (C 12)) (by rfl) (N 12 (by decide)) rfl) rfl rfl) (pa_cons (is_ (v := .ref (C 13)) (pe_glob (v := .ref (C 13)) (by rfl) (N 13 (by decide)) rfl) rfl rfl) pa_nil)))))
      (pss_cons (ps_set (i := 1) scSorts.nd rfl (.inl rfl) (pe_op op_cat (pv 1) (pe_lst (t := tIsL K 0 [.ref (C 14), .ref (C 15)]) (pa_cons (is_ (v := .ref (C 14)) (pe_glob (v := .ref (C 14)) (by rfl) (N 14 (by decide)) rfl) rfl rfl) (pa_cons (is_ (v := .ref (C 15)) (pe_glob (v := .ref (C 15)) (by rfl) (N 15 (by decide)) rfl) rfl rfl) pa_nil)))))
      (pss_cons (ps_set (i := 1) scSorts.nd rfl (.inl rfl) (pe_op op_cat (pv 1) (pe_lst (t := tIsL K 0 [.ref (C 16), .ref (C 17)]) (pa_cons (is_ (v := .ref (C 16)) (pe_glob (v := .ref (C 16)) (by rfl) (N 16 (by decide)) rfl) rfl rfl) (pa_cons (is_ (v := .ref (C 17)) (pe_glob (v := .ref (C 17)) (by rfl) (N 17 (by decide)) rfl) rfl rfl) pa_nil)))))
      (pss_cons (ps_set (i := 1) scSorts.nd rfl (.inl rfl) (pe_op op_cat (pv 1) (pe_lst (t := tIsL K 0 [.ref (C 18), .ref (C 19)]) (pa_cons (is_ (v := .ref (C 18)) (pe_glob (v := .ref (C 18)) (by rfl) (N 18 (by decide)) rfl) rfl rfl) (pa_cons (is_ (v := .ref (C 19)) (pe_glob (v := .ref (C 19)) (by rfl) (N 19 (by decide)) rfl) rfl rfl) pa_nil)))))
      (pss_cons (ps_set (i := 1) scSorts.nd rfl (.inl rfl) (pe_op op_cat (pv 1) (pe_lst (t := tIsL K 0 [.ref (C 20), .ref (C 21)]) (pa_cons (is_ (v := .ref (C 20)) (pe_glob (v := .ref (C 20)) (by rfl) (N 20 (by decide)) rfl) rfl rfl) (pa_cons (is_ (v := .ref (C 21)) (pe_glob (v := .ref (C 21)) (by rfl) (N 21 (by decide)) rfl) rfl rfl) pa_nil)))))
      (pss_one (ps_ret (pv 1))))))))))), ?_⟩
    obtain ⟨b0, r0, rfl, s0, t0⟩ := Stands.take (cs := [.ref (C 0), .ref (C 1), .ref (C 2)]) st
    obtain ⟨b1, r1, rfl, s1, t1⟩ := Stands.take (cs := [.ref (C 3), .ref (C 4), .ref (C 5)]) t0
    obtain ⟨b2, r2, rfl, s2, t2⟩ := Stands.take (cs := [.ref (C 6), .ref (C 7), .ref (C 8)]) t1
    obtain ⟨b3, r3, rfl, s3, t3⟩ := Stands.take (cs := [.ref (C 9), .ref (C 10), .ref (C 11)]) t2
    obtain ⟨b4, r4, rfl, s4, t4⟩ := Stands.take (cs := [.ref (C 12), .ref (C 13)]) t3
    obtain ⟨b5, r5, rfl, s5, t5⟩ := Stands.take (cs := [.ref (C 14), .ref (C 15)]) t4
    obtain ⟨b6, r6, rfl, s6, t6⟩ := Stands.take (cs := [.ref (C 16), .ref (C 17)]) t5
    obtain ⟨b7, r7, rfl, s7, t7⟩ := Stands.take (cs := [.ref (C 18), .ref (C 19)]) t6
    refine chain_read (R := RIs) (Pr := fun H => ExnAt H a D fs) (v := .ref a) RIs.mono RIs.app RIs.len (fun _ _ s x => x.same s) (tIsL K 0 [.ref (C 0), .ref (C 1), .ref (C 2)], b0) [(tIsL K 0 [.ref (C 3), .ref (C 4), .ref (C 5)], b1), (tIsL K 0 [.ref (C 6), .ref (C 7), .ref (C 8)], b2), (tIsL K 0 [.ref (C 9), .ref (C 10), .ref (C 11)], b3), (tIsL K 0 [.ref (C 12), .ref (C 13)], b4), (tIsL K 0 [.ref (C 14), .ref (C 15)], b5), (tIsL K 0 [.ref (C 16), .ref (C 17)], b6), (tIsL K 0 [.ref (C 18), .ref (C 19)], b7), (tIsL K 0 [.ref (C 20), .ref (C 21)], r7)] (fun c hc => ?_) rfl (by show 1 < 2; decide) ?_ x (fun H' l' xs' s' n' q' r' => k H' l' s' n' ?_)
    · simp only [List.mem_cons, List.not_mem_nil, or_false] at hc
      rcases hc with rfl | rfl | rfl | rfl | rfl | rfl | rfl | rfl | rfl
      · exact blk_is T s0
      · exact blk_is T s1
      · exact blk_is T s2
      · exact blk_is T s3
      · exact blk_is T s4
      · exact blk_is T s5
      · exact blk_is T s6
      · exact blk_is T s7
      · exact blk_is T t7
    · have e := Paired.length st
      simp only [List.flatMap_cons, List.flatMap_nil, List.append_nil]
      rw [← e]
      unfold refs
      rw [List.length_map, List.length_range]
      decide
    · rw [q', r']
      simp only [List.flatMap_cons, List.flatMap_nil, List.append_nil]
theorem ok_stands {f : Addr} {fd : FuncData} (F : Fun K "_law_stands" "_law_stands" sStands f fd) (B : Bl mg) (N : Named mg oN C) : FnOk P w K mg base CX0 1 f fd ["_law_e"] (spIs K (refs C 12)) := by
  refine F.ok scStands (fun vs H Q E h => ?_) (fun cdv A outer s H vs Q E hr h => ?_)
  · obtain ⟨a, C, fs, bs, rfl, _⟩ := h
    rfl
  · obtain ⟨a, D, fs, bs, rfl, T, x, st, k⟩ := h
    have is_ : ∀ {X : Cx} {c : Expr} {v : V} {p1 p2 pos : Pos} (hc : PE X c (tC v)) (h1 : starEach [.Name "_law_e" p2, c] X.env = (false, eval (.Name "_law_e" p2) X.env) :: starEach [c] X.env) (h2 : starEach [c] X.env = (false, eval c X.env) :: starEach [] X.env)
        (hX : X.N[0]? = some ("_law_e" : Str) := by rfl) (hv : Vis X.env.scope "_law_e" := by exact .inl rfl) (hg : Gl X "isinstance" := by rfl) (hm : X.mg "isinstance" = none := by exact B.isinstance),
        PE X (.Call (.Name "isinstance" p1) [.Name "_law_e" p2, c] [] pos) (tCB (rIsX X.K) (tCons (tVar 0) (tCons (tC v) tNil))) := fun hc h1 h2 hX hv hg hm =>
      pe_callB call_isX hg hm boot_isinstance (pa_cons (hs := h1) (pv 0 hX hv) (pa_cons (hs := h2) hc pa_nil)) (by decide) (by decide) h1 (by rw [h2]; rfl)
    refine ⟨_, pss_cons (ps_set (i := 1) scStands.nd rfl (.inl rfl) (pe_lst (t := tIsL K 0 [.ref (C 0), .ref (C 1), .ref (C 2)]) (pa_cons (is_ (v := .ref (C 0)) (pe_glob (v := .ref (C 0)) (by rfl) (N 0 (by decide)) rfl) rfl rfl) (pa_cons (is_ (v := .ref (C 1)) (pe_glob (v := .ref (C 1)) (by rfl) (N 1 (by decide)) rfl) rfl rfl) (pa_cons (is_ (v := .ref (C 2)) (pe_glob (v := .ref (C 2)) (by rfl) (N 2 (by decide)) rfl) rfl rfl) pa_nil)))))
      (pss_cons (ps_set (i := 1) scStands.nd rfl (.inl rfl) (pe_op op_cat (pv 1) (pe_lst (t := tIsL K 0 [.ref (C 3), .ref (C 4), .ref (C 5)]) (pa_cons (is_ (v := .ref (C 3)) (pe_glob (v := .ref (C 3)) (by rfl) (N 3 (by decide)) rfl) rfl rfl) (pa_cons (is_ (v := .ref (C 4)) (pe_glob (v := .ref (C 4)) (by rfl) (N 4 (by decide)) rfl) rfl rfl) (pa_cons (is_ (v := .ref (C 5)) (pe_glob (v := .ref (C 5)) (by rfl) (N 5 (by decide)) rfl) rfl rfl) pa_nil))))))
      (pss_cons (ps_set (i := 1) scStands.nd rfl (.inl rfl) (pe_op op_cat (pv 1) (pe_lst (t := tIsL K 0 [.ref (C 6), .ref (C 7), .ref (C 8)]) (pa_cons (is_ (v := .ref (C 6)) (pe_glob (v := .ref (C 6)) (by rfl) (N 6 (by decide)) rfl) rfl rfl) (pa_cons (is_ (v := .ref (C 7)) (pe_glob (v := .ref (C 7)) (by rfl) (N 7 (by decide)) rfl) rfl rfl) (pa_cons (is_ (v := .ref (C 8)) (pe_glob (v := .ref (C 8)) (by rfl) (N 8 (by decide)) rfl) rfl rfl) pa_nil))))))
      (pss_cons (ps_set (i := 1) scStands.nd rfl (.inl rfl) (pe_op op_cat (pv 1) (pe_lst (t := tIsL K 0 [.ref (C 9), .ref (C 10), .ref (C 11)]) (pa_cons (is_ (v := .ref (C 9)) (pe_glob (v := .ref (C 9)) (by rfl) (N 9 (by decide)) rfl) rfl rfl) (pa_cons (is_ (v := .ref (C 10)) (pe_glob (v := .ref (C 10)) (by rfl) (N 10 (by decide)) rfl) rfl rfl) (pa_cons (is_ (v := .ref (C 11)) (pe_glob (v := .ref (C 11)) (by rfl) (N 11 (by decide)) rfl) rfl rfl) pa_nil))))))
      (pss_one (ps_ret (pv 1)))))), ?_⟩
    obtain ⟨b0, r0, rfl, s0, t0⟩ := Stands.take (cs := [.ref (C 0), .ref (C 1), .ref (C 2)]) st
    obtain ⟨b1, r1, rfl, s1, t1⟩ := Stands.take (cs := [.ref (C 3), .ref (C 4), .ref (C 5)]) t0
    obtain ⟨b2, r2, rfl, s2, t2⟩ := Stands.take (cs := [.ref (C 6), .ref (C 7), .ref (C 8)]) t1
    refine chain_read (R := RIs) (Pr := fun H => ExnAt H a D fs) (v := .ref a) RIs.mono RIs.app RIs.len (fun _ _ s x => x.same s) (tIsL K 0 [.ref (C 0), .ref (C 1), .ref (C 2)], b0) [(tIsL K 0 [.ref (C 3), .ref (C 4), .ref (C 5)], b1), (tIsL K 0 [.ref (C 6), .ref (C 7), .ref (C 8)], b2), (tIsL K 0 [.ref (C 9), .ref (C 10), .ref (C 11)], r2)] (fun c hc => ?_) rfl (by show 1 < 2; decide) ?_ x (fun H' l' xs' s' n' q' r' => k H' l' s' n' ?_)
    · simp only [List.mem_cons, List.not_mem_nil, or_false] at hc
      rcases hc with rfl | rfl | rfl | rfl
      · exact blk_is T s0
      · exact blk_is T s1
      · exact blk_is T s2
      · exact blk_is T t2
    · have e := Paired.length st
      simp only [List.flatMap_cons, List.flatMap_nil, List.append_nil]
      rw [← e]
      unfold refs
      rw [List.length_map, List.length_range]
      decide
    · rw [q', r']
      simp only [List.flatMap_cons, List.flatMap_nil, List.append_nil]
theorem ok_by_value {f : Addr} {fd : FuncData} (F : Fun K "_law_by_value" "_law_by_value" sByV f fd) (O : ∀ i, i < 17 → New1 P w K mg base (vN.getD i "") "value" (C i)) : FnOk P w K mg base CX0 3 f fd ["_law_odd"] (spNews [(C 0, "value"), (C 1, "value"), (C 2, "value"), (C 3, "value"), (C 4, "value"), (C 5, "value"), (C 6, "value"), (C 7, "value"), (C 8, "value"), (C 9, "value"), (C 10, "value"), (C 11, "value"), (C 12, "value"), (C 13, "value"), (C 14, "value"), (C 15, "value"), (C 16, "value")]) := by
  refine F.ok scByV (fun vs H Q E h => ?_) (fun cdv A outer s H vs Q E hr h => ?_)
  · obtain ⟨v, rfl, _⟩ := h
    rfl
  · obtain ⟨v, rfl, k⟩ := h
    refine ⟨_, pss_cons (ps_set (i := 1) scByV.nd rfl (.inl rfl) (pe_lst (t := tNews [(C 0, "value"), (C 1, "value"), (C 2, "value"), (C 3, "value")]) (pa_cons (pe_new1 (O 0 (by decide)) hr (by rfl) (pv 0)) (pa_cons (pe_new1 (O 1 (by decide)) hr (by rfl) (pv 0)) (pa_cons (pe_new1 (O 2 (by decide)) hr (by rfl) (pv 0)) (pa_cons (pe_new1 (O 3 (by decide)) hr (by rfl) (pv 0)) pa_nil))))))
      (pss_cons (ps_set (i := 1) scByV.nd rfl (.inl rfl) (pe_op op_cat (pv 1) (pe_lst (t := tNews [(C 4, "value"), (C 5, "value"), (C 6, "value"), (C 7, "value")]) (pa_cons (pe_new1 (O 4 (by decide)) hr (by rfl) (pv 0)) (pa_cons (pe_new1 (O 5 (by decide)) hr (by rfl) (pv 0)) (pa_cons (pe_new1 (O 6 (by decide)) hr (by rfl) (pv 0)) (pa_cons (pe_new1 (O 7 (by decide)) hr (by rfl) (pv 0)) pa_nil)))))))
      (pss_cons (ps_set (i := 1) scByV.nd rfl (.inl rfl) (pe_op op_cat (pv 1) (pe_lst (t := tNews [(C 8, "value"), (C 9, "value"), (C 10, "value"), (C 11, "value")]) (pa_cons (pe_new1 (O 8 (by decide)) hr (by rfl) (pv 0)) (pa_cons (pe_new1 (O 9 (by decide)) hr (by rfl) (pv 0)) (pa_cons (pe_new1 (O 10 (by decide)) hr (by rfl) (pv 0)) (pa_cons (pe_new1 (O 11 (by decide)) hr (by rfl) (pv 0)) pa_nil)))))))
      (pss_cons (ps_set (i := 1) scByV.nd rfl (.inl rfl) (pe_op op_cat (pv 1) (pe_lst (t := tNews [(C 12, "value"), (C 13, "value"), (C 14, "value"), (C 15, "value")]) (pa_cons (pe_new1 (O 12 (by decide)) hr (by rfl) (pv 0)) (pa_cons (pe_new1 (O 13 (by decide)) hr (by rfl) (pv 0)) (pa_cons (pe_new1 (O 14 (by decide)) hr (by rfl) (pv 0)) (pa_cons (pe_new1 (O 15 (by decide)) hr (by rfl) (pv 0)) pa_nil)))))))
      (pss_cons (ps_set (i := 1) scByV.nd rfl (.inl rfl) (pe_op op_cat (pv 1) (pe_lst (t := tNews [(C 16, "value")]) (pa_cons (pe_new1 (O 16 (by decide)) hr (by rfl) (pv 0)) pa_nil))))
      (pss_one (ps_ret (pv 1))))))), ?_⟩
    exact chain_read (R := RNew) (Pr := fun _ => True) (v := v) (fun _ _ _ _ s h => h.same s) (fun _ _ _ _ _ h g => h.app g) (fun _ _ _ h => (Paired.length h).symm) (fun _ _ _ x => x) (tNews [(C 0, "value"), (C 1, "value"), (C 2, "value"), (C 3, "value")], ([(C 0, "value"), (C 1, "value"), (C 2, "value"), (C 3, "value")] : List (Addr × Str)).map (kept v)) [(tNews [(C 4, "value"), (C 5, "value"), (C 6, "value"), (C 7, "value")], ([(C 4, "value"), (C 5, "value"), (C 6, "value"), (C 7, "value")] : List (Addr × Str)).map (kept v)), (tNews [(C 8, "value"), (C 9, "value"), (C 10, "value"), (C 11, "value")], ([(C 8, "value"), (C 9, "value"), (C 10, "value"), (C 11, "value")] : List (Addr × Str)).map (kept v)), (tNews [(C 12, "value"), (C 13, "value"), (C 14, "value"), (C 15, "value")], ([(C 12, "value"), (C 13, "value"), (C 14, "value"), (C 15, "value")] : List (Addr × Str)).map (kept v)), (tNews [(C 16, "value")], ([(C 16, "value")] : List (Addr × Str)).map (kept v))] (fun c hc => by
      simp only [List.mem_cons, List.not_mem_nil, or_false] at hc
      rcases hc with rfl | rfl | rfl | rfl | rfl <;> exact blk_new _) rfl (by show 1 < 2; decide) (by show 17 ≤ 1000; decide) trivial (fun H' l' xs' s' n' q' r' => k H' l' xs' s' n' q' r')
theorem ok_by_named_value {f : Addr} {fd : FuncData} (F : Fun K "_law_by_named_value" "_law_by_named_value" sByN f fd) (O : ∀ i, i < 17 → New1 P w K mg base (vN.getD i "") "value" (C i)) : FnOk P w K mg base CX0 3 f fd ["_law_odd"] (spNews [(C 0, "value"), (C 1, "value"), (C 2, "value"), (C 3, "value"), (C 4, "value"), (C 5, "value"), (C 6, "value"), (C 7, "value"), (C 8, "value"), (C 9, "value"), (C 10, "value"), (C 11, "value"), (C 12, "value"), (C 13, "value"), (C 14, "value"), (C 15, "value"), (C 16, "value")]) := by
  refine F.ok scByN (fun vs H Q E h => ?_) (fun cdv A outer s H vs Q E hr h => ?_)
  · obtain ⟨v, rfl, _⟩ := h
    rfl
  · obtain ⟨v, rfl, k⟩ := h
    refine ⟨_, pss_cons (ps_set (i := 1) scByN.nd rfl (.inl rfl) (pe_lst (t := tNews [(C 0, "value"), (C 1, "value"), (C 2, "value")]) (pa_cons (pe_new1k (O 0 (by decide)) hr (by rfl) (pv 0)) (pa_cons (pe_new1k (O 1 (by decide)) hr (by rfl) (pv 0)) (pa_cons (pe_new1k (O 2 (by decide)) hr (by rfl) (pv 0)) pa_nil)))))
      (pss_cons (ps_set (i := 1) scByN.nd rfl (.inl rfl) (pe_op op_cat (pv 1) (pe_lst (t := tNews [(C 3, "value"), (C 4, "value"), (C 5, "value")]) (pa_cons (pe_new1k (O 3 (by decide)) hr (by rfl) (pv 0)) (pa_cons (pe_new1k (O 4 (by decide)) hr (by rfl) (pv 0)) (pa_cons (pe_new1k (O 5 (by decide)) hr (by rfl) (pv 0)) pa_nil))))))
      (pss_cons (ps_set (i := 1) scByN.nd rfl (.inl rfl) (pe_op op_cat (pv 1) (pe_lst (t := tNews [(C 6, "value"), (C 7, "value"), (C 8, "value")]) (pa_cons (pe_new1k (O 6 (by decide)) hr (by rfl) (pv 0)) (pa_cons (pe_new1k (O 7 (by decide)) hr (by rfl) (pv 0)) (pa_cons (pe_new1k (O 8 (by decide)) hr (by rfl) (pv 0)) pa_nil))))))
      (pss_cons (ps_set (i := 1) scByN.nd rfl (.inl rfl) (pe_op op_cat (pv 1) (pe_lst (t := tNews [(C 9, "value"), (C 10, "value"), (C 11, "value")]) (pa_cons (pe_new1k (O 9 (by decide)) hr (by rfl) (pv 0)) (pa_cons (pe_new1k (O 10 (by decide)) hr (by rfl) (pv 0)) (pa_cons (pe_new1k (O 11 (by decide)) hr (by rfl) (pv 0)) pa_nil))))))
      (pss_cons (ps_set (i := 1) scByN.nd rfl (.inl rfl) (pe_op op_cat (pv 1) (pe_lst (t := tNews [(C 12, "value"), (C 13, "value"), (C 14, "value")]) (pa_cons (pe_new1k (O 12 (by decide)) hr (by rfl) (pv 0)) (pa_cons (pe_new1k (O 13 (by decide)) hr (by rfl) (pv 0)) (pa_cons (pe_new1k (O 14 (by decide)) hr (by rfl) (pv 0)) pa_nil))))))
      (pss_cons (ps_set (i := 1) scByN.nd rfl (.inl rfl) (pe_op op_cat (pv 1) (pe_lst (t := tNews [(C 15, "value"), (C 16, "value")]) (pa_cons (pe_new1k (O 15 (by decide)) hr (by rfl) (pv 0)) (pa_cons (pe_new1k (O 16 (by decide)) hr (by rfl) (pv 0)) pa_nil)))))
      (pss_one (ps_ret (pv 1)))))))), ?_⟩
    exact chain_read (R := RNew) (Pr := fun _ => True) (v := v) (fun _ _ _ _ s h => h.same s) (fun _ _ _ _ _ h g => h.app g) (fun _ _ _ h => (Paired.length h).symm) (fun _ _ _ x => x) (tNews [(C 0, "value"), (C 1, "value"), (C 2, "value")], ([(C 0, "value"), (C 1, "value"), (C 2, "value")] : List (Addr × Str)).map (kept v)) [(tNews [(C 3, "value"), (C 4, "value"), (C 5, "value")], ([(C 3, "value"), (C 4, "value"), (C 5, "value")] : List (Addr × Str)).map (kept v)), (tNews [(C 6, "value"), (C 7, "value"), (C 8, "value")], ([(C 6, "value"), (C 7, "value"), (C 8, "value")] : List (Addr × Str)).map (kept v)), (tNews [(C 9, "value"), (C 10, "value"), (C 11, "value")], ([(C 9, "value"), (C 10, "value"), (C 11, "value")] : List (Addr × Str)).map (kept v)), (tNews [(C 12, "value"), (C 13, "value"), (C 14, "value")], ([(C 12, "value"), (C 13, "value"), (C 14, "value")] : List (Addr × Str)).map (kept v)), (tNews [(C 15, "value"), (C 16, "value")], ([(C 15, "value"), (C 16, "value")] : List (Addr × Str)).map (kept v))] (fun c hc => by
      simp only [List.mem_cons, List.not_mem_nil, or_false] at hc
      rcases hc with rfl | rfl | rfl | rfl | rfl | rfl <;> exact blk_new _) rfl (by show 1 < 2; decide) (by show 17 ≤ 1000; decide) trivial (fun H' l' xs' s' n' q' r' => k H' l' xs' s' n' q' r')
theorem ok_by_place {f : Addr} {fd : FuncData} (F : Fun K "_law_by_place" "_law_by_place" sByP f fd) (O : ∀ i, 17 ≤ i → i < 21 → New1 P w K mg base (vN.getD i "") "position" (C i)) : FnOk P w K mg base CX0 3 f fd ["_law_odd"] (spNews [(C 17, "position"), (C 18, "position"), (C 19, "position"), (C 20, "position"), (C 17, "position"), (C 18, "position"), (C 19, "position"), (C 20, "position")]) := by
  refine F.ok scByP (fun vs H Q E h => ?_) (fun cdv A outer s H vs Q E hr h => ?_)
  · obtain ⟨v, rfl, _⟩ := h
    rfl
  · obtain ⟨v, rfl, k⟩ := h
    refine ⟨_, pss_cons (ps_set (i := 1) scByP.nd rfl (.inl rfl) (pe_lst (t := tNews [(C 17, "position"), (C 18, "position"), (C 19, "position"), (C 20, "position")]) (pa_cons (pe_new1 (O 17 (by decide) (by decide)) hr (by rfl) (pv 0)) (pa_cons (pe_new1 (O 18 (by decide) (by decide)) hr (by rfl) (pv 0)) (pa_cons (pe_new1 (O 19 (by decide) (by decide)) hr (by rfl) (pv 0)) (pa_cons (pe_new1 (O 20 (by decide) (by decide)) hr (by rfl) (pv 0)) pa_nil))))))
      (pss_cons (ps_set (i := 1) scByP.nd rfl (.inl rfl) (pe_op op_cat (pv 1) (pe_lst (t := tNews [(C 17, "position"), (C 18, "position"), (C 19, "position")]) (pa_cons (pe_new1k (O 17 (by decide) (by decide)) hr (by rfl) (pv 0)) (pa_cons (pe_new1k (O 18 (by decide) (by decide)) hr (by rfl) (pv 0)) (pa_cons (pe_new1k (O 19 (by decide) (by decide)) hr (by rfl) (pv 0)) pa_nil))))))
      (pss_cons (ps_set (i := 1) scByP.nd rfl (.inl rfl) (pe_op op_cat (pv 1) (pe_lst (t := tNews [(C 20, "position")]) (pa_cons (pe_new1k (O 20 (by decide) (by decide)) hr (by rfl) (pv 0)) pa_nil))))
      (pss_one (ps_ret (pv 1))))), ?_⟩
    exact chain_read (R := RNew) (Pr := fun _ => True) (v := v) (fun _ _ _ _ s h => h.same s) (fun _ _ _ _ _ h g => h.app g) (fun _ _ _ h => (Paired.length h).symm) (fun _ _ _ x => x) (tNews [(C 17, "position"), (C 18, "position"), (C 19, "position"), (C 20, "position")], ([(C 17, "position"), (C 18, "position"), (C 19, "position"), (C 20, "position")] : List (Addr × Str)).map (kept v)) [(tNews [(C 17, "position"), (C 18, "position"), (C 19, "position")], ([(C 17, "position"), (C 18, "position"), (C 19, "position")] : List (Addr × Str)).map (kept v)), (tNews [(C 20, "position")], ([(C 20, "position")] : List (Addr × Str)).map (kept v))] (fun c hc => by
      simp only [List.mem_cons, List.not_mem_nil, or_false] at hc
      rcases hc with rfl | rfl | rfl <;> exact blk_new _) rfl (by show 1 < 2; decide) (by show 8 ≤ 1000; decide) trivial (fun H' l' xs' s' n' q' r' => k H' l' xs' s' n' q' r')
end
end K10
set_option Elab.async false
set_option linter.all false
set_option maxRecDepth 100000
set_option maxHeartbeats 4000000
/-! try: several clauses `except x as n`, each with a suite of its own. -/
namespace L2
open PySem PySem.Spec PyProof.Rows
abbrev TSu : Type := Addr → Value → Option Addr → TS
/-- the ends of a suite behind which the name is gone -/
def goneE (D : Ends) (i : Nat) : Ends := { nx := fun σ H => D.nx (σ.set i none) H, rt := D.rt, bk := fun σ H => D.bk (σ.set i none) H, ct := fun σ H => D.ct (σ.set i none) H }
/-- what is wished of an exception of the body -/
def wNm (K : PySem.W.Frag) (i : Nat) (Wout : WX) (D : Ends) : List (Value × TSu) → WX
  | [] => Wout
  | c :: r => fun cls d σ H => ∃ b, PySem.W.exmOne K cls c.1 = some b ∧ (b = true → ∀ a, H a = none → c.2 a cls d (goneE D i) (σ.set i (some (.ref a))) H) ∧ (b = false → wNm K i Wout D r cls d σ H)
inductive HdsNm (X : Cx) (n : Str) : List ExceptHandler → List (Value × TSu) → Prop
  | nil : HdsNm X n [] []
  | cons {x : Str} {c : Value} {ts : TSu} {b₀ : Stmt} {suite : List Stmt} {np pos' : Pos} {hds : List ExceptHandler} {l : List (Value × TSu)} (hc : Names X x c)
      (hsu : ∀ a oe cls d pn, Zc cls d oe → (∃ vs, oe.data = .fields vs) → PSs (X.suite a ((a, oe) :: pn)) (b₀ :: suite) (ts a cls d)) (r : HdsNm X n hds l) : HdsNm X n (.ExceptHandler (some (.Name x np)) (some n) (b₀ :: suite) pos' :: hds) ((c, ts) :: l)
section
variable {X : Cx} {n : Str} {i : Nat} {Wout : WX} {D : Ends} {pins : List (Addr × Obj)}
/-- the clauses, from an exception that has landed in this frame -/
theorem hds_nm (hs : X.stack = X.env :: X.outer) (hf : X.env.frame = some X.env.locals) (ok : X.Ok) (hN : X.N.Nodup) (hi : X.N[i]? = some n) (hln : X.env.kindOf n = some .local) (tk : Takes X Wout)
    {a : Addr} {B h3 : Heap} {sI s' : Shared} {σ : St} {H : Hp} {cls : Value} {d : Option Addr} (J : Inv X pins σ H sI) (nb : ∀ b o, sI.heap.get? b = some o → b ∉ frs X.stack → B.get? b = some o) (up : sI.heap.UpToSlots h3) (na : H a = none) (os : s'.os = sI.os) (ag : AllBare s'.gens)
    (fl : HandSPX.FlyingZ B (X.env :: X.outer) a (Zc cls d) h3) (nL : a ≠ X.env.locals) (nF : a ∉ X.fs) : ∀ {hds : List ExceptHandler} {l : List (Value × TSu)}, HdsNm X n hds l → wNm X.K i Wout D l cls d σ H → wpAny (model X.prog X.w) X.A (handleBy (.ref a) X.env hds) (SP X pins D) X.xe { s' with heap := h3 } := by
  have J3 : Inv X pins σ H { s' with heap := h3 } := J.landed nb fl.1 up os ag
  obtain ⟨oe, vs, he, hz, hd⟩ := fl.there
  have S3 := J3.suite he hd na nL nF
  have hloc : Loc X.env.scope n := .inl hln
  intro hds l hk
  induction hk with
  | nil =>
    intro w
    refine wpAny_handleBy_nil ?_
    unfold PySem.passOn
    obtain ⟨_, _, _, o2, v2, T, _, _, e2, _, d2, t2, _⟩ := id fl
    have away : wpAny (model X.prog X.w) X.A (setFlight (.ref a) X.env.frame) (fun _ s4 => wpAny (model X.prog X.w) X.A (throw (.ref a) : Sem Flow) (SP X pins D) X.xe s4) X.xe { s' with heap := h3 } := by
      rw [hf]
      exact HandSPX.setFlight_upZ fl fun h4 l4 u4 => wpAny_throw (tk _ _ ⟨a, B, sI, pins, σ, H, cls, d, rfl, J, nb, up.trans u4, .inr (.inr (by rw [hs]; exact l4)), na, os, ag, w⟩)
    refine wpAny_bind (wpAny_field e2 d2 t2 ?_)
    rw [if_neg (show ¬ ((Value.ref T == Value.none) = true) from by simp)]
    first | exact wpAny_bind away | exact wpAny_bind (wpAny_pure (wpAny_bind away))
  | @cons x c ts b₀ suite np pos' hds l hc hsu r ih =>
    rintro ⟨b, hb, yes, no⟩
    refine wpAny_handleBy_cons (codeAny_handlers_test ?_) nofun
    have look : PySem.W.Looks (model X.prog X.w) h3 (typeOf (.ref a)) cls := fun _ _ _ _ k q => wpAny_typeOf_ref (k _ _ he) (by rw [hz.1]; exact q)
    have named : ∀ {Q E : Value → Shared → Prop}, Q c { s' with heap := h3 } → wpAny (model X.prog X.w) (X.A.mark (some (.ref a))) (eval (.Name x np) X.env) Q E { s' with heap := h3 } := fun q => by
      obtain ⟨g, db, m | ⟨m, v, nn⟩⟩ := hc
      · exact ld_glob (X := X.suite a ((a, oe) :: (X.pn ++ pins))) S3 g m q db
      · exact ld_blt (X := X.suite a ((a, oe) :: (X.pn ++ pins))) S3 g m v q nn db
    refine named ((PySem.W.exm_one (M := model X.prog X.w) J3.kIn look hb).here ?_)
    match b, yes, no with
    | false, _, no => exact ih (no rfl)
    | true, yes, _ =>
      refine codeAny_handlers_suite_as (HandSPX.lands_againZ fl fun h4 fl4 up4 => ?_)
      obtain ⟨oe4, vs4, he4, hz4, hd4⟩ := fl4.there
      have S4 := (show Inv X pins σ H { s' with heap := h4 } from J.landed nb fl4.1 (up.trans up4) os ag).suite he4 hd4 na nL nF
      refine store_ok (X := X.suite a ((a, oe4) :: (X.pn ++ pins))) (v := .ref a) S4 hN hi hloc rfl (fun s5 S5 => wpAny_mono ((hsu a oe4 cls d (X.pn ++ pins) hz4 ⟨_, hd4⟩).run [] s5 _ H _ S5 (yes rfl a na)) (fun f s6 hsp => ?_) fun _ _ z => z.elim) (.inr hln)
      have gone : ∀ {σ6 : St} {H6 : Hp} {Q : Shared → Prop}, Inv (X.suite a ((a, oe4) :: (X.pn ++ pins))) [] σ6 H6 s6 → (∀ s7, Inv X pins (σ6.set i none) H6 s7 → Q s7) → wpAny (model X.prog X.w) X.A (do bindName X.env n .none; unbindBehindTheSuite X.env n pos') (fun _ s7 => Q s7) X.xe s6 :=
        fun S6 q => gone_ok (S6.unsuite ok) hN hi hln q
      match f, hsp with
      | .next, ⟨_, _, S6, q⟩ => exact gone S6 fun _ J7 => ⟨_, _, J7, q⟩
      | .brk, ⟨_, _, S6, q⟩ => exact gone S6 fun _ J7 => ⟨_, _, J7, q⟩
      | .cont, ⟨_, _, S6, q⟩ => exact gone S6 fun _ J7 => ⟨_, _, J7, q⟩
      | .ret _, ⟨_, _, _, S6, rv, q⟩ => exact gone S6 fun _ J7 => ⟨_, _, _, J7, rv, q⟩
theorem ps_try_nm {body : List Stmt} {h₀ : ExceptHandler} {hds : List ExceptHandler} {l : List (Value × TSu)} {pos : Pos} {tb : WX → TS} (hs : X.stack = X.env :: X.outer) (hf : X.env.frame = some X.env.locals) (hN : X.N.Nodup) (hi : X.N[i]? = some n) (hln : X.env.kindOf n = some .local) (tk : Takes X Wout)
    (hb : ∀ (W : WX) (pn : List (Addr × Obj)) (xe : Value → Shared → Prop), Takes (X.tr pn xe) W → PassesOwn (model X.prog X.w) X.A X.env xe → PSs (X.tr pn xe) body (tb W)) (hh : HdsNm X n (h₀ :: hds) l) : PS X (.Try body (h₀ :: hds) [] [] pos) (fun D σ H => tb (wNm X.K i Wout D l) D σ H) := by
  refine ⟨fun pins s σ H D I h => wpAny_Try_except (wpAny_mono ((hb (wNm X.K i Wout D l) (X.pn ++ pins) (fun e s1 => wpAny (model X.prog X.w) X.A (noteFrame e X.env) (fun _ s2 => wpAny (model X.prog X.w) X.A (setFlight e none) (fun _ s3 =>
    wpAny (model X.prog X.w) X.A (handleBy e X.env (h₀ :: hds)) (SP X pins D) X.xe s3) X.xe s2) X.xe s1) (fun u s' xx => ?_) PassesOwn.looking).run [] s σ H D (I.toTry _) h) (fun f s1 hsp => ?_) fun _ _ z => z)⟩
  · have ok := I.ok
    obtain ⟨a, B, sI, pins', σ', H', cls, d, rfl, J', nb, up, sky, na, os, ag, w⟩ := xx
    have sky' : Sky B (X.env :: X.outer) a (Zc cls d) X.env.locals s'.heap := by rw [← hs]; exact sky
    have hfr : X.A.frames = some (X.env :: X.outer) := by rw [ok.frames, hs]
    refine Sky.land Zc.steady hfr hf sky' fun h3 fl3 up3 => ?_
    have out : a ∉ frs (X.env :: X.outer) := fun hm => by
      obtain ⟨oe, vs, he, _, hd⟩ := fl3.there
      obtain ⟨_, o', e', no⟩ := fl3.2.2.1.mem hm
      rw [he] at e'
      cases e'
      exact no _ hd
    refine hds_nm hs hf ok hN hi hln tk (J'.ofTry ok) nb (up.trans up3) na os ag fl3 (fun z => out (List.mem_filterMap.mpr ⟨X.env, List.mem_cons_self, by rw [hf, z]⟩)) (fun hm => ?_) hh w
    obtain ⟨e, he, q⟩ := List.mem_filterMap.mp hm
    exact out (List.mem_filterMap.mpr ⟨e, List.mem_cons_of_mem _ he, q⟩)
  · match f, hsp with
    | .next, ⟨_, _, J, q⟩ => exact wpAny_execs_nil ⟨_, _, J.ofTry I.ok, q⟩
    | .brk, ⟨_, _, J, q⟩ => exact ⟨_, _, J.ofTry I.ok, q⟩
    | .cont, ⟨_, _, J, q⟩ => exact ⟨_, _, J.ofTry I.ok, q⟩
    | .ret _, ⟨_, _, _, J, rv, q⟩ => exact ⟨_, _, _, J.ofTry I.ok, rv, q⟩
end
end L2
set_option Elab.async false
set_option linter.all false
set_option maxRecDepth 100000
set_option maxHeartbeats 4000000
/-! Promises of defs that are called in an except suite, upon the exception that is held there (its object is pinned); they raise nothing and walk nothing. -/
namespace L2
open PySem PySem.Spec PyProof.Rows L2H
/-- the exception that is held -/
structure HeldX (A : Around) (p : Addr × Obj) : Prop where
  h : A.handled = some (.ref p.1)
  d : ∃ vs, p.2.data = .fields vs
structure FnP (P : Program) (w : World) (K : PySem.W.Frag) (mg : Str → Option Value) (base : Heap) (k : Nat) (f : Addr) (fd : FuncData) (ps : List Str) (sp : Addr × Obj → Sp) : Prop where
  len : ∀ p vs H Q E, sp p vs H Q E → vs.length = ps.length
  run : ∀ (A : Around) (outer : List Env) (s : Shared) (H : Hp) (args : Args) (us : List Value) (vs : List V) (Q : VK) (E : XK) (p : Addr × Obj), RoomH k A → HeldX A p → PinOk outer H s p → Env0 P w K mg base A outer s H → BindsTo s fd args (ps.zip us) → Vals vs us → sp p vs H Q E → codeAny (model P w) A (.call (.ref f) args) (CR CX0 outer P w H s Q E) s
theorem Fun.okP {P : Program} {w : World} {K : PySem.W.Frag} {mg : Str → Option Value} {base : Heap} {x qual : Str} {st : Stmt} {f : Addr} {fd : FuncData} {N ps : List Str} {k : Nat} {sp : Addr × Obj → Sp} (F : Fun K x qual st f fd) (S : FnScope N ps (defScope st)) (len : ∀ p vs H Q E, sp p vs H Q E → vs.length = ps.length)
    (hbody : ∀ (cdv : Value) (A : Around) (outer : List Env) (s : Shared) (H : Hp) (vs : List V) (Q : VK) (E : XK) (p : Addr × Obj), HeldX A p → RoomH k (A.deeper (envOfC qual (defScope st) s.heap.objs.size f cdv)) → sp p vs H Q E →
      ∃ t, PSs (cxH CX0 P w K mg base N qual (defScope st) f cdv A outer s H E p) (defBody st) t ∧ t { nx := fun _ H' => Q .non H', rt := Q } (start N vs) H) : FnP P w K mg base (k + 1) f fd ps sp := by
  obtain ⟨oc, od, kV, doc, pm, an, cdv, ct, osl, rfl, lk, hcd⟩ := F.ex
  refine ⟨len, fun A outer s H args us vs Q E p hr hx hpin e0 hb r hsp => ?_⟩
  have hl := len _ _ _ _ _ hsp
  have kept : ∀ b o, base.get? b = some o → s.heap.get? b = some o := fun b o e => (e0.bs b o e).1
  have KX := e0.mod.kin.keeps kept
  have kinds : ∀ y ∈ ps.zip us, (defScope st).names.lookup y.1 = some .local ∨ ((defScope st).names.lookup y.1 = some .cell ∧ ((cellsFrom (s.heap.objs.size + 1) (defScope st).names []).lookup y.1).isSome = true) := by
    rintro ⟨n, v⟩ hy
    rcases S.par n (List.of_mem_zip hy).1 with q | q
    · exact .inl q
    · exact .inr ⟨q, PySem.W.cellsFrom_some _ _ _ (.inl q)⟩
  refine codeAny_call_function hr.depth (KX _ _ lk) rfl S.co S.gen rfl (PySem.W.codeRec_of KX hcd) (hb _ _ _ _ (wpAny_newFunctionEnv_cells S.kind kinds fun env he s1 x => ?_))
  subst he
  obtain ⟨t, ht, hq⟩ := hbody cdv A outer s H vs Q E p hx (hr.deeper _) hsp
  refine ⟨(e0.mod.nolimit.keeps kept).keeps x.toInCall.keep, codeAny_func (wpAny_mono (ht.run [] s1 (start N vs) H _ (inv_startH S hpin e0 hl r x) hq) (fun fl s' hs => ?_) fun e s' hs => hs)⟩
  match fl, hs with
  | .ret u, ⟨v, σ', H', J, rv, q⟩ => exact ⟨v, H', J.os, J.bare, J.base, J.hok, rv, q⟩
  | .next, ⟨σ', H', J, q⟩ => exact ⟨V.non, H', J.os, J.bare, J.base, J.hok, rfl, q⟩
  | .brk, ⟨_, _, _, q⟩ => exact False.elim q
  | .cont, ⟨_, _, _, q⟩ => exact False.elim q
section
variable {X : Cx} {k : Nat} {f : Addr} {fd : FuncData} {ps : List Str} {sp : Addr × Obj → Sp} {x : Str} {q pos : Pos} {e : Expr} {es : List Expr} {t : TA} {p : Addr × Obj}
theorem run_fnP {pins : List (Addr × Obj)} {σ : St} {H : Hp} {s : Shared} {Q : VK} {us : List Value} {vs : List V} (F : FnP X.prog X.w X.K X.mg X.base k f fd ps sp) (hr : RoomH k X.A) (hx : HeldX X.A p) (hp : p ∈ X.pn) (hb : Binds X.K fd ps [])
    (I : Inv X pins σ H s) (r : Vals vs us) (h : sp p vs H Q E0) : wpAny (model X.prog X.w) X.A (call (.ref f) us) (EP X pins σ Q) X.xe s := by
  have hl : us.length = ps.length := r.length.symm.trans (F.len _ _ _ _ _ h)
  have b := hb s us I.kIn (by rw [List.append_nil]; exact hl)
  rw [List.append_nil] at b
  obtain ⟨p1, p2, p3, p4, p5⟩ := I.pin p (List.mem_append_left _ hp)
  have pin : PinOk X.stack H s p := ⟨p1, p2, fun hm => (List.mem_cons.mp (I.stkSub p.1 hm)).elim p3 p4, p5⟩
  refine wpAny_call (codeAny_mono (F.run X.A X.stack s H ⟨us, []⟩ us vs Q E0 p hr hx pin I.env0 b r h) fun r s' hq => ?_)
  match r, hq with
  | .error e, hq => exact pass0 pins σ H s e s' I hq
  | .ok (.ret u), hq => exact I.after hq
  | .ok .next, hq => exact False.elim hq
  | .ok .brk, hq => exact False.elim hq
  | .ok .cont, hq => exact False.elim hq
/-- f(e, ..) in the suite -/
theorem pe_callP (F : FnP X.prog X.w X.K X.mg X.base k f fd ps sp) (hr : RoomH k X.A) (hx : HeldX X.A p) (hp : p ∈ X.pn) (hg : Gl X x) (hm : X.mg x = some (.ref f)) (hk : PySem.W.keepIn X.K (.ref f) = true) (hb : Binds X.K fd ps [])
    (ha : PA X (e :: es) t) (hdb : (x == ("__debug__" : Str)) = false := by decide) (he : starEach (e :: es) X.env = (false, eval e X.env) :: starEach es X.env := by rfl) (hpl : (backTo pos (starEach es X.env)).any (·.1) = false := by rfl) :
    PE X (.Call (.Name x q) (e :: es) [] pos) (fun σ H Q => t σ H fun vs H1 => sp p vs H1 Q E0) :=
  ⟨fun pins s σ H Q I h => wpAny_Call_Name_kw (ld_glob I hg hm (PySem.W.callWith_K (h₀ := X.base) I.ok.mod.kin hk (thn (ha.run pos pins s σ H _ I h) fun us s1 ⟨vs, H1, I1, r, q⟩ => ⟨I1.kIn, run_fnP F hr hx hp hb I1 r q⟩) he hpl) hdb)⟩
theorem pe_callQ {te : TE} (F : FnP X.prog X.w X.K X.mg X.base k f fd ps sp) (hr : RoomH k X.A) (hx : HeldX X.A p) (hp : p ∈ X.pn) (hg : Gl X x) (hm : X.mg x = some (.ref f)) (hk : PySem.W.keepIn X.K (.ref f) = true) (hb : Binds X.K fd ps [])
    (ha : PA X (e :: es) t) (ht : ∀ σ H Q, te σ H Q → t σ H fun vs H1 => sp p vs H1 Q E0) (hdb : (x == ("__debug__" : Str)) = false := by decide) (he : starEach (e :: es) X.env = (false, eval e X.env) :: starEach es X.env := by rfl) (hpl : (backTo pos (starEach es X.env)).any (·.1) = false := by rfl) :
    PE X (.Call (.Name x q) (e :: es) [] pos) te := ⟨fun pins s σ H Q I h => (pe_callP F hr hx hp hg hm hk hb ha hdb he hpl).run pins s σ H Q I (ht _ _ _ h)⟩
end
end L2
set_option Elab.async false
set_option linter.all false
set_option maxRecDepth 100000
set_option maxHeartbeats 4000000
/-! Own exceptions raised, with what their fields hold. -/
namespace L2
open PySem PySem.Spec PyProof.Rows PySem.XM
/-- what the dict of an exception in the air holds -/
def XdIs (H : Hp) (od : Option Addr) (fs : List (Str × V)) : Prop := (od = none ∧ fs = []) ∨ ∃ d, od = some d ∧ H d = some (.xd fs)
theorem XdIs.same {H H' : Hp} {od : Option Addr} {fs : List (Str × V)} (x : XdIs H od fs) (s : Same H H') : XdIs H' od fs := by
  rcases x with ⟨e, f⟩ | ⟨d, e, h⟩
  · exact .inl ⟨e, f⟩
  · exact .inr ⟨d, e, s _ _ h⟩
theorem PE.fixed {X : Cx} {e : Expr} {te : TE} (he : PE X e te) (Kn : VK) : PE X e (fun σ H R => te σ H Kn ∧ ∀ v H1, Kn v H1 → R v H1) := ⟨fun pins s σ H Q I h => thn (he.run pins s σ H _ I h.1) fun u s1 ⟨v, H1, I1, r, q⟩ => ⟨v, H1, I1, r, h.2 _ _ q⟩⟩
/-- raise C(e) -/
def tRz1 (C : Addr) (f : Str) (te : TE) : L2.St → Hp → XK → Prop := fun σ H Q => te σ H fun v H1 => ∀ d H2, Same H1 H2 → H2 d = some (.xd [(f, v)]) → Q (.ref C) (some d) H2
/-- raise C(e, e2) -/
def tRz2 (C : Addr) (f g : Str) (ta tb : TE) : L2.St → Hp → XK → Prop := fun σ H Q => ta σ H fun v H1 => tb σ H1 fun u H2 => ∀ d H3, Same H2 H3 → H3 d = some (.xd [(g, u), (f, v)]) → Q (.ref C) (some d) H3
theorem same_air {H1 H2 : Hp} {a dx : Addr} {fs : List (Str × V)} (ha : H1 a = none) (hd : H1 dx = none) (s : ∀ b o, H1 b = some o → H2 b = some o) : Same H1 (upd (del H2 a) dx (.xd fs)) := fun b o q => by
  rw [upd_ne (ne_of_none q hd)]
  show (if b = a then none else H2 b) = some o
  rw [if_neg (ne_of_none q ha)]
  exact s b o q
section
variable {X : Cx} {C : Addr} {x f g : Str} {p pos : Pos} {e e2 : Expr} {te ta tb : TE}
theorem pmk_new1 (O : New1 X.prog X.w X.K X.mg X.base x f C) (hr : Room 2 X.A) (hg : Gl X x) (he : PE X e te) (hdb : (x == ("__debug__" : Str)) = false := by decide) (hs : starEach (e :: []) X.env = (false, eval e X.env) :: starEach [] X.env := by rfl) :
    PMk X (.Call (.Name x p) [e] [] pos) (tRz1 C f te) := by
  obtain ⟨fI, fd, i1, i2, F, b1, _⟩ := O.i
  intro pins s σ H Q I h
  refine pmk_mkX (n := 1) O.t i1 i2 F hr (by decide) hg O.m b1 pass0 (pa_cons (hs := hs) (he.fixed fun v H1 => ∀ d H2, Same H1 H2 → H2 d = some (.xd [(f, v)]) → Q (.ref C) (some d) H2) pa_nil) hdb hs (by rfl) pins s σ H Q I ⟨h, fun v H1 q => ⟨rfl, fun a ha => ?_⟩⟩
  refine ⟨a, C, v, rfl, O.t, O.n, upd_same, fun dx hd ne => ?_⟩
  rw [upd_ne ne] at hd
  refine ⟨rfl, dx, [(f, v)], upd_same, by rw [upd_ne ne, upd_same], hd, q dx _ (same_air ha hd fun b o z => ?_) upd_same⟩
  rw [upd_ne (ne_of_none z ha), upd_ne (ne_of_none z hd), upd_ne (ne_of_none z ha)]
  exact z
theorem pmk_new2 (O : New2 X.prog X.w X.K X.mg X.base x f g C) (hr : Room 2 X.A) (hg : Gl X x) (ha : PE X e ta) (hb : PE X e2 tb) (hdb : (x == ("__debug__" : Str)) = false := by decide) (hs : starEach (e :: [e2]) X.env = (false, eval e X.env) :: starEach [e2] X.env := by rfl)
    (hs2 : starEach (e2 :: []) X.env = (false, eval e2 X.env) :: starEach [] X.env := by rfl) : PMk X (.Call (.Name x p) [e, e2] [] pos) (tRz2 C f g ta tb) := by
  obtain ⟨fI, fd, i1, i2, F, b1, _⟩ := O.i
  intro pins s σ H Q I h
  have A2 : PA X [e, e2] (fun σ' H' R => tCons ta (tCons tb tNil) σ' H' (fun vs H1 => match vs with | [v, u] => ∀ d H3, Same H1 H3 → H3 d = some (.xd [(g, u), (f, v)]) → Q (.ref C) (some d) H3 | _ => False) ∧ ∀ v u H1, (∀ d H3, Same H1 H3 → H3 d = some (.xd [(g, u), (f, v)]) → Q (.ref C) (some d) H3) → R [v, u] H1) := by
    have hA : PA X [e, e2] (tCons ta (tCons tb tNil)) := pa_cons (hs := hs) ha (pa_cons (hs := hs2) hb pa_nil)
    refine ⟨fun pos pins s σ H R I h => thn (hA.run pos pins s σ H _ I h.1) fun us s1 ⟨vs, H1, I1, r, q⟩ => ?_⟩
    match vs, q with
    | [v, u], q => exact ⟨[v, u], H1, I1, r, h.2 v u H1 q⟩
  refine pmk_mkX (n := 2) O.t i1 i2 F hr (by decide) hg O.m b1 pass0 A2 hdb hs (by rw [hs2]; rfl) pins s σ H Q I ⟨h, fun v u H1 q => ⟨rfl, fun a ha => ?_⟩⟩
  refine ⟨a, C, v, u, rfl, O.t, O.n, O.o, upd_same, fun dx hd ne => ?_⟩
  rw [upd_ne ne] at hd
  refine ⟨rfl, dx, [(g, u), (f, v)], by rw [upd_ne (Ne.symm ne), upd_same], upd_same, hd, q dx _ (same_air ha hd fun b o z => ?_) upd_same⟩
  rw [upd_ne (ne_of_none z hd), upd_ne (ne_of_none z ha), upd_ne (ne_of_none z hd), upd_ne (ne_of_none z ha)]
  exact z
theorem pmk_new0 (O : New0 X.K X.mg x C) (hg : Gl X x) (hdb : (x == ("__debug__" : Str)) = false := by decide) : PMk X (.Call (.Name x p) [] [] pos) (fun _ H Q => Q (.ref C) none H) := by
  obtain ⟨B, nId, iId, mB, F, q⟩ := O.b
  exact pmk_mkX0 F q O.t.kp (raises_own O.t.ex O.t.ty) hg O.m hdb
end
/-- isinstance(e, c) upon the exception that a suite holds -/
def rIsP (K : PySem.W.Frag) (a : Addr) (cls : Value) (d : Option Addr) : List V → Hp → VK → Prop := fun xs H Q => ∃ (C : Addr) (fs : List (Str × V)) (c : V) (u : Value) (b : Bool), xs = [.ref a, c] ∧ XC K C ∧ cls = .ref C ∧ XdIs H d fs ∧ ClsV c u ∧ PySem.W.kitOne K (.ref C) u = some b ∧ Q (.bl b) H
theorem call_isP {X : Cx} {p : Addr × Obj} (hp : p ∈ X.pn) (hd : ∃ vs, p.2.data = .fields vs) : CallR X (.builtin "isinstance") (rIsP X.K p.1 p.2.cls p.2.dict) := by
  intro pins s σ H xs us Q I r h
  obtain ⟨C, fs, c, u, b, rfl, T, ec, xe, k, e, q⟩ := h
  obtain ⟨u1, u2, rfl, r1, r2⟩ := vals2 r
  have e2 := k.eq r2
  subst e2
  cases r1
  obtain ⟨vs, hd⟩ := hd
  have ha := (I.pin p (List.mem_append_left _ hp)).1
  have nc : PySem.W.notCls p.2 := by
    unfold PySem.W.notCls
    rw [hd] <;> rfl
  have J : ∃ od, PySem.W.InstAt s.heap p.1 p.2 C od := by
    rcases xe with ⟨e0, _⟩ | ⟨d, e0, hx⟩
    · exact ⟨none, ha, ec, nc, by rw [e0]; trivial⟩
    · have hx : ObjOk X.prog X.w H s.heap d (.xd fs) := I.hok d _ hx
      obtain ⟨mA, hns, _⟩ := hx
      obtain ⟨od, ho, _⟩ := lookIn_ns hns
      exact ⟨some od, ha, ec, nc, by rw [e0]; exact ho⟩
  obtain ⟨od, J⟩ := J
  obtain ⟨cd, hc, _⟩ := PySem.W.any_some T.hd
  exact PySem.W.kia_one (PySem.W.kitx_exc (by rw [hc]; rfl) T.ga T.gg T.ex T.cl T.gt T.tk T.mo) I.kIn J e (fun z => nomatch z) fun tk => ⟨.bl b, H, I.tok tk, rfl, q⟩
def tIsP (K : PySem.W.Frag) (a : Addr) (cls : Value) (d : Option Addr) (i : Nat) : List V → TA
  | [] => tNil
  | c :: cs => tCons (tCB (rIsP K a cls d) (tCons (tVar i) (tCons (tC c) tNil))) (tIsP K a cls d i cs)
theorem isP_read {K : PySem.W.Frag} {a : Addr} {cls : Value} {d : Option Addr} {i : Nat} {σ : L2.St} {H : Hp} {C : Addr} {fs : List (Str × V)} (hs : σ[i]? = some (some (.ref a))) (T : XC K C) (ec : cls = .ref C) (x : XdIs H d fs) : ∀ {cs : List V} {bs : List Bool} {Q : List V → Hp → Prop}, Stands K C cs bs → Q (bs.map V.bl) H → tIsP K a cls d i cs σ H Q
  | _, _, _, .nil, q => q
  | c :: cs, b :: bs, Q, .cons ⟨u, k, e⟩ r, q => ⟨_, hs, C, fs, c, u, b, rfl, T, ec, x, k, e, isP_read hs T ec x (Q := fun zs H2 => Q (V.bl b :: zs) H2) r q⟩
/-- o.f upon the exception that a suite holds -/
def tXp (K : PySem.W.Frag) (a : Addr) (cls : Value) (d : Option Addr) (f : Str) (te : TE) : TE := fun σ H Q => te σ H fun x H1 => ∃ (C : Addr) (fs : List (Str × V)) (v : V), x = .ref a ∧ XC K C ∧ cls = .ref C ∧ PySem.W.findIn K (.ref C) f = some none ∧ XdIs H1 d fs ∧ fs.lookup f = some v ∧ Q v H1
theorem pe_xp {X : Cx} {p : Addr × Obj} {e : Expr} {te : TE} {pos : Pos} {f : Str} (hp : p ∈ X.pn) (hd : ∃ vs, p.2.data = .fields vs) (he : PE X e te) (hb : attributeBase e f X.env (eval e X.env) = eval e X.env := by rfl) : PE X (.Attribute e f pos) (tXp X.K p.1 p.2.cls p.2.dict f te) := by
  refine ⟨fun pins s σ H Q I h => attr_of hb (thn (he.run pins s σ H _ I h) fun u s1 ⟨x, H1, I1, rx, C, fs, v, ex, T, ec, hno, xe, l, q⟩ => ?_)⟩
  subst ex
  obtain rfl : u = Value.ref p.1 := rx
  obtain ⟨vs, hd⟩ := hd
  have ha := (I1.pin p (List.mem_append_left _ hp)).1
  rcases xe with ⟨_, e0⟩ | ⟨d, e0, hx⟩
  · rw [e0] at l
    cases l
  · have hx : ObjOk X.prog X.w H1 s1.heap d (.xd fs) := I1.hok d _ hx
    obtain ⟨mA, hns, hr⟩ := hx
    obtain ⟨od, ho, hl⟩ := lookIn_ns hns
    obtain ⟨u, hu, ru⟩ := RelO.some_of (v := v) (o := mA f) (by rw [← l]; exact hr f)
    have nc : PySem.W.notCls p.2 := by
      unfold PySem.W.notCls
      rw [hd] <;> rfl
    have J : PySem.W.InstAt s1.heap p.1 p.2 C (some od) := ⟨ha, ec, nc, by rw [e0]; exact ho⟩
    exact HandSPX.exc_get I1.kIn J T.ga T.gg T.ex (PySem.W.findObj_own T.hd hno rfl (by rw [hl, hu])) (handed_of ru) ⟨v, H1, I1.tok _, ru, q⟩
end L2
set_option Elab.async false
set_option linter.all false
set_option maxRecDepth 100000
set_option maxHeartbeats 4000000
namespace K10
open PySem PySem.Spec PyProof.Rows L2 PySem.XM
abbrev sThrown : Stmt := top 49
abbrev sCaught : Stmt := top 50
/-- what the thrown errors keep -/
def thF : Nat → V → List (Str × V)
  | 0, v => [("position", v)]
  | 1, v => [("value", v)]
  | 2, v => [("line", v)]
  | 3, v => [("value", v)]
  | 4, _ => []
  | 5, v => [("greatest", .int 5), ("least", v)]
  | _, v => [("limit", v), ("what", .int 6)]
def fam : Nat → Nat
  | 0 => 0
  | 1 => 0
  | 2 => 0
  | 3 => 1
  | 4 => 2
  | 5 => 2
  | _ => 3
/-- the thrown classes, and how they stand -/
structure Thr (P : Program) (w : World) (K : PySem.W.Frag) (mg : Str → Option Value) (base : Heap) (c : Nat → Addr) (S M T L : Addr) : Prop where
  c0 : New1 P w K mg base "InvalidJumps" "position" (c 0)
  c1 : New1 P w K mg base "InvalidWay" "value" (c 1)
  c2 : New1 P w K mg base "InvalidText" "line" (c 2)
  c3 : New1 P w K mg base "UnknownWay" "value" (c 3)
  c4 : New0 K mg "NothingFits" (c 4)
  c5 : New2 P w K mg base "NotBetween" "least" "greatest" (c 5)
  c6 : New2 P w K mg base "TooMany" "what" "limit" (c 6)
  st : ∀ i, i < 7 → Stands K (c i) (famC S M T L) (famB (fam i))
  xs : ∀ i, i < 7 → PySem.W.exmOne K (.ref (c i)) (.ref S) = some (fam i == 0)
  xm : ∀ i, i < 7 → PySem.W.exmOne K (.ref (c i)) (.ref M) = some (fam i == 1)
  xt : ∀ i, i < 7 → PySem.W.exmOne K (.ref (c i)) (.ref T) = some (fam i == 2)
  xl : ∀ i, i < 7 → PySem.W.exmOne K (.ref (c i)) (.ref L) = some (fam i == 3)
  xb : PySem.W.exmOne K (.ref (c 5)) (.ref (c 5)) = some true
section
variable {P : Program} {w : World} {K : PySem.W.Frag} {mg : Str → Option Value} {base : Heap} {c : Nat → Addr} {S M T L : Addr}
theorem Thr.t (X : Thr P w K mg base c S M T L) : ∀ i, i < 7 → XC K (c i)
  | 0, _ => X.c0.t
  | 1, _ => X.c1.t
  | 2, _ => X.c2.t
  | 3, _ => X.c3.t
  | 4, _ => X.c4.t
  | 5, _ => X.c5.t
  | 6, _ => X.c6.t
  | n + 7, h => absurd h (by omega)
/-- thrown(way, odd) -/
def spThrown (c : Nat → Addr) : Sp := fun vs H _ E => ∃ (i : Nat) (v : V), vs = [.int (i : Int), v] ∧ i < 7 ∧ ∀ od H', Same H H' → XdIs H' od (thF i v) → E (.ref (c i)) od H'
theorem eq_yes {j : Int} {u r : TS} {D : Ends} {σ : L2.St} {H : Hp} (h0 : σ[0]? = some (some (.int j))) (k : ∀ D', u D' σ H) : tSeq (tIfS (tTest (tOp rEq (tVar 0) (tC (.int j)))) u tNext) r D σ H := by
  refine ⟨_, h0, rfl, _, rfl, ?_⟩
  show if _ = true then _ else _
  rw [if_pos (decide_eq_true rfl)]
  exact k _
theorem eq_no {i j : Int} {u r : TS} {D : Ends} {σ : L2.St} {H : Hp} (h0 : σ[0]? = some (some (.int i))) (n : i ≠ j) (k : r D σ H) : tSeq (tIfS (tTest (tOp rEq (tVar 0) (tC (.int j)))) u tNext) r D σ H := by
  refine ⟨_, h0, rfl, _, rfl, ?_⟩
  show if _ = true then _ else _
  rw [if_neg (by rw [decide_eq_false (fun z => n (V.int.inj z))]; exact Bool.false_ne_true)]
  exact k
theorem scThrown : FnScope ["_law_way", "_law_odd"] ["_law_way", "_law_odd"] (defScope sThrown) := ⟨rfl, rfl, rfl, by decide +kernel, rfl, by decide +kernel, by decide +kernel⟩
theorem ok_thrown {f : Addr} {fd : FuncData} (F : Fun K "_law_thrown" "_law_thrown" sThrown f fd) (X : Thr P w K mg base c S M T L) : FnOk P w K mg base (L2.CX P w) 3 f fd ["_law_way", "_law_odd"] (spThrown c) := by
  refine F.okX scThrown (fun vs H Q E h => ?_) (fun cdv A outer s H vs Q E hr h => ?_)
  · obtain ⟨i, v, rfl, _⟩ := h
    rfl
  · obtain ⟨i, v, rfl, hi, k⟩ := h
    refine ⟨_, pss_cons (ps_if (pt_cmpR op_eq (pv 0) pe_int (nomark _)) (pss_one (ps_raise rfl (takes_of rfl rfl rfl rfl) (pmk_new1 X.c0 hr (by rfl) (pv 1)))) pss_nil)
      (pss_cons (ps_if (pt_cmpR op_eq (pv 0) pe_int (nomark _)) (pss_one (ps_raise rfl (takes_of rfl rfl rfl rfl) (pmk_new1 X.c1 hr (by rfl) (pv 1)))) pss_nil)
      (pss_cons (ps_if (pt_cmpR op_eq (pv 0) pe_int (nomark _)) (pss_one (ps_raise rfl (takes_of rfl rfl rfl rfl) (pmk_new1 X.c2 hr (by rfl) (pv 1)))) pss_nil)
      (pss_cons (ps_if (pt_cmpR op_eq (pv 0) pe_int (nomark _)) (pss_one (ps_raise rfl (takes_of rfl rfl rfl rfl) (pmk_new1 X.c3 hr (by rfl) (pv 1)))) pss_nil)
      (pss_cons (ps_if (pt_cmpR op_eq (pv 0) pe_int (nomark _)) (pss_one (ps_raise rfl (takes_of rfl rfl rfl rfl) (pmk_new0 X.c4 (by rfl)))) pss_nil)
      (pss_cons (ps_if (pt_cmpR op_eq (pv 0) pe_int (nomark _)) (pss_one (ps_raise rfl (takes_of rfl rfl rfl rfl) (pmk_new2 X.c5 hr (by rfl) (pv 1) (pv 0)))) pss_nil)
      (pss_one (ps_raise rfl (takes_of rfl rfl rfl rfl) (pmk_new2 X.c6 hr (by rfl) (pv 0) (pv 1))))))))), ?_⟩
    match i, hi, k with
    | 0, _, k => exact eq_yes rfl fun _ => ⟨_, rfl, fun d H2 s x => k (some d) H2 s (.inr ⟨d, rfl, x⟩)⟩
    | 1, _, k => exact eq_no rfl (by decide) (eq_yes rfl fun _ => ⟨_, rfl, fun d H2 s x => k (some d) H2 s (.inr ⟨d, rfl, x⟩)⟩)
    | 2, _, k => exact eq_no rfl (by decide) (eq_no rfl (by decide) (eq_yes rfl fun _ => ⟨_, rfl, fun d H2 s x => k (some d) H2 s (.inr ⟨d, rfl, x⟩)⟩))
    | 3, _, k => exact eq_no rfl (by decide) (eq_no rfl (by decide) (eq_no rfl (by decide) (eq_yes rfl fun _ => ⟨_, rfl, fun d H2 s x => k (some d) H2 s (.inr ⟨d, rfl, x⟩)⟩)))
    | 4, _, k => exact eq_no rfl (by decide) (eq_no rfl (by decide) (eq_no rfl (by decide) (eq_no rfl (by decide) (eq_yes rfl fun _ => (k none H (Same.refl _) (.inl ⟨rfl, rfl⟩))))))
    | 5, _, k => exact eq_no rfl (by decide) (eq_no rfl (by decide) (eq_no rfl (by decide) (eq_no rfl (by decide) (eq_no rfl (by decide) (eq_yes rfl fun _ => ⟨_, rfl, _, rfl, fun d H2 s x => k (some d) H2 s (.inr ⟨d, rfl, x⟩)⟩)))))
    | 6, _, k => exact eq_no rfl (by decide) (eq_no rfl (by decide) (eq_no rfl (by decide) (eq_no rfl (by decide) (eq_no rfl (by decide) (eq_no rfl (by decide) ⟨_, rfl, _, rfl, fun d H2 s x => k (some d) H2 s (.inr ⟨d, rfl, x⟩)⟩)))))
    | n + 7, h, _ => exact absurd h (by omega)
end
end K10
set_option Elab.async false
set_option linter.all false
set_option maxRecDepth 100000
set_option maxHeartbeats 4000000
namespace K10
open PySem PySem.Spec PyProof.Rows L2 L2H PySem.XM
section
variable {P : Program} {w : World} {K : PySem.W.Frag} {mg : Str → Option Value} {base : Heap} {c : Nat → Addr} {S M T L : Addr}
/-- grounds(e), e the exception that a suite holds -/
def spGroundsP (K : PySem.W.Frag) (S M T L : Addr) (a : Addr) (cls : Value) (d : Option Addr) : Sp := fun vs H Q _ => ∃ (C : Addr) (fs : List (Str × V)) (bs : List Bool), vs = [.ref a] ∧ XC K C ∧ cls = .ref C ∧ XdIs H d fs ∧ Stands K C (famC S M T L) bs ∧ bs.length = 8 ∧
  ∀ H' l, Same H H' → H l = none → H' l = some (.lst (bs.map V.bl)) → Q (.ref l) H'
theorem ok_groundsP {f : Addr} {fd : FuncData} (F : Fun K "_law_grounds" "_law_grounds" sGrounds f fd) (B : Bl mg) (G : Fam mg S M T L) : FnP P w K mg base 1 f fd ["_law_e"] (fun p => spGroundsP K S M T L p.1 p.2.cls p.2.dict) := by
  refine F.okP scGrounds (fun p vs H Q E h => ?_) (fun cdv A outer s H vs Q E p hx hr h => ?_)
  · obtain ⟨C, fs, bs, rfl, _⟩ := h
    rfl
  · obtain ⟨C, fs, bs, rfl, T0, ec, x, st, hb, k⟩ := h
    have isP_ : ∀ {X : Cx} {c : Expr} {v : V} {p1 p2 pos : Pos} (hp : p ∈ X.pn) (hc : PE X c (tC v)) (h1 : starEach [.Name "_law_e" p2, c] X.env = (false, eval (.Name "_law_e" p2) X.env) :: starEach [c] X.env) (h2 : starEach [c] X.env = (false, eval c X.env) :: starEach [] X.env)
        (hX : X.N[0]? = some ("_law_e" : Str) := by rfl) (hv : Vis X.env.scope "_law_e" := by exact .inl rfl) (hg : Gl X "isinstance" := by rfl) (hm : X.mg "isinstance" = none := by exact B.isinstance),
        PE X (.Call (.Name "isinstance" p1) [.Name "_law_e" p2, c] [] pos) (tCB (rIsP X.K p.1 p.2.cls p.2.dict) (tCons (tVar 0) (tCons (tC v) tNil))) := fun hp hc h1 h2 hX hv hg hm =>
      pe_callB (call_isP hp hx.d) hg hm boot_isinstance (pa_cons (hs := h1) (pv 0 hX hv) (pa_cons (hs := h2) hc pa_nil)) (by decide) (by decide) h1 (by rw [h2]; rfl)
    have me : p ∈ (cxH CX0 P w K mg base ["_law_e", "_law_found"] "_law_grounds" (defScope sGrounds) f cdv A outer s H E p).pn := List.mem_cons_self
    refine ⟨_, pss_cons (ps_set (i := 1) scGrounds.nd rfl (.inl rfl) (pe_lst (t := tIsP K p.1 p.2.cls p.2.dict 0 [.ref S, .ref M, .ref T]) (pa_cons (isP_ me (pe_glob (v := .ref S) (by rfl) G.s rfl) rfl rfl) (pa_cons (isP_ me (pe_glob (v := .ref M) (by rfl) G.m rfl) rfl rfl) (pa_cons (isP_ me (pe_glob (v := .ref T) (by rfl) G.t rfl) rfl rfl) pa_nil)))))
      (pss_cons (ps_set (i := 1) scGrounds.nd rfl (.inl rfl) (pe_op op_cat (pv 1) (pe_lst (t := tIsP K p.1 p.2.cls p.2.dict 0 [.ref L, .ty "ValueError", .ty "LookupError"]) (pa_cons (isP_ me (pe_glob (v := .ref L) (by rfl) G.l rfl) rfl rfl) (pa_cons (isP_ me (pe_bltn (v := .ty "ValueError") (by rfl) G.ve (by decide +kernel) rfl) rfl rfl) (pa_cons (isP_ me (pe_bltn (v := .ty "LookupError") (by rfl) G.le (by decide +kernel) rfl) rfl rfl) pa_nil))))))
      (pss_one (ps_ret (pe_op op_cat (pv 1) (pe_lst (t := tIsP K p.1 p.2.cls p.2.dict 0 [.ty "RuntimeError", .ty "ArithmeticError"]) (pa_cons (isP_ me (pe_bltn (v := .ty "RuntimeError") (by rfl) G.re (by decide +kernel) rfl) rfl rfl) (pa_cons (isP_ me (pe_bltn (v := .ty "ArithmeticError") (by rfl) G.ae (by decide +kernel) rfl) rfl rfl) pa_nil))))))), ?_⟩
    obtain ⟨b1, br, rfl, s1, sr⟩ := Stands.take (cs := [.ref S, .ref M, .ref T]) st
    obtain ⟨b2, b3, rfl, s2, s3⟩ := Stands.take (cs := [.ref L, .ty "ValueError", .ty "LookupError"]) sr
    have l1 : b1.length = 3 := (Paired.length s1).symm
    have l2 : b2.length = 3 := (Paired.length s2).symm
    have l3 : b3.length = 2 := (Paired.length s3).symm
    refine go_setL (isP_read rfl T0 ec x s1 ⟨big (by rw [List.length_map]; omega), fun p hp => ?_⟩)
    have sm1 := Same.new (o := .lst (b1.map V.bl)) hp
    refine go_setC (.ref p) rfl (isP_read rfl T0 ec (x.same sm1) s2 ⟨big (by rw [List.length_map]; omega), fun q hq => ?_⟩)
    have sm2 := Same.new (o := .lst (b2.map V.bl)) hq
    refine ⟨p, q, _, _, rfl, rfl, sm2 _ _ upd_same, upd_same, big (by rw [List.length_map, List.length_map]; omega), fun r hr' => ?_⟩
    have sm3 := Same.new (o := .lst (b1.map V.bl ++ b2.map V.bl)) hr'
    refine go_retC (.ref r) rfl (isP_read rfl T0 ec (x.same (sm1.trans (sm2.trans sm3))) s3 ⟨big (by rw [List.length_map]; omega), fun t ht => ?_⟩)
    have sm4 := Same.new (o := .lst (b3.map V.bl)) ht
    refine ⟨r, t, _, _, rfl, rfl, sm4 _ _ upd_same, upd_same, big (by rw [List.length_append, List.length_map, List.length_map, List.length_map]; omega), fun u hu => ?_⟩
    have sm5 := Same.new (o := .lst (b1.map V.bl ++ b2.map V.bl ++ b3.map V.bl)) hu
    have all := sm1.trans (sm2.trans (sm3.trans (sm4.trans sm5)))
    exact k _ u all ((sm1.trans (sm2.trans (sm3.trans sm4))).free hu) (by rw [upd_same, List.map_append, List.map_append, List.append_assoc])
end
end K10
set_option Elab.async false
set_option linter.all false
set_option maxRecDepth 100000
set_option maxHeartbeats 4000000
namespace K10
open PySem PySem.Spec PyProof.Rows L2 L2H PySem.XM
section
variable {P : Program} {w : World} {K : PySem.W.Frag} {mg : Str → Option Value} {base : Heap} {c : Nat → Addr} {S M T L : Addr}
def tolds (i : Nat) (v : V) : List V := match fam i with
  | 0 => .str "value" :: (famB 0).map V.bl
  | 1 => .str "lacks" :: (famB 1).map V.bl
  | 2 => .str "state" :: (famB 2).map V.bl
  | _ => .str "limit" :: v :: .int 6 :: (famB 3).map V.bl
/-- grounds(e) in the suite -/
def tGr (K : PySem.W.Frag) (S M T L : Addr) (a : Addr) (cls : Value) (d : Option Addr) : TE := fun σ H Q => tCons (tVar 3) tNil σ H fun vs H1 => spGroundsP K S M T L a cls d vs H1 Q E0
def tsA (K : PySem.W.Frag) (S M T L : Addr) (z : Str) : TSu := fun a cls d => tAsg (tOp rCat (tLst (tCons (tC (.str z)) tNil)) (tGr K S M T L a cls d)) (gName 2)
def tsB (K : PySem.W.Frag) (S M T L : Addr) : TSu := fun a cls d => tAsg (tOp rCat (tLst (tCons (tC (.str "limit")) (tCons (tXp K a cls d "limit" (tVar 3)) (tCons (tXp K a cls d "what" (tVar 3)) tNil)))) (tGr K S M T L a cls d)) (gName 2)
/-- caught(way, odd) -/
def spCaught : Sp := fun vs H Q _ => ∃ (i : Nat) (v : V), vs = [.int (i : Int), v] ∧ i < 7 ∧ ∀ H' l, Same H H' → H' l = some (.lst (tolds i v)) → Q (.ref l) H'
theorem gr_read (X : Thr P w K mg base c S M T L) {i : Nat} (hi : i < 7) {a : Addr} {od : Option Addr} {H : Hp} {σ : L2.St} {fs : List (Str × V)} {Q : V → Hp → Prop} (h3 : σ[3]? = some (some (.ref a))) (x : XdIs H od fs) (k : ∀ H' l, Same H H' → H l = none → H' l = some (.lst ((famB (fam i)).map V.bl)) → Q (.ref l) H') :
    tGr K S M T L a (.ref (c i)) od σ H Q := ⟨_, h3, c i, fs, famB (fam i), rfl, X.t i hi, rfl, x, X.st i hi, rfl, k⟩
theorem tsA_read (X : Thr P w K mg base c S M T L) {i : Nat} (hi : i < 7) {z : Str} {a : Addr} {od : Option Addr} {H : Hp} {σ : L2.St} {D : Ends} {fs : List (Str × V)} (h3 : σ[3]? = some (some (.ref a))) (x : XdIs H od fs)
    (k : ∀ H' l, Same H H' → H' l = some (.lst (.str z :: (famB (fam i)).map V.bl)) → D.nx (σ.set 2 (some (.ref l))) H') : tsA K S M T L z a (.ref (c i)) od D σ H := by
  refine ⟨big (show 1 ≤ 1000 by decide), fun q hq => ?_⟩
  have s1 : Same H (upd H q (.lst [.str z])) := Same.new hq
  refine gr_read X hi h3 (x.same s1) fun H2 l s2 n2 q2 => ?_
  refine ⟨q, l, _, _, rfl, rfl, s2 _ _ upd_same, q2, big (by rw [List.length_map]; show 1 + 8 ≤ 1000; decide), fun r hr => ?_⟩
  exact k _ r (s1.trans (s2.trans (Same.new hr))) upd_same
theorem tsB_read (X : Thr P w K mg base c S M T L) {v : V} {a : Addr} {od : Option Addr} {H : Hp} {σ : L2.St} {D : Ends} (h3 : σ[3]? = some (some (.ref a))) (x : XdIs H od (thF 6 v))
    (k : ∀ H' l, Same H H' → H' l = some (.lst (.str "limit" :: v :: .int 6 :: (famB 3).map V.bl)) → D.nx (σ.set 2 (some (.ref l))) H') : tsB K S M T L a (.ref (c 6)) od D σ H := by
  refine ⟨_, h3, c 6, thF 6 v, v, rfl, X.c6.t, rfl, X.c6.o, x, rfl, _, h3, c 6, thF 6 v, .int 6, rfl, X.c6.t, rfl, X.c6.n, x, rfl, big (show 3 ≤ 1000 by decide), fun q hq => ?_⟩
  have s1 : Same H (upd H q (.lst [.str "limit", v, .int 6])) := Same.new hq
  refine gr_read X (i := 6) (by decide) h3 (x.same s1) fun H2 l s2 n2 q2 => ?_
  refine ⟨q, l, _, _, rfl, rfl, s2 _ _ upd_same, q2, big (by rw [List.length_map]; show 3 + 8 ≤ 1000; decide), fun r hr => ?_⟩
  exact k _ r (s1.trans (s2.trans (Same.new hr))) upd_same
theorem nm_no {K : PySem.W.Frag} {i : Nat} {Wout : WX} {D : Ends} {x : Value × TSu} {r : List (Value × TSu)} {cls : Value} {d : Option Addr} {σ : L2.St} {H : Hp} (e : PySem.W.exmOne K cls x.1 = some false) (k : wNm K i Wout D r cls d σ H) : wNm K i Wout D (x :: r) cls d σ H := ⟨false, e, fun z => absurd z Bool.false_ne_true, fun _ => k⟩
theorem nm_yes {K : PySem.W.Frag} {i : Nat} {Wout : WX} {D : Ends} {x : Value × TSu} {r : List (Value × TSu)} {cls : Value} {d : Option Addr} {σ : L2.St} {H : Hp} (e : PySem.W.exmOne K cls x.1 = some true) (k : ∀ a, H a = none → x.2 a cls d (goneE D i) (σ.set i (some (.ref a))) H) : wNm K i Wout D (x :: r) cls d σ H := ⟨true, e, fun _ => k, fun z => nomatch z⟩
theorem scCaught : FnScope ["_law_way", "_law_odd", "_law_told", "_law_e"] ["_law_way", "_law_odd"] (defScope sCaught) := ⟨rfl, rfl, rfl, by decide +kernel, rfl, by decide +kernel, by decide +kernel⟩
theorem ok_caught {f fT fG : Addr} {fd fdT fdG : FuncData} (F : Fun K "_law_caught" "_law_caught" sCaught f fd) (B : Bl mg) (G : Fam mg S M T L) (X : Thr P w K mg base c S M T L)
    (FT : Fun K "_law_thrown" "_law_thrown" sThrown fT fdT) (kT : PySem.W.keepIn K (.ref fT) = true) (bT : Binds K fdT ["_law_way", "_law_odd"] []) (mT : mg "_law_thrown" = some (.ref fT))
    (FG : Fun K "_law_grounds" "_law_grounds" sGrounds fG fdG) (kG : PySem.W.keepIn K (.ref fG) = true) (bG : Binds K fdG ["_law_e"] []) (mG : mg "_law_grounds" = some (.ref fG)) : FnOk P w K mg base CX0 4 f fd ["_law_way", "_law_odd"] spCaught := by
  have GT : FnOk P w K mg base (L2.CX P w) 3 fT fdT ["_law_way", "_law_odd"] (spThrown c) := ok_thrown FT X
  have GG : FnP P w K mg base 1 fG fdG ["_law_e"] (fun p => spGroundsP K S M T L p.1 p.2.cls p.2.dict) := ok_groundsP FG B G
  refine F.ok scCaught (fun vs H Q E h => ?_) (fun cdv A outer s H vs Q E hr h => ?_)
  · obtain ⟨i, v, rfl, _⟩ := h
    rfl
  · obtain ⟨i, v, rfl, hi, k⟩ := h
    have r1 : ∀ h : Option Value, RoomH 1 (Around.mark (A.deeper (envOfC "_law_caught" (defScope sCaught) s.heap.objs.size f cdv)) h) := fun h => ⟨(hr.mono (show 1 ≤ 3 by decide)).dp, (hr.mono (show 1 ≤ 3 by decide)).un⟩
    refine ⟨_, pss_cons (ps_set (i := 2) scCaught.nd rfl (.inl rfl) (pe_lst pa_nil))
      (pss_cons (ps_try_nm (i := 3) (n := "_law_e") (tb := fun W => tDrop (tCallS (spThrown c) (WE W) (tCons (tVar 0) (tCons (tVar 1) tNil)))) (Wout := fun _ _ _ _ => False) (l := [(.ref S, tsA K S M T L "value"), (.ref M, tsA K S M T L "lacks"), (.ref T, tsA K S M T L "state"), (.ref L, tsB K S M T L)]) rfl rfl scCaught.nd rfl rfl takes0
        (fun W pn xe tk _ => pss_one (ps_expr (pe_callS GT hr rfl mT kT bT (fun σ => passAt tk σ) (pa_cons (pv 0) (pa_cons (pv 1) pa_nil)))))
        (.cons ⟨rfl, by decide, .inl G.s⟩ (fun a oe cls d pn hz hf => by
            obtain ⟨rfl, rfl⟩ := hz
            exact pss_one (ps_set (i := 2) scCaught.nd rfl (.inl rfl) (by exact pe_op op_cat (by exact pe_lst (by exact pa_cons pe_str pa_nil)) (by exact pe_callQ (p := (a, oe)) GG (r1 _) ⟨rfl, hf⟩ List.mem_cons_self (by rfl) mG kG bG (pa_cons (pv 3) pa_nil) (fun _ _ _ h => h)))))
        (.cons ⟨rfl, by decide, .inl G.m⟩ (fun a oe cls d pn hz hf => by
            obtain ⟨rfl, rfl⟩ := hz
            exact pss_one (ps_set (i := 2) scCaught.nd rfl (.inl rfl) (by exact pe_op op_cat (by exact pe_lst (by exact pa_cons pe_str pa_nil)) (by exact pe_callQ (p := (a, oe)) GG (r1 _) ⟨rfl, hf⟩ List.mem_cons_self (by rfl) mG kG bG (pa_cons (pv 3) pa_nil) (fun _ _ _ h => h)))))
        (.cons ⟨rfl, by decide, .inl G.t⟩ (fun a oe cls d pn hz hf => by
            obtain ⟨rfl, rfl⟩ := hz
            exact pss_one (ps_set (i := 2) scCaught.nd rfl (.inl rfl) (by exact pe_op op_cat (by exact pe_lst (by exact pa_cons pe_str pa_nil)) (by exact pe_callQ (p := (a, oe)) GG (r1 _) ⟨rfl, hf⟩ List.mem_cons_self (by rfl) mG kG bG (pa_cons (pv 3) pa_nil) (fun _ _ _ h => h)))))
        (.cons ⟨rfl, by decide, .inl G.l⟩ (fun a oe cls d pn hz hf => by
            obtain ⟨rfl, rfl⟩ := hz
            exact pss_one (ps_set (i := 2) scCaught.nd rfl (.inl rfl) (by exact pe_op op_cat (by exact pe_lst (by exact pa_cons pe_str (by exact pa_cons (by exact pe_xp (p := (a, oe)) List.mem_cons_self hf (pv 3)) (by exact pa_cons (by exact pe_xp (p := (a, oe)) List.mem_cons_self hf (pv 3)) pa_nil)))) (by exact pe_callQ (p := (a, oe)) GG (r1 _) ⟨rfl, hf⟩ List.mem_cons_self (by rfl) mG kG bG (pa_cons (pv 3) pa_nil) (fun _ _ _ h => h))))) .nil)))))
      (pss_one (ps_ret (pv 2)))), ?_⟩
    refine go_setL ⟨Nat.zero_le _, fun p hp => ?_⟩
    have s1 : Same H (upd H p (.lst [])) := Same.new hp
    refine ⟨_, rfl, _, rfl, i, v, rfl, hi, fun od H' s' x => ?_⟩
    match i, hi, x, k with
    | 0, hi, x, k => exact nm_yes (X.xs 0 hi) fun a ha => tsA_read X hi rfl x fun H2 l s2 q2 => ⟨_, rfl, k _ l (s1.trans (s'.trans s2)) q2⟩
    | 1, hi, x, k => exact nm_yes (X.xs 1 hi) fun a ha => tsA_read X hi rfl x fun H2 l s2 q2 => ⟨_, rfl, k _ l (s1.trans (s'.trans s2)) q2⟩
    | 2, hi, x, k => exact nm_yes (X.xs 2 hi) fun a ha => tsA_read X hi rfl x fun H2 l s2 q2 => ⟨_, rfl, k _ l (s1.trans (s'.trans s2)) q2⟩
    | 3, hi, x, k => exact nm_no (X.xs 3 hi) (nm_yes (X.xm 3 hi) fun a ha => tsA_read X hi rfl x fun H2 l s2 q2 => ⟨_, rfl, k _ l (s1.trans (s'.trans s2)) q2⟩)
    | 4, hi, x, k => exact nm_no (X.xs 4 hi) (nm_no (X.xm 4 hi) (nm_yes (X.xt 4 hi) fun a ha => tsA_read X hi rfl x fun H2 l s2 q2 => ⟨_, rfl, k _ l (s1.trans (s'.trans s2)) q2⟩))
    | 5, hi, x, k => exact nm_no (X.xs 5 hi) (nm_no (X.xm 5 hi) (nm_yes (X.xt 5 hi) fun a ha => tsA_read X hi rfl x fun H2 l s2 q2 => ⟨_, rfl, k _ l (s1.trans (s'.trans s2)) q2⟩))
    | 6, hi, x, k => exact nm_no (X.xs 6 hi) (nm_no (X.xm 6 hi) (nm_no (X.xt 6 hi) (nm_yes (X.xl 6 hi) fun a ha => tsB_read X rfl x fun H2 l s2 q2 => ⟨_, rfl, k _ l (s1.trans (s'.trans s2)) q2⟩)))
    | n + 7, h, _, _ => exact absurd h (by omega)
end
end K10
set_option Elab.async false
set_option linter.all false
set_option maxRecDepth 100000
set_option maxHeartbeats 4000000
/-! Walks of enumerate; data whose text is short. -/
namespace L2
open PySem PySem.Spec PyProof.Rows
section
variable {K : PySem.W.Frag} {a : Addr} {xs : List V} {g : TG}
/-- for i, x in enumerate(xs), xs left as it is -/
theorem for_enum {tb : TS} {D : Ends} {σ : St} {H : Hp} (Pv : Nat → St → Hp → Prop) (h0 : Pv 0 σ H) (hl : ∀ i σ H, i ≤ xs.length → Pv i σ H → SqL K H a xs)
    (hs : ∀ i x σ H T, xs[i]? = some x → Pv i σ H → H T = none → g (.ref T) σ (upd H T (.tup [.int (i : Nat), x])) fun σ2 H2 => tb { D with nx := Pv (i + 1), ct := Pv (i + 1), bk := D.nx } σ2 H2) (hd : ∀ σ H, Pv xs.length σ H → D.nx σ H) :
    ∃ W : Nat → Nat → St → Hp → Prop, (∃ m, W 0 m σ H) ∧ ∀ i m σ H, W i m σ H → ((Ite K a).stop i H ∧ D.nx σ H) ∨
      ((Ite K a).go i H ∧ ∃ N : St → Hp → Prop, (∀ σ' H', N σ' H' → ∃ m', m' < m ∧ W (i + 1) m' σ' H') ∧ ∀ x H', (Ite K a).yld i H x H' → g x σ H' fun σ2 H2 => tb { D with nx := N, ct := N, bk := D.nx } σ2 H2) := by
  refine ⟨fun i m σ H => m = xs.length - i ∧ i ≤ xs.length ∧ Pv i σ H, ⟨_, rfl, Nat.zero_le _, h0⟩, fun i m σ H ⟨em, hi, p⟩ => ?_⟩
  have q := hl i σ H hi p
  rcases Nat.lt_or_eq_of_le hi with lt | e
  · refine .inr ⟨⟨xs, xs[i], q, List.getElem?_eq_getElem lt⟩, Pv (i + 1), fun σ' H' p' => ⟨xs.length - (i + 1), by omega, rfl, lt, p'⟩, ?_⟩
    rintro _ _ ⟨T, x, rfl, hT, rfl, y⟩
    exact hs i x σ H T (y xs q) p hT
  · subst e
    exact .inl ⟨⟨xs, q, Nat.le_refl _⟩, hd σ H p⟩
/-- [.. for i, x in enumerate(xs) if ..] -/
theorem lc_enum {tt : TT} {te : TE} {vs : List Nat} {σ : St} {H1 : Hp} {D : Addr} {Qd : Hp → Prop} (Pv : Nat → Hp → Prop) (h0 : Pv 0 (upd H1 D (.lst []))) (hl : ∀ i H, i ≤ xs.length → Pv i H → SqL K H a xs)
    (hs : ∀ i x H T, xs[i]? = some x → Pv i H → H T = none → g (.ref T) (wipe σ vs) (upd H T (.tup [.int (i : Nat), x])) fun σ2 H2 => wipe σ2 vs = wipe σ vs ∧ tt σ2 H2 fun b H3 =>
      if b = true then te σ2 H3 fun y H4 => ∃ acc, H4 D = some (.lst acc) ∧ acc.length < sizeLine ∧ Pv (i + 1) (upd H4 D (.lst (acc ++ [y]))) else Pv (i + 1) H3) (hd : ∀ H, Pv xs.length H → Qd H) :
    ∃ W : Nat → Nat → Hp → Prop, (∃ m, W 0 m (upd H1 D (.lst []))) ∧ ∀ i m H, W i m H → ((Ite K a).stop i H ∧ Qd H) ∨
      ((Ite K a).go i H ∧ ∃ Nx : Hp → Prop, (∀ H', Nx H' → ∃ m', m' < m ∧ W (i + 1) m' H') ∧ ∀ x H', (Ite K a).yld i H x H' → g x (wipe σ vs) H' fun σ2 H2 => wipe σ2 vs = wipe σ vs ∧ tt σ2 H2 fun b H3 =>
        if b = true then te σ2 H3 fun y H4 => ∃ acc, H4 D = some (.lst acc) ∧ acc.length < sizeLine ∧ Nx (upd H4 D (.lst (acc ++ [y]))) else Nx H3) := by
  refine ⟨fun i m H => m = xs.length - i ∧ i ≤ xs.length ∧ Pv i H, ⟨_, rfl, Nat.zero_le _, h0⟩, fun i m H ⟨em, hi, p⟩ => ?_⟩
  have q := hl i H hi p
  rcases Nat.lt_or_eq_of_le hi with lt | e
  · refine .inr ⟨⟨xs, xs[i], q, List.getElem?_eq_getElem lt⟩, Pv (i + 1), fun H' p' => ⟨xs.length - (i + 1), by omega, rfl, lt, p'⟩, ?_⟩
    rintro _ _ ⟨T, x, rfl, hT, rfl, y⟩
    exact hs i x H T (y xs q) p hT
  · subst e
    exact .inl ⟨⟨xs, q, Nat.le_refl _⟩, hd H p⟩
end
/-- data whose text is short -/
structure Shw (z : PyData) : Prop where
  s : z.showable = true
  d : z.depth ≤ 10
  l : z.shown.length ≤ 1000
theorem shw_all : ∀ {ds : List PyData}, (∀ z ∈ ds, Shw z) → PyData.showableAll ds = true ∧ PyData.depthAll ds ≤ 10 ∧ ((PyData.shownAll ds).map (·.length)).sum ≤ 1000 * ds.length ∧ (PyData.shownAll ds).length = ds.length
  | [], _ => ⟨rfl, by simp only [PyData.depthAll]; omega, by simp [PyData.shownAll], rfl⟩
  | z :: ds, h => by
    obtain ⟨i1, i2, i3, i4⟩ := shw_all fun y hy => h y (List.mem_cons_of_mem _ hy)
    have q := h z List.mem_cons_self
    refine ⟨?_, ?_, ?_, ?_⟩
    · simp only [PyData.showableAll, q.s, i1, Bool.and_self]
    · simp only [PyData.depthAll]
      exact Nat.max_le.mpr ⟨q.d, i2⟩
    · simp only [PyData.shownAll, List.map_cons, List.sum_cons, List.length_cons]
      have := q.l
      omega
    · simp only [PyData.shownAll, List.length_cons, i4]
theorem shw_list {ds : List PyData} (h : ∀ z ∈ ds, Shw z) (n : ds.length ≤ 1000) : PyData.showableAll ds = true ∧ PyData.depthAll ds ≤ 60 ∧ (listText (PyData.shownAll ds)).length ≤ sizeLine := by
  obtain ⟨i1, i2, i3, i4⟩ := shw_all h
  have h2 := listText_len_le (PyData.shownAll ds)
  have e := sizeLine_eq
  exact ⟨i1, by omega, by omega⟩
theorem shw_pair {a b : PyData} (ha : Shw a) (hb : Shw b) (la : a.shown.length ≤ 400) (lb : b.shown.length ≤ 400) (da : a.depth ≤ 5) (db : b.depth ≤ 5) : Shw (.tuple [a, b]) := by
  refine ⟨?_, ?_, ?_⟩
  · simp only [PyData.showable, PyData.showableAll, ha.s, hb.s, Bool.and_self]
  · simp only [PyData.depth, PyData.depthAll]
    omega
  · have h2 := tupleText_len_le (PyData.shownAll [a, b])
    simp only [PyData.shown, PyData.shownAll, List.map_cons, List.map_nil, List.sum_cons, List.sum_nil, List.length_cons, List.length_nil] at h2 ⊢
    omega
/-- repr(xs), read -/
theorem rep_read {H : Hp} {a : Addr} {vs : List V} {ds : List PyData} {Q : VK} (ha : H a = some (.lst vs)) (q : DqAll H vs ds) (h : ∀ z ∈ ds, Shw z) (n : ds.length ≤ 1000) (k : Q (.str (listText (PyData.shownAll ds))) H) : rReprL [.ref a] H Q := by
  obtain ⟨i1, i2, i3⟩ := shw_list h n
  exact ⟨a, vs, ds, rfl, ha, q, i1, i2, i3, k⟩
end L2
set_option Elab.async false
set_option linter.all false
set_option maxRecDepth 100000
set_option maxHeartbeats 4000000
namespace K10
open PySem PySem.Spec PyProof.Rows L2 L2H PySem.XM
abbrev sRaised : Stmt := top 51
theorem Okd.shw {z : PyData} (o : Okd z) : Shw z := ⟨o.s, by have := o.d; omega, by have := o.l; omega⟩
def toldD (i : Nat) (d : PyData) : List PyData := match fam i with
  | 0 => .str "value" :: (famB 0).map PyData.bool
  | 1 => .str "lacks" :: (famB 1).map PyData.bool
  | 2 => .str "state" :: (famB 2).map PyData.bool
  | _ => .str "limit" :: d :: .int 6 :: (famB 3).map PyData.bool
theorem dq_bools {H : Hp} : ∀ bs : List Bool, DqAll H (bs.map V.bl) (bs.map PyData.bool)
  | [] => .nil
  | b :: bs => .cons (.bl b) (dq_bools bs)
theorem tolds_dq {H : Hp} {v : V} {d : PyData} (q : Dq H v d) (i : Nat) : DqAll H (tolds i v) (toldD i d) := by
  unfold tolds toldD
  match fam i with
  | 0 => exact .cons (.str _) (dq_bools _)
  | 1 => exact .cons (.str _) (dq_bools _)
  | 2 => exact .cons (.str _) (dq_bools _)
  | n + 3 => exact .cons (.str _) (.cons q (.cons (.int _) (dq_bools _)))
theorem shw_bool (b : Bool) : Shw (.bool b) := by
  cases b <;> exact ⟨rfl, by decide +kernel, by decide +kernel⟩
theorem shw_bools {bs : List Bool} : ∀ z ∈ bs.map PyData.bool, Shw z := fun z hz => by
  obtain ⟨b, _, rfl⟩ := List.mem_map.mp hz
  exact shw_bool b
theorem shw_cons {z : PyData} {ds : List PyData} (h : Shw z) (t : ∀ y ∈ ds, Shw y) : ∀ y ∈ z :: ds, Shw y := fun y hy => by
  rcases List.mem_cons.mp hy with rfl | m
  · exact h
  · exact t y m
theorem shw_nil : ∀ y ∈ ([] : List PyData), Shw y := nofun
theorem toldD_shw {d : PyData} (o : Okd d) (i : Nat) : (∀ z ∈ toldD i d, Shw z) ∧ (toldD i d).length ≤ 1000 := by
  unfold toldD
  match fam i with
  | 0 => exact ⟨shw_cons ⟨rfl, by decide +kernel, by decide +kernel⟩ shw_bools, by show 9 ≤ 1000; decide⟩
  | 1 => exact ⟨shw_cons ⟨rfl, by decide +kernel, by decide +kernel⟩ shw_bools, by show 9 ≤ 1000; decide⟩
  | 2 => exact ⟨shw_cons ⟨rfl, by decide +kernel, by decide +kernel⟩ shw_bools, by show 9 ≤ 1000; decide⟩
  | n + 3 => exact ⟨shw_cons ⟨rfl, by decide +kernel, by decide +kernel⟩ (shw_cons o.shw (shw_cons ⟨by decide +kernel, by decide +kernel, by decide +kernel⟩ shw_bools)), by show 11 ≤ 1000; decide⟩
section
variable {P : Program} {w : World} {K : PySem.W.Frag} {mg : Str → Option Value} {base : Heap} {c : Nat → Addr} {S M T L : Addr}
/-- [z] + ground(i) -/
def tDue (z : Str) (i : Int) : TE := tOp rCat (tLst (tCons (tC (.str z)) tNil)) (tCall spGround [] E0 (tCons (tC (.int i)) tNil))
theorem due_read {z : Str} {i : Nat} (hi : i < 4) {σ : L2.St} {H : Hp} {Q : V → Hp → Prop} (k : ∀ H' l, Same H H' → H l = none → H' l = some (.lst (.str z :: (famB i).map V.bl)) → Q (.ref l) H') : tDue z i σ H Q := by
  refine ⟨big (show 1 ≤ 1000 by decide), fun q hq => ⟨i, rfl, hi, fun H2 l s2 n2 q2 => ?_⟩⟩
  have s1 : Same H (upd H q (.lst [.str z])) := Same.new hq
  refine ⟨q, l, _, _, rfl, rfl, s2 _ _ upd_same, q2, big (by rw [List.length_map]; show 1 + 8 ≤ 1000; decide), fun r hr => ?_⟩
  exact k _ r (s1.trans (s2.trans (Same.new hr))) ((s1.trans s2).free hr) upd_same
/-- [[z] + ground(i)] * n -/
theorem dues_read {z : Str} {i n : Nat} (hi : i < 4) (hn : n ≤ 10) {σ : L2.St} {H : Hp} {Q : V → Hp → Prop} (k : ∀ H' l r, Same H H' → H' l = some (.lst (List.replicate n (.ref r))) → H' r = some (.lst (.str z :: (famB i).map V.bl)) → Q (.ref l) H') :
    tOp rRep (tLst (tCons (tDue z i) tNil)) (tC (.int (n : Int))) σ H Q := by
  refine due_read hi fun H1 r s1 n1 q1 => ⟨big (show 1 ≤ 1000 by decide), fun l hl => ?_⟩
  have s2 : Same H1 (upd H1 l (.lst [.ref r])) := Same.new hl
  refine ⟨l, n, _, rfl, rfl, upd_same, by omega, by omega, big (by rw [List.length_singleton]; omega), fun p hp => ?_⟩
  have s3 := Same.new (o := .lst (List.replicate n [V.ref r]).flatten) hp
  refine k _ p r (s1.trans (s2.trans s3)) ?_ (s3 _ _ (s2 _ _ q1))
  show upd _ p (.lst (List.replicate ((n : Int).toNat) [V.ref r]).flatten) p = _
  rw [upd_same, Int.toNat_natCast, List.flatten_replicate_singleton]
def spRR : Sp := fun vs H Q _ => ∃ (v : V) (d : PyData), vs = [v] ∧ Okd d ∧ Dq H v d ∧ ∀ H', Same H H' → Q (.bl true) H'
theorem scRaised : FnScope ["_law_odd", "_law_dues", "_law_way", "_law_due", "_law_told", "_law_e"] ["_law_odd"] (defScope sRaised) := ⟨rfl, rfl, rfl, by decide +kernel, rfl, by decide +kernel, by decide +kernel⟩
def tsC (K : PySem.W.Frag) : TSu := fun a cls d => tAsg (tLst (tCons (tXp K a cls d "least" (tVar 5)) (tCons (tXp K a cls d "greatest" (tVar 5)) tNil))) (gName 4)
theorem go_set {te : TE} {i : Nat} {u : TS} {D : Ends} {σ : L2.St} {H : Hp} (h : te σ H fun v H1 => u D (σ.set i (some v)) H1) : tSeq (tAsg te (gName i)) u D σ H := h
theorem rne_go {z : Str} {A B : Hp → Prop} {H : Hp} (h : B H) : rNe (.str z) (.str z) H fun v H1 => ∃ b, v = .bl b ∧ if b = true then A H1 else B H1 := by
  refine ⟨rfl, _, rfl, ?_⟩
  rw [if_neg (by rw [decide_eq_true rfl]; exact Bool.false_ne_true)]
  exact h
theorem dues1_read {σ : L2.St} {H : Hp} {Q : V → Hp → Prop} (k : ∀ H' l a b e, Same H H' → H' l = some (.lst [.ref a, .ref a, .ref a, .ref b, .ref e, .ref e]) → H' a = some (.lst (.str "value" :: (famB 0).map V.bl)) → H' b = some (.lst (.str "lacks" :: (famB 1).map V.bl)) → H' e = some (.lst (.str "state" :: (famB 2).map V.bl)) → Q (.ref l) H') :
    tOp rCat (tOp rCat (tOp rRep (tLst (tCons (tDue "value" 0) tNil)) (tC (.int 3))) (tLst (tCons (tDue "lacks" 1) tNil))) (tOp rRep (tLst (tCons (tDue "state" 2) tNil)) (tC (.int 2))) σ H Q := by
  refine dues_read (i := 0) (n := 3) (by decide) (by decide) fun H1 l1 a s1 x1 a1 => due_read (i := 1) (by decide) fun H2 b s2 _ b2 => ⟨big (show 1 ≤ 1000 by decide), fun l2 hl2 => ?_⟩
  have t2 : Same H2 (upd H2 l2 (.lst [.ref b])) := Same.new hl2
  refine ⟨l1, l2, _, _, rfl, rfl, t2 _ _ (s2 _ _ x1), upd_same, big (show 4 ≤ 1000 by decide), fun l3 hl3 => ?_⟩
  have t3 := Same.new (o := .lst [V.ref a, V.ref a, V.ref a, V.ref b]) hl3
  refine dues_read (i := 2) (n := 2) (by decide) (by decide) fun H4 l4 e s4 x4 e4 => ⟨l3, l4, _, _, rfl, rfl, s4 _ _ upd_same, x4, big (show 6 ≤ 1000 by decide), fun l5 hl5 => ?_⟩
  have t5 := Same.new (o := .lst [V.ref a, V.ref a, V.ref a, V.ref b, V.ref e, V.ref e]) hl5
  have up := t2.trans (t3.trans (s4.trans t5))
  exact k _ l5 a b e (s1.trans (s2.trans up)) upd_same (up _ _ (s2 _ _ a1)) (up _ _ b2) (t5 _ _ e4)
theorem dues2_read {σ : L2.St} {H : Hp} {v : V} {l : Addr} {xs : List V} {Q : V → Hp → Prop} (h0 : σ[0]? = some (some v)) (h1 : σ[1]? = some (some (.ref l))) (hl : H l = some (.lst xs)) (hn : xs.length ≤ 100) (k : ∀ H' p r, Same H H' → H' p = some (.lst (xs ++ [.ref r])) → H' r = some (.lst (.str "limit" :: v :: .int 6 :: (famB 3).map V.bl)) → Q (.ref p) H') :
    tOp rCat (tVar 1) (tLst (tCons (tOp rCat (tLst (tCons (tC (.str "limit")) (tCons (tVar 0) (tCons (tC (.int 6)) tNil)))) (tCall spGround [] E0 (tCons (tC (.int 3)) tNil))) tNil)) σ H Q := by
  refine ⟨_, h1, _, h0, big (show 3 ≤ 1000 by decide), fun q hq => ⟨3, rfl, by decide, fun H2 g s2 n2 q2 => ?_⟩⟩
  have s1 : Same H (upd H q (.lst [.str "limit", v, .int 6])) := Same.new hq
  refine ⟨q, g, _, _, rfl, rfl, s2 _ _ upd_same, q2, big (by rw [List.length_map]; show 3 + 8 ≤ 1000; decide), fun r hr => ⟨big (show 1 ≤ 1000 by decide), fun p hp => ?_⟩⟩
  have s3 := Same.new (o := .lst ([V.str "limit", v, .int 6] ++ (famB 3).map V.bl)) hr
  have s4 := Same.new (o := .lst [V.ref r]) hp
  have s := s1.trans (s2.trans (s3.trans s4))
  refine ⟨l, p, _, _, rfl, rfl, s _ _ hl, upd_same, big (by rw [List.length_singleton]; omega), fun t ht => ?_⟩
  have s5 := Same.new (o := .lst (xs ++ [V.ref r])) ht
  exact k _ t r (s.trans s5) upd_same (s5 _ _ (s4 _ _ upd_same))
theorem ok_raised {f fT fR fC : Addr} {fd fdT fdR fdC : FuncData} (F : Fun K "_law_raised_right" "_law_raised_right" sRaised f fd) (B : Bl mg) (X : Thr P w K mg base c S M T L)
    (GT : FnOk P w K mg base (L2.CX P w) 3 fT fdT ["_law_way", "_law_odd"] (spThrown c)) (kT : PySem.W.keepIn K (.ref fT) = true) (bT : Binds K fdT ["_law_way", "_law_odd"] []) (mT : mg "_law_thrown" = some (.ref fT))
    (GR : FnOk P w K mg base CX0 1 fR fdR ["_law_way"] spGround) (kR : PySem.W.keepIn K (.ref fR) = true) (bR : Binds K fdR ["_law_way"] []) (mR : mg "_law_ground" = some (.ref fR))
    (GC : FnOk P w K mg base CX0 4 fC fdC ["_law_way", "_law_odd"] spCaught) (kC : PySem.W.keepIn K (.ref fC) = true) (bC : Binds K fdC ["_law_way", "_law_odd"] []) (mC : mg "_law_caught" = some (.ref fC)) : FnG P w K mg base CX0 5 f fd ["_law_odd"] spRR := by
  refine F.okG scRaised (fun vs H Q E h => ?_) (fun cdv A outer s H vs Q E hg hr h => ?_)
  · obtain ⟨v, d, rfl, _⟩ := h
    rfl
  · obtain ⟨v, d, rfl, od, q, k⟩ := h
    have r1 := hr.mono (show 1 ≤ 4 by decide)
    have r3 := hr.mono (show 3 ≤ 4 by decide)
    have hu : (A.deeper (envOfC "_law_raised_right" (defScope sRaised) s.heap.objs.size f cdv)).units + 64 < cLine := by have := hr.un; omega
    refine ⟨_, pss_cons (ps_set (i := 1) scRaised.nd rfl (.inl rfl) (pe_op op_cat (pe_op op_cat (pe_op op_rep (pe_lst (pa_cons (pe_op op_cat (pe_lst (pa_cons pe_str pa_nil)) (pe_call GR r1 rfl mR kR bR .nil pass0 (pa_cons pe_int pa_nil))) pa_nil)) pe_int)
        (pe_lst (pa_cons (pe_op op_cat (pe_lst (pa_cons pe_str pa_nil)) (pe_call GR r1 rfl mR kR bR .nil pass0 (pa_cons pe_int pa_nil))) pa_nil)))
        (pe_op op_rep (pe_lst (pa_cons (pe_op op_cat (pe_lst (pa_cons pe_str pa_nil)) (pe_call GR r1 rfl mR kR bR .nil pass0 (pa_cons pe_int pa_nil))) pa_nil)) pe_int)))
      (pss_cons (ps_set (i := 1) scRaised.nd rfl (.inl rfl) (pe_op op_cat (pv 1) (pe_lst (pa_cons (pe_op op_cat (pe_lst (pa_cons pe_str (pa_cons (pv 0) (pa_cons pe_int pa_nil)))) (pe_call GR r1 rfl mR kR bR .nil pass0 (pa_cons pe_int pa_nil))) pa_nil))))
      (pss_cons (ps_for PassesOwn.never rfl (pi_enum (by rfl) B.enumerate (pa_cons (pv 1) pa_nil)) (pg_tup rfl (pgs_cons (pg_name (i := 2) scRaised.nd rfl (.inl rfl)) (pgs_cons (pg_name (i := 3) scRaised.nd rfl (.inl rfl)) pgs_nil)))
        (pss_one (ps_if (pt_cmpR op_ne (pe_callB (call_reprL hg hu) (by rfl) B.repr boot_repr (pa_cons (pe_call GC hr rfl mC kC bC .nil pass0 (pa_cons (pv 2) (pa_cons (pv 0) pa_nil))) pa_nil)) (pe_callB (call_reprL hg hu) (by rfl) B.repr boot_repr (pa_cons (pv 3) pa_nil)) (nomark _)) (pss_one (ps_ret pe_bl)) pss_nil)))
      (pss_cons (ps_set (i := 4) scRaised.nd rfl (.inl rfl) (pe_lst pa_nil))
      (pss_cons (ps_try_nm (i := 5) (n := "_law_e") (tb := fun W => tDrop (tCallS (spThrown c) (WE W) (tCons (tC (.int 5)) (tCons (tVar 0) tNil)))) (Wout := fun _ _ _ _ => False) (l := [(.ref (c 5), tsC K)]) rfl rfl scRaised.nd rfl rfl takes0
        (fun W pn xe tk _ => pss_one (ps_expr (pe_callS GT r3 rfl mT kT bT (fun σ => passAt tk σ) (pa_cons pe_int (pa_cons (pv 0) pa_nil)))))
        (.cons ⟨rfl, by decide, .inl X.c5.m⟩ (fun a oe cls d pn hz hf => by
            obtain ⟨rfl, rfl⟩ := hz
            exact pss_one (ps_set (i := 4) scRaised.nd rfl (.inl rfl) (by exact pe_lst (by exact pa_cons (by exact pe_xp (p := (a, oe)) List.mem_cons_self hf (pv 5)) (by exact pa_cons (by exact pe_xp (p := (a, oe)) List.mem_cons_self hf (pv 5)) pa_nil))))) .nil))
      (pss_one (ps_ret (pe_cmpR op_eq (pe_callB (call_reprL hg hu) (by rfl) B.repr boot_repr (pa_cons (pv 4) pa_nil)) (pe_callB (call_reprL hg hu) (by rfl) B.repr boot_repr (pa_cons (pe_lst (pa_cons (pv 0) (pa_cons pe_int pa_nil))) pa_nil)) (nomark _)))))))), ?_⟩
    refine go_set (dues1_read fun H1 l1 a b e s1 x1 a1 b1 e1 => go_set (dues2_read rfl rfl x1 (by show 6 ≤ 100; decide) fun H2 l r s2 x2 r2 => ?_))
    have a2 := s2 _ _ a1
    have b2 := s2 _ _ b1
    have e2 := s2 _ _ e1
    have dues : ∀ i x, ([V.ref a, .ref a, .ref a, .ref b, .ref e, .ref e] ++ [.ref r])[i]? = some x → i < 7 ∧ ∃ t, x = .ref t ∧ H2 t = some (.lst (tolds i v)) := fun i x hx => by
      match i, hx with
      | 0, hx => exact ⟨by decide, a, (Option.some.inj hx).symm, a2⟩
      | 1, hx => exact ⟨by decide, a, (Option.some.inj hx).symm, a2⟩
      | 2, hx => exact ⟨by decide, a, (Option.some.inj hx).symm, a2⟩
      | 3, hx => exact ⟨by decide, b, (Option.some.inj hx).symm, b2⟩
      | 4, hx => exact ⟨by decide, e, (Option.some.inj hx).symm, e2⟩
      | 5, hx => exact ⟨by decide, e, (Option.some.inj hx).symm, e2⟩
      | 6, hx => exact ⟨by decide, r, (Option.some.inj hx).symm, r2⟩
      | n + 7, hx => exact nomatch hx
    have q2 := q.same (s1.trans s2)
    refine ⟨_, rfl, l, _, rfl, SqL.of x2, for_enum (fun _ σ H' => ∃ y z, σ = [some v, some (.ref l), y, z, none, none] ∧ Same H2 H') ⟨none, none, rfl, Same.refl _⟩ (fun _ _ _ _ ⟨_, _, _, s3⟩ => SqL.of (s3 _ _ x2)) ?_ ?_⟩
    · rintro i x _ H3 t hx ⟨y, z, rfl, s3⟩ ht
      obtain ⟨hi, t', rfl, ht'⟩ := dues i x hx
      have s4 : Same H3 (upd H3 t (.tup [.int (i : Nat), .ref t'])) := Same.new ht
      obtain ⟨zs, zn⟩ := toldD_shw od i
      refine ⟨t, _, rfl, SqT.of upd_same, rfl, ?_⟩
      refine ⟨_, _, rfl, _, _, rfl, rfl, ?_⟩
      refine ⟨_, rfl, _, rfl, i, v, rfl, hi, fun H5 l5 s5 q5 => ?_⟩
      have s35 := s3.trans (s4.trans s5)
      dsimp only [tNil]
      refine rep_read q5 (tolds_dq (q2.same s35) i) zs zn ?_
      refine ⟨_, rfl, ?_⟩
      dsimp only [tNil]
      refine rep_read (s35 _ _ ht') (tolds_dq (q2.same s35) i) zs zn ?_
      refine ⟨rfl, _, rfl, ?_⟩
      rw [if_neg (by rw [decide_eq_true rfl]; exact Bool.false_ne_true)]
      exact ⟨_, _, rfl, s35⟩
    · rintro _ H3 ⟨y, z, rfl, s3⟩
      refine go_setL (ta := tNil) ⟨Nat.zero_le _, fun p hp => ?_⟩
      have s4 : Same H3 (upd H3 p (.lst [])) := Same.new hp
      refine ⟨_, rfl, 5, v, rfl, by decide, fun odx H5 s5 x => ?_⟩
      have s25 := s3.trans (s4.trans s5)
      refine nm_yes X.xb fun t ht => ?_
      refine ⟨_, rfl, c 5, thF 5 v, v, rfl, X.c5.t, rfl, X.c5.n, x, rfl, _, rfl, c 5, thF 5 v, .int 5, rfl, X.c5.t, rfl, X.c5.o, x, rfl, big (show 2 ≤ 1000 by decide), fun p2 hp2 => ?_⟩
      have s6 : Same H5 (upd H5 p2 (.lst [v, .int 5])) := Same.new hp2
      have q6 := q2.same (s25.trans s6)
      have z5 : ∀ y ∈ [d, .int 5], Shw y := shw_cons od.shw (shw_cons ⟨by decide +kernel, by decide +kernel, by decide +kernel⟩ shw_nil)
      refine ⟨_, rfl, ?_⟩
      dsimp only [tNil]
      refine rep_read upd_same (.cons q6 (.cons (.int 5) .nil)) z5 (by show 2 ≤ 1000; decide) ?_
      refine ⟨_, rfl, ?_⟩
      dsimp only [tNil, tC]
      refine ⟨big (show 2 ≤ 1000 by decide), fun p3 hp3 => ?_⟩
      have s7 := Same.new (o := .lst [v, V.int 5]) hp3
      refine rep_read upd_same (.cons (q6.same s7) (.cons (.int 5) .nil)) z5 (by show 2 ≤ 1000; decide) ⟨rfl, ?_⟩
      rw [decide_eq_true rfl]
      exact k _ (s1.trans (s2.trans (s25.trans (s6.trans s7))))
end
end K10
set_option Elab.async false
set_option linter.all false
set_option maxRecDepth 100000
set_option maxHeartbeats 4000000
namespace K10
open PySem PySem.Spec PyProof.Rows L2 L2H PySem.XM
/-- a list's place, whatever the state -/
abbrev iAt (K : PySem.W.Frag) (a : Addr) : TI := fun _ H R => R (Itl K a) H
theorem Paired.at_ {α β : Type} {R : α → β → Prop} : ∀ {as : List α} {bs : List β}, Paired R as bs → ∀ {k : Nat} {b : β}, bs[k]? = some b → ∃ a, as[k]? = some a ∧ R a b
  | _, _, .nil, _, _, h => nomatch h
  | a :: _, b :: _, .cons r t, 0, b', h => ⟨a, rfl, by cases h; exact r⟩
  | a :: _, b :: _, .cons r t, k + 1, b', h => Paired.at_ t h
theorem dp_bools {K : PySem.W.Frag} {H : Hp} : ∀ bs : List Bool, DpAll K H (bs.map V.bl) (bs.map PyData.bool)
  | [] => .nil
  | b :: bs => .cons (.bl b) (dp_bools bs)
theorem famB_shaped {j : Nat} (h : j < 4) : SeqAt.shaped (.list ((famB j).map PyData.bool)) = true := by
  match j, h with
  | 0, _ | 1, _ | 2, _ | 3, _ => decide +kernel
theorem famB_eqv {j : Nat} (h : j < 4) : PyData.eqv (.list ((famB j).map PyData.bool)) (.list ((famB j).map PyData.bool)) = true := by
  match j, h with
  | 0, _ | 1, _ | 2, _ | 3, _ => decide +kernel
theorem DqAll.append {H : Hp} : ∀ {vs ws : List V} {ds es : List PyData}, DqAll H vs ds → DqAll H ws es → DqAll H (vs ++ ws) (ds ++ es)
  | _, _, _, _, .nil, q => q
  | _, _, _, _, .cons h t, q => .cons h (DqAll.append t q)
theorem DqAll.len {H : Hp} : ∀ {vs : List V} {ds : List PyData}, DqAll H vs ds → vs.length = ds.length
  | _, _, .nil => rfl
  | _, _, .cons _ t => by rw [List.length_cons, List.length_cons, DqAll.len t]
theorem take_next {α : Type} {l : List α} {i : Nat} {x : α} (h : l[i]? = some x) : l.take (i + 1) = l.take i ++ [x] := by
  rw [List.take_succ, h]
  rfl
theorem rest_le {D : Addr} {H : Hp} : Same (rest D H) H := fun b o e => by
  have e' : (if b = D then none else H b) = some o := e
  split at e'
  · cases e'
  · exact e'
theorem rest_of {D b : Addr} {H : Hp} {o : HO} (n : b ≠ D) (e : H b = some o) : rest D H b = some o := by
  show (if b = D then none else H b) = some o
  rw [if_neg n]
  exact e
theorem rest_ne {D b : Addr} {H : Hp} {o : HO} (e : rest D H b = some o) : b ≠ D := fun z => by
  have e' : (if b = D then none else H b) = some o := e
  rw [if_pos z] at e'
  cases e'
theorem rest_same {D : Addr} {H H' : Hp} (s : Same H H') : Same (rest D H) (rest D H') := fun b o e => rest_of (rest_ne e) (s _ _ (rest_le _ _ e))
theorem rest_upd {D : Addr} {H : Hp} {o : HO} : Same (rest D H) (rest D (upd H D o)) := fun b u e => rest_of (rest_ne e) (by rw [upd_ne (rest_ne e)]; exact rest_le _ _ e)
theorem same_rest {D : Addr} {H H' : Hp} (s : Same H H') (n : H D = none) : Same H (rest D H') := fun b o e => rest_of (ne_of_none e n) (s _ _ e)
section
variable {K : PySem.W.Frag} {a : Addr} {xs : List V} {i : Nat} {te : TE} {ds : List PyData} {σ : L2.St} {H1 : Hp} {Q : VK}
/-- [.. for e in xs], each element's data known -/
theorem lcd_go (hi : i < σ.length) (ha : H1 a = some (.lst xs)) (hn : xs.length ≤ 1000) (hl : ds.length = xs.length)
    (el : ∀ (k : Nat) (x : V) (d : PyData), xs[k]? = some x → ds[k]? = some d → ∀ (σ2 : L2.St) (H : Hp) (R : V → Hp → Prop), σ2[i]? = some (some x) → Same H1 H → (∀ y H', Same H H' → (∀ p, H1 p = none → (∃ o, H p = some o) → Dq (rest p H') y d) → R y H') → te σ2 H R)
    (k : ∀ H' D vals, Same H1 H' → H1 D = none → H' D = some (.lst vals) → DqAll H' vals ds → Q (.ref D) H') : tLc (iAt K a) (gName i) tYes te [i] σ H1 Q := by
  refine fun D hD => lc_list (K := K) (a := a) (xs := xs) (fun j H' => Same H1 H' ∧ ∃ vals, H' D = some (.lst vals) ∧ DqAll (rest D H') vals (ds.take j)) ⟨Same.new hD, [], upd_same, .nil⟩ (fun j H' _ ⟨s, _⟩ => SqL.of (s _ _ ha)) ?_ ?_
  · rintro j x H' hx ⟨s, vals, hd, dq⟩
    have hj : j < xs.length := (List.getElem?_eq_some_iff.mp hx).1
    obtain ⟨d, hdj⟩ : ∃ d, ds[j]? = some d := ⟨ds[j]'(by omega), List.getElem?_eq_getElem _⟩
    refine ⟨?_, yes_go (el j x d hx hdj _ H' _ ?_ s fun y H4 s4 dy => ⟨vals, s4 _ _ hd, small1000 ?_, ?_, vals ++ [y], upd_same, ?_⟩)⟩
    · show ((σ.set i none).set i (some x)).set i none = σ.set i none
      rw [List.set_set, List.set_set]
    · show ((σ.set i none).set i (some x))[i]? = _
      rw [List.getElem?_set_self (by rw [List.length_set]; exact hi)]
    · rw [DqAll.len dq, List.length_take]
      omega
    · intro b o e
      rw [upd_ne (ne_of_none e hD)]
      exact s4 _ _ (s _ _ e)
    · rw [take_next hdj]
      have up : Same (rest D H4) (rest D (upd H4 D (.lst (vals ++ [y])))) := rest_upd
      have low : Same (rest D H') (rest D H4) := rest_same s4
      exact (DqAll.append (dq.same low) (.cons (dy D hD ⟨_, hd⟩) .nil)).same up
  · rintro H' ⟨s, vals, hd, dq⟩
    rw [← hl, List.take_length] at dq
    exact k H' D vals s hD hd (dq.same rest_le)
/-- e.f -/
theorem el_fld {f : Str} {cs : List (Addr × List (Str × V))} (r : RNew cs xs H1) (hv : ∀ (k : Nat) c d, cs[k]? = some c → ds[k]? = some d → ∃ v, XC K c.1 ∧ PySem.W.findIn K (.ref c.1) f = some none ∧ c.2.lookup f = some v ∧ Dq H1 v d) :
    ∀ (k : Nat) (x : V) (d : PyData), xs[k]? = some x → ds[k]? = some d → ∀ (σ2 : L2.St) (H : Hp) (R : V → Hp → Prop), σ2[i]? = some (some x) → Same H1 H → (∀ y H', Same H H' → (∀ p, H1 p = none → (∃ o, H p = some o) → Dq (rest p H') y d) → R y H') → tXf K f (tVar i) σ2 H R := by
  intro k x d hx hd σ2 H R hs s q
  obtain ⟨c, hc, a, rfl, xe⟩ := Paired.at_ r hx
  obtain ⟨v, T, hn, l, dq⟩ := hv k c d hc hd
  exact ⟨_, hs, a, c.1, c.2, v, rfl, T, hn, xe.same s, l, q v H (Same.refl H) fun p hp _ => dq.same (same_rest s hp)⟩
/-- (e.f, e.g) -/
theorem el_pair {f g : Str} {cs : List (Addr × List (Str × V))} (r : RNew cs xs H1) (hv : ∀ (k : Nat) c d, cs[k]? = some c → ds[k]? = some d → ∃ v u dv du, XC K c.1 ∧ PySem.W.findIn K (.ref c.1) f = some none ∧ PySem.W.findIn K (.ref c.1) g = some none ∧ c.2.lookup f = some v ∧ c.2.lookup g = some u ∧ Dq H1 v dv ∧ Dq H1 u du ∧ d = .tuple [dv, du]) :
    ∀ (k : Nat) (x : V) (d : PyData), xs[k]? = some x → ds[k]? = some d → ∀ (σ2 : L2.St) (H : Hp) (R : V → Hp → Prop), σ2[i]? = some (some x) → Same H1 H → (∀ y H', Same H H' → (∀ p, H1 p = none → (∃ o, H p = some o) → Dq (rest p H') y d) → R y H') →
      tTup (tCons (tXf K f (tVar i)) (tCons (tXf K g (tVar i)) tNil)) σ2 H R := by
  intro k x d hx hd σ2 H R hs s q
  obtain ⟨c, hc, a, rfl, xe⟩ := Paired.at_ r hx
  obtain ⟨v, u, dv, du, T, hn, hm, l, m, dq, du', rfl⟩ := hv k c d hc hd
  refine ⟨_, hs, a, c.1, c.2, v, rfl, T, hn, xe.same s, l, _, hs, a, c.1, c.2, u, rfl, T, hm, xe.same s, m, big (show 2 ≤ 1000 by decide), fun t ht => ?_⟩
  have st : Same H (upd H t (.tup [v, u])) := Same.new ht
  exact q _ _ st fun p hp hp' => by
    obtain ⟨o, hp'⟩ := hp'
    have sr := same_rest (s.trans st) hp
    exact .tup (rest_of (Ne.symm (ne_of_none hp' ht)) upd_same) (.cons (dq.same sr) (.cons (du'.same sr) .nil))
/-- grounds(e) == ground(j) -/
theorem el_gr {S M T L : Addr} {j : Nat} (hj : j < 4) {cs : List (Addr × List (Str × V))} (r : RNew cs xs H1) (hv : ∀ c ∈ cs, XC K c.1 ∧ Stands K c.1 (famC S M T L) (famB j)) (hds : ∀ (k : Nat) d, ds[k]? = some d → d = .bool true) :
    ∀ (k : Nat) (x : V) (d : PyData), xs[k]? = some x → ds[k]? = some d → ∀ (σ2 : L2.St) (H : Hp) (R : V → Hp → Prop), σ2[i]? = some (some x) → Same H1 H → (∀ y H', Same H H' → (∀ p, H1 p = none → (∃ o, H p = some o) → Dq (rest p H') y d) → R y H') →
      tOp (rEqD K) (tCall (spGrounds K S M T L) [] E0 (tCons (tVar i) tNil)) (tCall spGround [] E0 (tCons (tC (.int (j : Int))) tNil)) σ2 H R := by
  intro k x d hx hd σ2 H R hs s q
  obtain ⟨c, hc, a, rfl, xe⟩ := Paired.at_ r hx
  obtain ⟨T0, st⟩ := hv c (List.mem_of_getElem? hc)
  refine ⟨_, hs, a, c.1, c.2, famB j, rfl, T0, xe.same s, st, ?_, fun H2 l s2 n2 q2 => ⟨j, rfl, hj, fun H3 l3 s3 n3 q3 => ?_⟩⟩
  · rfl
  · have dl : ∀ {H : Hp} {l : Addr}, H l = some (.lst ((famB j).map V.bl)) → Dp K H (.ref l) (.list ((famB j).map PyData.bool)) := fun h => .lst (SqL.of h) (dp_bools _)
    refine ⟨_, _, dl (s3 _ _ q2), dl q3, famB_shaped hj, famB_shaped hj, ?_⟩
    rw [famB_eqv hj]
    refine q _ H3 (s2.trans s3) fun p _ _ => ?_
    rw [hds k d hd]
    exact .bl true
end
end K10
set_option Elab.async false
set_option linter.all false
set_option maxRecDepth 100000
set_option maxHeartbeats 4000000
namespace K10
open PySem PySem.Spec PyProof.Rows L2 L2H PySem.XM
abbrev sVals : Stmt := top 52
/-- a list of known data comes, all else as it was -/
def Gives (te : TE) (σ : L2.St) (H : Hp) (ds : List PyData) : Prop := ∀ R : V → Hp → Prop, (∀ H' a vs, Same H H' → H' a = some (.lst vs) → DqAll H' vs ds → R (.ref a) H') → te σ H R
section
variable {K : PySem.W.Frag} {σ : L2.St} {H : Hp} {ds : List PyData} {D : Ends} {u r : TS} {tA tB : TE}
theorem rep_ne (hs : ∀ z ∈ ds, Shw z) (hn : ds.length ≤ 1000) (hA : Gives tA σ H ds) (hB : ∀ H1, Same H H1 → Gives tB σ H1 ds) (k : ∀ H', Same H H' → r D σ H') : tSeq (tIfS (tTest (tOp rNe (tCB rReprL (tCons tA tNil)) (tCB rReprL (tCons tB tNil)))) u tNext) r D σ H := by
  refine hA _ fun H1 a vs s1 ha qa => ?_
  dsimp only [tNil]
  refine rep_read ha qa hs hn (hB H1 s1 _ fun H2 b us s2 hb qb => ?_)
  dsimp only [tNil]
  refine rep_read hb qb hs hn ⟨rfl, _, rfl, ?_⟩
  rw [if_neg (by rw [decide_eq_true rfl]; exact Bool.false_ne_true)]
  exact k _ (s1.trans s2)
theorem rep_ne2 {es : List PyData} {tC' tD : TE} (hs : ∀ z ∈ ds, Shw z) (hn : ds.length ≤ 1000) (hs2 : ∀ z ∈ es, Shw z) (hn2 : es.length ≤ 1000) (hA : Gives tA σ H ds) (hB : ∀ H1, Same H H1 → Gives tB σ H1 ds) (hC : ∀ H1, Same H H1 → Gives tC' σ H1 es) (hD : ∀ H1, Same H H1 → Gives tD σ H1 es) (k : ∀ H', Same H H' → r D σ H') :
    tSeq (tIfS (tOr (tTest (tOp rNe (tCB rReprL (tCons tA tNil)) (tCB rReprL (tCons tB tNil)))) (tTest (tOp rNe (tCB rReprL (tCons tC' tNil)) (tCB rReprL (tCons tD tNil))))) u tNext) r D σ H := by
  refine hA _ fun H1 a vs s1 ha qa => ?_
  dsimp only [tNil]
  refine rep_read ha qa hs hn (hB H1 s1 _ fun H2 b us s2 hb qb => ?_)
  dsimp only [tNil]
  refine rep_read hb qb hs hn ⟨rfl, _, rfl, ?_⟩
  rw [if_neg (by rw [decide_eq_true rfl]; exact Bool.false_ne_true)]
  refine hC _ (s1.trans s2) _ fun H3 a' vs' s3 ha' qa' => ?_
  dsimp only [tNil]
  refine rep_read ha' qa' hs2 hn2 (hD _ (s1.trans (s2.trans s3)) _ fun H4 b' us' s4 hb' qb' => ?_)
  dsimp only [tNil]
  refine rep_read hb' qb' hs2 hn2 ⟨rfl, _, rfl, ?_⟩
  rw [if_neg (by rw [decide_eq_true rfl]; exact Bool.false_ne_true)]
  exact k _ (s1.trans (s2.trans (s3.trans s4)))
theorem lc_var {j : Nat} {a : Addr} {xs : List V} {g : TG} {tt : TT} {te : TE} {vs : List Nat} {Q : VK} (hs : σ[j]? = some (some (.ref a))) (ha : H a = some (.lst xs)) (h : tLc (iAt K a) g tt te vs σ H Q) : tLc (iList K (tVar j)) g tt te vs σ H Q := ⟨_, hs, a, rfl, ⟨xs, SqL.of ha⟩, h⟩
/-- [x] * n -/
theorem gives_rep {j n : Nat} {v : V} {d : PyData} (hj : σ[j]? = some (some v)) (hn : n ≤ 100) (q : Dq H v d) : Gives (tOp rRep (tLst (tCons (tVar j) tNil)) (tC (.int (n : Int)))) σ H (List.replicate n d) := fun R k => by
  refine ⟨v, hj, big (show 1 ≤ 1000 by decide), fun l hl => ?_⟩
  have s1 : Same H (upd H l (.lst [v])) := Same.new hl
  refine ⟨l, n, _, rfl, rfl, upd_same, by omega, by omega, big (by rw [List.length_singleton]; omega), fun p hp => ?_⟩
  have s2 := Same.new (o := .lst (List.replicate ((n : Int).toNat) [v]).flatten) hp
  refine k _ p (List.replicate n v) (s1.trans s2) ?_ (DqAll.rep (q.same (s1.trans s2)) n)
  rw [upd_same, Int.toNat_natCast, List.flatten_replicate_singleton]
theorem bools_of {vals : List V} : ∀ {n : Nat}, DqAll H vals (List.replicate n (.bool true)) → vals = (List.replicate n true).map V.bl
  | 0, .nil => rfl
  | n + 1, .cons (.bl _) t => by rw [bools_of t]; rfl
theorem all_trues : ∀ n : Nat, (List.replicate n true).all id = true
  | 0 => rfl
  | n + 1 => by rw [List.replicate_succ, List.all_cons, all_trues n]; rfl
/-- all([..]), each true -/
theorem all_read {n : Nat} {Q : VK} (h : Gives tA σ H (List.replicate n (.bool true))) (k : ∀ H', Same H H' → Q (.bl true) H') : tCB (rAll K) (tCons tA tNil) σ H Q := by
  refine h _ fun H1 a vs s1 ha qa => ?_
  refine ⟨a, List.replicate n true, rfl, ?_, ?_⟩
  · rw [← bools_of qa]
    exact SqL.of ha
  · rw [all_trues]
    exact k H1 s1
end
section
variable {K : PySem.W.Frag} {σ : L2.St} {H : Hp} {D : Ends} {u r : TS} {tA : TE}
theorem not_all {n : Nat} (h : Gives tA σ H (List.replicate n (.bool true))) (k : ∀ H', Same H H' → r D σ H') : tSeq (tIfS (tNot (tB (tCB (rAll K) (tCons tA tNil)))) u tNext) r D σ H := by
  refine all_read h fun H' s => ⟨true, rfl, ?_⟩
  show if (!true) = true then _ else _
  rw [if_neg (by decide)]
  exact k H' s
theorem gives_fld {j i n : Nat} {f : Str} {v : V} {d : PyData} {a : Addr} {xs : List V} {cs : List (Addr × List (Str × V))} (hs : σ[j]? = some (some (.ref a))) (hi : i < σ.length) (ha : H a = some (.lst xs)) (r : RNew cs xs H) (hn : n ≤ 1000) (hl : xs.length = n)
    (hc : ∀ c ∈ cs, XC K c.1 ∧ PySem.W.findIn K (.ref c.1) f = some none ∧ c.2.lookup f = some v) (q : Dq H v d) : Gives (tLc (iList K (tVar j)) (gName i) tYes (tXf K f (tVar i)) [i]) σ H (List.replicate n d) := fun R kR =>
  lc_var hs ha (lcd_go hi ha (by omega) (by rw [List.length_replicate, hl]) (el_fld r fun k c d' hc' hd' => by
    obtain ⟨T, hn', l⟩ := hc c (List.mem_of_getElem? hc')
    rw [List.eq_of_mem_replicate (List.mem_of_getElem? hd')]
    exact ⟨v, T, hn', l, q⟩) fun H' Dl vals s' _ x' q' => kR H' Dl vals s' x' q')
theorem gives_gr {i n j : Nat} {S M T L : Addr} (hj : j < 4) {a : Addr} {xs : List V} {cs : List (Addr × List (Str × V))} (hi : i < σ.length) (ha : H a = some (.lst xs)) (r : RNew cs xs H) (hn : n ≤ 1000) (hl : xs.length = n) (hv : ∀ c ∈ cs, XC K c.1 ∧ Stands K c.1 (famC S M T L) (famB j)) :
    Gives (tLc (iAt K a) (gName i) tYes (tOp (rEqD K) (tCall (spGrounds K S M T L) [] E0 (tCons (tVar i) tNil)) (tCall spGround [] E0 (tCons (tC (.int (j : Int))) tNil))) [i]) σ H (List.replicate n (.bool true)) := fun R kR =>
  lcd_go hi ha (by omega) (by rw [List.length_replicate, hl]) (el_gr hj r hv fun k d' hd' => List.eq_of_mem_replicate (List.mem_of_getElem? hd')) fun H' Dl vals s' _ x' q' => kR H' Dl vals s' x' q'
theorem shw_rep {d : PyData} (h : Shw d) (n : Nat) : ∀ z ∈ List.replicate n d, Shw z := fun z hz => by
  rw [List.eq_of_mem_replicate hz]
  exact h
end
/-- values_right(pot) and its like: true, the pot alone is changed -/
def spPotR : Sp := fun vs H Q _ => ∃ p : Addr, vs = [.ref p] ∧ Pot H p ∧ ∀ H', But p H H' → Pot H' p → Q (.bl true) H'
def cV (C : Nat → Addr) : List (Addr × Str) := (List.range 17).map fun i => (C i, "value")
def cP (C : Nat → Addr) : List (Addr × Str) := [(C 17, "position"), (C 18, "position"), (C 19, "position"), (C 20, "position"), (C 17, "position"), (C 18, "position"), (C 19, "position"), (C 20, "position")]
/-- the classes of errors of values and of what lacks -/
structure Vls (P : Program) (w : World) (K : PySem.W.Frag) (mg : Str → Option Value) (base : Heap) (C O : Nat → Addr) (S M T L : Addr) : Prop where
  nv : ∀ i, i < 17 → New1 P w K mg base (vN.getD i "") "value" (C i)
  np : ∀ i, 17 ≤ i → i < 21 → New1 P w K mg base (vN.getD i "") "position" (C i)
  nt : New1 P w K mg base "InvalidText" "line" (C 21)
  nu : New1 P w K mg base "UnknownWay" "value" (O 9)
  ns : New1 P w K mg base "NoSuch" "value" (O 10)
  sv : ∀ i, i < 22 → Stands K (C i) (famC S M T L) (famB 0)
  su : Stands K (O 9) (famC S M T L) (famB 1)
  ss : Stands K (O 10) (famC S M T L) (famB 1)
section
variable {P : Program} {w : World} {K : PySem.W.Frag} {mg : Str → Option Value} {base : Heap} {C O : Nat → Addr} {S M T L : Addr}
theorem cV_mem {v : V} {c : Addr × List (Str × V)} (h : c ∈ (cV C).map (kept v)) : ∃ i, i < 17 ∧ c = (C i, [(("value" : Str), v)]) := by
  obtain ⟨x, hx, rfl⟩ := List.mem_map.mp h
  obtain ⟨i, hi, rfl⟩ := List.mem_map.mp hx
  exact ⟨i, List.mem_range.mp hi, rfl⟩
theorem cP_mem {v : V} {c : Addr × List (Str × V)} (h : c ∈ (cP C).map (kept v)) : ∃ i, 17 ≤ i ∧ i < 21 ∧ c = (C i, [(("position" : Str), v)]) := by
  obtain ⟨x, hx, rfl⟩ := List.mem_map.mp h
  simp only [cP, List.mem_cons, List.not_mem_nil, or_false] at hx
  rcases hx with rfl | rfl | rfl | rfl | rfl | rfl | rfl | rfl
  · exact ⟨17, by decide, by decide, rfl⟩
  · exact ⟨18, by decide, by decide, rfl⟩
  · exact ⟨19, by decide, by decide, rfl⟩
  · exact ⟨20, by decide, by decide, rfl⟩
  · exact ⟨17, by decide, by decide, rfl⟩
  · exact ⟨18, by decide, by decide, rfl⟩
  · exact ⟨19, by decide, by decide, rfl⟩
  · exact ⟨20, by decide, by decide, rfl⟩
theorem look1 (f : Str) (v : V) : List.lookup f [(f, v)] = some v := by simp [List.lookup]
theorem scVals : FnScope ["_law_pot_here", "_law_odd", "_law_far", "_law_some", "_law_others", "_law_places", "_law_lines", "_law_lost", "_law_e"] ["_law_pot_here"] (defScope sVals) := ⟨rfl, rfl, rfl, by decide +kernel, rfl, by decide +kernel, by decide +kernel⟩
theorem ok_vals {f fT fA fB fC fG fR : Addr} {fd fdT fdA fdB fdC fdG fdR : FuncData} (F : Fun K "_law_values_right" "_law_values_right" sVals f fd) (B : Bl mg) (X : Vls P w K mg base C O S M T L)
    (GT : FnOk P w K mg base CX0 3 fT fdT ["_law_pot_here", "_law_turn"] spThing) (kT : PySem.W.keepIn K (.ref fT) = true) (bT : Binds K fdT ["_law_pot_here", "_law_turn"] []) (mT : mg "_law_thing" = some (.ref fT))
    (GA : FnOk P w K mg base CX0 3 fA fdA ["_law_odd"] (spNews (cV C))) (kA : PySem.W.keepIn K (.ref fA) = true) (bA : Binds K fdA ["_law_odd"] []) (mA : mg "_law_by_value" = some (.ref fA))
    (GB : FnOk P w K mg base CX0 3 fB fdB ["_law_odd"] (spNews (cV C))) (kB : PySem.W.keepIn K (.ref fB) = true) (bB : Binds K fdB ["_law_odd"] []) (mB : mg "_law_by_named_value" = some (.ref fB))
    (GC : FnOk P w K mg base CX0 3 fC fdC ["_law_odd"] (spNews (cP C))) (kC : PySem.W.keepIn K (.ref fC) = true) (bC : Binds K fdC ["_law_odd"] []) (mC : mg "_law_by_place" = some (.ref fC))
    (GG : FnOk P w K mg base CX0 1 fG fdG ["_law_e"] (spGrounds K S M T L)) (kG : PySem.W.keepIn K (.ref fG) = true) (bG : Binds K fdG ["_law_e"] []) (mG : mg "_law_grounds" = some (.ref fG))
    (GR : FnOk P w K mg base CX0 1 fR fdR ["_law_way"] spGround) (kR : PySem.W.keepIn K (.ref fR) = true) (bR : Binds K fdR ["_law_way"] []) (mR : mg "_law_ground" = some (.ref fR)) : FnG P w K mg base CX0 4 f fd ["_law_pot_here"] spPotR := by
  refine F.okG scVals (fun vs H Q E h => ?_) (fun cdv A outer s H vs Q E hg hr h => ?_)
  · obtain ⟨p, rfl, _⟩ := h
    rfl
  · obtain ⟨p, rfl, hP, k⟩ := h
    have r1 := hr.mono (show 1 ≤ 3 by decide)
    have r2 := hr.mono (show 2 ≤ 3 by decide)
    have hu : (A.deeper (envOfC "_law_values_right" (defScope sVals) s.heap.objs.size f cdv)).units + 64 < cLine := by have := hr.un; omega
    refine ⟨_, pss_cons (ps_par (i := 1) (j := 2) rfl scVals.nd rfl rfl (by decide) rfl rfl (pa_cons (pe_call GT hr rfl mT kT bT .nil pass0 (pa_cons (pv 0) (pa_cons pe_int pa_nil))) (pa_cons (pe_call GT hr rfl mT kT bT .nil pass0 (pa_cons (pv 0) (pa_cons pe_int pa_nil))) pa_nil)) rfl)
      (pss_cons (ps_par (i := 3) (j := 4) rfl scVals.nd rfl rfl (by decide) rfl rfl (pa_cons (pe_op op_cat (pe_call GA hr rfl mA kA bA .nil pass0 (pa_cons (pv 1) pa_nil)) (pe_call GB hr rfl mB kB bB .nil pass0 (pa_cons (pv 1) pa_nil))) (pa_cons (pe_call GA hr rfl mA kA bA .nil pass0 (pa_cons (pv 2) pa_nil)) pa_nil)) rfl)
      (pss_cons (ps_par (i := 5) (j := 6) rfl scVals.nd rfl rfl (by decide) rfl rfl (pa_cons (pe_call GC hr rfl mC kC bC .nil pass0 (pa_cons (pv 1) pa_nil)) (pa_cons (pe_lst (pa_cons (pe_new1 X.nt r2 (by rfl) (pv 1)) (pa_cons (pe_new1k X.nt r2 (by rfl) (pv 1)) pa_nil))) pa_nil)) rfl)
      (pss_cons (ps_if (pt_cmpR op_ne (pe_callB (call_reprL hg hu) (by rfl) B.repr boot_repr (pa_cons (pe_lc (te := tXf K "value" (tVar 8)) (own := [("_law_e", 8)]) (g := gName 8) (tt := tYes) rfl scVals.nd (pi_list (pv 3)) (blkOk_by (N := ["_law_pot_here", "_law_odd", "_law_far", "_law_some", "_law_others", "_law_places", "_law_lines", "_law_lost", "_law_e"]) (sc := defScope sVals) (by decide +kernel)) (fun _ _ _ _ _ => pg_name (i := 8) scVals.nd rfl (.inl rfl)) (fun _ _ _ _ _ => pts_nil) (fun _ _ _ _ _ => by exact pe_xf (pv 8))) pa_nil)) (pe_callB (call_reprL hg hu) (by rfl) B.repr boot_repr (pa_cons (pe_op op_rep (pe_lst (pa_cons (pv 1) pa_nil)) pe_int) pa_nil)) (nomark _)) (pss_one (ps_ret pe_bl)) pss_nil)
      (pss_cons (ps_if (pw_or (pt_cmpR op_ne (pe_callB (call_reprL hg hu) (by rfl) B.repr boot_repr (pa_cons (pe_lc (te := tXf K "position" (tVar 8)) (own := [("_law_e", 8)]) (g := gName 8) (tt := tYes) rfl scVals.nd (pi_list (pv 5)) (blkOk_by (N := ["_law_pot_here", "_law_odd", "_law_far", "_law_some", "_law_others", "_law_places", "_law_lines", "_law_lost", "_law_e"]) (sc := defScope sVals) (by decide +kernel)) (fun _ _ _ _ _ => pg_name (i := 8) scVals.nd rfl (.inl rfl)) (fun _ _ _ _ _ => pts_nil) (fun _ _ _ _ _ => by exact pe_xf (pv 8))) pa_nil)) (pe_callB (call_reprL hg hu) (by rfl) B.repr boot_repr (pa_cons (pe_op op_rep (pe_lst (pa_cons (pv 1) pa_nil)) pe_int) pa_nil)) (nomark _)) (pw_or1 (pt_cmpR op_ne (pe_callB (call_reprL hg hu) (by rfl) B.repr boot_repr (pa_cons (pe_lc (te := tXf K "line" (tVar 8)) (own := [("_law_e", 8)]) (g := gName 8) (tt := tYes) rfl scVals.nd (pi_list (pv 6)) (blkOk_by (N := ["_law_pot_here", "_law_odd", "_law_far", "_law_some", "_law_others", "_law_places", "_law_lines", "_law_lost", "_law_e"]) (sc := defScope sVals) (by decide +kernel)) (fun _ _ _ _ _ => pg_name (i := 8) scVals.nd rfl (.inl rfl)) (fun _ _ _ _ _ => pts_nil) (fun _ _ _ _ _ => by exact pe_xf (pv 8))) pa_nil)) (pe_callB (call_reprL hg hu) (by rfl) B.repr boot_repr (pa_cons (pe_op op_rep (pe_lst (pa_cons (pv 1) pa_nil)) pe_int) pa_nil)) (nomark _)))).pt (pss_one (ps_ret pe_bl)) pss_nil)
      (pss_cons (ps_if (pt_cmpR op_ne (pe_callB (call_reprL hg hu) (by rfl) B.repr boot_repr (pa_cons (pe_lc (te := tXf K "value" (tVar 8)) (own := [("_law_e", 8)]) (g := gName 8) (tt := tYes) rfl scVals.nd (pi_list (pv 4)) (blkOk_by (N := ["_law_pot_here", "_law_odd", "_law_far", "_law_some", "_law_others", "_law_places", "_law_lines", "_law_lost", "_law_e"]) (sc := defScope sVals) (by decide +kernel)) (fun _ _ _ _ _ => pg_name (i := 8) scVals.nd rfl (.inl rfl)) (fun _ _ _ _ _ => pts_nil) (fun _ _ _ _ _ => by exact pe_xf (pv 8))) pa_nil)) (pe_callB (call_reprL hg hu) (by rfl) B.repr boot_repr (pa_cons (pe_op op_rep (pe_lst (pa_cons (pv 2) pa_nil)) pe_int) pa_nil)) (nomark _)) (pss_one (ps_ret pe_bl)) pss_nil)
      (pss_cons (ps_if (pt_not (pt_val (pe_callB (cr_all rfl) (by rfl) B.all boot_all (pa_cons (pe_lc (te := tOp (rEqD K) (tCall (spGrounds K S M T L) [] E0 (tCons (tVar 8) tNil)) (tCall spGround [] E0 (tCons (tC (.int 0)) tNil))) (own := [("_law_e", 8)]) (g := gName 8) (tt := tYes) rfl scVals.nd (pi_list (pe_op op_cat (pe_op op_cat (pv 3) (pv 5)) (pv 6))) (blkOk_by (N := ["_law_pot_here", "_law_odd", "_law_far", "_law_some", "_law_others", "_law_places", "_law_lines", "_law_lost", "_law_e"]) (sc := defScope sVals) (by decide +kernel)) (fun _ _ _ _ _ => pg_name (i := 8) scVals.nd rfl (.inl rfl)) (fun _ _ _ _ _ => pts_nil) (fun _ _ _ _ _ => by exact pe_cmpR (op_eqD hu) (pe_call GG r1 rfl mG kG bG .nil pass0 (pa_cons (pv 8) pa_nil)) (pe_call GR r1 rfl mR kR bR .nil pass0 (pa_cons pe_int pa_nil)) (nomark _))) pa_nil)))) (pss_one (ps_ret pe_bl)) pss_nil)
      (pss_cons (ps_set (i := 7) scVals.nd rfl (.inl rfl) (pe_lst (pa_cons (pe_new1 X.nu r2 (by rfl) (pv 1)) (pa_cons (pe_new1 X.ns r2 (by rfl) (pv 1)) (pa_cons (pe_new1k X.nu r2 (by rfl) (pv 2)) (pa_cons (pe_new1k X.ns r2 (by rfl) (pv 2)) pa_nil))))))
      (pss_cons (ps_if (pt_cmpR op_ne (pe_callB (call_reprL hg hu) (by rfl) B.repr boot_repr (pa_cons (pe_lc (te := tXf K "value" (tVar 8)) (own := [("_law_e", 8)]) (g := gName 8) (tt := tYes) rfl scVals.nd (pi_list (pv 7)) (blkOk_by (N := ["_law_pot_here", "_law_odd", "_law_far", "_law_some", "_law_others", "_law_places", "_law_lines", "_law_lost", "_law_e"]) (sc := defScope sVals) (by decide +kernel)) (fun _ _ _ _ _ => pg_name (i := 8) scVals.nd rfl (.inl rfl)) (fun _ _ _ _ _ => pts_nil) (fun _ _ _ _ _ => by exact pe_xf (pv 8))) pa_nil)) (pe_callB (call_reprL hg hu) (by rfl) B.repr boot_repr (pa_cons (pe_lst (pa_cons (pv 1) (pa_cons (pv 1) (pa_cons (pv 2) (pa_cons (pv 2) pa_nil))))) pa_nil)) (nomark _)) (pss_one (ps_ret pe_bl)) pss_nil)
      (pss_one (ps_ret (pe_callB (cr_all rfl) (by rfl) B.all boot_all (pa_cons (pe_lc (te := tOp (rEqD K) (tCall (spGrounds K S M T L) [] E0 (tCons (tVar 8) tNil)) (tCall spGround [] E0 (tCons (tC (.int 1)) tNil))) (own := [("_law_e", 8)]) (g := gName 8) (tt := tYes) rfl scVals.nd (pi_list (pv 7)) (blkOk_by (N := ["_law_pot_here", "_law_odd", "_law_far", "_law_some", "_law_others", "_law_places", "_law_lines", "_law_lost", "_law_e"]) (sc := defScope sVals) (by decide +kernel)) (fun _ _ _ _ _ => pg_name (i := 8) scVals.nd rfl (.inl rfl)) (fun _ _ _ _ _ => pts_nil) (fun _ _ _ _ _ => by exact pe_cmpR (op_eqD hu) (pe_call GG r1 rfl mG kG bG .nil pass0 (pa_cons (pv 8) pa_nil)) (pe_call GR r1 rfl mR kR bR .nil pass0 (pa_cons pe_int pa_nil)) (nomark _))) pa_nil)))))))))))), ?_⟩
    refine ⟨_, rfl, p, 3, rfl, hP, by decide, by decide, fun H1 v d b1 P1 o1 => ⟨_, rfl, p, 4, rfl, P1, by decide, by decide, fun H2 u e b2 P2 o2 => ⟨v, u, rfl, ?_⟩⟩⟩
    have qv : Dq H2 v d := (o1.but b2).dq
    have qu : Dq H2 u e := o2.dq
    refine ⟨_, rfl, v, rfl, fun H3 l1 xs1 s3 n3 x1 w1 => ⟨_, rfl, v, rfl, fun H4 l2 xs2 s4 n4 x2 w2 => ?_⟩⟩
    have e1 : xs1.length = 17 := (Paired.length w1).symm
    have e2 : xs2.length = 17 := (Paired.length w2).symm
    refine ⟨l1, l2, xs1, xs2, rfl, rfl, s4 _ _ x1, x2, big (by omega), fun l3 hl3 => ⟨_, rfl, u, rfl, fun H6 l4 xs4 s6 n6 x4 w4 => ⟨.ref l3, .ref l4, rfl, ?_⟩⟩⟩
    have t4 := Same.new (o := .lst (xs1 ++ xs2)) hl3
    refine ⟨_, rfl, v, rfl, fun H7 l5 xs5 s7 n7 x5 w5 => ⟨_, rfl, fun a1 H8 s8 n8 y1 => ⟨_, rfl, fun a2 H9 s9 n9 y2 => ⟨big (show 2 ≤ 1000 by decide), fun l6 hl6 => ⟨.ref l5, .ref l6, rfl, ?_⟩⟩⟩⟩⟩
    have s10 : Same H9 (upd H9 l6 (.lst [.ref a1, .ref a2])) := Same.new hl6
    have s79 := s8.trans (s9.trans s10)
    have s69 := s7.trans s79
    have s49 := s6.trans s69
    have sall := s3.trans (s4.trans (t4.trans s49))
    have hS := s49 _ _ (upd_same (H := H4) (a := l3) (o := .lst (xs1 ++ xs2)))
    have wS := ((w1.same s4).app w2).same (t4.trans s49)
    have hO := s69 _ _ x4
    have wO := w4.same s69
    have hPl := s79 _ _ x5
    have wP := w5.same s79
    have hL : upd H9 l6 (.lst [.ref a1, .ref a2]) l6 = some (.lst [.ref a1, .ref a2]) := upd_same
    have wL : RNew [(C 21, [(("line" : Str), v)]), (C 21, [(("line" : Str), v)])] [.ref a1, .ref a2] (upd H9 l6 (.lst [.ref a1, .ref a2])) := .cons ⟨a1, rfl, y1.same (s9.trans s10)⟩ (.cons ⟨a2, rfl, y2.same s10⟩ .nil)
    have qv := qv.same sall
    have qu := qu.same sall
    have e4 : xs4.length = 17 := (Paired.length w4).symm
    have e5 : xs5.length = 8 := (Paired.length w5).symm
    have fin : ∀ H', Same (upd H9 l6 (.lst [.ref a1, .ref a2])) H' → Q (.bl true) H' := fun H' s' => k H' (b1.trans (b2.trans (Same.but (sall.trans s') (.refl p _)))) (P2.same (sall.trans s'))
    generalize upd H9 l6 (.lst [.ref a1, .ref a2]) = Z at hS wS hO wO hPl wP hL wL qv qu fin
    have fV : ∀ c ∈ (cV C).map (kept v), XC K c.1 ∧ PySem.W.findIn K (.ref c.1) "value" = some none ∧ c.2.lookup ("value" : Str) = some v := fun c hc => by
      obtain ⟨i, hi, rfl⟩ := cV_mem hc
      exact ⟨(X.nv i hi).t, (X.nv i hi).n, look1 _ _⟩
    have fU : ∀ c ∈ (cV C).map (kept u), XC K c.1 ∧ PySem.W.findIn K (.ref c.1) "value" = some none ∧ c.2.lookup ("value" : Str) = some u := fun c hc => by
      obtain ⟨i, hi, rfl⟩ := cV_mem hc
      exact ⟨(X.nv i hi).t, (X.nv i hi).n, look1 _ _⟩
    have fP : ∀ c ∈ (cP C).map (kept v), XC K c.1 ∧ PySem.W.findIn K (.ref c.1) "position" = some none ∧ c.2.lookup ("position" : Str) = some v := fun c hc => by
      obtain ⟨i, hi, hi', rfl⟩ := cP_mem hc
      exact ⟨(X.np i hi hi').t, (X.np i hi hi').n, look1 _ _⟩
    have zd := o1.1.shw
    have ze := o2.1.shw
    refine rep_ne (ds := List.replicate 34 d) (shw_rep zd 34) (by rw [List.length_replicate]; decide) (gives_fld rfl (by show 8 < 9; decide) hS wS (by decide) (by rw [List.length_append]; omega) (fun c hc => (List.mem_append.mp hc).elim (fV c) (fV c)) qv)
      (fun Z1 z1 => gives_rep rfl (by decide) (qv.same z1)) fun Z1 z1 => ?_
    have wP1 := wP.same z1
    refine rep_ne2 (ds := List.replicate 8 d) (es := List.replicate 2 d) (shw_rep zd 8) (by rw [List.length_replicate]; decide) (shw_rep zd 2) (by rw [List.length_replicate]; decide)
      (gives_fld rfl (by show 8 < 9; decide) (z1 _ _ hPl) wP1 (by decide) e5 fP (qv.same z1)) (fun Z2 z2 => gives_rep rfl (by decide) ((qv.same z1).same z2))
      (fun Z2 z2 => gives_fld rfl (by show 8 < 9; decide) (z2 _ _ (z1 _ _ hL)) ((wL.same z1).same z2) (by decide) rfl (fun c hc => ?_) ((qv.same z1).same z2)) (fun Z2 z2 => gives_rep rfl (by decide) ((qv.same z1).same z2)) fun Z2 z2 => ?_
    · simp only [List.mem_cons, List.not_mem_nil, or_false, or_self] at hc
      rw [hc]
      exact ⟨X.nt.t, X.nt.n, look1 _ _⟩
    have z02 := z1.trans z2
    refine rep_ne (ds := List.replicate 17 e) (shw_rep ze 17) (by rw [List.length_replicate]; decide) (gives_fld rfl (by show 8 < 9; decide) (z02 _ _ hO) (wO.same z02) (by decide) e4 fU (qu.same z02)) (fun Z3 z3 => gives_rep rfl (by decide) ((qu.same z02).same z3)) fun Z3 z3 => ?_
    have z03 := z02.trans z3
    refine not_all (n := 44) (fun R kR => ?_) fun Z4 z4 => ?_
    · refine ⟨_, rfl, _, rfl, l3, l5, _, _, rfl, rfl, z03 _ _ hS, z03 _ _ hPl, big (by rw [List.length_append]; omega), fun q hq => ⟨_, rfl, ?_⟩⟩
      have t1 := Same.new (o := .lst (xs1 ++ xs2 ++ xs5)) hq
      refine ⟨q, l6, _, _, rfl, rfl, upd_same, t1 _ _ (z03 _ _ hL), big (by rw [List.length_append, List.length_append]; show _ + 2 ≤ _; omega), fun t ht => ?_⟩
      have t2 := Same.new (o := .lst (xs1 ++ xs2 ++ xs5 ++ [.ref a1, .ref a2])) ht
      have z05 := z03.trans (t1.trans t2)
      refine ⟨t, rfl, ⟨_, SqL.of upd_same⟩, ?_⟩
      refine gives_gr (j := 0) (S := S) (M := M) (T := T) (L := L) (by decide) (by show 8 < 9; decide) upd_same (((wS.app wP).app wL).same z05) (by decide) (by rw [List.length_append, List.length_append, List.length_append]; show _ + 2 = _; omega) (fun c hc => ?_) R fun H' a vs s' => kR H' a vs ((t1.trans t2).trans s')
      rcases List.mem_append.mp hc with hc | hc
      · rcases List.mem_append.mp hc with hc | hc
        · obtain ⟨i, hi, rfl⟩ := (List.mem_append.mp hc).elim cV_mem cV_mem
          exact ⟨(X.nv i hi).t, X.sv i (by omega)⟩
        · obtain ⟨i, hi, hi', rfl⟩ := cP_mem hc
          exact ⟨(X.np i hi hi').t, X.sv i (by omega)⟩
      · simp only [List.mem_cons, List.not_mem_nil, or_false, or_self] at hc
        rw [hc]
        exact ⟨X.nt.t, X.sv 21 (by decide)⟩
    have z04 := z03.trans z4
    refine go_set ⟨_, rfl, fun a3 Z5 z5 m5 y5 => ⟨_, rfl, fun a4 Z6 z6 m6 y6 => ⟨_, rfl, fun a5 Z7 z7 m7 y7 => ⟨_, rfl, fun a6 Z8 z8 m8 y8 => ⟨big (show 4 ≤ 1000 by decide), fun l7 hl7 => ?_⟩⟩⟩⟩⟩
    have z9 := Same.new (o := .lst [.ref a3, .ref a4, .ref a5, .ref a6]) hl7
    have z89 := z8.trans z9
    have z79 := z7.trans z89
    have z69 := z6.trans z79
    have z09 := z04.trans (z5.trans z69)
    have wN : RNew [(O 9, [(("value" : Str), v)]), (O 10, [(("value" : Str), v)]), (O 9, [(("value" : Str), u)]), (O 10, [(("value" : Str), u)])] [.ref a3, .ref a4, .ref a5, .ref a6] (upd Z8 l7 (.lst [.ref a3, .ref a4, .ref a5, .ref a6])) :=
      .cons ⟨a3, rfl, y5.same z69⟩ (.cons ⟨a4, rfl, y6.same z79⟩ (.cons ⟨a5, rfl, y7.same z89⟩ (.cons ⟨a6, rfl, y8.same z9⟩ .nil)))
    have qv9 := qv.same z09
    have qu9 := qu.same z09
    refine rep_ne (ds := [d, d, e, e]) (shw_cons zd (shw_cons zd (shw_cons ze (shw_cons ze shw_nil)))) (by show 4 ≤ 1000; decide) (fun R kR => lc_var rfl upd_same (lcd_go (by show 8 < 9; decide) upd_same (by show 4 ≤ 1000; decide) rfl (el_fld wN fun k c d' hc' hd' => ?_) fun H' Dl vals s' _ x' q' => kR H' Dl vals s' x' q'))
      (fun Z1 z1 R kR => ⟨_, rfl, _, rfl, _, rfl, _, rfl, big (show 4 ≤ 1000 by decide), fun l hl => kR _ l _ (Same.new hl) upd_same ?_⟩) fun ZZ zz => ?_
    · match k, hc', hd' with
      | 0, hc', hd' => exact Option.some.inj hc' ▸ Option.some.inj hd' ▸ ⟨v, X.nu.t, X.nu.n, look1 _ _, qv9⟩
      | 1, hc', hd' => exact Option.some.inj hc' ▸ Option.some.inj hd' ▸ ⟨v, X.ns.t, X.ns.n, look1 _ _, qv9⟩
      | 2, hc', hd' => exact Option.some.inj hc' ▸ Option.some.inj hd' ▸ ⟨u, X.nu.t, X.nu.n, look1 _ _, qu9⟩
      | 3, hc', hd' => exact Option.some.inj hc' ▸ Option.some.inj hd' ▸ ⟨u, X.ns.t, X.ns.n, look1 _ _, qu9⟩
      | n + 4, hc', hd' => exact nomatch hc'
    · have qv' := qv9.same (z1.trans (Same.new (o := .lst [v, v, u, u]) hl))
      have qu' := qu9.same (z1.trans (Same.new (o := .lst [v, v, u, u]) hl))
      exact .cons qv' (.cons qv' (.cons qu' (.cons qu' .nil)))
    have wN' := wN.same zz
    refine all_read (n := 4) (fun R kR => lc_var rfl (zz _ _ upd_same) (gives_gr (j := 1) (n := 4) (S := S) (M := M) (T := T) (L := L) (by decide) (by show 8 < 9; decide) (zz _ _ upd_same) wN' (by decide) rfl (fun c hc => ?_) R kR)) fun H' s' => fin H' (z09.trans (zz.trans s'))
    simp only [List.mem_cons, List.not_mem_nil, or_false] at hc
    rcases hc with rfl | rfl | rfl | rfl
    · exact ⟨X.nu.t, X.su⟩
    · exact ⟨X.ns.t, X.ss⟩
    · exact ⟨X.nu.t, X.su⟩
    · exact ⟨X.ns.t, X.ss⟩
end
end K10
set_option Elab.async false
set_option linter.all false
set_option maxRecDepth 100000
set_option maxHeartbeats 4000000
namespace K10
open PySem PySem.Spec PyProof.Rows L2 L2H PySem.XM
abbrev sSts : Stmt := top 53
abbrev sLim : Stmt := top 54
/-- the classes of errors of states and of limits -/
structure Sts (P : Program) (w : World) (K : PySem.W.Frag) (mg : Str → Option Value) (base : Heap) (O : Nat → Addr) (S M T L : Addr) : Prop where
  n0 : New2 P w K mg base "OtherSteps" "one" "other" (O 0)
  n1 : New2 P w K mg base "OtherStair" "one" "other" (O 1)
  n2 : New1 P w K mg base "NotTogether" "value" (O 2)
  n3 : New0 K mg "NothingFits" (O 3)
  n4 : New0 K mg "Endless" (O 4)
  n5 : New2 P w K mg base "NotBetween" "least" "greatest" (O 5)
  n6 : New1 P w K mg base "Unmeeting" "value" (O 6)
  n7 : New0 K mg "NothingToUndo" (O 7)
  n8 : New1 P w K mg base "CommandFailed" "position" (O 8)
  nl : New2 P w K mg base "TooMany" "what" "limit" (O 11)
  st : ∀ i, i < 9 → Stands K (O i) (famC S M T L) (famB 2)
  sl : Stands K (O 11) (famC S M T L) (famB 3)
theorem Okd.pair {a b : PyData} (ha : Okd a) (hb : Okd b) : Shw (.tuple [a, b]) := shw_pair ha.shw hb.shw (by have := ha.l; omega) (by have := hb.l; omega) (by have := ha.d; omega) (by have := hb.d; omega)
section
variable {K : PySem.W.Frag} {σ : L2.St} {H : Hp}
/-- [(x, y)] * n -/
theorem gives_prep {j l n : Nat} {v u : V} {d e : PyData} (hj : σ[j]? = some (some v)) (hl : σ[l]? = some (some u)) (hn : n ≤ 100) (q : Dq H v d) (q' : Dq H u e) :
    Gives (tOp rRep (tLst (tCons (tTup (tCons (tVar j) (tCons (tVar l) tNil))) tNil)) (tC (.int (n : Int)))) σ H (List.replicate n (.tuple [d, e])) := fun R k => by
  refine ⟨v, hj, u, hl, big (show 2 ≤ 1000 by decide), fun t ht => ⟨big (show 1 ≤ 1000 by decide), fun l hl => ?_⟩⟩
  have s0 : Same H (upd H t (.tup [v, u])) := Same.new ht
  have s1 := Same.new (o := .lst [.ref t]) hl
  refine ⟨l, n, _, rfl, rfl, upd_same, by omega, by omega, big (by rw [List.length_singleton]; omega), fun p hp => ?_⟩
  have s2 := Same.new (o := .lst (List.replicate ((n : Int).toNat) [V.ref t]).flatten) hp
  have s := s0.trans (s1.trans s2)
  refine k _ p (List.replicate n (.ref t)) s ?_ (DqAll.rep (.tup (s2 _ _ (s1 _ _ upd_same)) (.cons (q.same s) (.cons (q'.same s) .nil))) n)
  rw [upd_same, Int.toNat_natCast, List.flatten_replicate_singleton]
theorem gives_pairs {j i n : Nat} {f g : Str} {v u : V} {d e : PyData} {a : Addr} {xs : List V} {cs : List (Addr × List (Str × V))} (hs : σ[j]? = some (some (.ref a))) (hi : i < σ.length) (ha : H a = some (.lst xs)) (r : RNew cs xs H) (hn : n ≤ 1000) (hl : xs.length = n)
    (hc : ∀ c ∈ cs, XC K c.1 ∧ PySem.W.findIn K (.ref c.1) f = some none ∧ PySem.W.findIn K (.ref c.1) g = some none ∧ c.2.lookup f = some v ∧ c.2.lookup g = some u) (q : Dq H v d) (q' : Dq H u e) : Gives (tLc (iList K (tVar j)) (gName i) tYes (tTup (tCons (tXf K f (tVar i)) (tCons (tXf K g (tVar i)) tNil))) [i]) σ H (List.replicate n (.tuple [d, e])) := fun R kR =>
  lc_var hs ha (lcd_go hi ha (by omega) (by rw [List.length_replicate, hl]) (el_pair r fun k c d' hc' hd' => by
    obtain ⟨T, hn', hm', l, m⟩ := hc c (List.mem_of_getElem? hc')
    exact ⟨v, u, d, e, T, hn', hm', l, m, q, q', List.eq_of_mem_replicate (List.mem_of_getElem? hd')⟩) fun H' Dl vals s' _ x' q' => kR H' Dl vals s' x' q')
end
section
variable {P : Program} {w : World} {K : PySem.W.Frag} {mg : Str → Option Value} {base : Heap} {O : Nat → Addr} {S M T L : Addr}
theorem scLim : FnScope ["_law_pot_here", "_law_odd", "_law_far", "_law_some", "_law_e"] ["_law_pot_here"] (defScope sLim) := ⟨rfl, rfl, rfl, by decide +kernel, rfl, by decide +kernel, by decide +kernel⟩
theorem ok_limits {f fT fG fR : Addr} {fd fdT fdG fdR : FuncData} (F : Fun K "_law_limits_right" "_law_limits_right" sLim f fd) (B : Bl mg) (X : Sts P w K mg base O S M T L)
    (GT : FnOk P w K mg base CX0 3 fT fdT ["_law_pot_here", "_law_turn"] spThing) (kT : PySem.W.keepIn K (.ref fT) = true) (bT : Binds K fdT ["_law_pot_here", "_law_turn"] []) (mT : mg "_law_thing" = some (.ref fT))
    (GG : FnOk P w K mg base CX0 1 fG fdG ["_law_e"] (spGrounds K S M T L)) (kG : PySem.W.keepIn K (.ref fG) = true) (bG : Binds K fdG ["_law_e"] []) (mG : mg "_law_grounds" = some (.ref fG))
    (GR : FnOk P w K mg base CX0 1 fR fdR ["_law_way"] spGround) (kR : PySem.W.keepIn K (.ref fR) = true) (bR : Binds K fdR ["_law_way"] []) (mR : mg "_law_ground" = some (.ref fR)) : FnG P w K mg base CX0 4 f fd ["_law_pot_here"] spPotR := by
  refine F.okG scLim (fun vs H Q E h => ?_) (fun cdv A outer s H vs Q E hg hr h => ?_)
  · obtain ⟨p, rfl, _⟩ := h
    rfl
  · obtain ⟨p, rfl, hP, k⟩ := h
    have r1 := hr.mono (show 1 ≤ 3 by decide)
    have r2 := hr.mono (show 2 ≤ 3 by decide)
    have hu : (A.deeper (envOfC "_law_limits_right" (defScope sLim) s.heap.objs.size f cdv)).units + 64 < cLine := by have := hr.un; omega
    refine ⟨_, pss_cons (ps_par (i := 1) (j := 2) rfl scLim.nd rfl rfl (by decide) rfl rfl (pa_cons (pe_call GT hr rfl mT kT bT .nil pass0 (pa_cons (pv 0) (pa_cons pe_int pa_nil))) (pa_cons (pe_call GT hr rfl mT kT bT .nil pass0 (pa_cons (pv 0) (pa_cons pe_int pa_nil))) pa_nil)) rfl)
      (pss_cons (ps_set (i := 3) scLim.nd rfl (.inl rfl) (pe_lst (pa_cons (pe_new2 X.nl r2 (by rfl) (pv 1) (pv 2)) (pa_cons (pe_new2k X.nl r2 (by rfl) (pv 1) (pv 2)) pa_nil))))
      (pss_cons (ps_if (pt_cmpR op_ne (pe_callB (call_reprL hg hu) (by rfl) B.repr boot_repr (pa_cons (pe_lc (te := tTup (tCons (tXf K "what" (tVar 4)) (tCons (tXf K "limit" (tVar 4)) tNil))) (own := [("_law_e", 4)]) (g := gName 4) (tt := tYes) rfl scLim.nd (pi_list (pv 3)) (blkOk_by (N := ["_law_pot_here", "_law_odd", "_law_far", "_law_some", "_law_e"]) (sc := defScope sLim) (by decide +kernel)) (fun _ _ _ _ _ => pg_name (i := 4) scLim.nd rfl (.inl rfl)) (fun _ _ _ _ _ => pts_nil) (fun _ _ _ _ _ => by exact pe_tup (by exact pa_cons (by exact pe_xf (pv 4)) (by exact pa_cons (by exact pe_xf (pv 4)) pa_nil)))) pa_nil)) (pe_callB (call_reprL hg hu) (by rfl) B.repr boot_repr (pa_cons (pe_lst (pa_cons (pe_tup (pa_cons (pv 1) (pa_cons (pv 2) pa_nil))) (pa_cons (pe_tup (pa_cons (pv 2) (pa_cons (pv 1) pa_nil))) pa_nil))) pa_nil)) (nomark _)) (pss_one (ps_ret pe_bl)) pss_nil)
      (pss_one (ps_ret (pe_callB (cr_all rfl) (by rfl) B.all boot_all (pa_cons (pe_lc (te := tOp (rEqD K) (tCall (spGrounds K S M T L) [] E0 (tCons (tVar 4) tNil)) (tCall spGround [] E0 (tCons (tC (.int 3)) tNil))) (own := [("_law_e", 4)]) (g := gName 4) (tt := tYes) rfl scLim.nd (pi_list (pv 3)) (blkOk_by (N := ["_law_pot_here", "_law_odd", "_law_far", "_law_some", "_law_e"]) (sc := defScope sLim) (by decide +kernel)) (fun _ _ _ _ _ => pg_name (i := 4) scLim.nd rfl (.inl rfl)) (fun _ _ _ _ _ => pts_nil) (fun _ _ _ _ _ => by exact pe_cmpR (op_eqD hu) (pe_call GG r1 rfl mG kG bG .nil pass0 (pa_cons (pv 4) pa_nil)) (pe_call GR r1 rfl mR kR bR .nil pass0 (pa_cons pe_int pa_nil)) (nomark _))) pa_nil)))))), ?_⟩
    refine ⟨_, rfl, p, 7, rfl, hP, by decide, by decide, fun H1 v d b1 P1 o1 => ⟨_, rfl, p, 8, rfl, P1, by decide, by decide, fun H2 u e b2 P2 o2 => ⟨v, u, rfl, ?_⟩⟩⟩
    have qv : Dq H2 v d := (o1.but b2).dq
    have qu : Dq H2 u e := o2.dq
    refine ⟨_, rfl, _, rfl, fun a1 H3 s3 m3 y1 => ⟨_, rfl, _, rfl, fun a2 H4 s4 m4 y2 => ⟨big (show 2 ≤ 1000 by decide), fun l hl => ?_⟩⟩⟩
    have s5 : Same H4 (upd H4 l (.lst [.ref a1, .ref a2])) := Same.new hl
    have hL : upd H4 l (.lst [.ref a1, .ref a2]) l = some (.lst [.ref a1, .ref a2]) := upd_same
    have s25 := s3.trans (s4.trans s5)
    have wL : RNew [(O 11, [(("limit" : Str), u), ("what", v)]), (O 11, [(("limit" : Str), v), ("what", u)])] [.ref a1, .ref a2] (upd H4 l (.lst [.ref a1, .ref a2])) := .cons ⟨a1, rfl, y1.same (s4.trans s5)⟩ (.cons ⟨a2, rfl, y2.same s5⟩ .nil)
    have qv := qv.same s25
    have qu := qu.same s25
    have fin : ∀ H', Same (upd H4 l (.lst [.ref a1, .ref a2])) H' → Q (.bl true) H' := fun H' s' => k H' (b1.trans (b2.trans (Same.but (s25.trans s') (.refl p _)))) (P2.same (s25.trans s'))
    generalize upd H4 l (.lst [.ref a1, .ref a2]) = Z at hL wL qv qu fin
    refine rep_ne (ds := [.tuple [d, e], .tuple [e, d]]) (shw_cons (o1.1.pair o2.1) (shw_cons (o2.1.pair o1.1) shw_nil)) (by show 2 ≤ 1000; decide) (fun R kR => lc_var rfl hL (lcd_go (by show 4 < 5; decide) hL (by show 2 ≤ 1000; decide) rfl (el_pair wL fun k c d' hc' hd' => ?_) fun H' Dl vals s' _ x' q' => kR H' Dl vals s' x' q'))
      (fun Z1 z1 R kR => ⟨_, rfl, _, rfl, big (show 2 ≤ 1000 by decide), fun t ht => ⟨_, rfl, _, rfl, big (show 2 ≤ 1000 by decide), fun t' ht' => ⟨big (show 2 ≤ 1000 by decide), fun r hr' => kR _ r _ ((Same.new ht).trans ((Same.new ht').trans (Same.new hr'))) upd_same ?_⟩⟩⟩) fun ZZ zz => ?_
    · match k, hc', hd' with
      | 0, hc', hd' => exact Option.some.inj hc' ▸ Option.some.inj hd' ▸ ⟨v, u, d, e, X.nl.t, X.nl.n, X.nl.o, rfl, rfl, qv, qu, rfl⟩
      | 1, hc', hd' => exact Option.some.inj hc' ▸ Option.some.inj hd' ▸ ⟨u, v, e, d, X.nl.t, X.nl.n, X.nl.o, rfl, rfl, qu, qv, rfl⟩
      | n + 2, hc', hd' => exact nomatch hc'
    · have t1 : Same Z1 (upd Z1 t (.tup [v, u])) := Same.new ht
      have t2 := Same.new (o := .tup [u, v]) ht'
      have t3 := Same.new (o := .lst [.ref t, .ref t']) hr'
      have qv' := qv.same (z1.trans (t1.trans (t2.trans t3)))
      have qu' := qu.same (z1.trans (t1.trans (t2.trans t3)))
      exact .cons (.tup (t3 _ _ (t2 _ _ upd_same)) (.cons qv' (.cons qu' .nil))) (.cons (.tup (t3 _ _ upd_same) (.cons qu' (.cons qv' .nil))) .nil)
    refine all_read (n := 2) (fun R kR => lc_var rfl (zz _ _ hL) (gives_gr (j := 3) (n := 2) (S := S) (M := M) (T := T) (L := L) (by decide) (by show 4 < 5; decide) (zz _ _ hL) (wL.same zz) (by decide) rfl (fun c hc => ?_) R kR)) fun H' s' => fin H' (zz.trans s')
    simp only [List.mem_cons, List.not_mem_nil, or_false] at hc
    rcases hc with rfl | rfl
    · exact ⟨X.nl.t, X.sl⟩
    · exact ⟨X.nl.t, X.sl⟩
theorem scSts : FnScope ["_law_pot_here", "_law_odd", "_law_far", "_law_pairs", "_law_between", "_law_some", "_law_plain", "_law_e"] ["_law_pot_here"] (defScope sSts) := ⟨rfl, rfl, rfl, by decide +kernel, rfl, by decide +kernel, by decide +kernel⟩
theorem ok_states {f fT fG fR : Addr} {fd fdT fdG fdR : FuncData} (F : Fun K "_law_states_right" "_law_states_right" sSts f fd) (B : Bl mg) (X : Sts P w K mg base O S M T L)
    (GT : FnOk P w K mg base CX0 3 fT fdT ["_law_pot_here", "_law_turn"] spThing) (kT : PySem.W.keepIn K (.ref fT) = true) (bT : Binds K fdT ["_law_pot_here", "_law_turn"] []) (mT : mg "_law_thing" = some (.ref fT))
    (GG : FnOk P w K mg base CX0 1 fG fdG ["_law_e"] (spGrounds K S M T L)) (kG : PySem.W.keepIn K (.ref fG) = true) (bG : Binds K fdG ["_law_e"] []) (mG : mg "_law_grounds" = some (.ref fG))
    (GR : FnOk P w K mg base CX0 1 fR fdR ["_law_way"] spGround) (kR : PySem.W.keepIn K (.ref fR) = true) (bR : Binds K fdR ["_law_way"] []) (mR : mg "_law_ground" = some (.ref fR)) : FnG P w K mg base CX0 4 f fd ["_law_pot_here"] spPotR := by
  refine F.okG scSts (fun vs H Q E h => ?_) (fun cdv A outer s H vs Q E hg hr h => ?_)
  · obtain ⟨p, rfl, _⟩ := h
    rfl
  · obtain ⟨p, rfl, hP, k⟩ := h
    have r1 := hr.mono (show 1 ≤ 3 by decide)
    have r2 := hr.mono (show 2 ≤ 3 by decide)
    have hu : (A.deeper (envOfC "_law_states_right" (defScope sSts) s.heap.objs.size f cdv)).units + 64 < cLine := by have := hr.un; omega
    refine ⟨_, pss_cons (ps_par (i := 1) (j := 2) rfl scSts.nd rfl rfl (by decide) rfl rfl (pa_cons (pe_call GT hr rfl mT kT bT .nil pass0 (pa_cons (pv 0) (pa_cons pe_int pa_nil))) (pa_cons (pe_call GT hr rfl mT kT bT .nil pass0 (pa_cons (pv 0) (pa_cons pe_int pa_nil))) pa_nil)) rfl)
      (pss_cons (ps_set (i := 3) scSts.nd rfl (.inl rfl) (pe_lst (pa_cons (pe_new2 X.n0 r2 (by rfl) (pv 1) (pv 2)) (pa_cons (pe_new2 X.n1 r2 (by rfl) (pv 1) (pv 2)) (pa_cons (pe_new2k X.n0 r2 (by rfl) (pv 2) (pv 1)) (pa_cons (pe_new2k X.n1 r2 (by rfl) (pv 2) (pv 1)) pa_nil))))))
      (pss_cons (ps_if (pt_cmpR op_ne (pe_callB (call_reprL hg hu) (by rfl) B.repr boot_repr (pa_cons (pe_lc (te := tTup (tCons (tXf K "one" (tVar 7)) (tCons (tXf K "other" (tVar 7)) tNil))) (own := [("_law_e", 7)]) (g := gName 7) (tt := tYes) rfl scSts.nd (pi_list (pv 3)) (blkOk_by (N := ["_law_pot_here", "_law_odd", "_law_far", "_law_pairs", "_law_between", "_law_some", "_law_plain", "_law_e"]) (sc := defScope sSts) (by decide +kernel)) (fun _ _ _ _ _ => pg_name (i := 7) scSts.nd rfl (.inl rfl)) (fun _ _ _ _ _ => pts_nil) (fun _ _ _ _ _ => by exact pe_tup (by exact pa_cons (by exact pe_xf (pv 7)) (by exact pa_cons (by exact pe_xf (pv 7)) pa_nil)))) pa_nil)) (pe_callB (call_reprL hg hu) (by rfl) B.repr boot_repr (pa_cons (pe_op op_rep (pe_lst (pa_cons (pe_tup (pa_cons (pv 1) (pa_cons (pv 2) pa_nil))) pa_nil)) pe_int) pa_nil)) (nomark _)) (pss_one (ps_ret pe_bl)) pss_nil)
      (pss_cons (ps_set (i := 4) scSts.nd rfl (.inl rfl) (pe_lst (pa_cons (pe_new2 X.n5 r2 (by rfl) (pv 1) (pv 2)) (pa_cons (pe_new2k X.n5 r2 (by rfl) (pv 2) (pv 1)) pa_nil))))
      (pss_cons (ps_if (pt_cmpR op_ne (pe_callB (call_reprL hg hu) (by rfl) B.repr boot_repr (pa_cons (pe_lc (te := tTup (tCons (tXf K "least" (tVar 7)) (tCons (tXf K "greatest" (tVar 7)) tNil))) (own := [("_law_e", 7)]) (g := gName 7) (tt := tYes) rfl scSts.nd (pi_list (pv 4)) (blkOk_by (N := ["_law_pot_here", "_law_odd", "_law_far", "_law_pairs", "_law_between", "_law_some", "_law_plain", "_law_e"]) (sc := defScope sSts) (by decide +kernel)) (fun _ _ _ _ _ => pg_name (i := 7) scSts.nd rfl (.inl rfl)) (fun _ _ _ _ _ => pts_nil) (fun _ _ _ _ _ => by exact pe_tup (by exact pa_cons (by exact pe_xf (pv 7)) (by exact pa_cons (by exact pe_xf (pv 7)) pa_nil)))) pa_nil)) (pe_callB (call_reprL hg hu) (by rfl) B.repr boot_repr (pa_cons (pe_op op_rep (pe_lst (pa_cons (pe_tup (pa_cons (pv 1) (pa_cons (pv 2) pa_nil))) pa_nil)) pe_int) pa_nil)) (nomark _)) (pss_one (ps_ret pe_bl)) pss_nil)
      (pss_cons (ps_set (i := 5) scSts.nd rfl (.inl rfl) (pe_lst (pa_cons (pe_new1 X.n2 r2 (by rfl) (pv 1)) (pa_cons (pe_new1 X.n6 r2 (by rfl) (pv 1)) (pa_cons (pe_new1k X.n2 r2 (by rfl) (pv 2)) (pa_cons (pe_new1k X.n6 r2 (by rfl) (pv 2)) pa_nil))))))
      (pss_cons (ps_if (pt_cmpR op_ne (pe_callB (call_reprL hg hu) (by rfl) B.repr boot_repr (pa_cons (pe_lc (te := tXf K "value" (tVar 7)) (own := [("_law_e", 7)]) (g := gName 7) (tt := tYes) rfl scSts.nd (pi_list (pv 5)) (blkOk_by (N := ["_law_pot_here", "_law_odd", "_law_far", "_law_pairs", "_law_between", "_law_some", "_law_plain", "_law_e"]) (sc := defScope sSts) (by decide +kernel)) (fun _ _ _ _ _ => pg_name (i := 7) scSts.nd rfl (.inl rfl)) (fun _ _ _ _ _ => pts_nil) (fun _ _ _ _ _ => by exact pe_xf (pv 7))) pa_nil)) (pe_callB (call_reprL hg hu) (by rfl) B.repr boot_repr (pa_cons (pe_lst (pa_cons (pv 1) (pa_cons (pv 1) (pa_cons (pv 2) (pa_cons (pv 2) pa_nil))))) pa_nil)) (nomark _)) (pss_one (ps_ret pe_bl)) pss_nil)
      (pss_cons (ps_set (i := 6) scSts.nd rfl (.inl rfl) (pe_lst (pa_cons (pe_new0 X.n3 (by rfl)) (pa_cons (pe_new0 X.n4 (by rfl)) (pa_cons (pe_new0 X.n7 (by rfl)) (pa_cons (pe_new1 X.n8 r2 (by rfl) (pv 1)) (pa_cons (pe_new1k X.n8 r2 (by rfl) (pv 2)) pa_nil)))))))
      (pss_cons (ps_if (pt_cmpR op_ne (pe_callB (call_reprL hg hu) (by rfl) B.repr boot_repr (pa_cons (pe_lst (pa_cons (pe_xf (pe_ix ix_list (pv 6) pe_int (fun _ _ => rfl))) (pa_cons (pe_xf (pe_ix ix_list (pv 6) pe_int (fun _ _ => rfl))) pa_nil))) pa_nil)) (pe_callB (call_reprL hg hu) (by rfl) B.repr boot_repr (pa_cons (pe_lst (pa_cons (pv 1) (pa_cons (pv 2) pa_nil))) pa_nil)) (nomark _)) (pss_one (ps_ret pe_bl)) pss_nil)
      (pss_one (ps_ret (pe_callB (cr_all rfl) (by rfl) B.all boot_all (pa_cons (pe_lc (te := tOp (rEqD K) (tCall (spGrounds K S M T L) [] E0 (tCons (tVar 7) tNil)) (tCall spGround [] E0 (tCons (tC (.int 2)) tNil))) (own := [("_law_e", 7)]) (g := gName 7) (tt := tYes) rfl scSts.nd (pi_list (pe_op op_cat (pe_op op_cat (pe_op op_cat (pv 3) (pv 4)) (pv 5)) (pv 6))) (blkOk_by (N := ["_law_pot_here", "_law_odd", "_law_far", "_law_pairs", "_law_between", "_law_some", "_law_plain", "_law_e"]) (sc := defScope sSts) (by decide +kernel)) (fun _ _ _ _ _ => pg_name (i := 7) scSts.nd rfl (.inl rfl)) (fun _ _ _ _ _ => pts_nil) (fun _ _ _ _ _ => by exact pe_cmpR (op_eqD hu) (pe_call GG r1 rfl mG kG bG .nil pass0 (pa_cons (pv 7) pa_nil)) (pe_call GR r1 rfl mR kR bR .nil pass0 (pa_cons pe_int pa_nil)) (nomark _))) pa_nil)))))))))))), ?_⟩
    refine ⟨_, rfl, p, 5, rfl, hP, by decide, by decide, fun H1 v d b1 P1 o1 => ⟨_, rfl, p, 6, rfl, P1, by decide, by decide, fun H2 u e b2 P2 o2 => ⟨v, u, rfl, ?_⟩⟩⟩
    have qv : Dq H2 v d := (o1.but b2).dq
    have qu : Dq H2 u e := o2.dq
    refine ⟨_, rfl, _, rfl, fun a1 H3 s3 m3 y1 => ⟨_, rfl, _, rfl, fun a2 H4 s4 m4 y2 => ⟨_, rfl, _, rfl, fun a3 H5 s5 m5 y3 => ⟨_, rfl, _, rfl, fun a4 H6 s6 m6 y4 => ⟨big (show 4 ≤ 1000 by decide), fun l3 hl3 => ?_⟩⟩⟩⟩⟩
    have s7 : Same H6 (upd H6 l3 (.lst [.ref a1, .ref a2, .ref a3, .ref a4])) := Same.new hl3
    have h3 : upd H6 l3 (.lst [.ref a1, .ref a2, .ref a3, .ref a4]) l3 = some (.lst [.ref a1, .ref a2, .ref a3, .ref a4]) := upd_same
    have w3 : RNew [(O 0, [(("other" : Str), u), ("one", v)]), (O 1, [(("other" : Str), u), ("one", v)]), (O 0, [(("other" : Str), u), ("one", v)]), (O 1, [(("other" : Str), u), ("one", v)])] [.ref a1, .ref a2, .ref a3, .ref a4] (upd H6 l3 (.lst [.ref a1, .ref a2, .ref a3, .ref a4])) :=
      .cons ⟨a1, rfl, y1.same (s4.trans (s5.trans (s6.trans s7)))⟩ (.cons ⟨a2, rfl, y2.same (s5.trans (s6.trans s7))⟩ (.cons ⟨a3, rfl, y3.same (s6.trans s7)⟩ (.cons ⟨a4, rfl, y4.same s7⟩ .nil)))
    have s27 := s3.trans (s4.trans (s5.trans (s6.trans s7)))
    have qv := qv.same s27
    have qu := qu.same s27
    have fin : ∀ H', Same (upd H6 l3 (.lst [.ref a1, .ref a2, .ref a3, .ref a4])) H' → Q (.bl true) H' := fun H' s' => k H' (b1.trans (b2.trans (Same.but (s27.trans s') (.refl p _)))) (P2.same (s27.trans s'))
    generalize upd H6 l3 (.lst [.ref a1, .ref a2, .ref a3, .ref a4]) = Z at h3 w3 qv qu fin
    refine rep_ne (ds := List.replicate 4 (.tuple [d, e])) (shw_rep (o1.1.pair o2.1) 4) (by rw [List.length_replicate]; decide) (gives_pairs rfl (by show 7 < 8; decide) h3 w3 (by decide) rfl (fun c hc => ?_) qv qu) (fun Z1 z1 => gives_prep rfl rfl (by decide) (qv.same z1) (qu.same z1)) fun Z1 z1 => ?_
    · simp only [List.mem_cons, List.not_mem_nil, or_false] at hc
      rcases hc with rfl | rfl | rfl | rfl
      · exact ⟨X.n0.t, X.n0.n, X.n0.o, rfl, rfl⟩
      · exact ⟨X.n1.t, X.n1.n, X.n1.o, rfl, rfl⟩
      · exact ⟨X.n0.t, X.n0.n, X.n0.o, rfl, rfl⟩
      · exact ⟨X.n1.t, X.n1.n, X.n1.o, rfl, rfl⟩
    refine go_set ?_
    refine ⟨_, rfl, _, rfl, fun a5 H8 s8 m8 y5 => ⟨_, rfl, _, rfl, fun a6 H9 s9 m9 y6 => ⟨big (show 2 ≤ 1000 by decide), fun l4 hl4 => ?_⟩⟩⟩
    have s10 : Same H9 (upd H9 l4 (.lst [.ref a5, .ref a6])) := Same.new hl4
    have h4 : upd H9 l4 (.lst [.ref a5, .ref a6]) l4 = some (.lst [.ref a5, .ref a6]) := upd_same
    have w4 : RNew [(O 5, [(("greatest" : Str), u), ("least", v)]), (O 5, [(("greatest" : Str), u), ("least", v)])] [.ref a5, .ref a6] (upd H9 l4 (.lst [.ref a5, .ref a6])) := .cons ⟨a5, rfl, y5.same (s9.trans s10)⟩ (.cons ⟨a6, rfl, y6.same s10⟩ .nil)
    have z2 := z1.trans (s8.trans (s9.trans s10))
    generalize upd H9 l4 (.lst [.ref a5, .ref a6]) = Z2 at h4 w4 z2
    refine rep_ne (ds := List.replicate 2 (.tuple [d, e])) (shw_rep (o1.1.pair o2.1) 2) (by rw [List.length_replicate]; decide) (gives_pairs rfl (by show 7 < 8; decide) h4 w4 (by decide) rfl (fun c hc => ?_) (qv.same z2) (qu.same z2)) (fun Z3 z3 => gives_prep rfl rfl (by decide) (qv.same (z2.trans z3)) (qu.same (z2.trans z3))) fun Z3 z3 => ?_
    · simp only [List.mem_cons, List.not_mem_nil, or_false, or_self] at hc
      rw [hc]
      exact ⟨X.n5.t, X.n5.n, X.n5.o, rfl, rfl⟩
    refine go_set ?_
    refine ⟨_, rfl, fun a7 H11 s11 m11 y7 => ⟨_, rfl, fun a8 H12 s12 m12 y8 => ⟨_, rfl, fun a9 H13 s13 m13 y9 => ⟨_, rfl, fun a10 H14 s14 m14 y10 => ⟨big (show 4 ≤ 1000 by decide), fun l5 hl5 => ?_⟩⟩⟩⟩⟩
    have s15 : Same H14 (upd H14 l5 (.lst [.ref a7, .ref a8, .ref a9, .ref a10])) := Same.new hl5
    have h5 : upd H14 l5 (.lst [.ref a7, .ref a8, .ref a9, .ref a10]) l5 = some (.lst [.ref a7, .ref a8, .ref a9, .ref a10]) := upd_same
    have w5 : RNew [(O 2, [(("value" : Str), v)]), (O 6, [(("value" : Str), v)]), (O 2, [(("value" : Str), u)]), (O 6, [(("value" : Str), u)])] [.ref a7, .ref a8, .ref a9, .ref a10] (upd H14 l5 (.lst [.ref a7, .ref a8, .ref a9, .ref a10])) :=
      .cons ⟨a7, rfl, y7.same (s12.trans (s13.trans (s14.trans s15)))⟩ (.cons ⟨a8, rfl, y8.same (s13.trans (s14.trans s15))⟩ (.cons ⟨a9, rfl, y9.same (s14.trans s15)⟩ (.cons ⟨a10, rfl, y10.same s15⟩ .nil)))
    have z4 := z3.trans (s11.trans (s12.trans (s13.trans (s14.trans s15))))
    generalize upd H14 l5 (.lst [.ref a7, .ref a8, .ref a9, .ref a10]) = Z4 at h5 w5 z4
    have qv4 := qv.same (z2.trans z4)
    have qu4 := qu.same (z2.trans z4)
    refine rep_ne (ds := [d, d, e, e]) (shw_cons o1.1.shw (shw_cons o1.1.shw (shw_cons o2.1.shw (shw_cons o2.1.shw shw_nil)))) (by show 4 ≤ 1000; decide) (fun R kR => lc_var rfl h5 (lcd_go (by show 7 < 8; decide) h5 (by show 4 ≤ 1000; decide) rfl (el_fld w5 fun k c d' hc' hd' => ?_) fun H' Dl vals s' _ x' q' => kR H' Dl vals s' x' q'))
      (fun Z1 z1 R kR => ⟨_, rfl, _, rfl, _, rfl, _, rfl, big (show 4 ≤ 1000 by decide), fun l hl => kR _ l _ (Same.new hl) upd_same ?_⟩) fun Z5 z5 => ?_
    · match k, hc', hd' with
      | 0, hc', hd' => exact Option.some.inj hc' ▸ Option.some.inj hd' ▸ ⟨v, X.n2.t, X.n2.n, look1 _ _, qv4⟩
      | 1, hc', hd' => exact Option.some.inj hc' ▸ Option.some.inj hd' ▸ ⟨v, X.n6.t, X.n6.n, look1 _ _, qv4⟩
      | 2, hc', hd' => exact Option.some.inj hc' ▸ Option.some.inj hd' ▸ ⟨u, X.n2.t, X.n2.n, look1 _ _, qu4⟩
      | 3, hc', hd' => exact Option.some.inj hc' ▸ Option.some.inj hd' ▸ ⟨u, X.n6.t, X.n6.n, look1 _ _, qu4⟩
      | n + 4, hc', hd' => exact nomatch hc'
    · have qv' := qv4.same (z1.trans (Same.new (o := .lst [v, v, u, u]) hl))
      have qu' := qu4.same (z1.trans (Same.new (o := .lst [v, v, u, u]) hl))
      exact .cons qv' (.cons qv' (.cons qu' (.cons qu' .nil)))
    refine go_set ?_
    refine fun a11 H16 s16 m16 y11 => fun a12 H17 s17 m17 y12 => fun a13 H18 s18 m18 y13 => ⟨_, rfl, fun a14 H19 s19 m19 y14 => ⟨_, rfl, fun a15 H20 s20 m20 y15 => ⟨big (show 5 ≤ 1000 by decide), fun l6 hl6 => ?_⟩⟩⟩
    have s21 : Same H20 (upd H20 l6 (.lst [.ref a11, .ref a12, .ref a13, .ref a14, .ref a15])) := Same.new hl6
    have h6 : upd H20 l6 (.lst [.ref a11, .ref a12, .ref a13, .ref a14, .ref a15]) l6 = some (.lst [.ref a11, .ref a12, .ref a13, .ref a14, .ref a15]) := upd_same
    have t20 := s20.trans s21
    have t19 := s19.trans t20
    have y14' := y14.same t20
    have y15' := y15.same s21
    have w6 : RNew [(O 3, []), (O 4, []), (O 7, []), (O 8, [(("position" : Str), v)]), (O 8, [(("position" : Str), u)])] [.ref a11, .ref a12, .ref a13, .ref a14, .ref a15] (upd H20 l6 (.lst [.ref a11, .ref a12, .ref a13, .ref a14, .ref a15])) :=
      .cons ⟨a11, rfl, y11.same (s17.trans (s18.trans t19))⟩ (.cons ⟨a12, rfl, y12.same (s18.trans t19)⟩ (.cons ⟨a13, rfl, y13.same t19⟩ (.cons ⟨a14, rfl, y14'⟩ (.cons ⟨a15, rfl, y15'⟩ .nil))))
    have z6 := z5.trans (s16.trans (s17.trans (s18.trans t19)))
    generalize upd H20 l6 (.lst [.ref a11, .ref a12, .ref a13, .ref a14, .ref a15]) = Z6 at h6 w6 z6 y14' y15'
    have z26 := z2.trans (z4.trans z6)
    have qv6 := qv.same z26
    have qu6 := qu.same z26
    refine rep_ne (ds := [d, e]) (shw_cons o1.1.shw (shw_cons o2.1.shw shw_nil)) (by show 2 ≤ 1000; decide)
      (fun R kR => ⟨_, rfl, l6, _, 3, _, rfl, rfl, SqL.of h6, rfl, a14, O 8, _, v, rfl, X.n8.t, X.n8.n, y14', look1 _ _, _, rfl, l6, _, 4, _, rfl, rfl, SqL.of h6, rfl, a15, O 8, _, u, rfl, X.n8.t, X.n8.n, y15', look1 _ _, big (show 2 ≤ 1000 by decide), fun l hl => kR _ l _ (Same.new hl) upd_same (.cons (qv6.same (Same.new hl)) (.cons (qu6.same (Same.new hl)) .nil))⟩)
      (fun Z1 z1 R kR => ⟨_, rfl, _, rfl, big (show 2 ≤ 1000 by decide), fun l hl => kR _ l _ (Same.new hl) upd_same (.cons (qv6.same (z1.trans (Same.new hl))) (.cons (qu6.same (z1.trans (Same.new hl))) .nil))⟩) fun Z7 z7 => ?_
    refine all_read (n := 15) (fun R kR => ?_) fun H' s' => fin H' (z26.trans (z7.trans s'))
    have z37 := z26.trans z7
    have z47 := z4.trans (z6.trans z7)
    have z67 := z6.trans z7
    refine ⟨_, rfl, _, rfl, l3, l4, _, _, rfl, rfl, z37 _ _ h3, z47 _ _ h4, big (show 6 ≤ 1000 by decide), fun q1 hq1 => ⟨_, rfl, ?_⟩⟩
    have t1 := Same.new (o := .lst ([.ref a1, .ref a2, .ref a3, .ref a4] ++ [.ref a5, .ref a6])) hq1
    refine ⟨q1, l5, _, _, rfl, rfl, upd_same, t1 _ _ (z67 _ _ h5), big (show 10 ≤ 1000 by decide), fun q2 hq2 => ⟨_, rfl, ?_⟩⟩
    have t2 := Same.new (o := .lst ([.ref a1, .ref a2, .ref a3, .ref a4] ++ [.ref a5, .ref a6] ++ [.ref a7, .ref a8, .ref a9, .ref a10])) hq2
    refine ⟨q2, l6, _, _, rfl, rfl, upd_same, t2 _ _ (t1 _ _ (z7 _ _ h6)), big (show 15 ≤ 1000 by decide), fun q3 hq3 => ?_⟩
    have t3 := Same.new (o := .lst ([.ref a1, .ref a2, .ref a3, .ref a4] ++ [.ref a5, .ref a6] ++ [.ref a7, .ref a8, .ref a9, .ref a10] ++ [.ref a11, .ref a12, .ref a13, .ref a14, .ref a15])) hq3
    have tt := t1.trans (t2.trans t3)
    refine ⟨q3, rfl, ⟨_, SqL.of upd_same⟩, ?_⟩
    refine gives_gr (j := 2) (n := 15) (S := S) (M := M) (T := T) (L := L) (by decide) (by show 7 < 8; decide) upd_same ((((w3.same z37).app (w4.same z47)).app (w5.same z67)).app (w6.same z7) |>.same tt) (by decide) rfl (fun c hc => ?_) R fun H' a vs s'' => kR H' a vs (tt.trans s'')
    simp only [List.mem_append, List.mem_cons, List.not_mem_nil, or_false] at hc
    rcases hc with ((((rfl | rfl | rfl | rfl) | rfl | rfl) | rfl | rfl | rfl | rfl) | rfl | rfl | rfl | rfl | rfl)
    · exact ⟨X.n0.t, X.st 0 (by decide)⟩
    · exact ⟨X.n1.t, X.st 1 (by decide)⟩
    · exact ⟨X.n0.t, X.st 0 (by decide)⟩
    · exact ⟨X.n1.t, X.st 1 (by decide)⟩
    · exact ⟨X.n5.t, X.st 5 (by decide)⟩
    · exact ⟨X.n5.t, X.st 5 (by decide)⟩
    · exact ⟨X.n2.t, X.st 2 (by decide)⟩
    · exact ⟨X.n6.t, X.st 6 (by decide)⟩
    · exact ⟨X.n2.t, X.st 2 (by decide)⟩
    · exact ⟨X.n6.t, X.st 6 (by decide)⟩
    · exact ⟨X.n3.t, X.st 3 (by decide)⟩
    · exact ⟨X.n4.t, X.st 4 (by decide)⟩
    · exact ⟨X.n7.t, X.st 7 (by decide)⟩
    · exact ⟨X.n8.t, X.st 8 (by decide)⟩
    · exact ⟨X.n8.t, X.st 8 (by decide)⟩
end
end K10
set_option Elab.async false
set_option linter.all false
set_option maxRecDepth 100000
set_option maxHeartbeats 4000000
namespace K10
open PySem PySem.Spec PyProof.Rows L2 L2H PySem.XM
abbrev sApart : Stmt := top 57
def spApart : Sp := fun vs H Q _ => vs = [] ∧ ∀ H', Same H H' → Q (.bl true) H'
def oneB (n i : Nat) : List Bool := (List.range n).map fun j => j == i
/-- no class is a ground of another one beside it -/
structure Apt (K : PySem.W.Frag) (C O : Nat → Addr) : Prop where
  cc : ∀ i, i < 22 → Stands K (C i) (refs C 22) (oneB 22 i)
  co : ∀ i, i < 22 → Stands K (C i) (refs O 12) (List.replicate 12 false)
  oo : ∀ i, i < 12 → Stands K (O i) (refs O 12) (oneB 12 i)
  oc : ∀ i, i < 12 → Stands K (O i) (refs C 22) (List.replicate 22 false)
theorem any_falses : ∀ n : Nat, (List.replicate n false).any id = false
  | 0 => rfl
  | n + 1 => by rw [List.replicate_succ, List.any_cons, any_falses n]; rfl
theorem oneB_at {n i j : Nat} {x : V} (h : ((oneB n i).map V.bl)[j]? = some x) : j < n ∧ x = .bl (j == i) := by
  unfold oneB at h
  rw [List.map_map, List.getElem?_map] at h
  cases e : (List.range n)[j]? with
  | none =>
    rw [e] at h
    cases h
  | some m =>
    rw [e] at h
    obtain ⟨lt, eq⟩ := List.getElem?_eq_some_iff.mp e
    rw [List.getElem_range] at eq
    rw [List.length_range] at lt
    subst eq
    exact ⟨lt, (Option.some.inj h).symm⟩
section
variable {K : PySem.W.Frag} {s0 s1 s2 s3 s4 s5 : Option V} {H1 : Hp} {Q : VK}
/-- [k for k, near in enumerate(bs) if near], one of bs true -/
theorem lcn_go {n i : Nat} {a : Addr} (ha : H1 a = some (.lst ((oneB n i).map V.bl))) (hi : i < n) (k : ∀ H' D, Same H1 H' → H' D = some (.lst [.int (i : Nat)]) → Q (.ref D) H') :
    tLc (fun _ H R => R (Ite K a) H) (gTup K 2 (gCons (gName 3) (gCons (gName 4) gNil))) (tB (tVar 4)) (tVar 3) [3, 4] [s0, s1, s2, s3, s4, s5] H1 Q := by
  refine fun D hD => lc_enum (K := K) (a := a) (xs := (oneB n i).map V.bl) (fun j H' => Same H1 H' ∧ H' D = some (.lst (if i < j then [.int (i : Nat)] else []))) ⟨Same.new hD, by rw [upd_same, if_neg (Nat.not_lt_zero _)]⟩ (fun j H' _ ⟨s, _⟩ => SqL.of (s _ _ ha)) ?_ ?_
  · rintro j x H' t hx ⟨s, hd⟩ ht
    obtain ⟨hj, rfl⟩ := oneB_at hx
    have st : Same H' (upd H' t (.tup [.int (j : Nat), .bl (j == i)])) := Same.new ht
    refine ⟨t, _, rfl, SqT.of upd_same, rfl, _, _, rfl, _, _, rfl, rfl, rfl, _, rfl, _, rfl, ?_⟩
    by_cases e : j = i
    · subst e
      rw [if_pos (beq_self_eq_true j)]
      refine ⟨_, rfl, _, st _ _ hd, ?_, ?_, ?_⟩
      · rw [if_neg (Nat.lt_irrefl _)]
        exact small1000 (by decide)
      · intro b o q
        rw [upd_ne (ne_of_none q hD)]
        exact st _ _ (s _ _ q)
      · rw [upd_same, if_neg (Nat.lt_irrefl _), if_pos (Nat.lt_succ_self _)]
        rfl
    · show if (j == i) = true then _ else _
      rw [if_neg (show ¬ ((j == i) = true) from by rw [beq_eq_false_iff_ne.mpr e]; exact Bool.false_ne_true)]
      refine ⟨s.trans st, ?_⟩
      rw [st _ _ hd]
      by_cases l : i < j
      · rw [if_pos l, if_pos (by omega)]
      · rw [if_neg l, if_neg (by omega)]
  · rintro H' ⟨s, hd⟩
    have ln : ((oneB n i).map V.bl).length = n := by
      unfold oneB
      rw [List.length_map, List.length_map, List.length_range]
    rw [ln, if_pos hi] at hd
    exact k H' D s hd
theorem lce_go {n i : Nat} {X1 : Nat → Addr} {a Cc : Addr} {fs : List (Str × V)} (hi : i < n) (T0 : XC K Cc) (xe : ExnAt H1 a Cc fs) (st1 : Stands K Cc (refs X1 n) (oneB n i)) (k : ∀ H' D, Same H1 H' → H' D = some (.lst [.int (i : Nat)]) → Q (.ref D) H') :
    tLc (iEnum K (tCons (tCall (spIs K (refs X1 n)) [] E0 (tCons (tVar 2) tNil)) tNil)) (gTup K 2 (gCons (gName 3) (gCons (gName 4) gNil))) (tB (tVar 4)) (tVar 3) [3, 4] [s0, s1, some (.ref a), s3, s4, s5] H1 Q :=
  ⟨_, rfl, a, Cc, fs, _, rfl, T0, xe, st1, fun H2 l s2 _ q2 => ⟨l, _, rfl, SqL.of q2, lcn_go q2 hi fun H3 D3 s3' q3 => k H3 D3 (s2.trans s3') q3⟩⟩
theorem go_ifor {ta tb : TE} {r : R2} {t2 : TT} {u e : TS} {D : Ends} {σ : L2.St} {H : Hp} (h : ta σ H fun x H1 => tb σ H1 fun y H2 => r x y H2 fun z H3 => ∃ k, z = .bl k ∧ if k = true then u D σ H3 else t2 σ H3 fun c H4 => if c = true then u D σ H4 else e D σ H4) :
    tIfS (tOr (tTest (tOp r ta tb)) t2) u e D σ H := h
theorem one_eqv (i : Int) : PyData.eqv (.list [.int i]) (.list [.int i]) = true := by simp [PyData.eqv, PyData.eqvAll]
/-- a turn of both walks -/
theorem body_go {n n2 i : Nat} {X1 X2 : Nat → Addr} {a Cc : Addr} {fs : List (Str × V)} {D : Ends} {H : Hp} (hi : i < n) (T0 : XC K Cc) (xe : ExnAt H a Cc fs) (st1 : Stands K Cc (refs X1 n) (oneB n i)) (st2 : Stands K Cc (refs X2 n2) (List.replicate n2 false))
    (k : ∀ H', Same H H' → D.nx [s0, some (.int (i : Nat)), some (.ref a), s3, s4, s5] H') :
    tIfS (tOr (tTest (tOp (rNeD K) (tLc (iEnum K (tCons (tCall (spIs K (refs X1 n)) [] E0 (tCons (tVar 2) tNil)) tNil)) (gTup K 2 (gCons (gName 3) (gCons (gName 4) gNil))) (tB (tVar 4)) (tVar 3) [3, 4]) (tLst (tCons (tVar 1) tNil))))
      (tB (tCB (rAny K) (tCons (tCall (spIs K (refs X2 n2)) [] E0 (tCons (tVar 2) tNil)) tNil)))) (tRet (tC (.bl false))) tNext D [s0, some (.int (i : Nat)), some (.ref a), s3, s4, s5] H := by
  refine go_ifor (lce_go hi T0 xe st1 fun H3 D3 s3' q3 => ⟨_, rfl, big (show 1 ≤ 1000 by decide), fun l4 hl4 => ?_⟩)
  have s4' : Same H3 (upd H3 l4 (.lst [.int (i : Nat)])) := Same.new hl4
  refine ⟨.list [.int i], .list [.int i], .lst (SqL.of (s4' _ _ q3)) (.cons (.int _) .nil), .lst (SqL.of upd_same) (.cons (.int _) .nil), rfl, rfl, _, rfl, ?_⟩
  rw [one_eqv]
  show if (!true) = true then _ else _
  rw [if_neg (by decide)]
  have s24 := s3'.trans s4'
  refine ⟨_, rfl, a, Cc, fs, _, rfl, T0, xe.same s24, st2, fun H5 l5 s5' _ q5 => ⟨l5, _, rfl, SqL.of q5, _, rfl, ?_⟩⟩
  rw [any_falses]
  show if false = true then _ else _
  rw [if_neg (by decide)]
  exact k _ (s24.trans s5')
end
section
variable {P : Program} {w : World} {K : PySem.W.Frag} {mg : Str → Option Value} {base : Heap} {C O : Nat → Addr} {S M T L : Addr}
theorem Paired.take {α β : Type} {R : α → β → Prop} : ∀ {as : List α} {bs : List β} (n : Nat), Paired R as bs → Paired R (as.take n) (bs.take n)
  | _, _, 0, _ => .nil
  | _, _, _ + 1, .nil => .nil
  | _, _, n + 1, .cons r t => .cons r (Paired.take n t)
theorem RNew.take {cs : List (Addr × List (Str × V))} {xs : List V} {H : Hp} (r : RNew cs xs H) (n : Nat) : RNew (cs.take n) (xs.take n) H := Paired.take n r
def csA (C : Nat → Addr) : List (Addr × List (Str × V)) := (cV C).map (kept (.int 1)) ++ ((cP C).map (kept (.int 1))).take 4 ++ [(C 21, [(("line" : Str), V.int 1)])]
def csB (O : Nat → Addr) : List (Addr × List (Str × V)) := [(O 0, [("other", .int 2), ("one", .int 1)]), (O 1, [("other", .int 2), ("one", .int 1)]), (O 2, [("value", .int 1)]), (O 3, []), (O 4, []), (O 5, [("greatest", .int 2), ("least", .int 1)]), (O 6, [("value", .int 1)]),
  (O 7, []), (O 8, [("position", .int 1)]), (O 9, [("value", .int 1)]), (O 10, [("value", .int 1)]), (O 11, [("limit", .int 2), ("what", .int 1)])]
theorem cs_at {n : Nat} {D : Nat → Addr} {cs : List (Addr × List (Str × V))} (e : cs.map (·.1) = (List.range n).map D) {k : Nat} {c : Addr × List (Str × V)} (h : cs[k]? = some c) : k < n ∧ c.1 = D k := by
  have q : (cs.map (·.1))[k]? = some c.1 := by rw [List.getElem?_map, h]; rfl
  rw [e, List.getElem?_map] at q
  cases z : (List.range n)[k]? with
  | none =>
    rw [z] at q
    cases q
  | some m =>
    rw [z] at q
    obtain ⟨lt, eq⟩ := List.getElem?_eq_some_iff.mp z
    rw [List.getElem_range] at eq
    rw [List.length_range] at lt
    subst eq
    exact ⟨lt, (Option.some.inj q).symm⟩
theorem csA_at {k : Nat} {c : Addr × List (Str × V)} (h : (csA C)[k]? = some c) : k < 22 ∧ c.1 = C k := cs_at rfl h
theorem csB_at {k : Nat} {c : Addr × List (Str × V)} (h : (csB O)[k]? = some c) : k < 12 ∧ c.1 = O k := cs_at rfl h
theorem Vls.tC (X : Vls P w K mg base C O S M T L) {i : Nat} (h : i < 22) : XC K (C i) := by
  by_cases h1 : i < 17
  · exact (X.nv i h1).t
  · by_cases h2 : i < 21
    · exact (X.np i (by omega) h2).t
    · obtain rfl : i = 21 := by omega
      exact X.nt.t
theorem tO (X : Vls P w K mg base C O S M T L) (Y : Sts P w K mg base O S M T L) : ∀ {i : Nat}, i < 12 → XC K (O i)
  | 0, _ => Y.n0.t
  | 1, _ => Y.n1.t
  | 2, _ => Y.n2.t
  | 3, _ => Y.n3.t
  | 4, _ => Y.n4.t
  | 5, _ => Y.n5.t
  | 6, _ => Y.n6.t
  | 7, _ => Y.n7.t
  | 8, _ => Y.n8.t
  | 9, _ => X.nu.t
  | 10, _ => X.ns.t
  | 11, _ => Y.nl.t
  | n + 12, h => absurd h (by omega)

theorem scApart : FnScope ["_law_some", "_law_spot", "_law_e", "_law_k", "_law_near", "_law_far"] [] (defScope sApart) := ⟨rfl, rfl, rfl, by decide +kernel, rfl, by decide +kernel, by decide +kernel⟩
theorem ok_apart {f fA fP fS fD : Addr} {fd fdA fdP fdS fdD : FuncData} (F : Fun K "_law_apart_right" "_law_apart_right" sApart f fd) (B : Bl mg) (X : Vls P w K mg base C O S M T L) (Y : Sts P w K mg base O S M T L) (Z : Apt K C O)
    (GA : FnOk P w K mg base CX0 3 fA fdA ["_law_odd"] (spNews (cV C))) (kA : PySem.W.keepIn K (.ref fA) = true) (bA : Binds K fdA ["_law_odd"] []) (mA : mg "_law_by_value" = some (.ref fA))
    (GP : FnOk P w K mg base CX0 3 fP fdP ["_law_odd"] (spNews (cP C))) (kP : PySem.W.keepIn K (.ref fP) = true) (bP : Binds K fdP ["_law_odd"] []) (mP : mg "_law_by_place" = some (.ref fP))
    (GS : FnOk P w K mg base CX0 1 fS fdS ["_law_e"] (spIs K (refs C 22))) (kS : PySem.W.keepIn K (.ref fS) = true) (bS : Binds K fdS ["_law_e"] []) (mS : mg "_law_sorts" = some (.ref fS))
    (GD : FnOk P w K mg base CX0 1 fD fdD ["_law_e"] (spIs K (refs O 12))) (kD : PySem.W.keepIn K (.ref fD) = true) (bD : Binds K fdD ["_law_e"] []) (mD : mg "_law_stands" = some (.ref fD)) : FnOk P w K mg base CX0 4 f fd [] spApart := by
  refine F.ok scApart (fun vs H Q E h => ?_) (fun cdv A outer s H vs Q E hr h => ?_)
  · obtain ⟨rfl, _⟩ := h
    rfl
  · obtain ⟨rfl, k⟩ := h
    have r1 := hr.mono (show 1 ≤ 3 by decide)
    have r2 := hr.mono (show 2 ≤ 3 by decide)
    have hu : (A.deeper (envOfC "_law_apart_right" (defScope sApart) s.heap.objs.size f cdv)).units + 64 < cLine := by have := hr.un; omega
    refine ⟨_, pss_cons (ps_set (i := 0) scApart.nd rfl (.inl rfl) (pe_op op_cat (pe_op op_cat (pe_call GA hr (by rfl) mA kA bA .nil pass0 (pa_cons pe_int pa_nil)) (pe_slice sl_list (pe_call GP hr (by rfl) mP kP bP .nil pass0 (pa_cons pe_int pa_nil)) po_none (po_some pe_int))) (pe_lst (pa_cons (pe_new1 X.nt r2 (by rfl) pe_int) pa_nil))))
      (pss_cons (ps_for PassesOwn.never rfl (pi_enum (by rfl) B.enumerate (pa_cons (pv 0) pa_nil)) (pg_tup rfl (pgs_cons (pg_name (i := 1) scApart.nd rfl (.inl rfl)) (pgs_cons (pg_name (i := 2) scApart.nd rfl (.inl rfl)) pgs_nil))) (pss_one (ps_if (pw_or (pt_cmpR (op_neD hu) (pe_lc (te := tVar 3) (own := [("_law_k", 3), ("_law_near", 4)]) (g := gTup K 2 (gCons (gName 3) (gCons (gName 4) gNil))) (tt := tB (tVar 4)) rfl scApart.nd (pi_enum (by rfl) B.enumerate (pa_cons (pe_call GS r1 (by rfl) mS kS bS .nil pass0 (pa_cons (pv 2) pa_nil)) pa_nil)) (blkOk_by (N := ["_law_some", "_law_spot", "_law_e", "_law_k", "_law_near", "_law_far"]) (sc := defScope sApart) (by decide +kernel)) (fun _ _ _ _ _ => by exact pg_tup rfl (pgs_cons (pg_name (i := 3) scApart.nd rfl (.inl rfl)) (pgs_cons (pg_name (i := 4) scApart.nd rfl (.inl rfl)) pgs_nil))) (fun _ _ _ _ _ => by exact pts_one (pt_val (pv 4))) (fun _ _ _ _ _ => by exact pv 3)) (pe_lst (pa_cons (pv 1) pa_nil)) (nomark _)) (pw_or1 (pt_val (pe_callB (cr_any rfl) (by rfl) B.any boot_any (pa_cons (pe_call GD r1 (by rfl) mD kD bD .nil pass0 (pa_cons (pv 2) pa_nil)) pa_nil))))).pt (pss_one (ps_ret pe_bl)) pss_nil)))
      (pss_cons (ps_set (i := 5) scApart.nd rfl (.inl rfl) (pe_lst (pa_cons (pe_new2 Y.n0 r2 (by rfl) pe_int pe_int) (pa_cons (pe_new2 Y.n1 r2 (by rfl) pe_int pe_int) (pa_cons (pe_new1 Y.n2 r2 (by rfl) pe_int) (pa_cons (pe_new0 Y.n3 (by rfl)) (pa_cons (pe_new0 Y.n4 (by rfl)) (pa_cons (pe_new2 Y.n5 r2 (by rfl) pe_int pe_int) (pa_cons (pe_new1 Y.n6 r2 (by rfl) pe_int) pa_nil)))))))))
      (pss_cons (ps_set (i := 5) scApart.nd rfl (.inl rfl) (pe_op op_cat (pv 5) (pe_lst (pa_cons (pe_new0 Y.n7 (by rfl)) (pa_cons (pe_new1 Y.n8 r2 (by rfl) pe_int) (pa_cons (pe_new1 X.nu r2 (by rfl) pe_int) (pa_cons (pe_new1 X.ns r2 (by rfl) pe_int) (pa_cons (pe_new2 Y.nl r2 (by rfl) pe_int pe_int) pa_nil))))))))
      (pss_cons (ps_for PassesOwn.never rfl (pi_enum (by rfl) B.enumerate (pa_cons (pv 5) pa_nil)) (pg_tup rfl (pgs_cons (pg_name (i := 1) scApart.nd rfl (.inl rfl)) (pgs_cons (pg_name (i := 2) scApart.nd rfl (.inl rfl)) pgs_nil))) (pss_one (ps_if (pw_or (pt_cmpR (op_neD hu) (pe_lc (te := tVar 3) (own := [("_law_k", 3), ("_law_near", 4)]) (g := gTup K 2 (gCons (gName 3) (gCons (gName 4) gNil))) (tt := tB (tVar 4)) rfl scApart.nd (pi_enum (by rfl) B.enumerate (pa_cons (pe_call GD r1 (by rfl) mD kD bD .nil pass0 (pa_cons (pv 2) pa_nil)) pa_nil)) (blkOk_by (N := ["_law_some", "_law_spot", "_law_e", "_law_k", "_law_near", "_law_far"]) (sc := defScope sApart) (by decide +kernel)) (fun _ _ _ _ _ => by exact pg_tup rfl (pgs_cons (pg_name (i := 3) scApart.nd rfl (.inl rfl)) (pgs_cons (pg_name (i := 4) scApart.nd rfl (.inl rfl)) pgs_nil))) (fun _ _ _ _ _ => by exact pts_one (pt_val (pv 4))) (fun _ _ _ _ _ => by exact pv 3)) (pe_lst (pa_cons (pv 1) pa_nil)) (nomark _)) (pw_or1 (pt_val (pe_callB (cr_any rfl) (by rfl) B.any boot_any (pa_cons (pe_call GS r1 (by rfl) mS kS bS .nil pass0 (pa_cons (pv 2) pa_nil)) pa_nil))))).pt (pss_one (ps_ret pe_bl)) pss_nil)))
      (pss_one (ps_ret pe_bl)))))), ?_⟩
    refine go_set ?_
    refine ⟨_, rfl, fun H1 l1 xs1 s1 _ x1 w1 => ⟨.int 1, rfl, fun H2 l2 xs2 s2 _ x2 w2 => ⟨4, rfl, l2, xs2, rfl, SqL.of x2, fun l3 hl3 => ?_⟩⟩⟩
    have e1 : xs1.length = 17 := (Paired.length w1).symm
    have e2 : xs2.length = 8 := (Paired.length w2).symm
    have s3 := Same.new (o := .lst (cutV xs2 none (some 4))) hl3
    have c4 : cutV xs2 none (some 4) = xs2.take 4 := by
      show (xs2.drop 0).take (min 4 xs2.length - 0) = xs2.take 4
      rw [List.drop_zero, e2]
      rfl
    refine ⟨l1, l3, _, _, rfl, rfl, s3 _ _ (s2 _ _ x1), upd_same, big (by rw [c4, List.length_take]; omega), fun l4 hl4 => fun a5 H5 s5 _ y5 => ⟨big (show 1 ≤ 1000 by decide), fun l6 hl6 => ?_⟩⟩
    have s4 := Same.new (o := .lst (xs1 ++ cutV xs2 none (some 4))) hl4
    have s6 : Same H5 (upd H5 l6 (.lst [.ref a5])) := Same.new hl6
    refine ⟨l4, l6, _, _, rfl, rfl, s6 _ _ (s5 _ _ upd_same), upd_same, big (by rw [c4, List.length_append, List.length_take]; show _ + 1 ≤ _; omega), fun l7 hl7 => ?_⟩
    have s7 := Same.new (o := .lst (xs1 ++ cutV xs2 none (some 4) ++ [.ref a5])) hl7
    have h7 : upd (upd H5 l6 (.lst [.ref a5])) l7 (.lst (xs1 ++ cutV xs2 none (some 4) ++ [.ref a5])) l7 = some (.lst (xs1 ++ cutV xs2 none (some 4) ++ [.ref a5])) := upd_same
    have s57 := s5.trans (s6.trans s7)
    have s27 := s3.trans (s4.trans s57)
    have s17 := s2.trans s27
    have w7 : RNew (csA C) (xs1 ++ cutV xs2 none (some 4) ++ [.ref a5]) (upd (upd H5 l6 (.lst [.ref a5])) l7 (.lst (xs1 ++ cutV xs2 none (some 4) ++ [.ref a5]))) := by
      have w0 : RNew (csA C) (xs1 ++ xs2.take 4 ++ [.ref a5]) (upd (upd H5 l6 (.lst [.ref a5])) l7 (.lst (xs1 ++ cutV xs2 none (some 4) ++ [.ref a5]))) := ((w1.same s17).app ((w2.same s27).take 4)).app (show RNew [(C 21, [(("line" : Str), V.int 1)])] [.ref a5] _ from .cons ⟨a5, rfl, (y5.same (s6.trans s7))⟩ .nil)
      rw [← c4] at w0
      exact w0
    have fin : ∀ H', Same (upd (upd H5 l6 (.lst [.ref a5])) l7 (.lst (xs1 ++ cutV xs2 none (some 4) ++ [.ref a5]))) H' → Q (.bl true) H' := fun H' s' => k H' (s1.trans (s17.trans s'))
    generalize upd (upd H5 l6 (.lst [.ref a5])) l7 (.lst (xs1 ++ cutV xs2 none (some 4) ++ [.ref a5])) = W at h7 w7 fin
    generalize xs1 ++ cutV xs2 none (some 4) ++ [.ref a5] = ys at h7 w7
    refine ⟨_, rfl, l7, _, rfl, SqL.of h7, for_enum (fun _ σ H' => ∃ y z, σ = [some (.ref l7), y, z, none, none, none] ∧ Same W H') ⟨none, none, rfl, Same.refl _⟩ (fun _ _ _ _ ⟨_, _, _, s'⟩ => SqL.of (s' _ _ h7)) ?_ ?_⟩
    · rintro i x _ H3 t hx ⟨y, z, rfl, s3'⟩ ht
      obtain ⟨c, hc, a, rfl, xe⟩ := Paired.at_ w7 hx
      obtain ⟨hk, ec⟩ := csA_at hc
      have st : Same H3 (upd H3 t (.tup [.int (i : Nat), .ref a])) := Same.new ht
      rw [ec] at xe
      refine ⟨t, _, rfl, SqT.of upd_same, rfl, _, _, rfl, _, _, rfl, rfl, ?_⟩
      exact body_go (n := 22) (n2 := 12) (X1 := C) (X2 := O) hk (X.tC hk) (xe.same (s3'.trans st)) (Z.cc i hk) (Z.co i hk) fun H' s' => ⟨_, _, rfl, s3'.trans (st.trans s')⟩
    · rintro _ V0 ⟨y, z, rfl, sV⟩
      dsimp only
      refine go_set ?_
      refine fun b0 G0 g0 _ u0 => fun b1 G1 g1 _ u1 => fun b2 G2 g2 _ u2 => fun b3 G3 g3 _ u3 => fun b4 G4 g4 _ u4 => fun b5 G5 g5 _ u5 => fun b6 G6 g6 _ u6 => ⟨big (show 7 ≤ 1000 by decide), fun l8 hl8 => ?_⟩
      have g7 := Same.new (o := .lst [V.ref b0, .ref b1, .ref b2, .ref b3, .ref b4, .ref b5, .ref b6]) hl8
      refine go_set ?_
      refine ⟨_, rfl, fun b7 G8 g8 _ u7 => fun b8 G9 g9 _ u8 => fun b9 G10 g10 _ u9 => fun b10 G11 g11 _ u10 => fun b11 G12 g12 _ u11 => ⟨big (show 5 ≤ 1000 by decide), fun l9 hl9 => ?_⟩⟩
      have g13 := Same.new (o := .lst [V.ref b7, .ref b8, .ref b9, .ref b10, .ref b11]) hl9
      have g8_13 := g8.trans (g9.trans (g10.trans (g11.trans (g12.trans g13))))
      refine ⟨l8, l9, _, _, rfl, rfl, g8_13 _ _ upd_same, upd_same, big (show 12 ≤ 1000 by decide), fun l10 hl10 => ?_⟩
      have g14 := Same.new (o := .lst ([V.ref b0, .ref b1, .ref b2, .ref b3, .ref b4, .ref b5, .ref b6] ++ [V.ref b7, .ref b8, .ref b9, .ref b10, .ref b11])) hl10
      have r12 := g13.trans g14
      have r11 := g12.trans r12
      have r10 := g11.trans r11
      have r9 := g10.trans r10
      have r8 := g9.trans r9
      have r7 := g7.trans (g8.trans r8)
      have r5 := g6.trans r7
      have r4 := g5.trans r5
      have r3 := g4.trans r4
      have r2' := g3.trans r3
      have r1' := g2.trans r2'
      have r0 := g1.trans r1'
      have w8 : RNew (csB O) ([V.ref b0, .ref b1, .ref b2, .ref b3, .ref b4, .ref b5, .ref b6] ++ [V.ref b7, .ref b8, .ref b9, .ref b10, .ref b11]) _ :=
        .cons ⟨b0, rfl, u0.same r0⟩ (.cons ⟨b1, rfl, u1.same r1'⟩ (.cons ⟨b2, rfl, u2.same r2'⟩ (.cons ⟨b3, rfl, u3.same r3⟩ (.cons ⟨b4, rfl, u4.same r4⟩ (.cons ⟨b5, rfl, u5.same r5⟩ (.cons ⟨b6, rfl, u6.same r7⟩
          (.cons ⟨b7, rfl, u7.same r8⟩ (.cons ⟨b8, rfl, u8.same r9⟩ (.cons ⟨b9, rfl, u9.same r10⟩ (.cons ⟨b10, rfl, u10.same r11⟩ (.cons ⟨b11, rfl, u11.same r12⟩ .nil)))))))))))
      refine ⟨_, rfl, l10, _, rfl, SqL.of upd_same, for_enum (fun _ σ H' => ∃ y z, σ = [some (.ref l7), y, z, none, none, some (.ref l10)] ∧ Same _ H') ⟨_, _, rfl, Same.refl _⟩ (fun _ _ _ _ ⟨_, _, _, s'⟩ => SqL.of (s' _ _ upd_same)) ?_ ?_⟩
      · rintro i x _ H3 t hx ⟨y, z, rfl, s3'⟩ ht
        obtain ⟨c, hc, a, rfl, xe⟩ := Paired.at_ w8 hx
        obtain ⟨hk, ec⟩ := csB_at hc
        have st : Same H3 (upd H3 t (.tup [.int (i : Nat), .ref a])) := Same.new ht
        rw [ec] at xe
        refine ⟨t, _, rfl, SqT.of upd_same, rfl, _, _, rfl, _, _, rfl, rfl, ?_⟩
        exact body_go (n := 12) (n2 := 22) (X1 := O) (X2 := C) hk (tO X Y hk) (xe.same (s3'.trans st)) (Z.oo i hk) (Z.oc i hk) fun H' s' => ⟨_, _, rfl, s3'.trans (st.trans s')⟩
      · rintro _ V1 ⟨y, z, rfl, sV1⟩
        exact fin V1 (sV.trans (g0.trans (r0.trans sV1)))
end
end K10
set_option Elab.async false
set_option linter.all false
set_option maxRecDepth 100000
set_option maxHeartbeats 4000000
namespace K10
open PySem PySem.Spec PyProof.Rows L2 L2H PySem.XM
abbrev sRight : Stmt := top 58
abbrev sLaw : Stmt := top 59
section
variable {P : Program} {w : World} {K : PySem.W.Frag} {mg : Str → Option Value} {base : Heap}
theorem scRight : FnScope ["_law_pot_here"] ["_law_pot_here"] (defScope sRight) := ⟨rfl, rfl, rfl, by decide +kernel, rfl, by decide +kernel, by decide +kernel⟩
theorem scLaw : FnScope ["_law_script", "_law_k"] ["_law_script"] (defScope sLaw) := ⟨rfl, rfl, rfl, by decide +kernel, rfl, by decide +kernel, by decide +kernel⟩
theorem not_true {t : TT} {σ : L2.St} {H : Hp} {Q : Bool → Hp → Prop} (h : t σ H fun c H1 => c = true ∧ Q false H1) (m : ∀ {Q R : Bool → Hp → Prop}, (∀ c H, Q c H → R c H) → t σ H Q → t σ H R) : tNot t σ H Q := m (fun c H ⟨e, q⟩ => by subst e; exact q) h
theorem ok_right {f fT fV fS fL fR fA : Addr} {fd fdT fdV fdS fdL fdR fdA : FuncData} (F : Fun K "_law_right" "_law_right" sRight f fd) (B : Bl mg)
    (GT : FnOk P w K mg base CX0 3 fT fdT ["_law_pot_here", "_law_turn"] spThing) (kT : PySem.W.keepIn K (.ref fT) = true) (bT : Binds K fdT ["_law_pot_here", "_law_turn"] []) (mT : mg "_law_thing" = some (.ref fT))
    (GV : FnG P w K mg base CX0 4 fV fdV ["_law_pot_here"] spPotR) (kV : PySem.W.keepIn K (.ref fV) = true) (bV : Binds K fdV ["_law_pot_here"] []) (mV : mg "_law_values_right" = some (.ref fV))
    (GS : FnG P w K mg base CX0 4 fS fdS ["_law_pot_here"] spPotR) (kS : PySem.W.keepIn K (.ref fS) = true) (bS : Binds K fdS ["_law_pot_here"] []) (mS : mg "_law_states_right" = some (.ref fS))
    (GL : FnG P w K mg base CX0 4 fL fdL ["_law_pot_here"] spPotR) (kL : PySem.W.keepIn K (.ref fL) = true) (bL : Binds K fdL ["_law_pot_here"] []) (mL : mg "_law_limits_right" = some (.ref fL))
    (GR : FnG P w K mg base CX0 5 fR fdR ["_law_odd"] spRR) (kR : PySem.W.keepIn K (.ref fR) = true) (bR : Binds K fdR ["_law_odd"] []) (mR : mg "_law_raised_right" = some (.ref fR))
    (GA : FnG P w K mg base CX0 4 fA fdA [] spApart) (kA : PySem.W.keepIn K (.ref fA) = true) (bA : Binds K fdA [] []) (mA : mg "_law_apart_right" = some (.ref fA)) : FnG P w K mg base CX0 6 f fd ["_law_pot_here"] spPotR := by
  refine F.okG scRight (fun vs H Q E h => ?_) (fun cdv A outer s H vs Q E hg hr h => ?_)
  · obtain ⟨p, rfl, _⟩ := h
    rfl
  · obtain ⟨p, rfl, hP, k⟩ := h
    have r3 := hr.mono (show 3 ≤ 5 by decide)
    have r4 := hr.mono (show 4 ≤ 5 by decide)
    refine ⟨_, pss_cons (ps_if (pw_or (pt_not (pt_val (pe_callG GV hg r4 (by rfl) mV kV bV .nil pass0 (pa_cons (pv 0) pa_nil)))) (pw_or (pt_not (pt_val (pe_callG GS hg r4 (by rfl) mS kS bS .nil pass0 (pa_cons (pv 0) pa_nil)))) (pw_or1 (pt_not (pt_val (pe_callG GL hg r4 (by rfl) mL kL bL .nil pass0 (pa_cons (pv 0) pa_nil))))))).pt (pss_one (ps_ret pe_bl)) pss_nil)
      (pss_one (ps_ret (pe_and (pe_callG GR hg hr (by rfl) mR kR bR .nil pass0 (pa_cons (pe_call GT r3 (by rfl) mT kT bT .nil pass0 (pa_cons (pv 0) (pa_cons pe_int pa_nil))) pa_nil)) (pe_one (pe_callG0 GA hg r4 (by rfl) mA kA bA .nil pass0))))), ?_⟩
    refine ⟨_, rfl, p, rfl, hP, fun H1 b1 P1 => ⟨true, rfl, ?_⟩⟩
    show if (!true) = true then _ else _
    rw [if_neg (by decide)]
    refine ⟨_, rfl, p, rfl, P1, fun H2 b2 P2 => ⟨true, rfl, ?_⟩⟩
    show if (!true) = true then _ else _
    rw [if_neg (by decide)]
    refine ⟨_, rfl, p, rfl, P2, fun H3 b3 P3 => ⟨true, rfl, ?_⟩⟩
    show if (!true) = true then _ else _
    rw [if_neg (by decide)]
    refine ⟨_, rfl, p, 9, rfl, P3, by decide, by decide, fun H4 v d b4 P4 o4 => ⟨v, d, rfl, o4.1, o4.dq, fun H5 s5 => ⟨true, rfl, ?_⟩⟩⟩
    show if true = true then _ else _
    rw [if_pos rfl]
    refine ⟨rfl, fun H6 s6 => ?_⟩
    exact k H6 (b1.trans (b2.trans (b3.trans (b4.trans (Same.but (s5.trans s6) (.refl p _)))))) (P4.same (s5.trans s6))
/-- law(script) -/
def spLaw (K : PySem.W.Frag) : Sp := fun vs H Q _ => ∃ (a : Addr) (ns : List Int), vs = [.ref a] ∧ SqL K H a (ns.map V.int) ∧ ∀ H', Q (.bl true) H'
theorem ok_law {f fP fR : Addr} {fd fdP fdR : FuncData} (F : Fun K "law" "law" sLaw f fd) (B : Bl mg)
    (GP : FnOk P w K mg base CX0 1 fP fdP ["_law_script", "_law_k"] (spPot K)) (kP : PySem.W.keepIn K (.ref fP) = true) (bP : Binds K fdP ["_law_script", "_law_k"] []) (mP : mg "_law_pot" = some (.ref fP))
    (GR : FnG P w K mg base CX0 6 fR fdR ["_law_pot_here"] spPotR) (kR : PySem.W.keepIn K (.ref fR) = true) (bR : Binds K fdR ["_law_pot_here"] []) (mR : mg "_law_right" = some (.ref fR)) : FnG P w K mg base CX0 7 f fd ["_law_script"] (spLaw K) := by
  refine F.okG scLaw (fun vs H Q E h => ?_) (fun cdv A outer s H vs Q E hg hr h => ?_)
  · obtain ⟨a, ns, rfl, _⟩ := h
    rfl
  · obtain ⟨a, ns, rfl, hS, k⟩ := h
    have r1 := hr.mono (show 1 ≤ 6 by decide)
    refine ⟨_, pss_one (ps_ret (pe_callB (cr_all rfl) (by rfl) B.all boot_all (pa_cons (pe_lc (te := tCall spPotR [] E0 (tCons (tCall (spPot K) [] E0 (tCons (tVar 0) (tCons (tVar 1) tNil))) tNil)) (own := [("_law_k", 1)]) (g := gName 1) (tt := tYes) rfl scLaw.nd
        (pi_range1 (by rfl) B.range (pa_cons (pe_callB (call_max2 rfl) (by rfl) B.max boot_max (pa_cons pe_int (pa_cons (pe_callB (call_min2 rfl) (by rfl) B.min boot_min (pa_cons pe_int (pa_cons (pe_callB call_len_seq (by rfl) B.len PySem.boot_len (pa_cons (pv 0) pa_nil)) pa_nil))) pa_nil))) pa_nil))
        (blkOk_by (N := ["_law_script", "_law_k"]) (sc := defScope sLaw) (by decide +kernel)) (fun _ _ _ _ _ => pg_name (i := 1) scLaw.nd rfl (.inl rfl)) (fun _ _ _ _ _ => pts_nil)
        (fun _ _ _ _ _ => by exact pe_callG GR hg hr (by rfl) mR kR bR .nil pass0 (pa_cons (pe_call GP r1 (by rfl) mP kP bP .nil pass0 (pa_cons (pv 0) (pa_cons (pv 1) pa_nil))) pa_nil))) pa_nil))), ?_⟩
    refine ⟨_, rfl, a, _, rfl, .inl hS, 3, _, rfl, 1, _, rfl, ?_⟩
    rw [List.length_map]
    have hz : ∃ m : Nat, 1 ≤ m ∧ m ≤ 3 ∧ (if (if ((ns.length : Int)) < 3 then (ns.length : Int) else 3) > 1 then (if ((ns.length : Int)) < 3 then (ns.length : Int) else 3) else 1) = (m : Int) := by
      refine ⟨(if (if ((ns.length : Int)) < 3 then (ns.length : Int) else 3) > 1 then (if ((ns.length : Int)) < 3 then (ns.length : Int) else 3) else 1).toNat, ?_, ?_, ?_⟩
      · split
        · split <;> omega
        · omega
      · split
        · split <;> omega
        · omega
      · split
        · split <;> omega
        · omega
    obtain ⟨m, m1, m3, em⟩ := hz
    rw [em]
    refine ⟨m, rfl, by omega, by omega, fun D hD => ?_⟩
    rw [Int.toNat_natCast]
    refine lc_range (n := m) (fun i H' => Same H H' ∧ H' D = some (.lst ((List.replicate i true).map V.bl))) ⟨Same.new hD, upd_same⟩ (fun i H' hi ⟨sm, hd⟩ => ?_) (fun H' ⟨sm, hd⟩ => ?_)
    · refine ⟨rfl, yes_go ?_⟩
      refine ⟨_, rfl, _, rfl, a, ns, i, by rw [Int.zero_add]; rfl, sm.seq hS, by omega, fun H2 p s2 np P2 => ⟨p, rfl, P2, fun H3 b3 P3 => ?_⟩⟩
      have keep : ∀ b o, H' b = some o → H3 b = some o := fun b o e => b3 b o (ne_of_none e np) (s2 _ _ e)
      refine ⟨_, keep _ _ hd, small1000 (by rw [List.length_map, List.length_replicate]; omega), fun b o e => ?_, ?_⟩
      · rw [upd_ne (ne_of_none e hD)]
        exact keep _ _ (sm _ _ e)
      · rw [upd_same, List.replicate_succ', List.map_append]
        rfl
    · refine ⟨D, _, rfl, SqL.of hd, ?_⟩
      rw [all_trues]
      exact k H'
end
end K10
set_option Elab.async false
set_option linter.all false
set_option maxRecDepth 100000
set_option maxHeartbeats 8000000
namespace K10
open PySem PySem.Spec PyProof.Rows L2 PySem.XM
open PySem.W (Frag)
/-! What the top has left: the classes' facts as one computation. -/
def mB (n : String) : List Value := [.type n, .type "Exception", .type "BaseException", .type "object"]
def xcB (K : Frag) (C : Addr) (n nId : String) : Bool := PySem.W.excInitIn K C (mB n) nId && (PySem.W.excOver K C (mB n) && (decide (PySem.W.findIn K (.ref C) "__setattr__" = some (some (.builtin "object.__setattr__"))) && (PySem.W.hasDictIn K C && (decide (PySem.W.subIn K (.ref C) (.type "BaseException") = some true) && (decide (PySem.W.typeIn K (.ref C) = some (.type "type")) && (PySem.W.keepIn K (.ref C) &&
  (decide (PySem.W.findIn K (.ref C) "__getattribute__" = some (some (.builtin "BaseException.__getattribute__"))) && (decide (PySem.W.findIn K (.ref C) "__getattr__" = some none) && (decide (PySem.W.findIn K (.ref C) "__class__" = some (some (.builtin "object.__class__"))) && (decide (PySem.W.mroIn K C (.type "object") = some true) &&
  (decide (PySem.W.specialIn K (.builtin "object.__class__") "__get__" = some (some (.builtin "getset_descriptor.__get__"))) && decide (PySem.W.takesIn K (.builtin "object.__class__") = some true))))))))))))
theorem and_of {a b : Bool} (h : (a && b) = true) : a = true ∧ b = true := Bool.and_eq_true_iff.mp h
theorem xc_of {K : Frag} {C : Addr} {n nId iId : String} (F : ExcBaseFacts n nId iId (mB n)) (S : StoreFacts n (mB n) "object.__setattr__" "object") (h : xcB K C n nId = true) : XC K C := by
  obtain ⟨h1, h⟩ := and_of h
  obtain ⟨h2, h⟩ := and_of h
  obtain ⟨h3, h⟩ := and_of h
  obtain ⟨h4, h⟩ := and_of h
  obtain ⟨h5, h⟩ := and_of h
  obtain ⟨h6, h⟩ := and_of h
  obtain ⟨h7, h⟩ := and_of h
  obtain ⟨h8, h⟩ := and_of h
  obtain ⟨h9, h⟩ := and_of h
  obtain ⟨h10, h⟩ := and_of h
  obtain ⟨h11, h⟩ := and_of h
  obtain ⟨h12, h13⟩ := and_of h
  exact ⟨⟨n, nId, iId, mB n, F, S, h1, h2⟩, of_decide_eq_true h3, h4, of_decide_eq_true h5, of_decide_eq_true h6, h7, of_decide_eq_true h8, of_decide_eq_true h9, of_decide_eq_true h10, of_decide_eq_true h11, of_decide_eq_true h12, of_decide_eq_true h13⟩
/-- how a class stands, by computation -/
def stB (K : Frag) (C : Addr) : List Value → List Bool → Bool
  | [], [] => true
  | u :: us, b :: bs => decide (PySem.W.kitOne K (.ref C) u = some b) && stB K C us bs
  | _, _ => false
theorem st_of {K : Frag} {C : Addr} : ∀ {cs : List V} {us : List Value} {bs : List Bool}, Paired ClsV cs us → stB K C us bs = true → Stands K C cs bs
  | _, _, [], .nil, _ => .nil
  | _, _, b :: bs, .cons k t, h => by
    obtain ⟨h1, h2⟩ := and_of h
    exact .cons ⟨_, k, of_decide_eq_true h1⟩ (st_of t h2)
def urefs (D : Nat → Addr) (n : Nat) : List Value := (List.range n).map fun i => .ref (D i)
theorem cls_refs (D : Nat → Addr) : ∀ (l : List Nat), Paired ClsV (l.map fun i => V.ref (D i)) (l.map fun i => Value.ref (D i))
  | [] => .nil
  | i :: l => .cons (.own _) (cls_refs D l)
def ufam (S M T L : Addr) : List Value := [.ref S, .ref M, .ref T, .ref L, .type "ValueError", .type "LookupError", .type "RuntimeError", .type "ArithmeticError"]
theorem cls_fam (S M T L : Addr) : Paired ClsV (famC S M T L) (ufam S M T L) := .cons (.own _) (.cons (.own _) (.cons (.own _) (.cons (.own _) (.cons (.ty _) (.cons (.ty _) (.cons (.ty _) (.cons (.ty _) .nil)))))))
/-- the class's own `__init__` -/
def initOf (i : Nat) : Stmt := match top i with
  | .ClassDef _ _ _ b _ _ _ _ _ _ _ => b.getD 0 (.Pass ⟨0, 0, 0, 0⟩)
  | _ => .Pass ⟨0, 0, 0, 0⟩
section
variable {P : Program} {w : World} {K : Frag} {mg : Str → Option Value} {base : Heap} {fI C : Addr} {q f g x : Str} {st : Stmt} {kV doc pm cdv ct oc : Value} {od an : Option Addr} {osl : Array (Option Value)} {p1 p2 p3 p4 q1 q2 q3 q4 : Pos}
theorem new1_mk (T : XC K C) (n : PySem.W.findIn K (.ref C) f = some none) (m : mg x = some (.ref C)) (i1 : PySem.W.findIn K (.ref C) "__init__" = some (some (.ref fI))) (i2 : PySem.W.isFn K (.ref fI) = true)
    (l : K.lookup fI = some ⟨oc, od, .func (PySem.W.fnOf "__init__" q (defArgs st) (defBody st) (defScope st) .none kV doc pm an cdv ct), osl⟩) (c : PySem.W.codeIn K cdv q = true) (kp : PySem.W.keepIn K (.ref fI) = true)
    (sc : FnScope ["self", f] ["self", f] (defScope st)) (hb : defBody st = [.Assign [.Attribute (.Name "self" p1) f p2] (.Name f p3) p4]) (v0 : Vis (defScope st) "self") (v1 : Vis (defScope st) f)
    (b2 : ∀ (a b : Value), bindArgs (PySem.W.fnOf "__init__" q (defArgs st) (defBody st) (defScope st) .none kV doc pm an cdv ct) ⟨[a, b], []⟩ = pure [(("self" : Str), a), (f, b)])
    (b1 : ∀ (a b : Value), bindArgs (PySem.W.fnOf "__init__" q (defArgs st) (defBody st) (defScope st) .none kV doc pm an cdv ct) ⟨[a], [(f, b)]⟩ = pure [(("self" : Str), a), (f, b)])
    (n1 : (f == ("__debug__" : Str)) = false := by decide +kernel) (n2 : (f == ("__classdict__" : Str)) = false := by decide +kernel) : New1 P w K mg base x f C :=
  ⟨T, n, m, fI, _, i1, i2, ok_init1 (fun_mk l c kp) sc hb v0 v1 n1 n2, ⟨fun s us ws X l1 l2 => match us, ws, l1, l2 with | [a, b], [], _, _ => .of_eq (b2 a b), fun r _ => r⟩, ⟨fun s us ws X l1 l2 => match us, ws, l1, l2 with | [a], [b], _, _ => .of_eq (b1 a b), fun r r' => r.append r'⟩⟩
theorem vals_rev : ∀ {vs : List V} {us : List Value}, Vals vs us → Vals vs.reverse us.reverse
  | _, _, .nil => .nil
  | _, _, .cons r t => by
    rw [List.reverse_cons, List.reverse_cons]
    exact (vals_rev t).append (.cons r .nil)
theorem new2_mk (T : XC K C) (n : PySem.W.findIn K (.ref C) f = some none) (o : PySem.W.findIn K (.ref C) g = some none) (m : mg x = some (.ref C)) (i1 : PySem.W.findIn K (.ref C) "__init__" = some (some (.ref fI))) (i2 : PySem.W.isFn K (.ref fI) = true)
    (l : K.lookup fI = some ⟨oc, od, .func (PySem.W.fnOf "__init__" q (defArgs st) (defBody st) (defScope st) .none kV doc pm an cdv ct), osl⟩) (c : PySem.W.codeIn K cdv q = true) (kp : PySem.W.keepIn K (.ref fI) = true)
    (sc : FnScope ["self", f, g] ["self", f, g] (defScope st)) (hb : defBody st = [.Assign [.Attribute (.Name "self" p1) f p2] (.Name f p3) p4, .Assign [.Attribute (.Name "self" q1) g q2] (.Name g q3) q4])
    (v0 : Vis (defScope st) "self") (v1 : Vis (defScope st) f) (v2 : Vis (defScope st) g)
    (b2 : ∀ (a b c : Value), bindArgs (PySem.W.fnOf "__init__" q (defArgs st) (defBody st) (defScope st) .none kV doc pm an cdv ct) ⟨[a, b, c], []⟩ = pure [(("self" : Str), a), (f, b), (g, c)])
    (b1 : ∀ (a b c : Value), bindArgs (PySem.W.fnOf "__init__" q (defArgs st) (defBody st) (defScope st) .none kV doc pm an cdv ct) ⟨[a], [(g, c), (f, b)]⟩ = pure [(("self" : Str), a), (f, b), (g, c)])
    (n1 : (f == ("__debug__" : Str)) = false := by decide +kernel) (n2 : (f == ("__classdict__" : Str)) = false := by decide +kernel) (m1 : (g == ("__debug__" : Str)) = false := by decide +kernel) (m2 : (g == ("__classdict__" : Str)) = false := by decide +kernel) : New2 P w K mg base x f g C :=
  ⟨T, n, o, m, fI, _, i1, i2, ok_init2 (fun_mk l c kp) sc hb v0 v1 v2 n1 n2 m1 m2, ⟨fun s us ws X l1 l2 => match us, ws, l1, l2 with | [a, b, c], [], _, _ => .of_eq (b2 a b c), fun r _ => r⟩, ⟨fun s us ws X l1 l2 => match us, ws, l1, l2 with | [a], [c, b], _, _ => .of_eq (b1 a b c), fun r r' => r.append (vals_rev r')⟩⟩
end
end K10
set_option Elab.async false
set_option linter.all false
set_option maxRecDepth 100000
set_option maxHeartbeats 8000000
namespace K10
open PySem PySem.Spec PyProof.Rows L2 PySem.XM
open PySem.W (Frag)
/-- what is written of a class's own `__init__` -/
def HasInit (K : Frag) (C : Addr) (q : Str) (st : Stmt) : Prop := ∃ fI oc od kV doc pm an cdv ct osl, PySem.W.findIn K (.ref C) "__init__" = some (some (.ref fI)) ∧ PySem.W.isFn K (.ref fI) = true ∧ K.lookup fI = some ⟨oc, od, .func (PySem.W.fnOf "__init__" q (defArgs st) (defBody st) (defScope st) .none kV doc pm an cdv ct), osl⟩ ∧ PySem.W.codeIn K cdv q = true ∧ PySem.W.keepIn K (.ref fI) = true
theorem init_has {K : Frag} {C fI : Addr} {q : Str} {st : Stmt} {kV doc pm cdv ct oc : Value} {od an : Option Addr} {osl : Array (Option Value)} (i1 : PySem.W.findIn K (.ref C) "__init__" = some (some (.ref fI))) (i2 : PySem.W.isFn K (.ref fI) = true)
    (l : K.lookup fI = some ⟨oc, od, .func (PySem.W.fnOf "__init__" q (defArgs st) (defBody st) (defScope st) .none kV doc pm an cdv ct), osl⟩) (c : PySem.W.codeIn K cdv q = true) (kp : PySem.W.keepIn K (.ref fI) = true) : HasInit K C q st := ⟨fI, oc, od, kV, doc, pm, an, cdv, ct, osl, i1, i2, l, c, kp⟩
/-- what is written of a def of the text -/
def HasDef (K : Frag) (x : Str) (st : Stmt) : Prop := ∃ f oc od kV doc pm an cdv ct osl, PySem.W.nsIn K mainGlobals x = some (some (.ref f)) ∧ K.lookup f = some ⟨oc, od, .func (PySem.W.fnOf x x (defArgs st) (defBody st) (defScope st) .none kV doc pm an cdv ct), osl⟩ ∧ PySem.W.codeIn K cdv x = true ∧ PySem.W.keepIn K (.ref f) = true
theorem def_has {K : Frag} {f : Addr} {x : Str} {st : Stmt} {kV doc pm cdv ct oc : Value} {od an : Option Addr} {osl : Array (Option Value)} (n : PySem.W.nsIn K mainGlobals x = some (some (.ref f)))
    (l : K.lookup f = some ⟨oc, od, .func (PySem.W.fnOf x x (defArgs st) (defBody st) (defScope st) .none kV doc pm an cdv ct), osl⟩) (c : PySem.W.codeIn K cdv x = true) (kp : PySem.W.keepIn K (.ref f) = true) : HasDef K x st := ⟨f, oc, od, kV, doc, pm, an, cdv, ct, osl, n, l, c, kp⟩
section
variable {P : Program} {w : World} {K : Frag} {mg : Str → Option Value} {base : Heap} {h : Heap} {C : Addr} {q f g x : Str} {st : Stmt} {p1 p2 p3 p4 q1 q2 q3 q4 : Pos}
theorem new1_of (H : HasInit K C q st) (T : XC K C) (n : PySem.W.findIn K (.ref C) f = some none) (m : mg x = some (.ref C)) (sc : FnScope ["self", f] ["self", f] (defScope st)) (hb : defBody st = [.Assign [.Attribute (.Name "self" p1) f p2] (.Name f p3) p4]) (v0 : Vis (defScope st) "self") (v1 : Vis (defScope st) f)
    (b2 : ∀ kV doc pm an cdv ct (a b : Value), bindArgs (PySem.W.fnOf "__init__" q (defArgs st) (defBody st) (defScope st) .none kV doc pm an cdv ct) ⟨[a, b], []⟩ = pure [(("self" : Str), a), (f, b)])
    (b1 : ∀ kV doc pm an cdv ct (a b : Value), bindArgs (PySem.W.fnOf "__init__" q (defArgs st) (defBody st) (defScope st) .none kV doc pm an cdv ct) ⟨[a], [(f, b)]⟩ = pure [(("self" : Str), a), (f, b)])
    (n1 : (f == ("__debug__" : Str)) = false := by decide +kernel) (n2 : (f == ("__classdict__" : Str)) = false := by decide +kernel) : New1 P w K mg base x f C := by
  obtain ⟨fI, oc, od, kV, doc, pm, an, cdv, ct, osl, i1, i2, l, c, kp⟩ := H
  exact new1_mk T n m i1 i2 l c kp sc hb v0 v1 (b2 _ _ _ _ _ _) (b1 _ _ _ _ _ _) n1 n2
theorem new2_of (H : HasInit K C q st) (T : XC K C) (n : PySem.W.findIn K (.ref C) f = some none) (o : PySem.W.findIn K (.ref C) g = some none) (m : mg x = some (.ref C)) (sc : FnScope ["self", f, g] ["self", f, g] (defScope st))
    (hb : defBody st = [.Assign [.Attribute (.Name "self" p1) f p2] (.Name f p3) p4, .Assign [.Attribute (.Name "self" q1) g q2] (.Name g q3) q4]) (v0 : Vis (defScope st) "self") (v1 : Vis (defScope st) f) (v2 : Vis (defScope st) g)
    (b2 : ∀ kV doc pm an cdv ct (a b c : Value), bindArgs (PySem.W.fnOf "__init__" q (defArgs st) (defBody st) (defScope st) .none kV doc pm an cdv ct) ⟨[a, b, c], []⟩ = pure [(("self" : Str), a), (f, b), (g, c)])
    (b1 : ∀ kV doc pm an cdv ct (a b c : Value), bindArgs (PySem.W.fnOf "__init__" q (defArgs st) (defBody st) (defScope st) .none kV doc pm an cdv ct) ⟨[a], [(g, c), (f, b)]⟩ = pure [(("self" : Str), a), (f, b), (g, c)])
    (n1 : (f == ("__debug__" : Str)) = false := by decide +kernel) (n2 : (f == ("__classdict__" : Str)) = false := by decide +kernel) (m1 : (g == ("__debug__" : Str)) = false := by decide +kernel) (m2 : (g == ("__classdict__" : Str)) = false := by decide +kernel) : New2 P w K mg base x f g C := by
  obtain ⟨fI, oc, od, kV, doc, pm, an, cdv, ct, osl, i1, i2, l, c, kp⟩ := H
  exact new2_mk T n o m i1 i2 l c kp sc hb v0 v1 v2 (b2 _ _ _ _ _ _) (b1 _ _ _ _ _ _) n1 n2 m1 m2
end
/-! The facts that one computation over the written part gives. -/
def fbX (K : Frag) (V O : List Addr) : Bool := V.all (fun C => xcB K C "ValueError" "ValueError.__new__") && ((O.take 9).all (fun C => xcB K C "RuntimeError" "RuntimeError.__new__") && (((O.drop 9).take 2).all (fun C => xcB K C "LookupError" "LookupError.__new__") && (O.drop 11).all (fun C => xcB K C "ArithmeticError" "ArithmeticError.__new__")))
def fbS (K : Frag) (V O : List Addr) (S M T L : Addr) : Bool := V.all (fun C => stB K C (ufam S M T L) (famB 0)) && ((O.take 9).all (fun C => stB K C (ufam S M T L) (famB 2)) && (((O.drop 9).take 2).all (fun C => stB K C (ufam S M T L) (famB 1)) && (O.drop 11).all (fun C => stB K C (ufam S M T L) (famB 3))))
def fbA (K : Frag) (V O : List Addr) : Bool := (List.range 22).all (fun i => stB K (V.getD i 0) (urefs (fun j => V.getD j 0) 22) (oneB 22 i) && stB K (V.getD i 0) (urefs (fun j => O.getD j 0) 12) (List.replicate 12 false)) &&
  (List.range 12).all (fun i => stB K (O.getD i 0) (urefs (fun j => O.getD j 0) 12) (oneB 12 i) && stB K (O.getD i 0) (urefs (fun j => V.getD j 0) 22) (List.replicate 22 false))
def thC (V O : List Addr) (i : Nat) : Addr := [V.getD 17 0, V.getD 2 0, V.getD 21 0, O.getD 9 0, O.getD 3 0, O.getD 5 0, O.getD 11 0].getD i 0
def fbE (K : Frag) (V O : List Addr) (S M T L : Addr) : Bool := (List.range 7).all (fun i => decide (PySem.W.exmOne K (.ref (thC V O i)) (.ref S) = some (fam i == 0)) && (decide (PySem.W.exmOne K (.ref (thC V O i)) (.ref M) = some (fam i == 1)) && (decide (PySem.W.exmOne K (.ref (thC V O i)) (.ref T) = some (fam i == 2)) && decide (PySem.W.exmOne K (.ref (thC V O i)) (.ref L) = some (fam i == 3))))) &&
  decide (PySem.W.exmOne K (.ref (thC V O 5)) (.ref (thC V O 5)) = some true)
def bare : List Str := ["len", "abs", "max", "min", "int", "divmod", "range", "repr", "all", "any", "enumerate", "isinstance", "ValueError", "LookupError", "RuntimeError", "ArithmeticError"]
def fbN (K : Frag) : Bool := bare.all fun x => decide (PySem.W.nsIn K mainGlobals x = some none)
def fields (V O : List Addr) : List (Addr × Str) := (List.range 17).map (fun i => (V.getD i 0, ("value" : Str))) ++ [(V.getD 17 0, ("position" : Str)), (V.getD 18 0, ("position" : Str)), (V.getD 19 0, ("position" : Str)), (V.getD 20 0, ("position" : Str)), (V.getD 21 0, ("line" : Str)), (O.getD 0 0, ("one" : Str)), (O.getD 0 0, ("other" : Str)), (O.getD 1 0, ("one" : Str)), (O.getD 1 0, ("other" : Str)), (O.getD 2 0, ("value" : Str)), (O.getD 5 0, ("least" : Str)), (O.getD 5 0, ("greatest" : Str)), (O.getD 6 0, ("value" : Str)), (O.getD 8 0, ("position" : Str)), (O.getD 9 0, ("value" : Str)), (O.getD 10 0, ("value" : Str)), (O.getD 11 0, ("what" : Str)), (O.getD 11 0, ("limit" : Str))]
def fbF (K : Frag) (V O : List Addr) : Bool := (fields V O).all fun c => decide (PySem.W.findIn K (.ref c.1) c.2 = some none)
def fbZ (K : Frag) (O : List Addr) : Bool := [3, 4, 7].all fun i => PySem.W.excIn K (O.getD i 0) (mB "RuntimeError") "RuntimeError.__new__"
def fbAll (K : Frag) (V O : List Addr) (S M T L : Addr) : Bool := fbX K V O && (fbS K V O S M T L && (fbA K V O && (fbE K V O S M T L && (fbN K && (fbF K V O && fbZ K O)))))
theorem mem_at {α : Type} {l : List α} {x : α} {k : Nat} (h : l[k]? = some x) : x ∈ l := List.mem_of_getElem? h
theorem all_mk {P : Program} {w : World} {K : Frag} {mg : Str → Option Value} {h : Heap} {fa : Addr} (X : K.In h) (G : h.Ns mainGlobals mg) (hfa : mg "law" = some (.ref fa)) {A_StairError A_MissingError A_StateError A_LimitError A_InvalidSteps A_InvalidJump A_InvalidWay A_InvalidThing A_InvalidScore A_InvalidWays A_InvalidCount A_InvalidFlow A_InvalidRun A_InvalidMark A_InvalidMarks A_InvalidPrices A_InvalidMoves A_InvalidHabits A_InvalidShares A_InvalidClaim A_InvalidCommand A_InvalidJumps A_InvalidLengths A_InvalidBounds A_InvalidEnds A_InvalidText A_OtherSteps A_OtherStair A_NotTogether A_NothingFits A_Endless A_NotBetween A_Unmeeting A_NothingToUndo A_CommandFailed A_UnknownWay A_NoSuch A_TooMany : Addr}
    (c_StairError : PySem.W.nsIn K mainGlobals "StairError" = some (some (.ref A_StairError)))
    (c_MissingError : PySem.W.nsIn K mainGlobals "MissingError" = some (some (.ref A_MissingError)))
    (c_StateError : PySem.W.nsIn K mainGlobals "StateError" = some (some (.ref A_StateError)))
    (c_LimitError : PySem.W.nsIn K mainGlobals "LimitError" = some (some (.ref A_LimitError)))
    (c_InvalidSteps : PySem.W.nsIn K mainGlobals "InvalidSteps" = some (some (.ref A_InvalidSteps)))
    (c_InvalidJump : PySem.W.nsIn K mainGlobals "InvalidJump" = some (some (.ref A_InvalidJump)))
    (c_InvalidWay : PySem.W.nsIn K mainGlobals "InvalidWay" = some (some (.ref A_InvalidWay)))
    (c_InvalidThing : PySem.W.nsIn K mainGlobals "InvalidThing" = some (some (.ref A_InvalidThing)))
    (c_InvalidScore : PySem.W.nsIn K mainGlobals "InvalidScore" = some (some (.ref A_InvalidScore)))
    (c_InvalidWays : PySem.W.nsIn K mainGlobals "InvalidWays" = some (some (.ref A_InvalidWays)))
    (c_InvalidCount : PySem.W.nsIn K mainGlobals "InvalidCount" = some (some (.ref A_InvalidCount)))
    (c_InvalidFlow : PySem.W.nsIn K mainGlobals "InvalidFlow" = some (some (.ref A_InvalidFlow)))
    (c_InvalidRun : PySem.W.nsIn K mainGlobals "InvalidRun" = some (some (.ref A_InvalidRun)))
    (c_InvalidMark : PySem.W.nsIn K mainGlobals "InvalidMark" = some (some (.ref A_InvalidMark)))
    (c_InvalidMarks : PySem.W.nsIn K mainGlobals "InvalidMarks" = some (some (.ref A_InvalidMarks)))
    (c_InvalidPrices : PySem.W.nsIn K mainGlobals "InvalidPrices" = some (some (.ref A_InvalidPrices)))
    (c_InvalidMoves : PySem.W.nsIn K mainGlobals "InvalidMoves" = some (some (.ref A_InvalidMoves)))
    (c_InvalidHabits : PySem.W.nsIn K mainGlobals "InvalidHabits" = some (some (.ref A_InvalidHabits)))
    (c_InvalidShares : PySem.W.nsIn K mainGlobals "InvalidShares" = some (some (.ref A_InvalidShares)))
    (c_InvalidClaim : PySem.W.nsIn K mainGlobals "InvalidClaim" = some (some (.ref A_InvalidClaim)))
    (c_InvalidCommand : PySem.W.nsIn K mainGlobals "InvalidCommand" = some (some (.ref A_InvalidCommand)))
    (c_InvalidJumps : PySem.W.nsIn K mainGlobals "InvalidJumps" = some (some (.ref A_InvalidJumps)))
    (c_InvalidLengths : PySem.W.nsIn K mainGlobals "InvalidLengths" = some (some (.ref A_InvalidLengths)))
    (c_InvalidBounds : PySem.W.nsIn K mainGlobals "InvalidBounds" = some (some (.ref A_InvalidBounds)))
    (c_InvalidEnds : PySem.W.nsIn K mainGlobals "InvalidEnds" = some (some (.ref A_InvalidEnds)))
    (c_InvalidText : PySem.W.nsIn K mainGlobals "InvalidText" = some (some (.ref A_InvalidText)))
    (c_OtherSteps : PySem.W.nsIn K mainGlobals "OtherSteps" = some (some (.ref A_OtherSteps)))
    (c_OtherStair : PySem.W.nsIn K mainGlobals "OtherStair" = some (some (.ref A_OtherStair)))
    (c_NotTogether : PySem.W.nsIn K mainGlobals "NotTogether" = some (some (.ref A_NotTogether)))
    (c_NothingFits : PySem.W.nsIn K mainGlobals "NothingFits" = some (some (.ref A_NothingFits)))
    (c_Endless : PySem.W.nsIn K mainGlobals "Endless" = some (some (.ref A_Endless)))
    (c_NotBetween : PySem.W.nsIn K mainGlobals "NotBetween" = some (some (.ref A_NotBetween)))
    (c_Unmeeting : PySem.W.nsIn K mainGlobals "Unmeeting" = some (some (.ref A_Unmeeting)))
    (c_NothingToUndo : PySem.W.nsIn K mainGlobals "NothingToUndo" = some (some (.ref A_NothingToUndo)))
    (c_CommandFailed : PySem.W.nsIn K mainGlobals "CommandFailed" = some (some (.ref A_CommandFailed)))
    (c_UnknownWay : PySem.W.nsIn K mainGlobals "UnknownWay" = some (some (.ref A_UnknownWay)))
    (c_NoSuch : PySem.W.nsIn K mainGlobals "NoSuch" = some (some (.ref A_NoSuch)))
    (c_TooMany : PySem.W.nsIn K mainGlobals "TooMany" = some (some (.ref A_TooMany)))
    (h_InvalidSteps : HasInit K A_InvalidSteps "InvalidSteps.__init__" (initOf 2))
    (h_InvalidJump : HasInit K A_InvalidJump "InvalidJump.__init__" (initOf 4))
    (h_InvalidWay : HasInit K A_InvalidWay "InvalidWay.__init__" (initOf 6))
    (h_InvalidThing : HasInit K A_InvalidThing "InvalidThing.__init__" (initOf 7))
    (h_InvalidScore : HasInit K A_InvalidScore "InvalidScore.__init__" (initOf 8))
    (h_InvalidWays : HasInit K A_InvalidWays "InvalidWays.__init__" (initOf 9))
    (h_InvalidCount : HasInit K A_InvalidCount "InvalidCount.__init__" (initOf 10))
    (h_InvalidFlow : HasInit K A_InvalidFlow "InvalidFlow.__init__" (initOf 11))
    (h_InvalidRun : HasInit K A_InvalidRun "InvalidRun.__init__" (initOf 12))
    (h_InvalidMark : HasInit K A_InvalidMark "InvalidMark.__init__" (initOf 13))
    (h_InvalidMarks : HasInit K A_InvalidMarks "InvalidMarks.__init__" (initOf 14))
    (h_InvalidPrices : HasInit K A_InvalidPrices "InvalidPrices.__init__" (initOf 15))
    (h_InvalidMoves : HasInit K A_InvalidMoves "InvalidMoves.__init__" (initOf 17))
    (h_InvalidHabits : HasInit K A_InvalidHabits "InvalidHabits.__init__" (initOf 19))
    (h_InvalidShares : HasInit K A_InvalidShares "InvalidShares.__init__" (initOf 20))
    (h_InvalidClaim : HasInit K A_InvalidClaim "InvalidClaim.__init__" (initOf 22))
    (h_InvalidCommand : HasInit K A_InvalidCommand "InvalidCommand.__init__" (initOf 23))
    (h_InvalidJumps : HasInit K A_InvalidJumps "InvalidJumps.__init__" (initOf 3))
    (h_InvalidLengths : HasInit K A_InvalidLengths "InvalidLengths.__init__" (initOf 5))
    (h_InvalidBounds : HasInit K A_InvalidBounds "InvalidBounds.__init__" (initOf 16))
    (h_InvalidEnds : HasInit K A_InvalidEnds "InvalidEnds.__init__" (initOf 18))
    (h_InvalidText : HasInit K A_InvalidText "InvalidText.__init__" (initOf 21))
    (h_OtherSteps : HasInit K A_OtherSteps "OtherSteps.__init__" (initOf 28))
    (h_OtherStair : HasInit K A_OtherStair "OtherStair.__init__" (initOf 29))
    (h_NotTogether : HasInit K A_NotTogether "NotTogether.__init__" (initOf 30))
    (h_NotBetween : HasInit K A_NotBetween "NotBetween.__init__" (initOf 33))
    (h_Unmeeting : HasInit K A_Unmeeting "Unmeeting.__init__" (initOf 34))
    (h_CommandFailed : HasInit K A_CommandFailed "CommandFailed.__init__" (initOf 36))
    (h_UnknownWay : HasInit K A_UnknownWay "UnknownWay.__init__" (initOf 25))
    (h_NoSuch : HasInit K A_NoSuch "NoSuch.__init__" (initOf 26))
    (h_TooMany : HasInit K A_TooMany "TooMany.__init__" (initOf 38))
    (d__law_pot : HasDef K "_law_pot" sPot)
    (d__law_draw : HasDef K "_law_draw" sDraw)
    (d__law_pick : HasDef K "_law_pick" sPick)
    (d__law_grounds : HasDef K "_law_grounds" sGrounds)
    (d__law_ground : HasDef K "_law_ground" sGround)
    (d__law_thing : HasDef K "_law_thing" sThing)
    (d__law_by_value : HasDef K "_law_by_value" sByV)
    (d__law_by_named_value : HasDef K "_law_by_named_value" sByN)
    (d__law_by_place : HasDef K "_law_by_place" sByP)
    (d__law_thrown : HasDef K "_law_thrown" sThrown)
    (d__law_caught : HasDef K "_law_caught" sCaught)
    (d__law_raised_right : HasDef K "_law_raised_right" sRaised)
    (d__law_values_right : HasDef K "_law_values_right" sVals)
    (d__law_states_right : HasDef K "_law_states_right" sSts)
    (d__law_limits_right : HasDef K "_law_limits_right" sLim)
    (d__law_sorts : HasDef K "_law_sorts" sSorts)
    (d__law_stands : HasDef K "_law_stands" sStands)
    (d__law_apart_right : HasDef K "_law_apart_right" sApart)
    (d__law_right : HasDef K "_law_right" sRight)
    (d_law : HasDef K "law" sLaw)
    (fb : fbAll K [A_InvalidSteps, A_InvalidJump, A_InvalidWay, A_InvalidThing, A_InvalidScore, A_InvalidWays, A_InvalidCount, A_InvalidFlow, A_InvalidRun, A_InvalidMark, A_InvalidMarks, A_InvalidPrices, A_InvalidMoves, A_InvalidHabits, A_InvalidShares, A_InvalidClaim, A_InvalidCommand, A_InvalidJumps, A_InvalidLengths, A_InvalidBounds, A_InvalidEnds, A_InvalidText] [A_OtherSteps, A_OtherStair, A_NotTogether, A_NothingFits, A_Endless, A_NotBetween, A_Unmeeting, A_NothingToUndo, A_CommandFailed, A_UnknownWay, A_NoSuch, A_TooMany] A_StairError A_MissingError A_StateError A_LimitError = true) :
    ∃ fd : FuncData, (∀ (s : Shared) (v : Value), BindsTo s fd ⟨[v], []⟩ [("_law_script", v)]) ∧ ∀ base : Heap, K.In base → base.Ns mainGlobals mg → FnG P w K mg base CX0 7 fa fd ["_law_script"] (spLaw K) := by
  have mgo : ∀ {x : Str} {a : Addr}, PySem.W.nsIn K mainGlobals x = some (some (.ref a)) → mg x = some (.ref a) := fun e => PySem.W.mg_of X G e
  generalize hLV : ([A_InvalidSteps, A_InvalidJump, A_InvalidWay, A_InvalidThing, A_InvalidScore, A_InvalidWays, A_InvalidCount, A_InvalidFlow, A_InvalidRun, A_InvalidMark, A_InvalidMarks, A_InvalidPrices, A_InvalidMoves, A_InvalidHabits, A_InvalidShares, A_InvalidClaim, A_InvalidCommand, A_InvalidJumps, A_InvalidLengths, A_InvalidBounds, A_InvalidEnds, A_InvalidText] : List Addr) = LV at fb
  generalize hLO : ([A_OtherSteps, A_OtherStair, A_NotTogether, A_NothingFits, A_Endless, A_NotBetween, A_Unmeeting, A_NothingToUndo, A_CommandFailed, A_UnknownWay, A_NoSuch, A_TooMany] : List Addr) = LO at fb
  have lv : LV.length = 22 := by rw [← hLV]; rfl
  have lo : LO.length = 12 := by rw [← hLO]; rfl
  obtain ⟨fx, fb⟩ := and_of fb
  obtain ⟨fs, fb⟩ := and_of fb
  obtain ⟨fA, fb⟩ := and_of fb
  obtain ⟨fe, fb⟩ := and_of fb
  obtain ⟨fn, fb⟩ := and_of fb
  obtain ⟨ff, fz⟩ := and_of fb
  obtain ⟨x1, fx⟩ := and_of fx
  obtain ⟨x2, fx⟩ := and_of fx
  obtain ⟨x3, x4⟩ := and_of fx
  obtain ⟨s1, fs⟩ := and_of fs
  obtain ⟨s2, fs⟩ := and_of fs
  obtain ⟨s3, s4⟩ := and_of fs
  obtain ⟨a1, a2⟩ := and_of fA
  obtain ⟨e1, e2⟩ := and_of fe
  have inV : ∀ i, i < 22 → LV.getD i 0 ∈ LV := fun i hi => by rw [List.getD_eq_getElem?_getD, List.getElem?_eq_getElem (by omega)]; exact List.getElem_mem _
  have inO : ∀ i, i < 9 → LO.getD i 0 ∈ LO.take 9 := fun i hi => by
    rw [← hLO]
    match i, hi with
    | 0, _ => exact mem_at (k := 0) rfl
    | 1, _ => exact mem_at (k := 1) rfl
    | 2, _ => exact mem_at (k := 2) rfl
    | 3, _ => exact mem_at (k := 3) rfl
    | 4, _ => exact mem_at (k := 4) rfl
    | 5, _ => exact mem_at (k := 5) rfl
    | 6, _ => exact mem_at (k := 6) rfl
    | 7, _ => exact mem_at (k := 7) rfl
    | 8, _ => exact mem_at (k := 8) rfl
  have tv : ∀ i, i < 22 → XC K (LV.getD i 0) := fun i hi => xc_of PySem.F.excBase_ValueError PySem.F.store_ValueError (List.all_eq_true.mp x1 _ (inV i hi))
  have to : ∀ i, i < 9 → XC K (LO.getD i 0) := fun i hi => xc_of PySem.F.excBase_RuntimeError PySem.F.store_RuntimeError (List.all_eq_true.mp x2 _ (inO i hi))
  have m9 : LO.getD 9 0 ∈ (LO.drop 9).take 2 := by rw [← hLO]; exact mem_at (k := 0) rfl
  have m10 : LO.getD 10 0 ∈ (LO.drop 9).take 2 := by rw [← hLO]; exact mem_at (k := 1) rfl
  have m11 : LO.getD 11 0 ∈ LO.drop 11 := by rw [← hLO]; exact mem_at (k := 0) rfl
  have t9 : XC K (LO.getD 9 0) := xc_of PySem.F.excBase_LookupError PySem.F.store_LookupError (List.all_eq_true.mp x3 _ m9)
  have t10 : XC K (LO.getD 10 0) := xc_of PySem.F.excBase_LookupError PySem.F.store_LookupError (List.all_eq_true.mp x3 _ m10)
  have t11 : XC K (LO.getD 11 0) := xc_of PySem.F.excBase_ArithmeticError PySem.F.store_ArithmeticError (List.all_eq_true.mp x4 _ m11)
  have sv : ∀ i, i < 22 → Stands K (LV.getD i 0) (famC A_StairError A_MissingError A_StateError A_LimitError) (famB 0) := fun i hi => st_of (cls_fam _ _ _ _) (List.all_eq_true.mp s1 _ (inV i hi))
  have so : ∀ i, i < 9 → Stands K (LO.getD i 0) (famC A_StairError A_MissingError A_StateError A_LimitError) (famB 2) := fun i hi => st_of (cls_fam _ _ _ _) (List.all_eq_true.mp s2 _ (inO i hi))
  have u9 : Stands K (LO.getD 9 0) (famC A_StairError A_MissingError A_StateError A_LimitError) (famB 1) := st_of (cls_fam _ _ _ _) (List.all_eq_true.mp s3 _ m9)
  have u10 : Stands K (LO.getD 10 0) (famC A_StairError A_MissingError A_StateError A_LimitError) (famB 1) := st_of (cls_fam _ _ _ _) (List.all_eq_true.mp s3 _ m10)
  have u11 : Stands K (LO.getD 11 0) (famC A_StairError A_MissingError A_StateError A_LimitError) (famB 3) := st_of (cls_fam _ _ _ _) (List.all_eq_true.mp s4 _ m11)
  have apt : Apt K (fun i => LV.getD i 0) (fun i => LO.getD i 0) := ⟨fun i hi => st_of (cls_refs _ _) (and_of (List.all_eq_true.mp a1 i (List.mem_range.mpr hi))).1, fun i hi => st_of (cls_refs _ _) (and_of (List.all_eq_true.mp a1 i (List.mem_range.mpr hi))).2, fun i hi => st_of (cls_refs _ _) (and_of (List.all_eq_true.mp a2 i (List.mem_range.mpr hi))).1, fun i hi => st_of (cls_refs _ _) (and_of (List.all_eq_true.mp a2 i (List.mem_range.mpr hi))).2⟩
  have nn : ∀ {x : Str} (k : Nat), bare[k]? = some x → mg x = none := fun k hk => PySem.W.mg_none_of X G (of_decide_eq_true (List.all_eq_true.mp fn _ (List.mem_of_getElem? hk)))
  have bl : Bl mg := ⟨nn 0 rfl, nn 1 rfl, nn 2 rfl, nn 3 rfl, nn 4 rfl, nn 5 rfl, nn 6 rfl, nn 7 rfl, nn 8 rfl, nn 9 rfl, nn 10 rfl, nn 11 rfl⟩
  have fg : Fam mg A_StairError A_MissingError A_StateError A_LimitError := ⟨mgo c_StairError, mgo c_MissingError, mgo c_StateError, mgo c_LimitError, nn 12 rfl, nn 13 rfl, nn 14 rfl, nn 15 rfl⟩
  have fl : ∀ {C : Addr} {f : Str} (k : Nat), (fields LV LO)[k]? = some (C, f) → PySem.W.findIn K (.ref C) f = some none := fun k hk => of_decide_eq_true (List.all_eq_true.mp ff _ (List.mem_of_getElem? hk))
  subst hLV
  subst hLO
  have N_InvalidSteps : ∀ base : Heap, New1 P w K mg base "InvalidSteps" "value" A_InvalidSteps := fun base => new1_of h_InvalidSteps (tv 0 (by decide)) (fl 0 rfl) (mgo c_InvalidSteps) ⟨rfl, rfl, rfl, by decide +kernel, rfl, by decide +kernel, by decide +kernel⟩ rfl (.inl rfl) (.inl rfl) (fun _ _ _ _ _ _ _ _ => rfl) (fun _ _ _ _ _ _ _ _ => rfl)
  have N_InvalidJump : ∀ base : Heap, New1 P w K mg base "InvalidJump" "value" A_InvalidJump := fun base => new1_of h_InvalidJump (tv 1 (by decide)) (fl 1 rfl) (mgo c_InvalidJump) ⟨rfl, rfl, rfl, by decide +kernel, rfl, by decide +kernel, by decide +kernel⟩ rfl (.inl rfl) (.inl rfl) (fun _ _ _ _ _ _ _ _ => rfl) (fun _ _ _ _ _ _ _ _ => rfl)
  have N_InvalidWay : ∀ base : Heap, New1 P w K mg base "InvalidWay" "value" A_InvalidWay := fun base => new1_of h_InvalidWay (tv 2 (by decide)) (fl 2 rfl) (mgo c_InvalidWay) ⟨rfl, rfl, rfl, by decide +kernel, rfl, by decide +kernel, by decide +kernel⟩ rfl (.inl rfl) (.inl rfl) (fun _ _ _ _ _ _ _ _ => rfl) (fun _ _ _ _ _ _ _ _ => rfl)
  have N_InvalidThing : ∀ base : Heap, New1 P w K mg base "InvalidThing" "value" A_InvalidThing := fun base => new1_of h_InvalidThing (tv 3 (by decide)) (fl 3 rfl) (mgo c_InvalidThing) ⟨rfl, rfl, rfl, by decide +kernel, rfl, by decide +kernel, by decide +kernel⟩ rfl (.inl rfl) (.inl rfl) (fun _ _ _ _ _ _ _ _ => rfl) (fun _ _ _ _ _ _ _ _ => rfl)
  have N_InvalidScore : ∀ base : Heap, New1 P w K mg base "InvalidScore" "value" A_InvalidScore := fun base => new1_of h_InvalidScore (tv 4 (by decide)) (fl 4 rfl) (mgo c_InvalidScore) ⟨rfl, rfl, rfl, by decide +kernel, rfl, by decide +kernel, by decide +kernel⟩ rfl (.inl rfl) (.inl rfl) (fun _ _ _ _ _ _ _ _ => rfl) (fun _ _ _ _ _ _ _ _ => rfl)
  have N_InvalidWays : ∀ base : Heap, New1 P w K mg base "InvalidWays" "value" A_InvalidWays := fun base => new1_of h_InvalidWays (tv 5 (by decide)) (fl 5 rfl) (mgo c_InvalidWays) ⟨rfl, rfl, rfl, by decide +kernel, rfl, by decide +kernel, by decide +kernel⟩ rfl (.inl rfl) (.inl rfl) (fun _ _ _ _ _ _ _ _ => rfl) (fun _ _ _ _ _ _ _ _ => rfl)
  have N_InvalidCount : ∀ base : Heap, New1 P w K mg base "InvalidCount" "value" A_InvalidCount := fun base => new1_of h_InvalidCount (tv 6 (by decide)) (fl 6 rfl) (mgo c_InvalidCount) ⟨rfl, rfl, rfl, by decide +kernel, rfl, by decide +kernel, by decide +kernel⟩ rfl (.inl rfl) (.inl rfl) (fun _ _ _ _ _ _ _ _ => rfl) (fun _ _ _ _ _ _ _ _ => rfl)
  have N_InvalidFlow : ∀ base : Heap, New1 P w K mg base "InvalidFlow" "value" A_InvalidFlow := fun base => new1_of h_InvalidFlow (tv 7 (by decide)) (fl 7 rfl) (mgo c_InvalidFlow) ⟨rfl, rfl, rfl, by decide +kernel, rfl, by decide +kernel, by decide +kernel⟩ rfl (.inl rfl) (.inl rfl) (fun _ _ _ _ _ _ _ _ => rfl) (fun _ _ _ _ _ _ _ _ => rfl)
  have N_InvalidRun : ∀ base : Heap, New1 P w K mg base "InvalidRun" "value" A_InvalidRun := fun base => new1_of h_InvalidRun (tv 8 (by decide)) (fl 8 rfl) (mgo c_InvalidRun) ⟨rfl, rfl, rfl, by decide +kernel, rfl, by decide +kernel, by decide +kernel⟩ rfl (.inl rfl) (.inl rfl) (fun _ _ _ _ _ _ _ _ => rfl) (fun _ _ _ _ _ _ _ _ => rfl)
  have N_InvalidMark : ∀ base : Heap, New1 P w K mg base "InvalidMark" "value" A_InvalidMark := fun base => new1_of h_InvalidMark (tv 9 (by decide)) (fl 9 rfl) (mgo c_InvalidMark) ⟨rfl, rfl, rfl, by decide +kernel, rfl, by decide +kernel, by decide +kernel⟩ rfl (.inl rfl) (.inl rfl) (fun _ _ _ _ _ _ _ _ => rfl) (fun _ _ _ _ _ _ _ _ => rfl)
  have N_InvalidMarks : ∀ base : Heap, New1 P w K mg base "InvalidMarks" "value" A_InvalidMarks := fun base => new1_of h_InvalidMarks (tv 10 (by decide)) (fl 10 rfl) (mgo c_InvalidMarks) ⟨rfl, rfl, rfl, by decide +kernel, rfl, by decide +kernel, by decide +kernel⟩ rfl (.inl rfl) (.inl rfl) (fun _ _ _ _ _ _ _ _ => rfl) (fun _ _ _ _ _ _ _ _ => rfl)
  have N_InvalidPrices : ∀ base : Heap, New1 P w K mg base "InvalidPrices" "value" A_InvalidPrices := fun base => new1_of h_InvalidPrices (tv 11 (by decide)) (fl 11 rfl) (mgo c_InvalidPrices) ⟨rfl, rfl, rfl, by decide +kernel, rfl, by decide +kernel, by decide +kernel⟩ rfl (.inl rfl) (.inl rfl) (fun _ _ _ _ _ _ _ _ => rfl) (fun _ _ _ _ _ _ _ _ => rfl)
  have N_InvalidMoves : ∀ base : Heap, New1 P w K mg base "InvalidMoves" "value" A_InvalidMoves := fun base => new1_of h_InvalidMoves (tv 12 (by decide)) (fl 12 rfl) (mgo c_InvalidMoves) ⟨rfl, rfl, rfl, by decide +kernel, rfl, by decide +kernel, by decide +kernel⟩ rfl (.inl rfl) (.inl rfl) (fun _ _ _ _ _ _ _ _ => rfl) (fun _ _ _ _ _ _ _ _ => rfl)
  have N_InvalidHabits : ∀ base : Heap, New1 P w K mg base "InvalidHabits" "value" A_InvalidHabits := fun base => new1_of h_InvalidHabits (tv 13 (by decide)) (fl 13 rfl) (mgo c_InvalidHabits) ⟨rfl, rfl, rfl, by decide +kernel, rfl, by decide +kernel, by decide +kernel⟩ rfl (.inl rfl) (.inl rfl) (fun _ _ _ _ _ _ _ _ => rfl) (fun _ _ _ _ _ _ _ _ => rfl)
  have N_InvalidShares : ∀ base : Heap, New1 P w K mg base "InvalidShares" "value" A_InvalidShares := fun base => new1_of h_InvalidShares (tv 14 (by decide)) (fl 14 rfl) (mgo c_InvalidShares) ⟨rfl, rfl, rfl, by decide +kernel, rfl, by decide +kernel, by decide +kernel⟩ rfl (.inl rfl) (.inl rfl) (fun _ _ _ _ _ _ _ _ => rfl) (fun _ _ _ _ _ _ _ _ => rfl)
  have N_InvalidClaim : ∀ base : Heap, New1 P w K mg base "InvalidClaim" "value" A_InvalidClaim := fun base => new1_of h_InvalidClaim (tv 15 (by decide)) (fl 15 rfl) (mgo c_InvalidClaim) ⟨rfl, rfl, rfl, by decide +kernel, rfl, by decide +kernel, by decide +kernel⟩ rfl (.inl rfl) (.inl rfl) (fun _ _ _ _ _ _ _ _ => rfl) (fun _ _ _ _ _ _ _ _ => rfl)
  have N_InvalidCommand : ∀ base : Heap, New1 P w K mg base "InvalidCommand" "value" A_InvalidCommand := fun base => new1_of h_InvalidCommand (tv 16 (by decide)) (fl 16 rfl) (mgo c_InvalidCommand) ⟨rfl, rfl, rfl, by decide +kernel, rfl, by decide +kernel, by decide +kernel⟩ rfl (.inl rfl) (.inl rfl) (fun _ _ _ _ _ _ _ _ => rfl) (fun _ _ _ _ _ _ _ _ => rfl)
  have N_InvalidJumps : ∀ base : Heap, New1 P w K mg base "InvalidJumps" "position" A_InvalidJumps := fun base => new1_of h_InvalidJumps (tv 17 (by decide)) (fl 17 rfl) (mgo c_InvalidJumps) ⟨rfl, rfl, rfl, by decide +kernel, rfl, by decide +kernel, by decide +kernel⟩ rfl (.inl rfl) (.inl rfl) (fun _ _ _ _ _ _ _ _ => rfl) (fun _ _ _ _ _ _ _ _ => rfl)
  have N_InvalidLengths : ∀ base : Heap, New1 P w K mg base "InvalidLengths" "position" A_InvalidLengths := fun base => new1_of h_InvalidLengths (tv 18 (by decide)) (fl 18 rfl) (mgo c_InvalidLengths) ⟨rfl, rfl, rfl, by decide +kernel, rfl, by decide +kernel, by decide +kernel⟩ rfl (.inl rfl) (.inl rfl) (fun _ _ _ _ _ _ _ _ => rfl) (fun _ _ _ _ _ _ _ _ => rfl)
  have N_InvalidBounds : ∀ base : Heap, New1 P w K mg base "InvalidBounds" "position" A_InvalidBounds := fun base => new1_of h_InvalidBounds (tv 19 (by decide)) (fl 19 rfl) (mgo c_InvalidBounds) ⟨rfl, rfl, rfl, by decide +kernel, rfl, by decide +kernel, by decide +kernel⟩ rfl (.inl rfl) (.inl rfl) (fun _ _ _ _ _ _ _ _ => rfl) (fun _ _ _ _ _ _ _ _ => rfl)
  have N_InvalidEnds : ∀ base : Heap, New1 P w K mg base "InvalidEnds" "position" A_InvalidEnds := fun base => new1_of h_InvalidEnds (tv 20 (by decide)) (fl 20 rfl) (mgo c_InvalidEnds) ⟨rfl, rfl, rfl, by decide +kernel, rfl, by decide +kernel, by decide +kernel⟩ rfl (.inl rfl) (.inl rfl) (fun _ _ _ _ _ _ _ _ => rfl) (fun _ _ _ _ _ _ _ _ => rfl)
  have N_InvalidText : ∀ base : Heap, New1 P w K mg base "InvalidText" "line" A_InvalidText := fun base => new1_of h_InvalidText (tv 21 (by decide)) (fl 21 rfl) (mgo c_InvalidText) ⟨rfl, rfl, rfl, by decide +kernel, rfl, by decide +kernel, by decide +kernel⟩ rfl (.inl rfl) (.inl rfl) (fun _ _ _ _ _ _ _ _ => rfl) (fun _ _ _ _ _ _ _ _ => rfl)
  have N_OtherSteps : ∀ base : Heap, New2 P w K mg base "OtherSteps" "one" "other" A_OtherSteps := fun base => new2_of h_OtherSteps (to 0 (by decide)) (fl 22 rfl) (fl 23 rfl) (mgo c_OtherSteps) ⟨rfl, rfl, rfl, by decide +kernel, rfl, by decide +kernel, by decide +kernel⟩ rfl (.inl rfl) (.inl rfl) (.inl rfl) (fun _ _ _ _ _ _ _ _ _ => rfl) (fun _ _ _ _ _ _ _ _ _ => rfl)
  have N_OtherStair : ∀ base : Heap, New2 P w K mg base "OtherStair" "one" "other" A_OtherStair := fun base => new2_of h_OtherStair (to 1 (by decide)) (fl 24 rfl) (fl 25 rfl) (mgo c_OtherStair) ⟨rfl, rfl, rfl, by decide +kernel, rfl, by decide +kernel, by decide +kernel⟩ rfl (.inl rfl) (.inl rfl) (.inl rfl) (fun _ _ _ _ _ _ _ _ _ => rfl) (fun _ _ _ _ _ _ _ _ _ => rfl)
  have N_NotTogether : ∀ base : Heap, New1 P w K mg base "NotTogether" "value" A_NotTogether := fun base => new1_of h_NotTogether (to 2 (by decide)) (fl 26 rfl) (mgo c_NotTogether) ⟨rfl, rfl, rfl, by decide +kernel, rfl, by decide +kernel, by decide +kernel⟩ rfl (.inl rfl) (.inl rfl) (fun _ _ _ _ _ _ _ _ => rfl) (fun _ _ _ _ _ _ _ _ => rfl)
  have N_NotBetween : ∀ base : Heap, New2 P w K mg base "NotBetween" "least" "greatest" A_NotBetween := fun base => new2_of h_NotBetween (to 5 (by decide)) (fl 27 rfl) (fl 28 rfl) (mgo c_NotBetween) ⟨rfl, rfl, rfl, by decide +kernel, rfl, by decide +kernel, by decide +kernel⟩ rfl (.inl rfl) (.inl rfl) (.inl rfl) (fun _ _ _ _ _ _ _ _ _ => rfl) (fun _ _ _ _ _ _ _ _ _ => rfl)
  have N_Unmeeting : ∀ base : Heap, New1 P w K mg base "Unmeeting" "value" A_Unmeeting := fun base => new1_of h_Unmeeting (to 6 (by decide)) (fl 29 rfl) (mgo c_Unmeeting) ⟨rfl, rfl, rfl, by decide +kernel, rfl, by decide +kernel, by decide +kernel⟩ rfl (.inl rfl) (.inl rfl) (fun _ _ _ _ _ _ _ _ => rfl) (fun _ _ _ _ _ _ _ _ => rfl)
  have N_CommandFailed : ∀ base : Heap, New1 P w K mg base "CommandFailed" "position" A_CommandFailed := fun base => new1_of h_CommandFailed (to 8 (by decide)) (fl 30 rfl) (mgo c_CommandFailed) ⟨rfl, rfl, rfl, by decide +kernel, rfl, by decide +kernel, by decide +kernel⟩ rfl (.inl rfl) (.inl rfl) (fun _ _ _ _ _ _ _ _ => rfl) (fun _ _ _ _ _ _ _ _ => rfl)
  have N_UnknownWay : ∀ base : Heap, New1 P w K mg base "UnknownWay" "value" A_UnknownWay := fun base => new1_of h_UnknownWay t9 (fl 31 rfl) (mgo c_UnknownWay) ⟨rfl, rfl, rfl, by decide +kernel, rfl, by decide +kernel, by decide +kernel⟩ rfl (.inl rfl) (.inl rfl) (fun _ _ _ _ _ _ _ _ => rfl) (fun _ _ _ _ _ _ _ _ => rfl)
  have N_NoSuch : ∀ base : Heap, New1 P w K mg base "NoSuch" "value" A_NoSuch := fun base => new1_of h_NoSuch t10 (fl 32 rfl) (mgo c_NoSuch) ⟨rfl, rfl, rfl, by decide +kernel, rfl, by decide +kernel, by decide +kernel⟩ rfl (.inl rfl) (.inl rfl) (fun _ _ _ _ _ _ _ _ => rfl) (fun _ _ _ _ _ _ _ _ => rfl)
  have N_TooMany : ∀ base : Heap, New2 P w K mg base "TooMany" "what" "limit" A_TooMany := fun base => new2_of h_TooMany t11 (fl 33 rfl) (fl 34 rfl) (mgo c_TooMany) ⟨rfl, rfl, rfl, by decide +kernel, rfl, by decide +kernel, by decide +kernel⟩ rfl (.inl rfl) (.inl rfl) (.inl rfl) (fun _ _ _ _ _ _ _ _ _ => rfl) (fun _ _ _ _ _ _ _ _ _ => rfl)
  have N_NothingFits : New0 K mg "NothingFits" A_NothingFits := ⟨(to 3 (by decide)), mgo c_NothingFits, _, _, _, _, PySem.F.excBase_RuntimeError, List.all_eq_true.mp fz 3 (by decide)⟩
  have N_Endless : New0 K mg "Endless" A_Endless := ⟨(to 4 (by decide)), mgo c_Endless, _, _, _, _, PySem.F.excBase_RuntimeError, List.all_eq_true.mp fz 4 (by decide)⟩
  have N_NothingToUndo : New0 K mg "NothingToUndo" A_NothingToUndo := ⟨(to 7 (by decide)), mgo c_NothingToUndo, _, _, _, _, PySem.F.excBase_RuntimeError, List.all_eq_true.mp fz 7 (by decide)⟩
  have nv : ∀ base : Heap, ∀ i, i < 17 → New1 P w K mg base (vN.getD i "") "value" ((fun i => [A_InvalidSteps, A_InvalidJump, A_InvalidWay, A_InvalidThing, A_InvalidScore, A_InvalidWays, A_InvalidCount, A_InvalidFlow, A_InvalidRun, A_InvalidMark, A_InvalidMarks, A_InvalidPrices, A_InvalidMoves, A_InvalidHabits, A_InvalidShares, A_InvalidClaim, A_InvalidCommand, A_InvalidJumps, A_InvalidLengths, A_InvalidBounds, A_InvalidEnds, A_InvalidText].getD i 0) i) := fun base i hi => by
    match i, hi with
    | 0, _ => exact N_InvalidSteps base
    | 1, _ => exact N_InvalidJump base
    | 2, _ => exact N_InvalidWay base
    | 3, _ => exact N_InvalidThing base
    | 4, _ => exact N_InvalidScore base
    | 5, _ => exact N_InvalidWays base
    | 6, _ => exact N_InvalidCount base
    | 7, _ => exact N_InvalidFlow base
    | 8, _ => exact N_InvalidRun base
    | 9, _ => exact N_InvalidMark base
    | 10, _ => exact N_InvalidMarks base
    | 11, _ => exact N_InvalidPrices base
    | 12, _ => exact N_InvalidMoves base
    | 13, _ => exact N_InvalidHabits base
    | 14, _ => exact N_InvalidShares base
    | 15, _ => exact N_InvalidClaim base
    | 16, _ => exact N_InvalidCommand base
    | n + 17, h => exact absurd h (by omega)
  have np : ∀ base : Heap, ∀ i, 17 ≤ i → i < 21 → New1 P w K mg base (vN.getD i "") "position" ((fun i => [A_InvalidSteps, A_InvalidJump, A_InvalidWay, A_InvalidThing, A_InvalidScore, A_InvalidWays, A_InvalidCount, A_InvalidFlow, A_InvalidRun, A_InvalidMark, A_InvalidMarks, A_InvalidPrices, A_InvalidMoves, A_InvalidHabits, A_InvalidShares, A_InvalidClaim, A_InvalidCommand, A_InvalidJumps, A_InvalidLengths, A_InvalidBounds, A_InvalidEnds, A_InvalidText].getD i 0) i) := fun base i hi hj => by
    obtain rfl | rfl | rfl | rfl : i = 17 ∨ i = 18 ∨ i = 19 ∨ i = 20 := by omega
    · exact N_InvalidJumps base
    · exact N_InvalidLengths base
    · exact N_InvalidBounds base
    · exact N_InvalidEnds base
  have vls : ∀ base : Heap, Vls P w K mg base (fun i => [A_InvalidSteps, A_InvalidJump, A_InvalidWay, A_InvalidThing, A_InvalidScore, A_InvalidWays, A_InvalidCount, A_InvalidFlow, A_InvalidRun, A_InvalidMark, A_InvalidMarks, A_InvalidPrices, A_InvalidMoves, A_InvalidHabits, A_InvalidShares, A_InvalidClaim, A_InvalidCommand, A_InvalidJumps, A_InvalidLengths, A_InvalidBounds, A_InvalidEnds, A_InvalidText].getD i 0) (fun i => [A_OtherSteps, A_OtherStair, A_NotTogether, A_NothingFits, A_Endless, A_NotBetween, A_Unmeeting, A_NothingToUndo, A_CommandFailed, A_UnknownWay, A_NoSuch, A_TooMany].getD i 0) A_StairError A_MissingError A_StateError A_LimitError := fun base => ⟨nv base, np base, N_InvalidText base, N_UnknownWay base, N_NoSuch base, sv, u9, u10⟩
  have sts : ∀ base : Heap, Sts P w K mg base (fun i => [A_OtherSteps, A_OtherStair, A_NotTogether, A_NothingFits, A_Endless, A_NotBetween, A_Unmeeting, A_NothingToUndo, A_CommandFailed, A_UnknownWay, A_NoSuch, A_TooMany].getD i 0) A_StairError A_MissingError A_StateError A_LimitError := fun base => ⟨N_OtherSteps base, N_OtherStair base, N_NotTogether base, N_NothingFits, N_Endless, N_NotBetween base, N_Unmeeting base, N_NothingToUndo, N_CommandFailed base, N_TooMany base, so, u11⟩
  have thr : ∀ base : Heap, Thr P w K mg base (thC [A_InvalidSteps, A_InvalidJump, A_InvalidWay, A_InvalidThing, A_InvalidScore, A_InvalidWays, A_InvalidCount, A_InvalidFlow, A_InvalidRun, A_InvalidMark, A_InvalidMarks, A_InvalidPrices, A_InvalidMoves, A_InvalidHabits, A_InvalidShares, A_InvalidClaim, A_InvalidCommand, A_InvalidJumps, A_InvalidLengths, A_InvalidBounds, A_InvalidEnds, A_InvalidText] [A_OtherSteps, A_OtherStair, A_NotTogether, A_NothingFits, A_Endless, A_NotBetween, A_Unmeeting, A_NothingToUndo, A_CommandFailed, A_UnknownWay, A_NoSuch, A_TooMany]) A_StairError A_MissingError A_StateError A_LimitError := fun base => ⟨N_InvalidJumps base, N_InvalidWay base, N_InvalidText base, N_UnknownWay base, N_NothingFits, N_NotBetween base, N_TooMany base, fun i hi => by
    match i, hi with
    | 0, _ => exact sv 17 (by decide)
    | 1, _ => exact sv 2 (by decide)
    | 2, _ => exact sv 21 (by decide)
    | 3, _ => exact u9
    | 4, _ => exact so 3 (by decide)
    | 5, _ => exact so 5 (by decide)
    | 6, _ => exact u11
    | n + 7, h => exact absurd h (by omega),
    fun i hi => of_decide_eq_true (and_of (List.all_eq_true.mp e1 i (List.mem_range.mpr hi))).1, fun i hi => of_decide_eq_true (and_of (and_of (List.all_eq_true.mp e1 i (List.mem_range.mpr hi))).2).1, fun i hi => of_decide_eq_true (and_of (and_of (and_of (List.all_eq_true.mp e1 i (List.mem_range.mpr hi))).2).2).1, fun i hi => of_decide_eq_true (and_of (and_of (and_of (List.all_eq_true.mp e1 i (List.mem_range.mpr hi))).2).2).2, of_decide_eq_true e2⟩
  have nV : Named mg vN (fun i => [A_InvalidSteps, A_InvalidJump, A_InvalidWay, A_InvalidThing, A_InvalidScore, A_InvalidWays, A_InvalidCount, A_InvalidFlow, A_InvalidRun, A_InvalidMark, A_InvalidMarks, A_InvalidPrices, A_InvalidMoves, A_InvalidHabits, A_InvalidShares, A_InvalidClaim, A_InvalidCommand, A_InvalidJumps, A_InvalidLengths, A_InvalidBounds, A_InvalidEnds, A_InvalidText].getD i 0) := fun i hi => by
    match i, hi with
    | 0, _ => exact mgo c_InvalidSteps
    | 1, _ => exact mgo c_InvalidJump
    | 2, _ => exact mgo c_InvalidWay
    | 3, _ => exact mgo c_InvalidThing
    | 4, _ => exact mgo c_InvalidScore
    | 5, _ => exact mgo c_InvalidWays
    | 6, _ => exact mgo c_InvalidCount
    | 7, _ => exact mgo c_InvalidFlow
    | 8, _ => exact mgo c_InvalidRun
    | 9, _ => exact mgo c_InvalidMark
    | 10, _ => exact mgo c_InvalidMarks
    | 11, _ => exact mgo c_InvalidPrices
    | 12, _ => exact mgo c_InvalidMoves
    | 13, _ => exact mgo c_InvalidHabits
    | 14, _ => exact mgo c_InvalidShares
    | 15, _ => exact mgo c_InvalidClaim
    | 16, _ => exact mgo c_InvalidCommand
    | 17, _ => exact mgo c_InvalidJumps
    | 18, _ => exact mgo c_InvalidLengths
    | 19, _ => exact mgo c_InvalidBounds
    | 20, _ => exact mgo c_InvalidEnds
    | 21, _ => exact mgo c_InvalidText
    | n + 22, h => exact absurd (show n + 22 < 22 from h) (by omega)
  have nO : Named mg oN (fun i => [A_OtherSteps, A_OtherStair, A_NotTogether, A_NothingFits, A_Endless, A_NotBetween, A_Unmeeting, A_NothingToUndo, A_CommandFailed, A_UnknownWay, A_NoSuch, A_TooMany].getD i 0) := fun i hi => by
    match i, hi with
    | 0, _ => exact mgo c_OtherSteps
    | 1, _ => exact mgo c_OtherStair
    | 2, _ => exact mgo c_NotTogether
    | 3, _ => exact mgo c_NothingFits
    | 4, _ => exact mgo c_Endless
    | 5, _ => exact mgo c_NotBetween
    | 6, _ => exact mgo c_Unmeeting
    | 7, _ => exact mgo c_NothingToUndo
    | 8, _ => exact mgo c_CommandFailed
    | 9, _ => exact mgo c_UnknownWay
    | 10, _ => exact mgo c_NoSuch
    | 11, _ => exact mgo c_TooMany
    | n + 12, h => exact absurd (show n + 12 < 12 from h) (by omega)
  obtain ⟨f_pot, _, _, _, _, _, _, _, _, _, n_pot, l_pot, cd_pot, k_pot⟩ := d__law_pot
  have F_pot := fun_mk (st := sPot) l_pot cd_pot k_pot
  have b_pot := F_pot.binds (ps := (["_law_script", "_law_k"] : List Str)) fun _ _ _ _ _ _ us hl => match us, hl with | [_, _], _ => rfl
  have m_pot := mgo n_pot
  obtain ⟨f_draw, _, _, _, _, _, _, _, _, _, n_draw, l_draw, cd_draw, k_draw⟩ := d__law_draw
  have F_draw := fun_mk (st := sDraw) l_draw cd_draw k_draw
  have b_draw := F_draw.binds (ps := (["_law_pot_here", "_law_sides"] : List Str)) fun _ _ _ _ _ _ us hl => match us, hl with | [_, _], _ => rfl
  have m_draw := mgo n_draw
  obtain ⟨f_pick, _, _, _, _, _, _, _, _, _, n_pick, l_pick, cd_pick, k_pick⟩ := d__law_pick
  have F_pick := fun_mk (st := sPick) l_pick cd_pick k_pick
  have b_pick := F_pick.binds (ps := (["_law_pot_here", "_law_some"] : List Str)) fun _ _ _ _ _ _ us hl => match us, hl with | [_, _], _ => rfl
  have m_pick := mgo n_pick
  obtain ⟨f_grounds, _, _, _, _, _, _, _, _, _, n_grounds, l_grounds, cd_grounds, k_grounds⟩ := d__law_grounds
  have F_grounds := fun_mk (st := sGrounds) l_grounds cd_grounds k_grounds
  have b_grounds := F_grounds.binds (ps := (["_law_e"] : List Str)) fun _ _ _ _ _ _ us hl => match us, hl with | [_], _ => rfl
  have m_grounds := mgo n_grounds
  obtain ⟨f_ground, _, _, _, _, _, _, _, _, _, n_ground, l_ground, cd_ground, k_ground⟩ := d__law_ground
  have F_ground := fun_mk (st := sGround) l_ground cd_ground k_ground
  have b_ground := F_ground.binds (ps := (["_law_way"] : List Str)) fun _ _ _ _ _ _ us hl => match us, hl with | [_], _ => rfl
  have m_ground := mgo n_ground
  obtain ⟨f_thing, _, _, _, _, _, _, _, _, _, n_thing, l_thing, cd_thing, k_thing⟩ := d__law_thing
  have F_thing := fun_mk (st := sThing) l_thing cd_thing k_thing
  have b_thing := F_thing.binds (ps := (["_law_pot_here", "_law_turn"] : List Str)) fun _ _ _ _ _ _ us hl => match us, hl with | [_, _], _ => rfl
  have m_thing := mgo n_thing
  obtain ⟨f_by_value, _, _, _, _, _, _, _, _, _, n_by_value, l_by_value, cd_by_value, k_by_value⟩ := d__law_by_value
  have F_by_value := fun_mk (st := sByV) l_by_value cd_by_value k_by_value
  have b_by_value := F_by_value.binds (ps := (["_law_odd"] : List Str)) fun _ _ _ _ _ _ us hl => match us, hl with | [_], _ => rfl
  have m_by_value := mgo n_by_value
  obtain ⟨f_by_named_value, _, _, _, _, _, _, _, _, _, n_by_named_value, l_by_named_value, cd_by_named_value, k_by_named_value⟩ := d__law_by_named_value
  have F_by_named_value := fun_mk (st := sByN) l_by_named_value cd_by_named_value k_by_named_value
  have b_by_named_value := F_by_named_value.binds (ps := (["_law_odd"] : List Str)) fun _ _ _ _ _ _ us hl => match us, hl with | [_], _ => rfl
  have m_by_named_value := mgo n_by_named_value
  obtain ⟨f_by_place, _, _, _, _, _, _, _, _, _, n_by_place, l_by_place, cd_by_place, k_by_place⟩ := d__law_by_place
  have F_by_place := fun_mk (st := sByP) l_by_place cd_by_place k_by_place
  have b_by_place := F_by_place.binds (ps := (["_law_odd"] : List Str)) fun _ _ _ _ _ _ us hl => match us, hl with | [_], _ => rfl
  have m_by_place := mgo n_by_place
  obtain ⟨f_thrown, _, _, _, _, _, _, _, _, _, n_thrown, l_thrown, cd_thrown, k_thrown⟩ := d__law_thrown
  have F_thrown := fun_mk (st := sThrown) l_thrown cd_thrown k_thrown
  have b_thrown := F_thrown.binds (ps := (["_law_way", "_law_odd"] : List Str)) fun _ _ _ _ _ _ us hl => match us, hl with | [_, _], _ => rfl
  have m_thrown := mgo n_thrown
  obtain ⟨f_caught, _, _, _, _, _, _, _, _, _, n_caught, l_caught, cd_caught, k_caught⟩ := d__law_caught
  have F_caught := fun_mk (st := sCaught) l_caught cd_caught k_caught
  have b_caught := F_caught.binds (ps := (["_law_way", "_law_odd"] : List Str)) fun _ _ _ _ _ _ us hl => match us, hl with | [_, _], _ => rfl
  have m_caught := mgo n_caught
  obtain ⟨f_raised_right, _, _, _, _, _, _, _, _, _, n_raised_right, l_raised_right, cd_raised_right, k_raised_right⟩ := d__law_raised_right
  have F_raised_right := fun_mk (st := sRaised) l_raised_right cd_raised_right k_raised_right
  have b_raised_right := F_raised_right.binds (ps := (["_law_odd"] : List Str)) fun _ _ _ _ _ _ us hl => match us, hl with | [_], _ => rfl
  have m_raised_right := mgo n_raised_right
  obtain ⟨f_values_right, _, _, _, _, _, _, _, _, _, n_values_right, l_values_right, cd_values_right, k_values_right⟩ := d__law_values_right
  have F_values_right := fun_mk (st := sVals) l_values_right cd_values_right k_values_right
  have b_values_right := F_values_right.binds (ps := (["_law_pot_here"] : List Str)) fun _ _ _ _ _ _ us hl => match us, hl with | [_], _ => rfl
  have m_values_right := mgo n_values_right
  obtain ⟨f_states_right, _, _, _, _, _, _, _, _, _, n_states_right, l_states_right, cd_states_right, k_states_right⟩ := d__law_states_right
  have F_states_right := fun_mk (st := sSts) l_states_right cd_states_right k_states_right
  have b_states_right := F_states_right.binds (ps := (["_law_pot_here"] : List Str)) fun _ _ _ _ _ _ us hl => match us, hl with | [_], _ => rfl
  have m_states_right := mgo n_states_right
  obtain ⟨f_limits_right, _, _, _, _, _, _, _, _, _, n_limits_right, l_limits_right, cd_limits_right, k_limits_right⟩ := d__law_limits_right
  have F_limits_right := fun_mk (st := sLim) l_limits_right cd_limits_right k_limits_right
  have b_limits_right := F_limits_right.binds (ps := (["_law_pot_here"] : List Str)) fun _ _ _ _ _ _ us hl => match us, hl with | [_], _ => rfl
  have m_limits_right := mgo n_limits_right
  obtain ⟨f_sorts, _, _, _, _, _, _, _, _, _, n_sorts, l_sorts, cd_sorts, k_sorts⟩ := d__law_sorts
  have F_sorts := fun_mk (st := sSorts) l_sorts cd_sorts k_sorts
  have b_sorts := F_sorts.binds (ps := (["_law_e"] : List Str)) fun _ _ _ _ _ _ us hl => match us, hl with | [_], _ => rfl
  have m_sorts := mgo n_sorts
  obtain ⟨f_stands, _, _, _, _, _, _, _, _, _, n_stands, l_stands, cd_stands, k_stands⟩ := d__law_stands
  have F_stands := fun_mk (st := sStands) l_stands cd_stands k_stands
  have b_stands := F_stands.binds (ps := (["_law_e"] : List Str)) fun _ _ _ _ _ _ us hl => match us, hl with | [_], _ => rfl
  have m_stands := mgo n_stands
  obtain ⟨f_apart_right, _, _, _, _, _, _, _, _, _, n_apart_right, l_apart_right, cd_apart_right, k_apart_right⟩ := d__law_apart_right
  have F_apart_right := fun_mk (st := sApart) l_apart_right cd_apart_right k_apart_right
  have b_apart_right := F_apart_right.binds (ps := ([] : List Str)) fun _ _ _ _ _ _ us hl => match us, hl with | [], _ => rfl
  have m_apart_right := mgo n_apart_right
  obtain ⟨f_right, _, _, _, _, _, _, _, _, _, n_right, l_right, cd_right, k_right⟩ := d__law_right
  have F_right := fun_mk (st := sRight) l_right cd_right k_right
  have b_right := F_right.binds (ps := (["_law_pot_here"] : List Str)) fun _ _ _ _ _ _ us hl => match us, hl with | [_], _ => rfl
  have m_right := mgo n_right
  obtain ⟨f_law, ocL, odL, kVL, docL, pmL, anL, cdL, ctL, oslL, n_law, l_law, cd_law, k_law⟩ := d_law
  have F_law := fun_mk (st := sLaw) l_law cd_law k_law
  have ee := hfa.symm.trans (mgo n_law)
  cases ee
  refine ⟨PySem.W.fnOf "law" "law" (defArgs sLaw) (defBody sLaw) (defScope sLaw) .none kVL docL pmL anL cdL ctL, fun s v => .of_eq rfl, fun base _ _ => ?_⟩
  have GPot : FnOk P w K mg base CX0 1 f_pot _ ["_law_script", "_law_k"] (spPot K) := ok_pot F_pot bl
  have GPick := ok_pick (P := P) (w := w) (base := base) F_pick bl F_draw b_draw m_draw
  have GThing := ok_thing F_thing GPick k_pick b_pick m_pick
  have GGrounds := ok_grounds (P := P) (w := w) (base := base) F_grounds bl fg
  have GGround := ok_ground (P := P) (w := w) (base := base) F_ground bl
  have GV : FnOk P w K mg base CX0 3 f_by_value _ ["_law_odd"] (spNews (cV (fun i => [A_InvalidSteps, A_InvalidJump, A_InvalidWay, A_InvalidThing, A_InvalidScore, A_InvalidWays, A_InvalidCount, A_InvalidFlow, A_InvalidRun, A_InvalidMark, A_InvalidMarks, A_InvalidPrices, A_InvalidMoves, A_InvalidHabits, A_InvalidShares, A_InvalidClaim, A_InvalidCommand, A_InvalidJumps, A_InvalidLengths, A_InvalidBounds, A_InvalidEnds, A_InvalidText].getD i 0))) := ok_by_value F_by_value (nv base)
  have GN : FnOk P w K mg base CX0 3 f_by_named_value _ ["_law_odd"] (spNews (cV (fun i => [A_InvalidSteps, A_InvalidJump, A_InvalidWay, A_InvalidThing, A_InvalidScore, A_InvalidWays, A_InvalidCount, A_InvalidFlow, A_InvalidRun, A_InvalidMark, A_InvalidMarks, A_InvalidPrices, A_InvalidMoves, A_InvalidHabits, A_InvalidShares, A_InvalidClaim, A_InvalidCommand, A_InvalidJumps, A_InvalidLengths, A_InvalidBounds, A_InvalidEnds, A_InvalidText].getD i 0))) := ok_by_named_value F_by_named_value (nv base)
  have GPl : FnOk P w K mg base CX0 3 f_by_place _ ["_law_odd"] (spNews (cP (fun i => [A_InvalidSteps, A_InvalidJump, A_InvalidWay, A_InvalidThing, A_InvalidScore, A_InvalidWays, A_InvalidCount, A_InvalidFlow, A_InvalidRun, A_InvalidMark, A_InvalidMarks, A_InvalidPrices, A_InvalidMoves, A_InvalidHabits, A_InvalidShares, A_InvalidClaim, A_InvalidCommand, A_InvalidJumps, A_InvalidLengths, A_InvalidBounds, A_InvalidEnds, A_InvalidText].getD i 0))) := ok_by_place F_by_place (np base)
  have GThrown := ok_thrown F_thrown (thr base)
  have GCaught := ok_caught F_caught bl fg (thr base) F_thrown k_thrown b_thrown m_thrown F_grounds k_grounds b_grounds m_grounds
  have GRaised := ok_raised F_raised_right bl (thr base) GThrown k_thrown b_thrown m_thrown GGround k_ground b_ground m_ground GCaught k_caught b_caught m_caught
  have GVals := ok_vals F_values_right bl (vls base) GThing k_thing b_thing m_thing GV k_by_value b_by_value m_by_value GN k_by_named_value b_by_named_value m_by_named_value GPl k_by_place b_by_place m_by_place GGrounds k_grounds b_grounds m_grounds GGround k_ground b_ground m_ground
  have GSts := ok_states F_states_right bl (sts base) GThing k_thing b_thing m_thing GGrounds k_grounds b_grounds m_grounds GGround k_ground b_ground m_ground
  have GLim := ok_limits F_limits_right bl (sts base) GThing k_thing b_thing m_thing GGrounds k_grounds b_grounds m_grounds GGround k_ground b_ground m_ground
  have GSorts := ok_sorts (P := P) (w := w) (base := base) F_sorts bl nV
  have GStands := ok_stands (P := P) (w := w) (base := base) F_stands bl nO
  have GApart := ok_apart F_apart_right bl (vls base) (sts base) apt GV k_by_value b_by_value m_by_value GPl k_by_place b_by_place m_by_place GSorts k_sorts b_sorts m_sorts GStands k_stands b_stands m_stands
  have GRight := ok_right F_right bl GThing k_thing b_thing m_thing GVals k_values_right b_values_right m_values_right GSts k_states_right b_states_right m_states_right GLim k_limits_right b_limits_right m_limits_right GRaised k_raised_right b_raised_right m_raised_right GApart.quiet k_apart_right b_apart_right m_apart_right
  exact ok_law F_law bl GPot k_pot b_pot m_pot GRight k_right b_right m_right
end K10
set_option Elab.async false
set_option linter.all false
set_option maxRecDepth 100000
set_option maxHeartbeats 0
/-! The head: the top by one run, what it leaves read off in the same run. -/
namespace K10
open PySem PySem.Spec PyProof.Rows L2 PySem.XM
open PySem.W (Frag)
open HandSHeadRun (frNat frNat_eq getT getT_eq)
/-- numbers reckoned first -/
def forceL {β : Type} : List Nat → (List Nat → β) → β
  | [], k => k []
  | a :: r, k => frNat a fun a => forceL r fun r => k (a :: r)
theorem forceL_eq {β : Type} : ∀ (as : List Nat) (k : List Nat → β), forceL as k = k as
  | [], _ => rfl
  | a :: r, k => by
    show frNat a (fun a => forceL r fun r => k (a :: r)) = _
    rw [frNat_eq, forceL_eq]
/-- objects looked up first -/
def forceK {β : Type} (g : Addr → Option Obj) : List Addr → (Frag → β) → β
  | [], k => k []
  | a :: r, k => match g a with
    | some o => forceK g r fun K => k ((a, o) :: K)
    | none => forceK g r k
theorem forceK_eq {β : Type} (g : Addr → Option Obj) : ∀ (as : List Addr) (k : Frag → β), forceK g as k = k (He.frG g as)
  | [], _ => rfl
  | a :: r, k => by
    show (match g a with
      | some o => forceK g r fun K => k ((a, o) :: K)
      | none => forceK g r k) = _
    unfold He.frG
    rw [List.filterMap_cons]
    cases e : g a with
    | none => exact forceK_eq g r k
    | some ob => exact forceK_eq g r fun K => k ((a, ob) :: K)
def asF {β : Type} (g : Addr → Option Obj) : Nat → (List Nat → β) → β
  | 0, k => k [mainGlobals]
  | n + 1, k => asF g n fun as => forceL (He.growG g as) k
theorem asF_eq {β : Type} (g : Addr → Option Obj) : ∀ (n : Nat) (k : List Nat → β), asF g n k = k (He.asG g n)
  | 0, _ => rfl
  | n + 1, k => by
    show asF g n (fun as => forceL (He.growG g as) k) = _
    rw [asF_eq g n, forceL_eq]
    rfl
def obsXK (fa : List He.Fa) (fn : List He.FnD) (B : Frag → Bool) (K : Frag) : He.Al := (B K && (He.obsE fa fn K).1, (He.obsE fa fn K).2)
def obsF (fa : List He.Fa) (fn : List He.FnD) (B : Frag → Bool) (n : Nat) (g : Addr → Option Obj) : He.Al := asF g n fun as => forceK g as fun K => obsXK fa fn B K
def hookX (n : Nat) (fa : List He.Fa) (fn : List He.FnD) (B : Frag → Bool) : PySem.W.Hook where
  α := He.Al
  obs := fun s => obsXK fa fn B (He.frG s.heap.get? (He.asG s.heap.get? n))
  val := fun _ => He.valE fn
  says := fun _ h => ∃ K : Frag, K.In h ∧ obsXK fa fn B K = He.valE fn
  of := fun _ _ e => ⟨_, He.frG_in, e⟩
  keeps := fun _ _ _ ⟨K, hK, c⟩ k => ⟨K, PySem.W.Frag.In.keeps hK k, c⟩
theorem obsF_eq {fa : List He.Fa} {fn : List He.FnD} {B : Frag → Bool} {n : Nat} (s : PySem.W.SharedT) : obsF fa fn B n (getT s) = (hookX n fa fn B).obs s.abs := by
  have e : getT s = s.abs.heap.get? := funext (getT_eq s)
  show asF (getT s) n (fun as => forceK (getT s) as fun K => obsXK fa fn B K) = _
  rw [asF_eq, forceK_eq, e]
  rfl
theorem said {fa : List He.Fa} {fn : List He.FnD} {B : Frag → Bool} {K : Frag} (c : obsXK fa fn B K = He.valE fn) : B K = true ∧ He.SaysE fa fn K := by
  have c1 : (B K && (He.obsE fa fn K).1) = true := congrArg (fun z : He.Al => z.1) c
  have c2 : (He.obsE fa fn K).2 = fn.map He.FnD.val := congrArg (fun z : He.Al => z.2) c
  obtain ⟨h1, h2⟩ := and_of c1
  exact ⟨h1, Prod.ext h2 c2⟩
theorem init_of {K : Frag} {x q : Str} {st : Stmt} (m : (He.Fa.meth x "__init__").ok K = true) (d : ∃ oc od osl kV doc pm an cdv ct, K.lookup (He.fAd K (x, some "__init__")) = some ⟨oc, od, .func (PySem.W.fnOf "__init__" q (defArgs st) (defBody st) (defScope st) .none kV doc pm an cdv ct), osl⟩ ∧ PySem.W.codeIn K cdv q = true) :
    HasInit K (He.ga K x) q st := by
  obtain ⟨oc, od, osl, kV, doc, pm, an, cdv, ct, l, c⟩ := d
  obtain ⟨c1, c'⟩ := He.ba m
  obtain ⟨c2, c3⟩ := He.ba c'
  exact init_has (He.eqO_ok c1) c2 l c c3
theorem def_of {K : Frag} {x : Str} {st : Stmt} (g : (He.Fa.glo x).ok K = true) (kp : (He.Fa.keep x).ok K = true) (d : ∃ oc od osl kV doc pm an cdv ct, K.lookup (He.fAd K (x, none)) = some ⟨oc, od, .func (PySem.W.fnOf x x (defArgs st) (defBody st) (defScope st) .none kV doc pm an cdv ct), osl⟩ ∧ PySem.W.codeIn K cdv x = true) :
    HasDef K x st := by
  obtain ⟨oc, od, osl, kV, doc, pm, an, cdv, ct, l, c⟩ := d
  exact def_has (He.eqO_ok g) l c kp
def fN : List Str := ["StairError", "MissingError", "StateError", "LimitError"]
def Bk (K : Frag) : Bool := forceL (vN.map (He.ga K)) fun V => forceL (oN.map (He.ga K)) fun O => forceL (fN.map (He.ga K)) fun F => match F with
  | [S, M, T, L] => fbAll K V O S M T L
  | _ => false
def dI (x q : Str) (i : Nat) : He.FnD := ⟨(x, some "__init__"), "__init__", q, defArgs (initOf i), defBody (initOf i), defScope (initOf i)⟩
def dF (x : Str) (st : Stmt) : He.FnD := ⟨(x, none), x, x, defArgs st, defBody st, defScope st⟩
def fa0 : List He.Fa := [.glo "StairError", .glo "MissingError", .glo "StateError", .glo "LimitError", .glo "InvalidSteps", .glo "InvalidJump", .glo "InvalidWay", .glo "InvalidThing", .glo "InvalidScore", .glo "InvalidWays", .glo "InvalidCount", .glo "InvalidFlow", .glo "InvalidRun", .glo "InvalidMark", .glo "InvalidMarks", .glo "InvalidPrices", .glo "InvalidMoves", .glo "InvalidHabits", .glo "InvalidShares", .glo "InvalidClaim", .glo "InvalidCommand", .glo "InvalidJumps", .glo "InvalidLengths", .glo "InvalidBounds", .glo "InvalidEnds", .glo "InvalidText", .glo "OtherSteps", .glo "OtherStair", .glo "NotTogether", .glo "NothingFits"]
def fa1 : List He.Fa := [.glo "Endless", .glo "NotBetween", .glo "Unmeeting", .glo "NothingToUndo", .glo "CommandFailed", .glo "UnknownWay", .glo "NoSuch", .glo "TooMany", .glo "_law_pot", .glo "_law_draw", .glo "_law_pick", .glo "_law_grounds", .glo "_law_ground", .glo "_law_thing", .glo "_law_by_value", .glo "_law_by_named_value", .glo "_law_by_place", .glo "_law_thrown", .glo "_law_caught", .glo "_law_raised_right", .glo "_law_values_right", .glo "_law_states_right", .glo "_law_limits_right", .glo "_law_sorts", .glo "_law_stands", .glo "_law_apart_right", .glo "_law_right", .glo "law", .meth "InvalidSteps" "__init__", .meth "InvalidJump" "__init__"]
def fa2 : List He.Fa := [.meth "InvalidWay" "__init__", .meth "InvalidThing" "__init__", .meth "InvalidScore" "__init__", .meth "InvalidWays" "__init__", .meth "InvalidCount" "__init__", .meth "InvalidFlow" "__init__", .meth "InvalidRun" "__init__", .meth "InvalidMark" "__init__", .meth "InvalidMarks" "__init__", .meth "InvalidPrices" "__init__", .meth "InvalidMoves" "__init__", .meth "InvalidHabits" "__init__", .meth "InvalidShares" "__init__", .meth "InvalidClaim" "__init__", .meth "InvalidCommand" "__init__", .meth "InvalidJumps" "__init__", .meth "InvalidLengths" "__init__", .meth "InvalidBounds" "__init__", .meth "InvalidEnds" "__init__", .meth "InvalidText" "__init__", .meth "OtherSteps" "__init__", .meth "OtherStair" "__init__", .meth "NotTogether" "__init__", .meth "NotBetween" "__init__", .meth "Unmeeting" "__init__", .meth "CommandFailed" "__init__", .meth "UnknownWay" "__init__", .meth "NoSuch" "__init__", .meth "TooMany" "__init__", .keep "_law_pot"]
def fa3 : List He.Fa := [.keep "_law_draw", .keep "_law_pick", .keep "_law_grounds", .keep "_law_ground", .keep "_law_thing", .keep "_law_by_value", .keep "_law_by_named_value", .keep "_law_by_place", .keep "_law_thrown", .keep "_law_caught", .keep "_law_raised_right", .keep "_law_values_right", .keep "_law_states_right", .keep "_law_limits_right", .keep "_law_sorts", .keep "_law_stands", .keep "_law_apart_right", .keep "_law_right", .keep "law"]
def faA : List He.Fa := fa0 ++ fa1 ++ fa2 ++ fa3
def fn0 : List He.FnD := [dI "InvalidSteps" "InvalidSteps.__init__" 2, dI "InvalidJump" "InvalidJump.__init__" 4, dI "InvalidWay" "InvalidWay.__init__" 6, dI "InvalidThing" "InvalidThing.__init__" 7, dI "InvalidScore" "InvalidScore.__init__" 8, dI "InvalidWays" "InvalidWays.__init__" 9, dI "InvalidCount" "InvalidCount.__init__" 10, dI "InvalidFlow" "InvalidFlow.__init__" 11, dI "InvalidRun" "InvalidRun.__init__" 12, dI "InvalidMark" "InvalidMark.__init__" 13, dI "InvalidMarks" "InvalidMarks.__init__" 14, dI "InvalidPrices" "InvalidPrices.__init__" 15, dI "InvalidMoves" "InvalidMoves.__init__" 17, dI "InvalidHabits" "InvalidHabits.__init__" 19, dI "InvalidShares" "InvalidShares.__init__" 20, dI "InvalidClaim" "InvalidClaim.__init__" 22, dI "InvalidCommand" "InvalidCommand.__init__" 23, dI "InvalidJumps" "InvalidJumps.__init__" 3, dI "InvalidLengths" "InvalidLengths.__init__" 5, dI "InvalidBounds" "InvalidBounds.__init__" 16, dI "InvalidEnds" "InvalidEnds.__init__" 18, dI "InvalidText" "InvalidText.__init__" 21, dI "OtherSteps" "OtherSteps.__init__" 28, dI "OtherStair" "OtherStair.__init__" 29, dI "NotTogether" "NotTogether.__init__" 30, dI "NotBetween" "NotBetween.__init__" 33, dI "Unmeeting" "Unmeeting.__init__" 34, dI "CommandFailed" "CommandFailed.__init__" 36, dI "UnknownWay" "UnknownWay.__init__" 25, dI "NoSuch" "NoSuch.__init__" 26]
def fn1 : List He.FnD := [dI "TooMany" "TooMany.__init__" 38, dF "_law_pot" sPot, dF "_law_draw" sDraw, dF "_law_pick" sPick, dF "_law_grounds" sGrounds, dF "_law_ground" sGround, dF "_law_thing" sThing, dF "_law_by_value" sByV, dF "_law_by_named_value" sByN, dF "_law_by_place" sByP, dF "_law_thrown" sThrown, dF "_law_caught" sCaught, dF "_law_raised_right" sRaised, dF "_law_values_right" sVals, dF "_law_states_right" sSts, dF "_law_limits_right" sLim, dF "_law_sorts" sSorts, dF "_law_stands" sStands, dF "_law_apart_right" sApart, dF "_law_right" sRight, dF "law" sLaw]
def fnA : List He.FnD := fn0 ++ fn1
theorem Bk_ok {K : Frag} (h : Bk K = true) : fbAll K [He.ga K "InvalidSteps", He.ga K "InvalidJump", He.ga K "InvalidWay", He.ga K "InvalidThing", He.ga K "InvalidScore", He.ga K "InvalidWays", He.ga K "InvalidCount", He.ga K "InvalidFlow", He.ga K "InvalidRun", He.ga K "InvalidMark", He.ga K "InvalidMarks", He.ga K "InvalidPrices", He.ga K "InvalidMoves", He.ga K "InvalidHabits", He.ga K "InvalidShares", He.ga K "InvalidClaim", He.ga K "InvalidCommand", He.ga K "InvalidJumps", He.ga K "InvalidLengths", He.ga K "InvalidBounds", He.ga K "InvalidEnds", He.ga K "InvalidText"] [He.ga K "OtherSteps", He.ga K "OtherStair", He.ga K "NotTogether", He.ga K "NothingFits", He.ga K "Endless", He.ga K "NotBetween", He.ga K "Unmeeting", He.ga K "NothingToUndo", He.ga K "CommandFailed", He.ga K "UnknownWay", He.ga K "NoSuch", He.ga K "TooMany"] (He.ga K "StairError") (He.ga K "MissingError") (He.ga K "StateError") (He.ga K "LimitError") = true := by
  unfold Bk at h
  rw [forceL_eq, forceL_eq, forceL_eq] at h
  exact h
theorem facts {P : Program} {w : World} {K : Frag} {mg : Str → Option Value} {h : Heap} {fa : Addr} (X : K.In h) (G : h.Ns mainGlobals mg) (hfa : mg "law" = some (.ref fa)) (c : obsXK faA fnA Bk K = He.valE fnA) :
    ∃ fd : FuncData, (∀ (s : Shared) (v : Value), BindsTo s fd ⟨[v], []⟩ [("_law_script", v)]) ∧ ∀ base : Heap, K.In base → base.Ns mainGlobals mg → FnG P w K mg base CX0 7 fa fd ["_law_script"] (spLaw K) := by
  obtain ⟨hb, c⟩ := said c
  exact all_mk X G hfa
    (He.eqO_ok (c.fact 0 (f := .glo "StairError") rfl))
    (He.eqO_ok (c.fact 1 (f := .glo "MissingError") rfl))
    (He.eqO_ok (c.fact 2 (f := .glo "StateError") rfl))
    (He.eqO_ok (c.fact 3 (f := .glo "LimitError") rfl))
    (He.eqO_ok (c.fact 4 (f := .glo "InvalidSteps") rfl))
    (He.eqO_ok (c.fact 5 (f := .glo "InvalidJump") rfl))
    (He.eqO_ok (c.fact 6 (f := .glo "InvalidWay") rfl))
    (He.eqO_ok (c.fact 7 (f := .glo "InvalidThing") rfl))
    (He.eqO_ok (c.fact 8 (f := .glo "InvalidScore") rfl))
    (He.eqO_ok (c.fact 9 (f := .glo "InvalidWays") rfl))
    (He.eqO_ok (c.fact 10 (f := .glo "InvalidCount") rfl))
    (He.eqO_ok (c.fact 11 (f := .glo "InvalidFlow") rfl))
    (He.eqO_ok (c.fact 12 (f := .glo "InvalidRun") rfl))
    (He.eqO_ok (c.fact 13 (f := .glo "InvalidMark") rfl))
    (He.eqO_ok (c.fact 14 (f := .glo "InvalidMarks") rfl))
    (He.eqO_ok (c.fact 15 (f := .glo "InvalidPrices") rfl))
    (He.eqO_ok (c.fact 16 (f := .glo "InvalidMoves") rfl))
    (He.eqO_ok (c.fact 17 (f := .glo "InvalidHabits") rfl))
    (He.eqO_ok (c.fact 18 (f := .glo "InvalidShares") rfl))
    (He.eqO_ok (c.fact 19 (f := .glo "InvalidClaim") rfl))
    (He.eqO_ok (c.fact 20 (f := .glo "InvalidCommand") rfl))
    (He.eqO_ok (c.fact 21 (f := .glo "InvalidJumps") rfl))
    (He.eqO_ok (c.fact 22 (f := .glo "InvalidLengths") rfl))
    (He.eqO_ok (c.fact 23 (f := .glo "InvalidBounds") rfl))
    (He.eqO_ok (c.fact 24 (f := .glo "InvalidEnds") rfl))
    (He.eqO_ok (c.fact 25 (f := .glo "InvalidText") rfl))
    (He.eqO_ok (c.fact 26 (f := .glo "OtherSteps") rfl))
    (He.eqO_ok (c.fact 27 (f := .glo "OtherStair") rfl))
    (He.eqO_ok (c.fact 28 (f := .glo "NotTogether") rfl))
    (He.eqO_ok (c.fact 29 (f := .glo "NothingFits") rfl))
    (He.eqO_ok (c.fact 30 (f := .glo "Endless") rfl))
    (He.eqO_ok (c.fact 31 (f := .glo "NotBetween") rfl))
    (He.eqO_ok (c.fact 32 (f := .glo "Unmeeting") rfl))
    (He.eqO_ok (c.fact 33 (f := .glo "NothingToUndo") rfl))
    (He.eqO_ok (c.fact 34 (f := .glo "CommandFailed") rfl))
    (He.eqO_ok (c.fact 35 (f := .glo "UnknownWay") rfl))
    (He.eqO_ok (c.fact 36 (f := .glo "NoSuch") rfl))
    (He.eqO_ok (c.fact 37 (f := .glo "TooMany") rfl))
    (init_of (c.fact 58 (f := .meth "InvalidSteps" "__init__") rfl) (c.def_ 0 (d := dI "InvalidSteps" "InvalidSteps.__init__" 2) rfl))
    (init_of (c.fact 59 (f := .meth "InvalidJump" "__init__") rfl) (c.def_ 1 (d := dI "InvalidJump" "InvalidJump.__init__" 4) rfl))
    (init_of (c.fact 60 (f := .meth "InvalidWay" "__init__") rfl) (c.def_ 2 (d := dI "InvalidWay" "InvalidWay.__init__" 6) rfl))
    (init_of (c.fact 61 (f := .meth "InvalidThing" "__init__") rfl) (c.def_ 3 (d := dI "InvalidThing" "InvalidThing.__init__" 7) rfl))
    (init_of (c.fact 62 (f := .meth "InvalidScore" "__init__") rfl) (c.def_ 4 (d := dI "InvalidScore" "InvalidScore.__init__" 8) rfl))
    (init_of (c.fact 63 (f := .meth "InvalidWays" "__init__") rfl) (c.def_ 5 (d := dI "InvalidWays" "InvalidWays.__init__" 9) rfl))
    (init_of (c.fact 64 (f := .meth "InvalidCount" "__init__") rfl) (c.def_ 6 (d := dI "InvalidCount" "InvalidCount.__init__" 10) rfl))
    (init_of (c.fact 65 (f := .meth "InvalidFlow" "__init__") rfl) (c.def_ 7 (d := dI "InvalidFlow" "InvalidFlow.__init__" 11) rfl))
    (init_of (c.fact 66 (f := .meth "InvalidRun" "__init__") rfl) (c.def_ 8 (d := dI "InvalidRun" "InvalidRun.__init__" 12) rfl))
    (init_of (c.fact 67 (f := .meth "InvalidMark" "__init__") rfl) (c.def_ 9 (d := dI "InvalidMark" "InvalidMark.__init__" 13) rfl))
    (init_of (c.fact 68 (f := .meth "InvalidMarks" "__init__") rfl) (c.def_ 10 (d := dI "InvalidMarks" "InvalidMarks.__init__" 14) rfl))
    (init_of (c.fact 69 (f := .meth "InvalidPrices" "__init__") rfl) (c.def_ 11 (d := dI "InvalidPrices" "InvalidPrices.__init__" 15) rfl))
    (init_of (c.fact 70 (f := .meth "InvalidMoves" "__init__") rfl) (c.def_ 12 (d := dI "InvalidMoves" "InvalidMoves.__init__" 17) rfl))
    (init_of (c.fact 71 (f := .meth "InvalidHabits" "__init__") rfl) (c.def_ 13 (d := dI "InvalidHabits" "InvalidHabits.__init__" 19) rfl))
    (init_of (c.fact 72 (f := .meth "InvalidShares" "__init__") rfl) (c.def_ 14 (d := dI "InvalidShares" "InvalidShares.__init__" 20) rfl))
    (init_of (c.fact 73 (f := .meth "InvalidClaim" "__init__") rfl) (c.def_ 15 (d := dI "InvalidClaim" "InvalidClaim.__init__" 22) rfl))
    (init_of (c.fact 74 (f := .meth "InvalidCommand" "__init__") rfl) (c.def_ 16 (d := dI "InvalidCommand" "InvalidCommand.__init__" 23) rfl))
    (init_of (c.fact 75 (f := .meth "InvalidJumps" "__init__") rfl) (c.def_ 17 (d := dI "InvalidJumps" "InvalidJumps.__init__" 3) rfl))
    (init_of (c.fact 76 (f := .meth "InvalidLengths" "__init__") rfl) (c.def_ 18 (d := dI "InvalidLengths" "InvalidLengths.__init__" 5) rfl))
    (init_of (c.fact 77 (f := .meth "InvalidBounds" "__init__") rfl) (c.def_ 19 (d := dI "InvalidBounds" "InvalidBounds.__init__" 16) rfl))
    (init_of (c.fact 78 (f := .meth "InvalidEnds" "__init__") rfl) (c.def_ 20 (d := dI "InvalidEnds" "InvalidEnds.__init__" 18) rfl))
    (init_of (c.fact 79 (f := .meth "InvalidText" "__init__") rfl) (c.def_ 21 (d := dI "InvalidText" "InvalidText.__init__" 21) rfl))
    (init_of (c.fact 80 (f := .meth "OtherSteps" "__init__") rfl) (c.def_ 22 (d := dI "OtherSteps" "OtherSteps.__init__" 28) rfl))
    (init_of (c.fact 81 (f := .meth "OtherStair" "__init__") rfl) (c.def_ 23 (d := dI "OtherStair" "OtherStair.__init__" 29) rfl))
    (init_of (c.fact 82 (f := .meth "NotTogether" "__init__") rfl) (c.def_ 24 (d := dI "NotTogether" "NotTogether.__init__" 30) rfl))
    (init_of (c.fact 83 (f := .meth "NotBetween" "__init__") rfl) (c.def_ 25 (d := dI "NotBetween" "NotBetween.__init__" 33) rfl))
    (init_of (c.fact 84 (f := .meth "Unmeeting" "__init__") rfl) (c.def_ 26 (d := dI "Unmeeting" "Unmeeting.__init__" 34) rfl))
    (init_of (c.fact 85 (f := .meth "CommandFailed" "__init__") rfl) (c.def_ 27 (d := dI "CommandFailed" "CommandFailed.__init__" 36) rfl))
    (init_of (c.fact 86 (f := .meth "UnknownWay" "__init__") rfl) (c.def_ 28 (d := dI "UnknownWay" "UnknownWay.__init__" 25) rfl))
    (init_of (c.fact 87 (f := .meth "NoSuch" "__init__") rfl) (c.def_ 29 (d := dI "NoSuch" "NoSuch.__init__" 26) rfl))
    (init_of (c.fact 88 (f := .meth "TooMany" "__init__") rfl) (c.def_ 30 (d := dI "TooMany" "TooMany.__init__" 38) rfl))
    (def_of (c.fact 38 (f := .glo "_law_pot") rfl) (c.fact 89 (f := .keep "_law_pot") rfl) (c.def_ 31 (d := dF "_law_pot" sPot) rfl))
    (def_of (c.fact 39 (f := .glo "_law_draw") rfl) (c.fact 90 (f := .keep "_law_draw") rfl) (c.def_ 32 (d := dF "_law_draw" sDraw) rfl))
    (def_of (c.fact 40 (f := .glo "_law_pick") rfl) (c.fact 91 (f := .keep "_law_pick") rfl) (c.def_ 33 (d := dF "_law_pick" sPick) rfl))
    (def_of (c.fact 41 (f := .glo "_law_grounds") rfl) (c.fact 92 (f := .keep "_law_grounds") rfl) (c.def_ 34 (d := dF "_law_grounds" sGrounds) rfl))
    (def_of (c.fact 42 (f := .glo "_law_ground") rfl) (c.fact 93 (f := .keep "_law_ground") rfl) (c.def_ 35 (d := dF "_law_ground" sGround) rfl))
    (def_of (c.fact 43 (f := .glo "_law_thing") rfl) (c.fact 94 (f := .keep "_law_thing") rfl) (c.def_ 36 (d := dF "_law_thing" sThing) rfl))
    (def_of (c.fact 44 (f := .glo "_law_by_value") rfl) (c.fact 95 (f := .keep "_law_by_value") rfl) (c.def_ 37 (d := dF "_law_by_value" sByV) rfl))
    (def_of (c.fact 45 (f := .glo "_law_by_named_value") rfl) (c.fact 96 (f := .keep "_law_by_named_value") rfl) (c.def_ 38 (d := dF "_law_by_named_value" sByN) rfl))
    (def_of (c.fact 46 (f := .glo "_law_by_place") rfl) (c.fact 97 (f := .keep "_law_by_place") rfl) (c.def_ 39 (d := dF "_law_by_place" sByP) rfl))
    (def_of (c.fact 47 (f := .glo "_law_thrown") rfl) (c.fact 98 (f := .keep "_law_thrown") rfl) (c.def_ 40 (d := dF "_law_thrown" sThrown) rfl))
    (def_of (c.fact 48 (f := .glo "_law_caught") rfl) (c.fact 99 (f := .keep "_law_caught") rfl) (c.def_ 41 (d := dF "_law_caught" sCaught) rfl))
    (def_of (c.fact 49 (f := .glo "_law_raised_right") rfl) (c.fact 100 (f := .keep "_law_raised_right") rfl) (c.def_ 42 (d := dF "_law_raised_right" sRaised) rfl))
    (def_of (c.fact 50 (f := .glo "_law_values_right") rfl) (c.fact 101 (f := .keep "_law_values_right") rfl) (c.def_ 43 (d := dF "_law_values_right" sVals) rfl))
    (def_of (c.fact 51 (f := .glo "_law_states_right") rfl) (c.fact 102 (f := .keep "_law_states_right") rfl) (c.def_ 44 (d := dF "_law_states_right" sSts) rfl))
    (def_of (c.fact 52 (f := .glo "_law_limits_right") rfl) (c.fact 103 (f := .keep "_law_limits_right") rfl) (c.def_ 45 (d := dF "_law_limits_right" sLim) rfl))
    (def_of (c.fact 53 (f := .glo "_law_sorts") rfl) (c.fact 104 (f := .keep "_law_sorts") rfl) (c.def_ 46 (d := dF "_law_sorts" sSorts) rfl))
    (def_of (c.fact 54 (f := .glo "_law_stands") rfl) (c.fact 105 (f := .keep "_law_stands") rfl) (c.def_ 47 (d := dF "_law_stands" sStands) rfl))
    (def_of (c.fact 55 (f := .glo "_law_apart_right") rfl) (c.fact 106 (f := .keep "_law_apart_right") rfl) (c.def_ 48 (d := dF "_law_apart_right" sApart) rfl))
    (def_of (c.fact 56 (f := .glo "_law_right") rfl) (c.fact 107 (f := .keep "_law_right") rfl) (c.def_ 49 (d := dF "_law_right" sRight) rfl))
    (def_of (c.fact 57 (f := .glo "law") rfl) (c.fact 108 (f := .keep "law") rfl) (c.def_ 50 (d := dF "law" sLaw) rfl))
    (Bk_ok hb)
abbrev R : PySem.W.OpenRow := PySem.W.OpenLaw.row PySem.Challenge.rw_wornsteps_k10_errors_made
abbrev qv : Program := PySem.W.view R.prog [59]
def lo0 : List Str := ["StairError", "InvalidSteps", "InvalidJumps", "InvalidJump", "InvalidLengths", "InvalidWay", "InvalidThing", "InvalidScore", "InvalidWays", "InvalidCount", "InvalidFlow", "InvalidRun", "InvalidMark", "InvalidMarks", "InvalidPrices", "InvalidBounds", "InvalidMoves", "InvalidEnds", "InvalidHabits", "InvalidShares", "InvalidText", "InvalidClaim", "InvalidCommand", "MissingError", "UnknownWay", "NoSuch", "StateError", "OtherSteps", "OtherStair", "NotTogether"]
def lo1 : List Str := ["NothingFits", "Endless", "NotBetween", "Unmeeting", "NothingToUndo", "CommandFailed", "LimitError", "TooMany", "_law_pot", "_law_draw", "_law_pick", "_law_grounds", "_law_ground", "_law_thing", "_law_by_value", "_law_by_named_value", "_law_by_place", "_law_thrown", "_law_caught", "_law_raised_right", "_law_values_right", "_law_states_right", "_law_limits_right", "_law_sorts", "_law_stands", "_law_apart_right", "_law_right"]
def loA : List Str := lo0 ++ lo1
end K10
set_option Elab.async false
set_option linter.all false
set_option maxRecDepth 100000
set_option maxHeartbeats 0
namespace K10
open PySem PySem.Spec PyProof.Rows L2
theorem run (w : World) : HandSHeadRun.RunEq R qv (hookX 4 faA fnA Bk) (fun s => obsF faA fnA Bk 4 (HandSHeadRun.getT s)) 12000 loA w := by
  intro os
  kernel_rfl
end K10
set_option Elab.async false
set_option linter.all false
namespace L2
open PySem PySem.Spec PyProof.Rows
/-- the end of a law over a head by facts, where the law's def asks for repr -/
theorem walk_ofGE {l : PySem.W.OpenLaw} {n k : Nat} {q : Program} {loose : List Str} {XP : (Str → Option Value) → Heap → Prop} {YP : World → Heap → Prop} {d : DefRec} {CX : CXT} {x : Str} (hn : l.most = some n) (hn2 : n ≤ sizeLine) (hdf : d.params.defaults = []) (hr : Room k callerA)
    (F : ∀ (w : World) (mg : Str → Option Value) (fa : Addr) (h : Heap), YP w h → h.Ns mainGlobals mg → mg d.name = some (.ref fa) → ∃ (K : PySem.W.Frag) (fd : FuncData) (sp : Sp), K.In h ∧ (∀ (s : Shared) (u : Value), BindsTo s fd ⟨[u], []⟩ [(x, u)]) ∧
      (∀ (H : Hp) (a : Addr) (ns : List Int), ns.length ≤ n → Only H → SqL K H a (ns.map V.int) → sp [.ref a] H (fun v _ => v = .bl true) fun _ _ _ => False) ∧ ∀ base : Heap, K.In base → base.Ns mainGlobals mg → FnG l.prog w K mg base CX k fa fd [x] sp)
    (hCX : ∀ (H : Hp) (s : Shared) (e : Value) (s' : Shared), CX [] H s (fun _ _ _ => False) e s' → False) : PySem.W.WalkO q loose XP YP l.row.toRowW d [] (fun f vs => PySem.call f vs) :=
  Att.attach_call hn hdf fun w s0 s1 mg mb fa o pm cd doc a vs ns G Y ho hd hcd hmg hobj hints hlen hg =>
    let ⟨K, fd, sp, KX, hb, hsp, hF⟩ := F w mg fa _ Y G.T.g hmg
    law_callG KX G.T.g G.T.b G.T.builtins G.T.nolimit hg hobj hints (Nat.le_trans hlen hn2) hr hF hb (fun H hO hS => hsp H a ns hlen hO hS) fun H e s' => hCX H s1 e s'
end L2
open PySem PySem.W PySem.Calls PyProof.Rows
theorem PySem.Challenge.cw_wornsteps_k10_errors_made_holds : PySem.Challenge.rw_wornsteps_k10_errors_made.Holds := by
  w_on; o_law
  refine HandSHeadRun.head_any (r := OpenLaw.row PySem.Challenge.rw_wornsteps_k10_errors_made) (q := K10.qv) (H := K10.hookX 4 K10.faA K10.fnA K10.Bk) (ob := fun s => K10.obsF K10.faA K10.fnA K10.Bk 4 (HandSHeadRun.getT s)) (M := 12000) (loose := K10.loA) (d := HandSHeadRun.topDef (OpenLaw.row PySem.Challenge.rw_wornsteps_k10_errors_made).prog 59) (kwd := []) K10.obsF_eq
    (by kernel_rfl) (fun s => by kernel_rfl) K10.run (by kernel_rfl) (by kernel_rfl) (by kernel_rfl) (by rfl) (by first | assumption | decide +kernel) (by decide +kernel) ⟨rfl, rfl, rfl, rfl, rfl, by decide +kernel⟩ ?hw ?hc
  case hw => w_witness2
  case hc =>
    refine L2.walk_ofGE (l := PySem.Challenge.rw_wornsteps_k10_errors_made) (n := 63) (k := 7) (x := "_law_script") (CX := L2.CX0) rfl (by decide) (by kernel_rfl) ⟨rfl, by decide, by decide⟩ ?F (fun _ _ _ _ z => z)
    intro w mg fa h Y G hmg0
    obtain ⟨K, KX, c⟩ := Y
    have hmg : mg ("law" : PySem.Str) = some (.ref fa) := by
      have e : (HandSHeadRun.topDef (OpenLaw.row PySem.Challenge.rw_wornsteps_k10_errors_made).prog 59).name = ("law" : PySem.Str) := by kernel_rfl
      rw [← e]
      exact hmg0
    obtain ⟨fd, hb, hF⟩ := K10.facts (P := (PySem.Challenge.rw_wornsteps_k10_errors_made).prog) (w := w) KX G hmg c
    exact ⟨K, fd, K10.spLaw K, KX, hb, fun H a ns hl _ hS => ⟨a, ns, rfl, hS, fun _ => rfl⟩, hF⟩
