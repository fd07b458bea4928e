import PyProof.Rows.All
import Wide.All
import OpenK.AllK
import Wide.FinOn
import HandS.ForMost
import HandS.ForExc
import HandS.ExcInit
import HandS.Wide
import PyProof.ReprRoads
import PyProof.ReprLen
import HandS.ExcField
import HandS.ExcIs
import KE.KExcIs
import HandS.IsInst
import HandS.Defaults
import HandS.AnyAll
import HandS.Walk
import HandS.Text
import HandS.ExcValue
import HandS.Iter
import HandS.ClsMeth
import HandS.MakeKw
import HandS.Gcd
import HandS.Property
import HandS.FStr
import KE.KCallOwn
import HandS.RaiseMore
import HandS.Lambda
import HandS.EndTab
import HandS.NestedK
import HandS.Codes
import HandS.Steps
import HandS.StrMore
import KE.IntTextLaws
import PyProof.Rows.StrOr
import OpenK.KOwn
import KE.IntTextText
import HandS.SuiteRaise
import HandS.RaiseFrom
import HandS.ExcInitHot
import HandS.WordsExc
import HandS.Style
import HandS.DictComp
import HandS.Sort
import HandS.TupAny
import OpenK.KMeth
import OpenK.KOps
import HandS.SetFor
import HandS.Strs
import HandS.Star
import HandS.Nested
import KE.KSuper
import HandS.OwnEq
import HandS.Conv
import PyProof.TupleOfGen
import KE.KFmtOwn
import PyProof.Rows.StrMeet
import PyProof.Rows.TmSorted
import HandS.WordsDict
import HandS.MakeKwOnly
import PyProof.TupleOfStr
import HandS.ListItems
import HandS.HeadHook2
import HandS.HeadEnd
import HandS.Head0
import HandS.Head1
import HandS.Head2
import HandS.Head3
import PySem.Challenge.RW_holeshift_k03_sums_with_coefficients
set_option Elab.async false
set_option linter.all false
set_option maxRecDepth 100000
set_option maxHeartbeats 2000000
namespace HX
open PySem PySem.Spec PyProof.Rows L2

/-- a def's promise where nothing is being shown (no repr runs around it) -/
structure FnG (P : Program) (w : World) (K : PySem.W.Frag) (mg : Str → Option Value) (base : Heap) (CX : CXT) (k : Nat) (f : Addr) (fd : FuncData) (ps : List Str) (sp : Sp) : Prop where
  len : ∀ vs H Q E, sp vs H Q E → vs.length = ps.length
  go : ∀ (A : Around) (out : List Env) (s : Shared) (H : Hp) (ar : Args) (us : List Value) (vs : List V) (Q : VK) (E : XK),
    A.guards = some [] → Room k A → Env0 P w K mg base A out s H → BindsTo s fd ar (ps.zip us) → Vals vs us → sp vs H Q E →
      codeAny (model P w) A (.call (.ref f) ar) (CR CX out P w H s Q E) s

section
variable {P : Program} {w : World} {K : PySem.W.Frag} {mg : Str → Option Value} {base : Heap} {CX : CXT} {k : Nat} {f : Addr} {fd : FuncData} {ps : List Str} {sp : Sp}
theorem FnG.of (F : FnOk P w K mg base CX k f fd ps sp) : FnG P w K mg base CX k f fd ps sp :=
  ⟨F.len, fun A out s H ar us vs Q E _ r e b v h => F.run A out s H ar us vs Q E r e b v h⟩
theorem FnG.mono {j : Nat} (F : FnG P w K mg base CX j f fd ps sp) (h : j ≤ k) : FnG P w K mg base CX k f fd ps sp :=
  ⟨F.len, fun A out s H ar us vs Q E g r => F.go A out s H ar us vs Q E g (r.mono h)⟩

/-- a def by its body -/
theorem fnG_of {nm qual : Str} {prm : Arguments} {body : List Stmt} {sc : Scope} {dV kV doc pm cdv ct oc : Value} {an od : Option Addr} {osl : Array (Option Value)} {N : List Str}
    (lk : K.lookup f = some ⟨oc, od, .func (PySem.W.fnOf nm qual prm body sc dV kV doc pm an cdv ct), osl⟩)
    (hcd : PySem.W.codeIn K cdv qual = true) (S : FnScope N ps sc) (ln : ∀ vs H Q E, sp vs H Q E → vs.length = ps.length)
    (hb : ∀ (A : Around) (out : List Env) (s : Shared) (H : Hp) (vs : List V) (Q : VK) (E : XK), A.guards = some [] →
      Room k (A.deeper (envOfC qual sc s.heap.objs.size f cdv)) → sp vs H Q E →
        ∃ t, PSs (cxOf CX P w K mg base N qual sc f cdv A out s H E) body t ∧ t { nx := fun _ G => Q .non G, rt := Q } (start N vs) H) :
    FnG P w K mg base CX (k + 1) f (PySem.W.fnOf nm qual prm body sc dV kV doc pm an cdv ct) ps sp := by
  refine ⟨ln, fun A out s H ar us vs Q E hgd hr e0 bd rv hsp => ?_⟩
  have n0 := ln _ _ _ _ hsp
  have stay : ∀ b o, base.get? b = some o → s.heap.get? b = some o := fun b o z => (e0.bs b o z).1
  have kin : K.In s.heap := e0.mod.kin.keeps stay
  have lim : s.heap.NoLimit := e0.mod.nolimit.keeps stay
  refine codeAny_call_function hr.depth (kin _ _ lk) rfl S.co S.gen rfl (PySem.W.codeRec_of kin hcd) (bd _ _ _ _ ?_)
  refine wpAny_newFunctionEnv_cells S.kind (fun ⟨x, u⟩ hx => ?_) fun env he s1 ic => ?_
  · rcases S.par x (List.of_mem_zip hx).1 with z | z
    · exact .inl z
    · exact .inr ⟨z, PySem.W.cellsFrom_some _ _ _ (.inl z)⟩
  · subst he
    refine ⟨lim.keeps ic.toInCall.keep, codeAny_func ?_⟩
    obtain ⟨t, pt, go⟩ := hb A out s H vs Q E hgd (hr.deeper _) hsp
    refine wpAny_mono (pt.run [] s1 _ H _ (inv_start S hr.hd e0 n0 rv ic) go) (fun fl s' q => ?_) fun _ _ z => z
    cases fl with
    | ret u =>
      obtain ⟨v, _, G, J, r, z⟩ := q
      exact ⟨v, G, J.os, J.bare, J.base, J.hok, r, z⟩
    | next =>
      obtain ⟨_, G, J, z⟩ := q
      exact ⟨V.non, G, J.os, J.bare, J.base, J.hok, rfl, z⟩
    | brk => exact False.elim (let ⟨_, _, _, z⟩ := q; z)
    | cont => exact False.elim (let ⟨_, _, _, z⟩ := q; z)

theorem fun_okG {x qual : Str} {st : Stmt} {N : List Str} (F : Fun K x qual st f fd) (S : FnScope N ps (defScope st)) (ln : ∀ vs H Q E, sp vs H Q E → vs.length = ps.length)
    (hb : ∀ (cdv : Value) (A : Around) (out : List Env) (s : Shared) (H : Hp) (vs : List V) (Q : VK) (E : XK), A.guards = some [] →
      Room k (A.deeper (envOfC qual (defScope st) s.heap.objs.size f cdv)) → sp vs H Q E →
        ∃ t, PSs (cxOf CX0 P w K mg base N qual (defScope st) f cdv A out s H E).nox (defBody st) t ∧ t { nx := fun _ G => Q .non G, rt := Q } (start N vs) H) :
    FnG P w K mg base CX0 (k + 1) f fd ps sp := by
  obtain ⟨_, _, _, _, _, _, cdv, _, _, rfl, lk, hcd⟩ := F.ex
  refine fnG_of lk hcd S ln fun A out s H vs Q E g hr hs => ?_
  obtain ⟨t, p, q⟩ := hb cdv A out s H vs Q E g hr hs
  exact ⟨t, p.nox, q⟩
end

section
variable {X : Cx} {CX : CXT} {k : Nat} {f : Addr} {fd : FuncData} {ps : List Str} {sp : Sp} {dvs : List V} {ds : List Value} {E : XK} {x : Str} {p pos : Pos} {e : Expr} {es : List Expr} {t : TA}
theorem run_fnG {pins : List (Addr × Obj)} {σ : L2.St} {H : Hp} {s : Shared} {Q : VK} {us : List Value} {vs : List V} (F : FnG X.prog X.w X.K X.mg X.base CX k f fd ps sp) (gd : X.A.guards = some []) (hr : Room k X.A)
    (hb : Binds X.K fd ps ds) (hd : Vals dvs ds) (hx : Passes CX X E) (I : Inv X pins σ H s) (r : Vals vs us) (h : sp (vs ++ dvs) H Q E) :
    wpAny (model X.prog X.w) X.A (call (.ref f) us) (EP X pins σ Q) X.xe s := by
  have rr : Vals (vs ++ dvs) (us ++ ds) := r.append hd
  have n0 : (us ++ ds).length = ps.length := rr.length.symm.trans (F.len _ _ _ _ h)
  have run := F.go X.A X.stack s H ⟨us, []⟩ (us ++ ds) (vs ++ dvs) Q E gd hr I.env0 (hb s us I.kIn n0) rr h
  refine wpAny_call (codeAny_mono run fun r s' q => ?_)
  match r, q with
  | .error e, q => exact hx pins σ H s e s' I q
  | .ok (.ret u), q => exact I.after q
  | .ok .next, q => exact False.elim q
  | .ok .brk, q => exact False.elim q
  | .ok .cont, q => exact False.elim q
theorem pe_callG (F : FnG X.prog X.w X.K X.mg X.base CX k f fd ps sp) (gd : X.A.guards = some []) (hr : Room k X.A) (hg : Gl X x) (hm : X.mg x = some (.ref f)) (hk : PySem.W.keepIn X.K (.ref f) = true)
    (hb : Binds X.K fd ps ds) (hd : Vals dvs ds) (hx : Passes CX X E) (ha : PA X (e :: es) t) (hdb : (x == ("__debug__" : Str)) = false := by decide)
    (he : starEach (e :: es) X.env = (false, eval e X.env) :: starEach es X.env := by rfl) (hpl : (backTo pos (starEach es X.env)).any (·.1) = false := by rfl) :
    PE X (.Call (.Name x p) (e :: es) [] pos) (tCall sp dvs E t) :=
  ⟨fun pins s σ H Q I h => wpAny_Call_Name_kw (ld_glob I hg hm (PySem.W.callWith_K (h₀ := X.base) I.ok.mod.kin hk
    (thn (ha.run pos pins s σ H _ I h) fun us s1 ⟨vs, H1, I1, r, q⟩ => ⟨I1.kIn, run_fnG F gd hr hb hd hx I1 r q⟩) he hpl) hdb)⟩
end
end HX

set_option Elab.async false
set_option linter.all false
set_option maxRecDepth 100000
set_option maxHeartbeats 2000000
namespace HX
open PySem PySem.Spec PyProof.Rows L2

/-- the heap that knows the script alone, locked -/
def scr (a : Addr) (o : Obj) (ns : List Int) : Hp := fun b => if b = a then some (.frz o (.lst (ns.map V.int))) else none

section
variable {P : Program} {w : World} {K : PySem.W.Frag} {mg mb : Str → Option Value} {CX : CXT} {k : Nat} {fa a : Addr} {fd : FuncData} {x : Str} {sp : Sp} {s : Shared} {vs : List Value} {ns : List Int}
theorem law_goG (kin : K.In s.heap) (hn : s.heap.Ns mainGlobals mg) (hb : s.heap.Ns builtinsNs mb) (hbb : ∀ y : Str, y ≠ "__name__" → mb y = bootBuiltins y) (lim : s.heap.NoLimit) (hg : s.gens = #[])
    (H : Hp) (only : Only H) (hok : HOk P w H s.heap) (at1 : ∀ b, H b ≠ none → s.heap.get? b = some { cls := .type "list", data := .seq vs.toArray } ∧ K.lookup b = none)
    (hr : Room k callerA) (F : ∀ base : Heap, K.In base → base.Ns mainGlobals mg → FnG P w K mg base CX k fa fd [x] sp)
    (bind1 : ∀ (s : Shared) (u : Value), BindsTo s fd ⟨[u], []⟩ [(x, u)])
    (hsp : sp [.ref a] H (fun v _ => v = .bl true) fun _ _ _ => False) (hCX : ∀ e s', CX [] H s (fun _ _ _ => False) e s' → False) :
    codeAny (model P w) callerA (.call (.ref fa) ⟨[.ref a], []⟩) (fun r s' => r = .ok (.ret (.bool true)) ∧ OldK s.heap s'.heap ∧ s'.os = s.os ∧ AllBare s'.gens) s := by
  have untr : ∀ b o, s.heap.get? b = some o → (o ≠ { cls := .type "list", data := .seq vs.toArray } ∨ K.lookup b ≠ none) → H b = none := fun b o e d => by
    cases q : H b with
    | none => rfl
    | some u =>
      obtain ⟨z1, z2⟩ := at1 b (by rw [q]; exact fun z => nomatch z)
      rcases d with d | d
      · exact absurd (Option.some.inj (e.symm.trans z1)) d
      · exact absurd z2 d
  have isNs : ∀ {b : Addr} {m : Str → Option Value}, s.heap.Ns b m → (hidT s.heap H).Ns b m := fun {b m} z => by
    obtain ⟨o, es, ep, e, d, r⟩ := z
    refine ⟨o, es, ep, hidT_get e (untr b o e (.inl fun z => ?_)), d, r⟩
    rw [z] at d
    cases d
  have kinB : K.In (hidT s.heap H) := fun b o e => hidT_get (kin b o e) (untr b o (kin b o e) (.inr (by rw [e]; exact fun z => nomatch z)))
  have md : Mod K mg (hidT s.heap H) := ⟨kinB, isNs hn, ⟨mb, isNs hb, hbb⟩, let ⟨m, z1, z2⟩ := lim; ⟨m, isNs z1, z2⟩⟩
  have e0 : Env0 P w K mg (hidT s.heap H) callerA [] s H :=
    ⟨rfl, md, fun _ _ e => of_hidT e, Nat.le_of_eq (hidT_size _ _), trivial, fun b z => absurd (show b ∈ ([] : List Addr) from z) List.not_mem_nil, hok, AllBare.of_eq hg⟩
  have run := (F _ kinB (isNs hn)).go callerA [] s H ⟨[.ref a], []⟩ [.ref a] [.ref a] (fun v _ => v = .bl true) (fun _ _ _ => False) rfl hr e0 (bind1 s (.ref a)) (.cons rfl .nil) hsp
  refine codeAny_mono run fun r s' q => ?_
  match r, q with
  | .error e, q => exact (hCX e s' q).elim
  | .ok .next, q => exact False.elim q
  | .ok .brk, q => exact False.elim q
  | .ok .cont, q => exact False.elim q
  | .ok (.ret u), q =>
    obtain ⟨v, G, os, bare, un, hok', rv, ev⟩ := q
    subst ev
    obtain rfl : u = Value.bool true := rv
    refine ⟨rfl, OldK.of_keep fun b o e => ?_, os, bare⟩
    rcases only b with n | ⟨ob, xs, n⟩
    · exact un.keep b o e n (fun z => absurd (show b ∈ ([] : List Addr) from z) List.not_mem_nil) List.not_mem_nil
    · have y1 := (hok b _ n).1
      have y2 := (hok' b _ (un.frzs b ob _ n)).1
      exact (y2.trans y1.symm).trans e
end

/-- the end of a law whose def keeps an FnG promise -/
theorem walkG {l : PySem.W.OpenLaw} {n k : Nat} {q : Program} {loose : List Str} {XP : (Str → Option Value) → Heap → Prop} {YP : World → Heap → Prop} {d : DefRec} {K : Params → PySem.W.Frag} {sp : PySem.W.Frag → Sp} {x : Str}
    (hm : l.most = some n) (hn : n ≤ sizeLine) (hdf : d.params.defaults = []) (hr : Room k callerA) (hY : ∀ (w : World) (h : Heap), YP w h → (K w.params).In h)
    (F : ∀ (w : World) (mg : Str → Option Value) (fa : Addr) (h : Heap), (K w.params).In h → h.Ns mainGlobals mg → mg d.name = some (.ref fa) →
      ∃ fd : FuncData, (∀ (s : Shared) (u : Value), BindsTo s fd ⟨[u], []⟩ [(x, u)]) ∧
        ∀ base : Heap, (K w.params).In base → base.Ns mainGlobals mg → FnG l.prog w (K w.params) mg base CX0 k fa fd [x] (sp (K w.params)))
    (hsp : ∀ (K : PySem.W.Frag) (H : Hp) (a : Addr) (ns : List Int), ns.length ≤ n → Only H → SqL K H a (ns.map V.int) → sp K [.ref a] H (fun v _ => v = .bl true) fun _ _ _ => False) :
    PySem.W.WalkO q loose XP YP l.row.toRowW d [] (fun f vs => PySem.call f vs) := by
  refine Att.attach_call hm hdf fun w s₀ s mg mb fa o pm cd doc a vs ns G Y ho hd hcd hmg hobj hi hlen hg => ?_
  have kin := hY w _ Y
  obtain ⟨fd, b1, f1⟩ := F w mg fa _ kin G.T.g hmg
  have rv := vals_ints hi
  have lv := hi.length
  cases e : (K w.params).lookup a with
  | some ob =>
    have z := kin a ob e
    rw [hobj] at z
    cases z
    refine law_goG (vs := vs) kin G.T.g G.T.b G.T.builtins G.T.nolimit hg (fun _ => none) (fun _ => .inl rfl) (fun _ _ z => nomatch z) (fun _ z => absurd rfl z) hr f1 b1 ?_ fun _ _ z => z
    refine hsp _ _ a ns hlen (fun _ => .inl rfl) (.inr ⟨_, vs.toArray, _, e, rfl, rfl, rfl, ?_, by simpa using rv⟩)
    rw [List.size_toArray, lv]
    exact Nat.le_trans hlen hn
  | none =>
    have at_ : ∀ b u, scr a { cls := .type "list", data := .seq vs.toArray } ns b = some u → b = a ∧ u = .frz { cls := .type "list", data := .seq vs.toArray } (.lst (ns.map V.int)) := fun b u z => by
      unfold scr at z
      split at z
      · rename_i hb
        exact ⟨hb, (Option.some.inj z).symm⟩
      · cases z
    refine law_goG (vs := vs) kin G.T.g G.T.b G.T.builtins G.T.nolimit hg (scr a { cls := .type "list", data := .seq vs.toArray } ns) (fun b => ?_) (fun b u z => ?_) (fun b z => ?_) hr f1 b1 ?_ fun _ _ z => z
    · cases z : scr a { cls := .type "list", data := .seq vs.toArray } ns b with
      | none => exact .inl rfl
      | some u => exact .inr ⟨_, _, by rw [(at_ b u z).2]⟩
    · obtain ⟨rfl, rfl⟩ := at_ b u z
      exact ⟨hobj, by rw [List.length_map]; exact Nat.le_trans hlen hn, vs, _, rv, hobj⟩
    · cases y : scr a { cls := .type "list", data := .seq vs.toArray } ns b with
      | none => exact absurd y z
      | some u =>
        obtain ⟨rfl, _⟩ := at_ b u y
        exact ⟨hobj, e⟩
    · refine hsp _ _ a ns hlen (fun b => ?_) (.inl (.inr ⟨_, if_pos rfl⟩))
      cases z : scr a { cls := .type "list", data := .seq vs.toArray } ns b with
      | none => exact .inl rfl
      | some u => exact .inr ⟨_, _, by rw [(at_ b u z).2]⟩
end HX

set_option Elab.async false
set_option linter.all false
set_option maxRecDepth 100000
set_option maxHeartbeats 2000000
namespace HX
open PySem PySem.Spec PyProof.Rows L2

/-! ### what a value tells as data: None, bools, ints, texts, lists, tuples, dicts with int and text keys -/
def keyD : Key → PyData
  | .inl i => .int i
  | .inr x => .str x
mutual
inductive Da (H : Hp) : V → PyData → Prop
  | non : Da H .non .none
  | bl (b : Bool) : Da H (.bl b) (.bool b)
  | int (i : Int) : Da H (.int i) (.int i)
  | str (x : Str) : Da H (.str x) (.str x)
  | lst {a : Addr} {xs : List V} {ds : List PyData} : H a = some (.lst xs) → a ≠ sysModules → Das H xs ds → Da H (.ref a) (.list ds)
  | tup {a : Addr} {xs : List V} {ds : List PyData} : H a = some (.tup xs) → Das H xs ds → Da H (.ref a) (.tuple ds)
  | dic {a : Addr} {kvs : List (Key × V)} {ps : List (PyData × PyData)} : H a = some (.dK kvs) → Dks H kvs ps → Da H (.ref a) (.dict ps)
inductive Das (H : Hp) : List V → List PyData → Prop
  | nil : Das H [] []
  | cons {v : V} {vs : List V} {d : PyData} {ds : List PyData} : Da H v d → Das H vs ds → Das H (v :: vs) (d :: ds)
inductive Dks (H : Hp) : List (Key × V) → List (PyData × PyData) → Prop
  | nil : Dks H [] []
  | cons {k : Key} {v : V} {kvs : List (Key × V)} {d : PyData} {ps : List (PyData × PyData)} : Da H v d → Dks H kvs ps → Dks H ((k, v) :: kvs) ((keyD k, d) :: ps)
end
theorem Das.len {H : Hp} : ∀ {vs : List V} {ds : List PyData}, Das H vs ds → vs.length = ds.length
  | _, _, .nil => rfl
  | _, _, .cons _ t => by rw [List.length_cons, List.length_cons, t.len]
theorem Das.get {H : Hp} : ∀ {vs : List V} {ds : List PyData} {i : Nat} {v : V}, Das H vs ds → vs[i]? = some v → ∃ d, ds[i]? = some d ∧ Da H v d
  | _, _, _, _, .nil, e => by simp at e
  | _, _, 0, v, .cons h _, e => by
    simp at e
    subst e
    exact ⟨_, rfl, h⟩
  | _, _, i + 1, v, .cons _ t, e => by
    obtain ⟨d, h1, h2⟩ := t.get (i := i) (v := v) (by simpa using e)
    exact ⟨d, by simpa using h1, h2⟩
theorem Das.app {H : Hp} : ∀ {vs us : List V} {ds es : List PyData}, Das H vs ds → Das H us es → Das H (vs ++ us) (ds ++ es)
  | _, _, _, _, .nil, t => t
  | _, _, _, _, .cons h t, t2 => .cons h (t.app t2)
mutual
theorem Da.mo {H H' : Hp} (m : Same H H') : ∀ {d : PyData} {v : V}, Da H v d → Da H' v d
  | _, _, .non => .non
  | _, _, .bl b => .bl b
  | _, _, .int i => .int i
  | _, _, .str x => .str x
  | _, _, .lst s n t => .lst (m _ _ s) n (Das.mo m t)
  | _, _, .tup s t => .tup (m _ _ s) (Das.mo m t)
  | _, _, .dic s t => .dic (m _ _ s) (Dks.mo m t)
theorem Das.mo {H H' : Hp} (m : Same H H') : ∀ {ds : List PyData} {vs : List V}, Das H vs ds → Das H' vs ds
  | _, _, .nil => .nil
  | _, _, .cons h t => .cons (Da.mo m h) (Das.mo m t)
theorem Dks.mo {H H' : Hp} (m : Same H H') : ∀ {ps : List (PyData × PyData)} {kvs : List (Key × V)}, Dks H kvs ps → Dks H' kvs ps
  | _, _, .nil => .nil
  | _, _, .cons h t => .cons (Da.mo m h) (Dks.mo m t)
end
section
variable {X : Cx} {pins : List (Addr × Obj)} {σ : L2.St} {H : Hp} {s : Shared}
theorem key_reads {h : Heap} {k : Key} {v : Value} (e : keyIs k v = true) : Reads h v (keyD k) [] := by
  rcases keyIs_shape e with ⟨i, t, rfl, rfl⟩ | ⟨x, t, rfl, rfl⟩
  · exact .int i t
  · exact .str x t
mutual
/-- .. as it stands in the heap; of the addresses that are read, none is sys.modules -/
theorem Da.reads (I : Inv X pins σ H s) : ∀ {d : PyData} {v : V} {u : Value}, Da H v d → RelV v u → ∃ as, Reads s.heap u d as ∧ sysModules ∉ as
  | _, _, _, .non, r => by cases r; exact ⟨_, .none, fun z => nomatch z⟩
  | _, _, _, .bl b, r => by cases r; exact ⟨_, .bool b, fun z => nomatch z⟩
  | _, _, _, .int i, r => by obtain ⟨t, rfl⟩ := r; exact ⟨_, .int i t, fun z => nomatch z⟩
  | _, _, _, .str x, r => by obtain ⟨t, rfl⟩ := r; exact ⟨_, .str x t, fun z => nomatch z⟩
  | _, _, _, .lst h nz t, r => by
    cases r
    obtain ⟨its, rv, ⟨o, n, ho, hc, _, hd⟩, _⟩ := I.list (SqL.of h)
    obtain ⟨as, hr, qs⟩ := Das.reads I t rv
    exact ⟨_, .list ho hc hd (by simpa using hr), fun z => (List.mem_cons.mp z).elim (fun e => nz e.symm) qs⟩
  | _, _, _, .tup h t, r => by
    cases r
    obtain ⟨its, rv, ⟨o, ho, hc, n, hd⟩, _⟩ := I.tuple (SqT.of h)
    obtain ⟨as, hr, q⟩ := Das.reads I t rv
    exact ⟨_, .tuple ho hc hd (by simpa using hr), q⟩
  | _, _, _, .dic (a := a) (kvs := kvs) h t, r => by
    cases r
    obtain ⟨_, nsys, vs, kv, o, es, ep, ho, hx, hd, _, hp, _⟩ := (show ObjOk X.prog X.w H s.heap a (.dK kvs) from I.hok a _ h)
    obtain ⟨bs, hr1, hr2, q⟩ := Dks.reads I t kv hp
    refine ⟨_, .dict (as := []) (bs := bs) ho hx.1 hd hr1 hr2, fun hm => ?_⟩
    rcases List.mem_cons.mp hm with e | hm
    · rw [← e] at nsys
      simp at nsys
    · exact q (by simpa using hm)
theorem Das.reads (I : Inv X pins σ H s) : ∀ {ds : List PyData} {vs : List V} {us : List Value}, Das H vs ds → Vals vs us → ∃ as, ReadsAll s.heap us ds as ∧ sysModules ∉ as
  | _, _, _, .nil, r => by cases r; exact ⟨_, .nil, fun z => nomatch z⟩
  | _, _, _, .cons h t, r => by
    cases r with
    | cons r1 r2 =>
      obtain ⟨as, h1, q1⟩ := Da.reads I h r1
      obtain ⟨bs, h2, q2⟩ := Das.reads I t r2
      exact ⟨_, .cons h1 h2, fun hm => (List.mem_append.mp hm).elim q1 q2⟩
theorem Dks.reads (I : Inv X pins σ H s) : ∀ {ps : List (PyData × PyData)} {kvs : List (Key × V)} {vs : List (Key × Value)} {es : List DictEntry}, Dks H kvs ps → KV kvs vs → Pairs (mixKind X.prog X.w) es vs →
    ∃ bs, ReadsAll s.heap (es.map (·.key)) (ps.map (·.1)) [] ∧ ReadsAll s.heap (es.map (·.val)) (ps.map (·.2)) bs ∧ sysModules ∉ bs
  | _, _, _, _, .nil, r, p => by cases r; cases p; exact ⟨_, .nil, .nil, fun z => nomatch z⟩
  | _, _, _, _, .cons h t, r, p => by
    cases r with
    | cons r1 r2 =>
      cases p with
      | cons p1 p2 p3 =>
        obtain ⟨e1, e2⟩ := r1
        obtain ⟨as, h1, q1⟩ := Da.reads I h e2
        obtain ⟨bs, h2, h3, q2⟩ := Dks.reads I t r2 p3
        rw [← e1] at p1
        refine ⟨as ++ bs, .cons (key_reads p1) h2, .cons (by show Reads s.heap (DictEntry.val _) _ _; rw [p2]; exact h1) h3, fun hm => (List.mem_append.mp hm).elim q1 q2⟩
end
/-- data that repr can show: not deep, not long -/
structure OkD (d : PyData) : Prop where
  sh : d.showable = true
  dp : d.depth ≤ 60
  lv : d.leavesShort 1000 = true
  wt : d.weight ≤ 10000
theorem OkD.len {d : PyData} (h : OkD d) : d.shown.length ≤ sizeLine := by
  have e := PyData.shown_le 1000 (by decide) d h.lv
  have w := h.wt
  rw [sizeLine_eq]
  omega
/-- repr of a list, a tuple, a dict -/
def rRepr : List V → Hp → VK → Prop := fun xs H Q => ∃ (a : Addr) (d : PyData), xs = [.ref a] ∧ Da H (.ref a) d ∧ OkD d ∧ Q (.str d.shown) H
theorem call_reprD (gd : X.A.guards = some []) (hu : X.A.units + 64 < cLine) : CallR X (.builtin "repr") rRepr := by
  intro pins s σ H xs us Q I r h
  obtain ⟨a, d, rfl, hd, ok, q⟩ := h
  obtain ⟨u, rfl, ru⟩ := vals1 r
  obtain ⟨as, hr, hsys⟩ := Da.reads I hd ru
  cases ru
  have hz := ok.dp
  exact repr_of_reads' hr ok.sh (fun _ => hsys) gd (by omega) (fun _ _ e => e) (fun h' t tk k => ⟨.str d.shown, H, I.kept k, ⟨_, rfl⟩, q⟩) ok.len
end
end HX

set_option Elab.async false
set_option linter.all false
set_option maxRecDepth 100000
set_option maxHeartbeats 2000000
namespace HX
open PySem PySem.Spec PyProof.Rows L2

/-! ### an exception that was caught, kept as a value: at a, of the class cls, its own dict at d -/
def exT (a : Addr) (cls : Value) (d : Option Addr) : HO := .ext fun h => ∃ oe vs, h.get? a = some oe ∧ Zc cls d oe ∧ oe.data = .fields vs
theorem exT_ok {P : Program} {w : World} {H : Hp} {h : Heap} {a : Addr} {cls : Value} {d : Option Addr} {oe : Obj} {vs : Array Value} (e : h.get? a = some oe) (z : Zc cls d oe) (q : oe.data = .fields vs) : ObjOk P w H h a (exT a cls d) :=
  ⟨⟨oe, vs, e, z, q⟩, ⟨oe, e⟩, fun _ _ ⟨o, us, x1, x2⟩ k => ⟨o, us, k o x1, x2⟩⟩
theorem exT_at {P : Program} {w : World} {H : Hp} {h : Heap} {a : Addr} {cls : Value} {d : Option Addr} (ok : HOk P w H h) (e : H a = some (exT a cls d)) : ∃ oe vs, h.get? a = some oe ∧ Zc cls d oe ∧ oe.data = .fields vs := by
  have x : ObjOk P w H h a (.ext fun h => ∃ oe vs, h.get? a = some oe ∧ Zc cls d oe ∧ oe.data = .fields vs) := ok a _ e
  exact x.1

section
variable {X : Cx} {pins : List (Addr × Obj)} {σ : L2.St} {H : Hp} {sI s' s : Shared} {B : Heap}
/-- back on the ground, the exception tracked -/
theorem landedK {a : Addr} {cls : Value} {d : Option Addr} {oe : Obj} {vs : Array Value} (I : Inv X pins σ H sI) (nb : ∀ b o, sI.heap.get? b = some o → b ∉ frs X.stack → B.get? b = some o) (st : B.StaysIn s'.heap)
    (up : sI.heap.UpToSlots s'.heap) (os : s'.os = sI.os) (ag : AllBare s'.gens) (na : H a = none) (nB : B.get? a = none) (nf : a ∉ frs X.stack) (he : s'.heap.get? a = some oe) (hz : Zc cls d oe) (hd : oe.data = .fields vs) :
    Inv X pins σ (upd H a (exT a cls d)) s' := by
  have nI : ∀ b o, sI.heap.get? b = some o → b ≠ a := fun b o e z => by
    subst z
    rw [nb b o e nf] at nB
    cases nB
  have fr : ∀ b ∈ frs X.stack, ∀ o, sI.heap.get? b = some o → ∃ sl, s'.heap.get? b = some { o with slots := sl } := fun b hb o e => by
    obtain ⟨_, o', e', q⟩ := I.stack.mem hb
    rw [e] at e'
    cases e'
    exact up b o e q
  have hk : HOk X.prog X.w H s'.heap := (I.inGround nb).kept st
  have hok : HOk X.prog X.w (upd H a (exT a cls d)) s'.heap := fun b u e => by
    by_cases hb : b = a
    · subst hb
      rw [upd_same] at e
      cases e
      exact exT_ok he hz hd
    · rw [upd_ne hb] at e
      exact (hk b u e).stay (fun _ _ _ z => z) (fun c z => by rw [upd_ne (ne_of_none z na)]; exact z) fun c xs z => by rw [upd_ne (ne_of_none z na)]; exact z
  have un : Un (frs X.stack) [] H (upd H a (exT a cls d)) sI.heap s'.heap := {
    keep := fun b o e _ hb _ => st b o (nb b o e hb)
    slot := fun b o e _ hb _ => fr b hb o e
    free := fun b o e n _ => by rw [upd_ne (nI b o e)]; exact n
    there := fun b o e _ => by
      by_cases hb : b ∈ frs X.stack
      · obtain ⟨sl, q⟩ := fr b hb o e
        exact ⟨_, q⟩
      · exact ⟨o, st b o (nb b o e hb)⟩
    tups := fun b xs e => by rw [upd_ne (ne_of_none e na)]; exact e
    frzs := fun b o u e => by rw [upd_ne (ne_of_none e na)]; exact e
    tbls := fun b ps e => ⟨#[], by rw [upd_ne (ne_of_none e na), e]; simp⟩ }
  exact I.call' (ch := []) os un hok ag fun _ z => nomatch z
theorem inSuite (I : Inv X pins σ H s) (a : Addr) : Inv (X.suite a (X.pn ++ pins)) [] σ H s :=
  ⟨I.ok.suite _ _, I.os, I.bare, I.base, I.loc, I.cell, I.free, I.freeC, fun p hp => I.pin p (by rw [List.append_nil] at hp; exact hp), I.hok, I.len⟩
theorem outSuite {a : Addr} {pn' : List (Addr × Obj)} (I : Inv (X.suite a (X.pn ++ pins)) pn' σ H s) (ok : X.Ok) : Inv X pins σ H s :=
  ⟨ok, I.os, I.bare, I.base, I.loc, I.cell, I.free, I.freeC, fun p hp => I.pin p (List.mem_append_left _ hp), I.hok, I.len⟩
end

/-- what 'except x as n' wishes of an exception of the body, where the suite keeps it as a value -/
def wKeep (K : PySem.W.Frag) (c : Value) (i : Nat) (ts : TS) (Wout : WX) (D : Ends) : WX := fun cls d σ H =>
  ∃ b, PySem.W.exmOne K cls c = some b ∧
    (b = true → ∀ a, H a = none → ts { nx := fun σ' G => D.nx (σ'.set i none) G, rt := D.rt, bk := fun σ' G => D.bk (σ'.set i none) G, ct := fun σ' G => D.ct (σ'.set i none) G } (σ.set i (some (.ref a))) (upd H a (exT a cls d))) ∧
    (b = false → Wout cls d σ H)

section
variable {X : Cx} {x n : Str} {c : Value} {i : Nat} {body rest : List Stmt} {b₀ : Stmt} {np pos pos' : Pos} {tb : WX → TS} {ts : TS} {Wout : WX}
theorem ps_try_keep (hs : X.stack = X.env :: X.outer) (hf : X.env.frame = some X.env.locals) (hN : X.N.Nodup) (hi : X.N[i]? = some n) (hln : X.env.kindOf n = some .local) (hc : Names X x c) (tk : Takes X Wout)
    (hb : ∀ (W : WX) (pn : List (Addr × Obj)) (xe : Value → Shared → Prop), Takes (X.tr pn xe) W → PassesOwn (model X.prog X.w) X.A X.env xe → PSs (X.tr pn xe) body (tb W))
    (hsu : ∀ (a : Addr) (pn : List (Addr × Obj)), PSs (X.suite a pn) (b₀ :: rest) ts) :
    PS X (.Try body [.ExceptHandler (some (.Name x np)) (some n) (b₀ :: rest) pos'] [] [] pos) (fun D σ H => tb (wKeep X.K c i ts Wout D) D σ H) := by
  refine ⟨fun pins s σ H D I h => ?_⟩
  have ok := I.ok
  have hfr : X.A.frames = some (X.env :: X.outer) := by rw [ok.frames, hs]
  have hloc : Loc X.env.scope n := .inl hln
  refine wpAny_Try_except ?_
  refine wpAny_mono ((hb (wKeep X.K c i ts Wout D) (X.pn ++ pins)
    (fun e s₁ => wpAny (model X.prog X.w) X.A (noteFrame e X.env) (fun _ s₂ => wpAny (model X.prog X.w) X.A (setFlight e none)
      (fun _ s₃ => wpAny (model X.prog X.w) X.A (handleBy e X.env [.ExceptHandler (some (.Name x np)) (some n) (b₀ :: rest) pos']) (SP X pins D) X.xe s₃) X.xe s₂) X.xe s₁)
    (fun u s' xx => ?_) PassesOwn.looking).run [] s σ H D (I.toTry _) h) (fun f s1 q => ?_) (fun _ _ z => z)
  · obtain ⟨a, B, sI, pins', σ', G, cls, d, rfl, J', nb, up, sky, na, os, ag, b, hb1, yes, no⟩ := xx
    have J : Inv X pins σ' G sI := J'.ofTry ok
    have sky2 : Sky B (X.env :: X.outer) a (Zc cls d) X.env.locals s'.heap := by rw [← hs]; exact sky
    show wpAny (model X.prog X.w) X.A (noteFrame (.ref a) X.env) _ _ _
    refine Sky.land Zc.steady hfr hf sky2 fun h3 fl3 up3 => ?_
    obtain ⟨oe3, vs3, he3, hz3, hd3⟩ := fl3.there
    have nfr : a ∉ frs X.stack := by
      rw [hs]
      intro hm
      obtain ⟨_, o, e, q⟩ := fl3.2.2.1.mem hm
      rw [he3] at e
      cases e
      exact q _ hd3
    have J3 := landedK (s' := { s' with heap := h3 }) J nb fl3.1 (up.trans up3) os ag na fl3.2.1 nfr he3 hz3 hd3
    have S3 := inSuite J3 a
    refine wpAny_handleBy_cons (codeAny_handlers_test ?_) (by intro q; cases q)
    have LT : PySem.W.Looks (model X.prog X.w) h3 (typeOf (.ref a)) cls := fun A Q E s k q => wpAny_typeOf_ref (k _ _ he3) (by rw [hz3.1]; exact q)
    have LM := PySem.W.exm_one (M := model X.prog X.w) J3.kIn LT hb1
    have test : ∀ {Q : Value → Shared → Prop} {E : Value → Shared → Prop}, Q c { s' with heap := h3 } → wpAny (model X.prog X.w) (X.A.mark (some (.ref a))) (eval (.Name x np) X.env) Q E { s' with heap := h3 } := fun {Q E} q => by
      obtain ⟨z1, z2, z3 | ⟨z3, z4, z5⟩⟩ := hc
      · exact ld_glob S3 z1 z3 q z2
      · exact ld_blt S3 z1 z3 z4 q z5 z2
    refine test (LM.here ?_)
    cases b with
    | true =>
      refine codeAny_handlers_suite_as ?_
      refine HandSPX.lands_againZ fl3 fun h4 fl4 up4 => ?_
      obtain ⟨oe4, vs4, he4, hz4, hd4⟩ := fl4.there
      have J4 := landedK (s' := { s' with heap := h4 }) J nb fl4.1 ((up.trans up3).trans up4) os ag na fl4.2.1 nfr he4 hz4 hd4
      refine store_ok (X := X.suite a (X.pn ++ pins)) (v := .ref a) (inSuite J4 a) hN hi hloc rfl (fun s5 S5 => ?_) (.inr hln)
      have leave : ∀ {σ6 : L2.St} {G6 : Hp} {s6 : Shared} {Q : Shared → Prop}, Inv (X.suite a (X.pn ++ pins)) [] σ6 G6 s6 → (∀ s7, Inv X pins (σ6.set i none) G6 s7 → Q s7) →
          wpAny (model X.prog X.w) X.A (do bindName X.env n .none; unbindBehindTheSuite X.env n pos') (fun _ s7 => Q s7) X.xe s6 := fun S6 hq => gone_ok (outSuite S6 ok) hN hi hln hq
      refine wpAny_mono ((hsu a (X.pn ++ pins)).run [] s5 _ _ _ S5 (yes rfl a na)) (fun f s6 q => ?_) (fun _ _ z => False.elim z)
      match f, q with
      | .next, ⟨σ6, G6, S6, q6⟩ => exact leave S6 fun s7 J7 => ⟨_, _, J7, q6⟩
      | .brk, ⟨σ6, G6, S6, q6⟩ => exact leave S6 fun s7 J7 => ⟨_, _, J7, q6⟩
      | .cont, ⟨σ6, G6, S6, q6⟩ => exact leave S6 fun s7 J7 => ⟨_, _, J7, q6⟩
      | .ret u, ⟨v6, σ6, G6, S6, r6, q6⟩ => exact leave S6 fun s7 J7 => ⟨_, _, _, J7, r6, q6⟩
    | false =>
      show wpAny _ X.A (handleBy (.ref a) X.env []) _ _ _
      refine wpAny_handleBy_nil ?_
      obtain ⟨k1, k2, k3, oe, vs, T, oT, ts', he, hz, hd, h1, hr⟩ := id fl3
      unfold PySem.passOn
      refine wpAny_bind (wpAny_field he hd h1 ?_)
      rw [if_neg (show ¬ ((Value.ref T == Value.none) = true) from by simp)]
      have fin : wpAny (model X.prog X.w) X.A (setFlight (.ref a) X.env.frame) (fun _ s4 => wpAny (model X.prog X.w) X.A (throw (.ref a) : Sem Flow) (SP X pins D) X.xe s4) X.xe { s' with heap := h3 } := by
        rw [hf]
        refine HandSPX.setFlight_upZ fl3 fun h4 hh4 up4 => wpAny_throw (tk _ _ ?_)
        exact ⟨a, B, sI, pins, σ', G, cls, d, rfl, J, nb, (up.trans up3).trans up4, .inr (.inr (by rw [hs]; exact hh4)), na, os, ag, no rfl⟩
      first
        | exact wpAny_bind (wpAny_pure (wpAny_bind fin))
        | exact wpAny_bind fin
  · match f, q with
    | .next, ⟨σ', G, J', z⟩ => exact wpAny_execs_nil ⟨σ', G, J'.ofTry ok, z⟩
    | .brk, ⟨σ', G, J', z⟩ => exact ⟨σ', G, J'.ofTry ok, z⟩
    | .cont, ⟨σ', G, J', z⟩ => exact ⟨σ', G, J'.ofTry ok, z⟩
    | .ret u, ⟨v, σ', G, J', r, z⟩ => exact ⟨v, σ', G, J'.ofTry ok, r, z⟩
end

/-! ### such a value's class and fields -/
/-- what an own exception class must have -/
structure ExC (K : PySem.W.Frag) (C : Addr) : Prop where
  ga : PySem.W.findIn K (.ref C) "__getattribute__" = some (some (.builtin "BaseException.__getattribute__"))
  gg : PySem.W.findIn K (.ref C) "__getattr__" = some none
  sub : PySem.W.subIn K (.ref C) (.type "BaseException") = some true
  hd : PySem.W.hasDictIn K C = true
  ha : PySem.W.findIn K (.ref C) "__class__" = some (some (.builtin "object.__class__"))
  hn : PySem.W.specialIn K (.builtin "object.__class__") "__get__" = some (some (.builtin "getset_descriptor.__get__"))
  ht : PySem.W.takesIn K (.builtin "object.__class__") = some true
  hm : PySem.W.mroIn K C (.type "object") = some true
theorem instAt_of {h : Heap} {a C : Addr} {oe od : Obj} {vs : Array Value} {d : Addr} (he : h.get? a = some oe) (hz : Zc (.ref C) (some d) oe) (hf : oe.data = .fields vs) (ho : h.get? d = some od) : PySem.W.InstAt h a oe C (some od) := by
  obtain ⟨c1, d1, dt, sl⟩ := oe
  obtain ⟨rfl, rfl⟩ := hz
  dsimp only at hf
  subst hf
  exact ⟨he, rfl, rfl, ho⟩
theorem instAt_of0 {h : Heap} {a C : Addr} {oe : Obj} {vs : Array Value} (he : h.get? a = some oe) (hz : Zc (.ref C) none oe) (hf : oe.data = .fields vs) : PySem.W.InstAt h a oe C none := by
  obtain ⟨c1, d1, dt, sl⟩ := oe
  obtain ⟨rfl, rfl⟩ := hz
  dsimp only at hf
  subst hf
  exact ⟨he, rfl, rfl, trivial⟩
section
variable {X : Cx} {e : Expr} {te : TE} {f : Str} {pos : Pos}
/-- e.f -/
def tExf (K : PySem.W.Frag) (f : Str) (te : TE) : TE := fun σ H Q => te σ H fun x G => ∃ (a C d : Addr) (fs : List (Str × V)) (v : V), x = .ref a ∧ G a = some (exT a (.ref C) (some d)) ∧ G d = some (.xd fs) ∧ ExC K C ∧ PySem.W.findIn K (.ref C) f = some none ∧ fs.lookup f = some v ∧ Q v G
theorem pe_exf (he : PE X e te) (hb : attributeBase e f X.env (eval e X.env) = eval e X.env := by rfl) : PE X (.Attribute e f pos) (tExf X.K f te) := by
  refine ⟨fun pins s σ H Q I h => attr_of hb (thn (he.run pins s σ H _ I h) fun u s1 ⟨x, G, I1, rx, a, C, d, fs, v, ex, ea, ed, T, no, l, q⟩ => ?_)⟩
  subst ex
  obtain rfl : u = Value.ref a := rx
  obtain ⟨oe, vs, z1, z2, z3⟩ := exT_at I1.hok ea
  obtain ⟨mA, hns, hr⟩ := (show ObjOk X.prog X.w G s1.heap d (.xd fs) from I1.hok d _ ed)
  obtain ⟨od, ho, hl⟩ := lookIn_ns hns
  obtain ⟨w', hu, ru⟩ := RelO.some_of (v := v) (o := mA f) (by rw [← l]; exact hr f)
  exact HandSPX.exc_get I1.kIn (instAt_of z1 z2 z3 ho) T.ga T.gg T.sub (PySem.W.findObj_own T.hd no rfl (by rw [hl, hu])) (handed_of ru) ⟨v, G, I1.tok _, ru, q⟩
/-- isinstance(e, c) -/
def rIsX (K : PySem.W.Frag) : List V → Hp → VK → Prop := fun xs H Q => ∃ (a D : Addr) (d : Option Addr) (c : V) (cv : Value) (b : Bool), xs = [.ref a, c] ∧ H a = some (exT a (.ref D) d) ∧ (∀ dd, d = some dd → ∃ fs, H dd = some (.xd fs)) ∧ ExC K D ∧ (∀ u, RelV c u → u = cv) ∧
  PySem.W.kitOne K (.ref D) cv = some b ∧ Q (.bl b) H
theorem call_isX : CallR X (.builtin "isinstance") (rIsX X.K) := by
  intro pins s σ H xs us Q I r h
  obtain ⟨a, D, d, c, cv, b, rfl, ea, ed, T, hc, hk, q⟩ := h
  obtain ⟨u, u2, rfl, r1, r2⟩ := vals2 r
  cases r1
  have e2 := hc _ r2
  subst e2
  obtain ⟨oe, vs, z1, z2, z3⟩ := exT_at I.hok ea
  have hcl : (PySem.W.clsIn X.K D).isSome = true := by
    obtain ⟨cd, z, _⟩ := PySem.W.any_some T.hd
    rw [z]
    rfl
  cases d with
  | none => exact PySem.W.kia_one (PySem.W.kitx_exc hcl T.ga T.gg T.sub T.ha T.hn T.ht T.hm) I.kIn (instAt_of0 z1 z2 z3) hk (fun z => nomatch z) fun tk => ⟨.bl b, H, I.kept (t' := tk) fun _ _ z => z, rfl, q⟩
  | some dd =>
    obtain ⟨fs, ed⟩ := ed dd rfl
    obtain ⟨mA, ⟨od, _, _, ho, _⟩, _⟩ := (show ObjOk X.prog X.w H s.heap dd (.xd fs) from I.hok dd _ ed)
    exact PySem.W.kia_one (PySem.W.kitx_exc hcl T.ga T.gg T.sub T.ha T.hn T.ht T.hm) I.kIn (instAt_of z1 z2 z3 ho) hk (fun z => nomatch z) fun tk => ⟨.bl b, H, I.kept (t' := tk) fun _ _ z => z, rfl, q⟩
end
end HX

set_option Elab.async false
set_option linter.all false
set_option maxRecDepth 100000
set_option maxHeartbeats 2000000
namespace HX
open PySem PySem.Spec PyProof.Rows L2

/-! ### own error classes whose __init__ keeps one field, two fields -/
def spI1 (C : Addr) (f : Str) : Sp := fun vs H Q _ => ∃ (a : Addr) (v : V), vs = [.ref a, v] ∧ H a = some (exo a C none) ∧
  ∀ dx, H dx = none → dx ≠ a → Q .non (upd (upd H dx (exd dx [(f, v)])) a (exo a C (some dx)))
def spI2 (C : Addr) (f g : Str) : Sp := fun vs H Q _ => ∃ (a : Addr) (v u : V), vs = [.ref a, v, u] ∧ H a = some (exo a C none) ∧
  ∀ dx, H dx = none → dx ≠ a → Q .non (upd (upd (upd H dx (exd dx [(f, v)])) a (exo a C (some dx))) dx (exd dx [(g, u), (f, v)]))
/-- what the written part says of such a class -/
structure RxC (K : PySem.W.Frag) (mg : Str → Option Value) (x : Str) (C fI : Addr) : Prop where
  o : OexC K C
  iC : PySem.W.findIn K (.ref C) "__init__" = some (some (.ref fI))
  tI : PySem.W.typeIn K (.ref fI) = some (.type "function")
  gC : mg x = some (.ref C)
section
variable {P : Program} {w : World} {K : PySem.W.Frag} {mg : Str → Option Value} {base : Heap} {C fI : Addr} {fd : FuncData} {qual f g : Str} {st : Stmt}
theorem ok_init1 (F : Fun K "__init__" qual st fI fd) (T : OexC K C) (no : PySem.W.findIn K (.ref C) f = some none) (S : FnScope ["self", f] ["self", f] (defScope st))
    (hb : ∃ p1 p2 p3 p4, defBody st = [.Assign [.Attribute (.Name "self" p1) f p2] (.Name f p3) p4])
    (v0 : Vis (defScope st) "self" := by exact Or.inl rfl) (v1 : Vis (defScope st) f := by exact Or.inl rfl)
    (hd : (f == ("__debug__" : Str)) = false := by decide) (hcd : (f == ("__classdict__" : Str)) = false := by decide) : FnOk P w K mg base CX0 1 fI fd ["self", f] (spI1 C f) := by
  obtain ⟨p1, p2, p3, p4, eb⟩ := hb
  refine F.ok S (fun vs H Q E h => ?_) (fun cdv A outer s H vs Q E hr h => ?_)
  · obtain ⟨a, v, rfl, _⟩ := h
    rfl
  · obtain ⟨a, v, rfl, ha, k⟩ := h
    rw [eb]
    refine ⟨_, pss_one (ps_ost (pe_var (i := 0) rfl v0) (pe_var (i := 1) rfl v1 hd hcd)), ?_⟩
    exact ⟨v, rfl, _, rfl, a, C, rfl, T, no, .inl ⟨ha, fun dx n ne => k dx n ne⟩⟩
theorem ok_init2 (F : Fun K "__init__" qual st fI fd) (T : OexC K C) (no : PySem.W.findIn K (.ref C) f = some none) (no2 : PySem.W.findIn K (.ref C) g = some none) (S : FnScope ["self", f, g] ["self", f, g] (defScope st))
    (hb : ∃ p1 p2 p3 p4 q1 q2 q3 q4, defBody st = [.Assign [.Attribute (.Name "self" p1) f p2] (.Name f p3) p4, .Assign [.Attribute (.Name "self" q1) g q2] (.Name g q3) q4])
    (v0 : Vis (defScope st) "self" := by exact Or.inl rfl) (v1 : Vis (defScope st) f := by exact Or.inl rfl) (v2 : Vis (defScope st) g := by exact Or.inl rfl)
    (hd : (f == ("__debug__" : Str)) = false := by decide) (hcd : (f == ("__classdict__" : Str)) = false := by decide)
    (hd2 : (g == ("__debug__" : Str)) = false := by decide) (hcd2 : (g == ("__classdict__" : Str)) = false := by decide) : FnOk P w K mg base CX0 1 fI fd ["self", f, g] (spI2 C f g) := by
  obtain ⟨p1, p2, p3, p4, q1, q2, q3, q4, eb⟩ := hb
  refine F.ok S (fun vs H Q E h => ?_) (fun cdv A outer s H vs Q E hr h => ?_)
  · obtain ⟨a, v, u, rfl, _⟩ := h
    rfl
  · obtain ⟨a, v, u, rfl, ha, k⟩ := h
    rw [eb]
    refine ⟨_, pss_cons (ps_ost (pe_var (i := 0) rfl v0) (pe_var (i := 1) rfl v1 hd hcd)) (pss_one (ps_ost (pe_var (i := 0) rfl v0) (pe_var (i := 2) rfl v2 hd2 hcd2))), ?_⟩
    refine ⟨v, rfl, _, rfl, a, C, rfl, T, no, .inl ⟨ha, fun dx n ne => ?_⟩⟩
    exact ⟨u, rfl, _, rfl, a, C, rfl, T, no2, .inr ⟨dx, [(f, v)], upd_same, by rw [upd_ne ne, upd_same], by show 1 ≤ 900; decide, k dx n ne⟩⟩
end

theorem lay_gone {H : Hp} {a dx : Addr} {o1 o2 o3 u : HO} (na : H a = none) (ne : dx ≠ a) : upd (del (upd (upd (upd H a o1) dx o2) a o3) a) dx u = upd H dx u := by
  funext b
  by_cases h1 : b = dx
  · rw [h1, upd_same, upd_same]
  · rw [upd_ne h1, upd_ne h1]
    by_cases h2 : b = a
    · rw [h2, del_same, na]
    · rw [del_ne h2, upd_ne h2, upd_ne h1, upd_ne h2]
theorem lay_gone2 {H : Hp} {a dx : Addr} {o1 o2 o3 o4 u : HO} (na : H a = none) (ne : dx ≠ a) : upd (del (upd (upd (upd (upd H a o1) dx o2) a o3) dx o4) a) dx u = upd H dx u := by
  funext b
  by_cases h1 : b = dx
  · rw [h1, upd_same, upd_same]
  · rw [upd_ne h1, upd_ne h1]
    by_cases h2 : b = a
    · rw [h2, del_same, na]
    · rw [del_ne h2, upd_ne h1, upd_ne h2, upd_ne h1, upd_ne h2]

/-- the answer where such an error is made: its own dict d is new and holds the field -/
theorem mk1_ans {H : Hp} {C : Addr} {f : Str} {v : V} {Q : XK} (h : ∀ d, H d = none → Q (.ref C) (some d) (upd H d (.xd [(f, v)]))) :
    [v].length ≤ 1000 ∧ ∀ a, H a = none → spI1 C f (.ref a :: ([v] ++ [])) (upd H a (exo a C none))
      (fun u G => u = .non ∧ ∃ (d : Addr) (fs : List (Str × V)), G a = some (exo a C (some d)) ∧ G d = some (exd d fs) ∧ H d = none ∧ Q (.ref C) (some d) (upd (del G a) d (.xd fs))) (fun _ _ _ => False) := by
  refine ⟨by show 1 ≤ 1000; decide, fun a na => ⟨a, v, rfl, upd_same, fun dx nx ne => ?_⟩⟩
  rw [upd_ne ne] at nx
  exact ⟨rfl, dx, _, upd_same, by rw [upd_ne ne, upd_same], nx, by rw [lay_gone na ne]; exact h dx nx⟩
theorem mk2_ans {H : Hp} {C : Addr} {f g : Str} {v u : V} {Q : XK} (h : ∀ d, H d = none → Q (.ref C) (some d) (upd H d (.xd [(g, u), (f, v)]))) :
    [v, u].length ≤ 1000 ∧ ∀ a, H a = none → spI2 C f g (.ref a :: ([v, u] ++ [])) (upd H a (exo a C none))
      (fun z G => z = .non ∧ ∃ (d : Addr) (fs : List (Str × V)), G a = some (exo a C (some d)) ∧ G d = some (exd d fs) ∧ H d = none ∧ Q (.ref C) (some d) (upd (del G a) d (.xd fs))) (fun _ _ _ => False) := by
  refine ⟨by show 2 ≤ 1000; decide, fun a na => ⟨a, v, u, rfl, upd_same, fun dx nx ne => ?_⟩⟩
  rw [upd_ne ne] at nx
  exact ⟨rfl, dx, _, by rw [upd_ne (Ne.symm ne), upd_same], upd_same, nx, by rw [lay_gone2 na ne]; exact h dx nx⟩
section
variable {X : Cx} {x f g : Str} {C fI : Addr} {fd : FuncData} {k : Nat} {e : Expr} {es : List Expr} {ta : TA} {W : WX} {p pos pos2 : Pos} {ps : List Str} {sp : Sp}
/-- raise C(e, ..) -/
theorem ps_raiseO (hc : X.calm = true) (T : RxC X.K X.mg x C fI) (F : FnOk X.prog X.w X.K X.mg X.base CX0 k fI fd ps sp) (b : Binds X.K fd ps []) (hr : Room (k + 1) X.A) (tk : Takes X W) (he : PA X (e :: es) ta) (hg : Gl X x)
    (hdb : (x == ("__debug__" : Str)) = false := by decide) (hs : starEach (e :: es) X.env = (false, eval e X.env) :: starEach es X.env := by rfl) (hpl : (backTo pos (starEach es X.env)).any (·.1) = false := by rfl) :
    PS X (.Raise (some (.Call (.Name x p) (e :: es) [] pos)) none pos2) (fun _ σ H => tMkO C sp [] ta σ H fun cls d G => W cls d σ G) :=
  ps_raise hc tk (pmk_oex T.o T.iC T.tI F hr b .nil (fun _ _ _ _ _ _ _ z => z.elim) hg T.gC he hdb hs hpl)
end
end HX

set_option Elab.async false
set_option linter.all false
set_option maxRecDepth 100000
set_option maxHeartbeats 2000000
namespace HX
open PySem PySem.Spec PyProof.Rows L2

/-! ### readings that reckon: a name, a test, operators by the values' kinds -/
def cV (i : Nat) : TE := fun σ H Q => match σ[i]? with
  | some (some v) => Q v H
  | _ => False
def cT (te : TE) : TT := fun σ H Q => te σ H fun x G => match x with
  | .bl k => Q k G
  | _ => False
def rI2 (C : Int → Int → Prop) (g : Int → Int → V) : R2 := fun x y H Q => match x, y with
  | .int i, .int j => C i j ∧ Q (g i j) H
  | _, _ => False
/-- one factor below 2 ^ 64, or both together below a million bits -/
def CMulU (i j : Int) : Prop := CMul i j ∨ CMulW i j
def rI1 (g : Int → Int → V) : R2 := fun x y H Q => match x, y with
  | .int i, .int j => Q (g i j) H
  | _, _ => False
def rAdd2 : R2 := fun x y H Q => match x, y with
  | .int i, .int j => Q (.int (i + j)) H
  | .str a, .str b => a.length + b.length ≤ sizeLine ∧ Q (.str (a ++ b)) H
  | _, _ => False
def eqD2 (K : PySem.W.Frag) (a b : Addr) (H : Hp) (Q : Bool → Prop) : Prop := ∃ d e, Dp K H (.ref a) d ∧ Dp K H (.ref b) e ∧ SeqAt.shaped d = true ∧ SeqAt.shaped e = true ∧ Q (PyData.eqv d e)
def rEq2 (K : PySem.W.Frag) (neg : Bool) : R2 := fun x y H Q => match x, y with
  | .int i, .int j => Q (.bl (xor neg (decide (i = j)))) H
  | .str i, .str j => Q (.bl (xor neg (decide (i = j)))) H
  | .bl i, .bl j => Q (.bl (xor neg (decide (i = j)))) H
  | .non, .non => Q (.bl (xor neg true)) H
  | .non, .int _ => Q (.bl neg) H
  | .int _, .non => Q (.bl neg) H
  | .non, .str _ => Q (.bl neg) H
  | .str _, .non => Q (.bl neg) H
  | .int _, .str _ => Q (.bl neg) H
  | .str _, .int _ => Q (.bl neg) H
  | .ref a, .ref b => eqD2 K a b H fun k => Q (.bl (xor neg k)) H
  | _, _ => False
def rOrd2 (g : Int → Int → Bool) (h : Str → Str → Bool) : R2 := fun x y H Q => match x, y with
  | .int i, .int j => Q (.bl (g i j)) H
  | .str i, .str j => Q (.bl (h i j)) H
  | _, _ => False
def rIs2 (neg : Bool) : R2 := fun x y H Q => match y with
  | .non => Q (.bl (xor neg (decide (x = .non)))) H
  | _ => False
/-- t[i]: of lists, tuples, texts, dicts with text keys -/
def rIx2 (K : PySem.W.Frag) : R2 := fun x y H Q => match x, y with
  | .ref p, .int i => ∃ xs v, (SqL K H p xs ∨ SqT K H p xs) ∧ atI xs i = some v ∧ Q v H
  | .str z, .int i => z.length ≤ sizeLine ∧ ∃ c, atI z.cps.toList i = some c ∧ Q (.str ⟨#[c]⟩) H
  | _, _ => False
section
variable {X : Cx} {a b e : Expr} {ta tb te : TE} {pos : Pos} {f : Value → Value → Sem Value}
theorem pc (i : Nat) {x : Str} (hN : X.N[i]? = some x := by rfl) (hv : Vis X.env.scope x := by first | exact Or.inl rfl | exact Or.inr (Or.inl rfl) | exact Or.inr (Or.inr rfl)) (hd : (x == ("__debug__" : Str)) = false := by decide)
    (hcd : (x == ("__classdict__" : Str)) = false := by decide) : PE X (.Name x pos) (cV i) := by
  refine ⟨fun pins s σ H Q I h => ?_⟩
  refine (pe_var hN hv hd hcd).run pins s σ H Q I ?_
  unfold cV at h
  split at h
  · rename_i v e
    exact ⟨v, e, h⟩
  · exact h.elim
theorem opC {C : Int → Int → Prop} {g : Int → Int → V} (h : OpR X f (rI C g)) : OpR X f (rI2 C g) := fun pins s σ H x y v u Q I rx ry q => by
  unfold rI2 at q
  split at q
  · exact h pins s σ H _ _ v u Q I rx ry ⟨_, _, rfl, rfl, q.1, q.2⟩
  · exact q.elim
theorem opC0 {g : Int → Int → V} (h : OpR X f (rI0 g)) : OpR X f (rI1 g) := fun pins s σ H x y v u Q I rx ry q => by
  unfold rI1 at q
  split at q
  · exact h pins s σ H _ _ v u Q I rx ry ⟨_, _, rfl, rfl, q⟩
  · exact q.elim
theorem o_add : OpR X (binaryOp .Add) rAdd2 := fun pins s σ H x y v u Q I rx ry q => by
  unfold rAdd2 at q
  split at q
  · exact op_add pins s σ H _ _ v u Q I rx ry ⟨_, _, rfl, rfl, q⟩
  · exact op_add_str pins s σ H _ _ v u Q I rx ry ⟨_, _, rfl, rfl, q.1, q.2⟩
  · exact q.elim
theorem o_sub : OpR X (binaryOp .Sub) (rI1 fun i j => .int (i - j)) := opC0 op_sub
theorem o_mul : OpR X (binaryOp .Mult) (rI2 CMulU fun i j => .int (i * j)) := fun pins s σ H x y v u Q I rx ry q => by
  unfold rI2 at q
  split at q
  · rcases q.1 with c | c
    · exact op_mul pins s σ H _ _ v u Q I rx ry ⟨_, _, rfl, rfl, c, q.2⟩
    · exact op_mulW pins s σ H _ _ v u Q I rx ry ⟨_, _, rfl, rfl, c, q.2⟩
  · exact q.elim
theorem o_fdiv : OpR X (binaryOp .FloorDiv) (rI2 CDivW fun i j => .int (i / j)) := opC op_fdivW
theorem o_mod : OpR X (binaryOp .Mod) (rI2 (fun _ j => 0 < j) fun i j => .int (i % j)) := opC op_mod
theorem o_pow : OpR X (binaryOp .Pow) (rI2 CPow fun i j => .int (i ^ j.toNat)) := opC op_pow
theorem o_lt : OpR X (compareOp .Lt) (rOrd2 (fun i j => decide (i < j)) fun i j => decide (i.cps.toList < j.cps.toList)) := fun pins s σ H x y v u Q I rx ry q => by
  unfold rOrd2 at q
  split at q
  · exact op_lt pins s σ H _ _ v u Q I rx ry ⟨_, _, rfl, rfl, q⟩
  · exact op_lt_str pins s σ H _ _ v u Q I rx ry ⟨_, _, rfl, rfl, q⟩
  · exact q.elim
theorem o_le : OpR X (compareOp .LtE) (rI1 fun i j => .bl (decide (i ≤ j))) := opC0 op_le
theorem o_gt : OpR X (compareOp .Gt) (rI1 fun i j => .bl (decide (j < i))) := opC0 op_gt
theorem o_ge : OpR X (compareOp .GtE) (rI1 fun i j => .bl (decide (j ≤ i))) := opC0 op_ge
theorem o_is : OpR X (compareOp .Is) (rIs2 false) := fun pins s σ H x y v u Q I rx ry q => by
  unfold rIs2 at q
  split at q
  · exact op_isN pins s σ H _ _ v u Q I rx ry ⟨rfl, by simpa using q⟩
  · exact q.elim
theorem o_isnot : OpR X (compareOp .IsNot) (rIs2 true) := fun pins s σ H x y v u Q I rx ry q => by
  unfold rIs2 at q
  split at q
  · exact op_notN pins s σ H _ _ v u Q I rx ry ⟨rfl, by simpa using q⟩
  · exact q.elim
theorem o_eq (hu : X.A.units + 64 < cLine) : OpR X (compareOp .Eq) (rEq2 X.K false) := fun pins s σ H x y v u Q I rx ry q => by
  unfold rEq2 at q
  split at q
  case h_11 =>
    obtain ⟨d, e, q1, q2, q3, q4, q5⟩ := q
    exact op_eqD hu pins s σ H _ _ v u Q I rx ry ⟨d, e, q1, q2, q3, q4, by simpa using q5⟩
  case h_12 => exact q.elim
  all_goals exact op_eq pins s σ H _ _ v u Q I rx ry ⟨rfl, by simpa [dec_int, dec_bl, dec_str] using q⟩
theorem o_ne (hu : X.A.units + 64 < cLine) : OpR X (compareOp .NotEq) (rEq2 X.K true) := fun pins s σ H x y v u Q I rx ry q => by
  unfold rEq2 at q
  split at q
  case h_11 =>
    obtain ⟨d, e, q1, q2, q3, q4, q5⟩ := q
    exact op_neD hu pins s σ H _ _ v u Q I rx ry ⟨d, e, q1, q2, q3, q4, by simpa using q5⟩
  case h_12 => exact q.elim
  all_goals exact op_ne pins s σ H _ _ v u Q I rx ry ⟨rfl, by simpa [dec_int, dec_bl, dec_str] using q⟩
theorem ix2 : IxR X (rIx2 X.K) := fun ve se pins s σ H x y v u Q I rx ry q hs => by
  unfold rIx2 at q
  split at q
  · obtain ⟨xs, w', z | z, h1, h2⟩ := q
    · exact ix_list ve se pins s σ H _ _ v u Q I rx ry ⟨_, xs, _, w', rfl, rfl, z, h1, h2⟩ hs
    · exact ix_tup ve se pins s σ H _ _ v u Q I rx ry ⟨_, xs, _, w', rfl, rfl, z, h1, h2⟩ hs
  · obtain ⟨h1, c, h2, h3⟩ := q
    exact ix_str ve se pins s σ H _ _ v u Q I rx ry ⟨_, _, c, rfl, rfl, h1, h2, h3⟩ hs
  · exact q.elim
theorem p_ix (ha : PE X a ta) (hb : PE X b tb) (hs : PlainIx b := by exact fun _ _ => rfl) : PE X (.Subscript a b pos) (tOp (rIx2 X.K) ta tb) := pe_ix ix2 ha hb hs
theorem p_cmp {op : CmpOp} {r : R2} (ho : OpR X (compareOp op) r) (ha : PE X a ta) (hb : PE X b tb) (hm : behindInMarks op b = false := by first | exact nomark _ | rfl) : PE X (.Compare a [op] [b] pos) (tOp r ta tb) := pe_cmpR ho ha hb hm
theorem tT_of {te : TE} {σ : L2.St} {H : Hp} {Q : Bool → Hp → Prop} (mono : ∀ {R R' : VK}, (∀ v G, R v G → R' v G) → te σ H R → te σ H R') (h : cT te σ H Q) : tTest te σ H Q :=
  mono (fun v G q => by
    split at q
    · exact ⟨_, rfl, q⟩
    · exact q.elim) h
/-- a value that is True or False as a test -/
theorem t_val (h : PE X e te) (he : ∀ whole, isTrue e X.env whole = (do let v ← whole; standAt e.pos; holding [v] (truthy v)) := by intro _; rfl) : PT X e (cT te) := by
  refine ⟨fun pins s σ H Q I hw => isTrue_plain (thn (h.run pins s σ H _ I hw) fun v s1 ⟨x, G, I1, r1, q1⟩ => ?_) (he _)⟩
  dsimp only at q1
  split at q1
  · cases r1
    exact wpAny_truthy_bool ⟨G, I1, q1⟩
  · exact q1.elim
theorem t_cmp {op : CmpOp} {r : R2} (ho : OpR X (compareOp op) r) (ha : PE X a ta) (hb : PE X b tb) (hm : behindInMarks op b = false := by first | exact nomark _ | rfl) : PT X (.Compare a [op] [b] pos) (cT (tOp r ta tb)) := by
  refine ⟨fun pins s σ H Q I h => wpAny_isTrue_Compare1 (thn (ha.run pins s σ H _ I h) fun v s1 ⟨x, H1, I1, r1, q1⟩ => thn (hb.run pins s1 σ H1 _ I1 q1) fun u s2 ⟨y, H2, I2, r2, q2⟩ =>
    thn (ho pins s2 σ H2 x y v u _ I2 r1 r2 q2) fun c s3 ⟨z, H3, I3, r3, q3⟩ => ?_) hm⟩
  dsimp only at q3
  split at q3
  · cases r3
    exact wpAny_truthy_bool ⟨H3, I3, q3⟩
  · exact q3.elim
/-! ### ways: each under its own answer -/
def cIfS (c : TT) (t u : TS) : TS := fun D σ H => c σ H fun b G => (b = true → t D σ G) ∧ (b = false → u D σ G)
theorem s_if {c : Expr} {p q : List Stmt} {tc : TT} {t u : TS} (hc : PT X c tc) (hp : PSs X p t) (hq : PSs X q u) : PS X (.If c p q pos) (cIfS tc t u) := by
  refine ⟨fun pins s σ H D I h => wpAny_If (thn (hc.run pins s σ H _ I h) fun d s1 ⟨G, I1, z⟩ => ?_)⟩
  cases d with
  | true => exact hp.run pins s1 σ G D I1 (z.1 rfl)
  | false => exact hq.run pins s1 σ G D I1 (z.2 rfl)
def cIfE (t : TT) (ta tb : TE) : TE := fun σ H Q => t σ H fun c G => (c = true → ta σ G Q) ∧ (c = false → tb σ G Q)
theorem e_if {c : Expr} {tc : TT} (hc : PT X c tc) (ha : PE X a ta) (hb : PE X b tb) : PE X (.IfExp c a b pos) (cIfE tc ta tb) := by
  refine ⟨fun pins s σ H Q I h => wpAny_IfExp (thn (hc.run pins s σ H _ I h) fun d s1 ⟨G, I1, z⟩ => ?_)⟩
  cases d with
  | true => exact ha.run pins s1 σ G Q I1 (z.1 rfl)
  | false => exact hb.run pins s1 σ G Q I1 (z.2 rfl)
def cAnd (t u : TT) : TT := fun σ H Q => t σ H fun c G => (c = true → u σ G Q) ∧ (c = false → Q false G)
def cOr (t u : TT) : TT := fun σ H Q => t σ H fun c G => (c = true → Q true G) ∧ (c = false → u σ G Q)
theorem w_and {rest : List Expr} {t u : TT} (ha : PT X a t) (hb : PW X (.BoolOp .And (b :: rest) pos) u) : PW X (.BoolOp .And (a :: b :: rest) pos) (cAnd t u) := by
  refine ⟨fun wh pins s σ H Q I h => isTrue_and (thn (ha.run pins s σ H _ I h) fun c s1 ⟨G, I1, z⟩ => ?_)⟩
  cases c with
  | true => exact hb.run wh pins s1 σ G Q I1 (z.1 rfl)
  | false => exact ⟨G, I1, z.2 rfl⟩
theorem w_or {rest : List Expr} {t u : TT} (ha : PT X a t) (hb : PW X (.BoolOp .Or (b :: rest) pos) u) : PW X (.BoolOp .Or (a :: b :: rest) pos) (cOr t u) := by
  refine ⟨fun wh pins s σ H Q I h => isTrue_or (thn (ha.run pins s σ H _ I h) fun c s1 ⟨G, I1, z⟩ => ?_)⟩
  cases c with
  | true => exact ⟨G, I1, z.1 rfl⟩
  | false => exact hb.run wh pins s1 σ G Q I1 (z.2 rfl)
/-- and, or, not as values, of True and False -/
def cAndV (ta tb : TE) : TE := fun σ H Q => ta σ H fun x G => match x with
  | .bl c => (c = true → tb σ G Q) ∧ (c = false → Q (.bl false) G)
  | _ => False
def cOrV (ta tb : TE) : TE := fun σ H Q => ta σ H fun x G => match x with
  | .bl c => (c = true → Q (.bl true) G) ∧ (c = false → tb σ G Q)
  | _ => False
def cNotV (ta : TE) : TE := fun σ H Q => ta σ H fun x G => match x with
  | .bl c => Q (.bl (!c)) G
  | _ => False
theorem e_and {rest : List Expr} (ha : PE X a ta) (hb : PE X (.BoolOp .And (b :: rest) pos) tb) : PE X (.BoolOp .And (a :: b :: rest) pos) (cAndV ta tb) := by
  refine ⟨fun pins s σ H Q I h => BoolOp_and (thn (ha.run pins s σ H _ I h) fun v s1 ⟨x, G, I1, r1, z⟩ => ?_)⟩
  dsimp only at z
  split at z
  · rename_i c
    cases r1
    refine wpAny_truthy_bool ?_
    cases c with
    | true => exact hb.run pins s1 σ G Q I1 (z.1 rfl)
    | false => exact ⟨.bl false, G, I1, rfl, z.2 rfl⟩
  · exact z.elim
theorem e_or {rest : List Expr} (ha : PE X a ta) (hb : PE X (.BoolOp .Or (b :: rest) pos) tb) : PE X (.BoolOp .Or (a :: b :: rest) pos) (cOrV ta tb) := by
  refine ⟨fun pins s σ H Q I h => BoolOp_or (thn (ha.run pins s σ H _ I h) fun v s1 ⟨x, G, I1, r1, z⟩ => ?_)⟩
  dsimp only at z
  split at z
  · rename_i c
    cases r1
    refine wpAny_truthy_bool ?_
    cases c with
    | false => exact hb.run pins s1 σ G Q I1 (z.2 rfl)
    | true => exact ⟨.bl true, G, I1, rfl, z.1 rfl⟩
  · exact z.elim
theorem e_not (ha : PE X a ta) : PE X (.UnaryOp .Not a pos) (cNotV ta) := by
  refine ⟨fun pins s σ H Q I h => UnaryOp_ (thn (ha.run pins s σ H _ I h) fun v s1 ⟨x, G, I1, r1, z⟩ => ?_)⟩
  dsimp only at z
  split at z
  · cases r1
    exact not_of (wpAny_truthy_bool ⟨.bl _, G, I1, rfl, z⟩)
  · exact z.elim
/-- a op b op' c, as a test, as a value -/
def cChain (r r' : R2) (ta tb tc : TE) : TE := fun σ H Q => ta σ H fun x H1 => tb σ H1 fun y H2 => r x y H2 fun z H3 => match z with
  | .bl k => (k = true → tc σ H3 fun u H4 => r' y u H4 Q) ∧ (k = false → Q (.bl false) H3)
  | _ => False
theorem t_chain {c : Expr} {tc : TE} {op op' : CmpOp} {r r' : R2} (ho : OpR X (compareOp op) r) (ho' : OpR X (compareOp op') r') (ha : PE X a ta) (hb : PE X b tb) (hc : PE X c tc)
    (hm : lastMarks [op, op'] [b, c] = false := by with_unfolding_all rfl) : PT X (.Compare a [op, op'] [b, c] pos) (cT (cChain r r' ta tb tc)) := by
  refine ⟨fun pins s σ H Q I h => isTrue_chain (thn (ha.run pins s σ H _ I h) fun v s1 ⟨x, H1, I1, r1, q1⟩ => test_link (thn (hb.run pins s1 σ H1 _ I1 q1) fun u s2 ⟨y, H2, I2, r2, q2⟩ =>
    thn (ho pins s2 σ H2 x y v u _ I2 r1 r2 q2) fun d s3 ⟨z, H3, I3, r3, q3⟩ => ?_)) hm⟩
  dsimp only at q3
  split at q3
  · rename_i k
    cases r3
    refine wpAny_truthy_bool ?_
    cases k with
    | false => exact ite_ff ⟨H3, I3, q3.2 rfl⟩
    | true =>
      refine ite_tt (test_last (thn (hc.run pins s3 σ H3 _ I3 (q3.1 rfl)) fun w4 s4 ⟨z4, H4, I4, r4, q4⟩ => thn (ho' pins s4 σ H4 y z4 u w4 _ I4 r2 r4 q4) fun d' s5 ⟨z5, H5, I5, r5, q5⟩ => ?_))
      dsimp only at q5
      split at q5
      · cases r5
        exact wpAny_truthy_bool ⟨H5, I5, q5⟩
      · exact q5.elim
  · exact q3.elim
theorem e_chain {c : Expr} {tc : TE} {op op' : CmpOp} {r r' : R2} (ho : OpR X (compareOp op) r) (ho' : OpR X (compareOp op') r') (ha : PE X a ta) (hb : PE X b tb) (hc : PE X c tc)
    (hm : lastMarks [op, op'] [b, c] = false := by with_unfolding_all rfl) : PE X (.Compare a [op, op'] [b, c] pos) (cChain r r' ta tb tc) := by
  refine ⟨fun pins s σ H Q I h => Compare_chain (thn (ha.run pins s σ H _ I h) fun v s1 ⟨x, H1, I1, r1, q1⟩ => chain_link (thn (hb.run pins s1 σ H1 _ I1 q1) fun u s2 ⟨y, H2, I2, r2, q2⟩ =>
    thn (ho pins s2 σ H2 x y v u _ I2 r1 r2 q2) fun d s3 ⟨z, H3, I3, r3, q3⟩ => ?_)) hm⟩
  dsimp only at q3
  split at q3
  · rename_i k
    cases r3
    refine wpAny_truthy_bool ?_
    cases k with
    | false => exact ite_ff ⟨.bl false, H3, I3, rfl, q3.2 rfl⟩
    | true => exact ite_tt (chain_last (thn (hc.run pins s3 σ H3 _ I3 (q3.1 rfl)) fun w4 s4 ⟨z4, H4, I4, r4, q4⟩ => ho' pins s4 σ H4 y z4 u w4 Q I4 r2 r4 q4))
  · exact q3.elim
/-- two statements with a word of one's own between them -/
def cCut (t u : TS) : TS := fun D σ H => ∃ M : L2.St → Hp → Prop, t { D with nx := M } σ H ∧ ∀ σ' G, M σ' G → u D σ' G
theorem s_cut {st : Stmt} {rest : List Stmt} {t u : TS} (h1 : PS X st t) (h2 : PSs X rest u) : PSs X (st :: rest) (cCut t u) := by
  refine ⟨fun pins s σ H D I ⟨M, h, k⟩ => wpAny_execs_cons (thn (h1.run pins s σ H { D with nx := M } I h) fun f s1 q => ?_)⟩
  match f, q with
  | .next, ⟨σ', G, I', q⟩ => exact h2.run pins s1 σ' G D I' (k σ' G q)
  | .ret v, q => exact q
  | .brk, q => exact q
  | .cont, q => exact q
theorem eqs {α : Type} [DecidableEq α] {a : α} {R : Bool → Prop} (h : R true) : R (xor false (decide (a = a))) := by
  rw [decide_eq_true rfl]
  exact h
end
end HX

set_option Elab.async false
set_option linter.all false
set_option maxRecDepth 100000
set_option maxHeartbeats 2000000
namespace HX
open PySem PySem.Spec PyProof.Rows L2

/-! ### the defs of the text, as their callers see them: by the module's name x -/
section
variable (P : Program) (w : World) (K : PySem.W.Frag) (mg : Str → Option Value) (base : Heap)
/-- raises nothing -/
def CalO (x : Str) (k : Nat) (ps : List Str) (sp : Sp) (B : FuncData → Prop) : Prop := ∃ (f : Addr) (fd : FuncData), FnOk P w K mg base CX0 k f fd ps sp ∧ mg x = some (.ref f) ∧ PySem.W.keepIn K (.ref f) = true ∧ Binds K fd ps [] ∧ B fd
/-- raises nothing, where nothing is being shown -/
def CalG (x : Str) (k : Nat) (ps : List Str) (sp : Sp) (B : FuncData → Prop) : Prop := ∃ (f : Addr) (fd : FuncData), FnG P w K mg base CX0 k f fd ps sp ∧ mg x = some (.ref f) ∧ PySem.W.keepIn K (.ref f) = true ∧ Binds K fd ps [] ∧ B fd
/-- may raise -/
def CalX (x : Str) (k : Nat) (ps : List Str) (sp : Sp) (B : FuncData → Prop) : Prop := ∃ (f : Addr) (fd : FuncData), FnOk P w K mg base (CX P w) k f fd ps sp ∧ mg x = some (.ref f) ∧ PySem.W.keepIn K (.ref f) = true ∧ Binds K fd ps [] ∧ B fd
end
section
variable {X : Cx} {k : Nat} {ps : List Str} {sp : Sp} {x : Str} {p pos : Pos} {e : Expr} {es : List Expr} {t tk' : TA} {W : WX} {B : FuncData → Prop} {ks : List Str} {kws : List Keyword} {g : List Value → List Value → List Value} {gV : List V → List V → List V}
theorem pe_cO (C : CalO X.prog X.w X.K X.mg X.base x k ps sp B) (hr : Room k X.A) (ha : PA X (e :: es) t) (hg : Gl X x := by rfl) (hdb : (x == ("__debug__" : Str)) = false := by decide)
    (he : starEach (e :: es) X.env = (false, eval e X.env) :: starEach es X.env := by rfl) (hpl : (backTo pos (starEach es X.env)).any (·.1) = false := by rfl) : PE X (.Call (.Name x p) (e :: es) [] pos) (tCall sp [] E0 t) := by
  obtain ⟨f, fd, F, hm, hk, hb, _⟩ := C
  exact pe_call F hr hg hm hk hb .nil pass0 ha hdb he hpl
theorem pe_cG (C : CalG X.prog X.w X.K X.mg X.base x k ps sp B) (gd : X.A.guards = some []) (hr : Room k X.A) (ha : PA X (e :: es) t) (hg : Gl X x := by rfl) (hdb : (x == ("__debug__" : Str)) = false := by decide)
    (he : starEach (e :: es) X.env = (false, eval e X.env) :: starEach es X.env := by rfl) (hpl : (backTo pos (starEach es X.env)).any (·.1) = false := by rfl) : PE X (.Call (.Name x p) (e :: es) [] pos) (tCall sp [] E0 t) := by
  obtain ⟨f, fd, F, hm, hk, hb, _⟩ := C
  exact pe_callG F gd hr hg hm hk hb .nil pass0 ha hdb he hpl
theorem pe_cX (C : CalX X.prog X.w X.K X.mg X.base x k ps sp B) (hr : Room k X.A) (tk : Takes X W) (ha : PA X (e :: es) t) (hg : Gl X x := by rfl) (hdb : (x == ("__debug__" : Str)) = false := by decide)
    (he : starEach (e :: es) X.env = (false, eval e X.env) :: starEach es X.env := by rfl) (hpl : (backTo pos (starEach es X.env)).any (·.1) = false := by rfl) : PE X (.Call (.Name x p) (e :: es) [] pos) (tCallS sp (WE W) t) := by
  obtain ⟨f, fd, F, hm, hk, hb, _⟩ := C
  exact pe_callS F hr hg hm hk hb (fun σ => passAt tk σ) ha hdb he hpl
end
/-! ### calls by keywords alone -/
section
variable {X : Cx} {k : Nat} {ps : List Str} {sp : Sp} {x : Str} {p pos : Pos} {t : TA} {W : WX} {B : FuncData → Prop} {ks : List Str} {kws : List Keyword} {g : List Value → List Value → List Value} {gV : List V → List V → List V} {CY : CXT} {f : Addr} {fd : FuncData} {E : XK}
theorem run_kw {pins : List (Addr × Obj)} {σ : L2.St} {H : Hp} {s : Shared} {Q : VK} {ws : List Value} {zs : List V} (F : FnOk X.prog X.w X.K X.mg X.base CY k f fd ps sp) (hr : Room k X.A) (hb : KBn X.K fd ps 0 ks g gV)
    (hx : ∀ e s', CY X.stack H s E e s' → X.xe e s') (I : Inv X pins σ H s) (rz : Vals zs ws) (l2 : zs.length = ks.length) (h : sp (gV [] zs) H Q E) : wpAny (model X.prog X.w) X.A (call (.ref f) [] (ks.zip ws)) (EP X pins σ Q) X.xe s := by
  have l3 : ws.length = ks.length := rz.length.symm.trans l2
  have run := F.run X.A X.stack s H ⟨[], ks.zip ws⟩ (g [] ws) (gV [] zs) Q E hr I.env0 (hb.to s [] ws I.kIn rfl l3) (hb.rel .nil rz) h
  refine wpAny_call (codeAny_mono run fun r s' q => ?_)
  match r, q with
  | .error e, q => exact hx e s' q
  | .ok (.ret u), q => exact I.after q
  | .ok .next, q => exact False.elim q
  | .ok .brk, q => exact False.elim q
  | .ok .cont, q => exact False.elim q
/-- f(k = e, ..) -/
def cKw (m : Nat) (sp : Sp) (gV : List V → List V → List V) (E : L2.St → XK) (t : TA) : TE := fun σ H Q => t σ H fun zs G => zs.length = m ∧ sp (gV [] zs) G Q (E σ)
theorem pe_kO (C : CalO X.prog X.w X.K X.mg X.base x k ps sp B) (hB : ∀ fd, B fd → KBn X.K fd ps 0 ks g gV) (hr : Room k X.A) (hkw : PK X kws t) (hg : Gl X x := by rfl)
    (hall : (backToKw pos (keywordEach kws X.env)).all (·.1.isSome) = true := by rfl) (hks : (backToKw pos (keywordEach kws X.env)).filterMap (·.1) = ks := by rfl) (hdb : (x == ("__debug__" : Str)) = false := by decide)
    (hpl : ((backTo pos (starEach [] X.env)).any (·.1) || (backToKw pos (keywordEach kws X.env)).any (·.1.isNone)) = false := by rfl) : PE X (.Call (.Name x p) [] kws pos) (cKw ks.length sp gV (fun _ => E0) t) := by
  obtain ⟨f, fd, F, hm, hk, _, hb⟩ := C
  refine ⟨fun pins s σ H Q I h => wpAny_Call_Name_kw (ld_glob I hg hm ?_ hdb)⟩
  refine PySem.W.callWith_KW0 (h₀ := X.base) I.ok.mod.kin hk hall (thn (hkw.run pos pins s σ H _ I h) fun ws s2 ⟨zs, G, I2, rz, l2, q⟩ => ⟨I2.kIn, ?_⟩) hpl
  rw [hks]
  exact run_kw F hr (hB fd hb) (fun _ _ z => z.elim) I2 rz l2 q
theorem pe_kX (C : CalX X.prog X.w X.K X.mg X.base x k ps sp B) (hB : ∀ fd, B fd → KBn X.K fd ps 0 ks g gV) (hr : Room k X.A) (tk : Takes X W) (hkw : PK X kws t) (hg : Gl X x := by rfl)
    (hall : (backToKw pos (keywordEach kws X.env)).all (·.1.isSome) = true := by rfl) (hks : (backToKw pos (keywordEach kws X.env)).filterMap (·.1) = ks := by rfl) (hdb : (x == ("__debug__" : Str)) = false := by decide)
    (hpl : ((backTo pos (starEach [] X.env)).any (·.1) || (backToKw pos (keywordEach kws X.env)).any (·.1.isNone)) = false := by rfl) : PE X (.Call (.Name x p) [] kws pos) (cKw ks.length sp gV (WE W) t) := by
  obtain ⟨f, fd, F, hm, hk, _, hb⟩ := C
  refine ⟨fun pins s σ H Q I h => wpAny_Call_Name_kw (ld_glob I hg hm ?_ hdb)⟩
  refine PySem.W.callWith_KW0 (h₀ := X.base) I.ok.mod.kin hk hall (thn (hkw.run pos pins s σ H _ I h) fun ws s2 ⟨zs, G, I2, rz, l2, q⟩ => ⟨I2.kIn, ?_⟩) hpl
  rw [hks]
  exact run_kw F hr (hB fd hb) (fun e s' c => passAt tk σ pins G s2 e s' I2 c) I2 rz l2 q
end
/-! ### built-ins by the values' kinds -/
section
variable {X : Cx}
def rInt2 : List V → Hp → VK → Prop := fun xs H Q => match xs with
  | [.int i] => Q (.int i) H
  | [.bl k] => Q (.int (if k then 1 else 0)) H
  | _ => False
theorem c_int : CallR X (.type "int") rInt2 := fun pins s σ H xs us Q I r q => by
  unfold rInt2 at q
  split at q
  · exact call_int1 pins s σ H _ us Q I r (.inl ⟨_, rfl, q⟩)
  · exact call_int1 pins s σ H _ us Q I r (.inr ⟨_, rfl, q⟩)
  · exact q.elim
def rAbs2 : List V → Hp → VK → Prop := fun xs H Q => match xs with
  | [.int i] => Q (.int (if i < 0 then -i else i)) H
  | _ => False
theorem c_abs : CallR X (.builtin "abs") rAbs2 := fun pins s σ H xs us Q I r q => by
  unfold rAbs2 at q
  split at q
  · exact call_abs pins s σ H _ us Q I r ⟨_, rfl, q⟩
  · exact q.elim
def rLen2 (K : PySem.W.Frag) : List V → Hp → VK → Prop := fun xs H Q => match xs with
  | [.str y] => y.length ≤ sizeLine ∧ Q (.int y.length) H
  | [.ref p] => ∃ ys : List V, (SqL K H p ys ∨ SqT K H p ys) ∧ Q (.int ys.length) H
  | _ => False
theorem c_len : CallR X (.builtin "len") (rLen2 X.K) := fun pins s σ H xs us Q I r q => by
  unfold rLen2 at q
  split at q
  · exact call_len pins s σ H _ us Q I r ⟨_, _, rfl, ⟨q.1, rfl⟩, q.2⟩
  · obtain ⟨ys, h | h, q⟩ := q
    · exact call_len pins s σ H _ us Q I r ⟨_, _, rfl, .inl ⟨ys, h, rfl⟩, q⟩
    · exact call_len pins s σ H _ us Q I r ⟨_, _, rfl, .inr ⟨ys, h, rfl⟩, q⟩
  · exact q.elim
/-- isinstance of plain values and own instances, and one class -/
def rIsi2 (K : PySem.W.Frag) : List V → Hp → VK → Prop := fun xs H Q => ∃ (x c : V) (t cv : Value) (b : Bool), xs = [x, c] ∧ TyOf K H x t ∧ (∀ u, RelV c u → u = cv) ∧ PySem.W.kitOne K t cv = some b ∧ Q (.bl b) H
theorem c_isi : CallR X (.builtin "isinstance") (rIsi2 X.K) := fun pins s σ H xs us Q I r q => by
  obtain ⟨x, c, t, cv, b, rfl, ty, hc, hk, q⟩ := q
  obtain ⟨u, u2, rfl, r1, r2⟩ := vals2 r
  have e2 := hc _ r2
  subst e2
  exact isinst_ok I r1 ty hk fun tk => ⟨.bl b, H, I.tok tk, rfl, q⟩
end
end HX

set_option Elab.async false
set_option linter.all false
set_option maxRecDepth 100000
set_option maxHeartbeats 2000000
namespace HX
open PySem PySem.Spec PyProof.Rows L2

/-! ### the pen: its cells at l, how many were begun, what is left of a great one -/
structure Pn (H : Hp) (p l : Addr) (ns : List Int) (c g : Int) : Prop where
  at_ : H p = some (.lst [.ref l, .int c, .int g])
  cel : H l = some (.lst (ns.map V.int))
  ne : l ≠ p
  c0 : 0 ≤ c
  g0 : 0 ≤ g
/-- all but p is as it was -/
def Kp (p : Addr) (H H' : Hp) : Prop := ∀ b o, b ≠ p → H b = some o → H' b = some o
/-- H without p -/
def Hd (p : Addr) (H : Hp) : Hp := fun b => if b = p then none else H b
theorem Hd.at_ {p b : Addr} {H : Hp} {o : HO} (n : b ≠ p) (e : H b = some o) : Hd p H b = some o := by unfold Hd; rw [if_neg n]; exact e
theorem Hd.un {p b : Addr} {H : Hp} {o : HO} (e : Hd p H b = some o) : b ≠ p ∧ H b = some o := by
  unfold Hd at e
  split at e
  · cases e
  · rename_i n
    exact ⟨n, e⟩
theorem Kp.hd {p : Addr} {H H' : Hp} (k : Kp p H H') : Same (Hd p H) (Hd p H') := fun b o e => Hd.at_ (Hd.un e).1 (k b o (Hd.un e).1 (Hd.un e).2)
theorem Hd.sub {p : Addr} {H : Hp} : Same (Hd p H) H := fun _ _ e => (Hd.un e).2
theorem Kp.refl {p : Addr} {H : Hp} : Kp p H H := fun _ _ _ e => e
theorem Kp.trans {p : Addr} {H H1 H2 : Hp} (a : Kp p H H1) (b : Kp p H1 H2) : Kp p H H2 := fun c o n e => b c o n (a c o n e)
theorem Kp.upd {p : Addr} {H H1 : Hp} {o : HO} (a : Kp p H H1) : Kp p H (L2.upd H1 p o) := fun c u n e => by rw [upd_ne n]; exact a c u n e
theorem Kp.new {p q : Addr} {H H1 : Hp} {o : HO} (a : Kp p H H1) (h : H1 q = none) : Kp p H (L2.upd H1 q o) := fun c u n e => by
  have z := a c u n e
  rw [upd_ne (ne_of_none z h)]
  exact z
theorem Kp.same {p : Addr} {H H1 : Hp} (a : Same H H1) : Kp p H H1 := fun c u _ e => a c u e
theorem Same.new {H H1 : Hp} {q : Addr} {o : HO} (a : Same H H1) (h : H1 q = none) : Same H (L2.upd H1 q o) := fun c u e => by
  have z := a c u e
  rw [upd_ne (ne_of_none z h)]
  exact z
theorem Same.mut {H H1 : Hp} {q : Addr} {o : HO} (a : Same H H1) (h : H q = none) : Same H (L2.upd H1 q o) := fun c u e => by
  rw [upd_ne (ne_of_none e h)]
  exact a c u e
theorem Kp.mut {p : Addr} {H H1 : Hp} {q : Addr} {o : HO} (a : Kp p H H1) (h : H q = none) : Kp p H (L2.upd H1 q o) := fun c u n e => by
  rw [upd_ne (ne_of_none e h)]
  exact a c u n e
theorem Kp.seq {K : PySem.W.Frag} {p a : Addr} {H H1 : Hp} {xs : List V} (k : Kp p H H1) (n : a ≠ p) (h : SqL K H a xs) : SqL K H1 a xs := by
  rcases h with (h | ⟨o, h⟩) | h
  · exact .inl (.inl (k _ _ n h))
  · exact .inl (.inr ⟨o, k _ _ n h⟩)
  · exact .inr h
theorem Kp.seqT {K : PySem.W.Frag} {p a : Addr} {H H1 : Hp} {xs : List V} (k : Kp p H H1) (n : a ≠ p) (h : SqT K H a xs) : SqT K H1 a xs := by
  rcases h with (h | ⟨o, h⟩) | h
  · exact .inl (.inl (k _ _ n h))
  · exact .inl (.inr ⟨o, k _ _ n h⟩)
  · exact .inr h
theorem Pn.put {H H1 : Hp} {p l : Addr} {ns : List Int} {c g c' g' : Int} (P : Pn H p l ns c g) (k : Kp p H H1) (hc : 0 ≤ c') (hg : 0 ≤ g') (e : H1 p = some (.lst [.ref l, .int c', .int g'])) : Pn H1 p l ns c' g' :=
  ⟨e, k _ _ P.ne P.cel, P.ne, hc, hg⟩
theorem Pn.same {H H1 : Hp} {p l : Addr} {ns : List Int} {c g : Int} (P : Pn H p l ns c g) (k : Same H H1) : Pn H1 p l ns c g := P.put (.same k) P.c0 P.g0 (k _ _ P.at_)
theorem Pn.new {H : Hp} {p l q : Addr} {ns : List Int} {c g : Int} {o : HO} (P : Pn H p l ns c g) (h : H q = none) : Pn (L2.upd H q o) p l ns c g := P.same (Same.new (Same.refl H) h)
/-- a pen at p, its cells at l, that has been asked c times at most -/
def Pe (H : Hp) (p l : Addr) (c : Int) : Prop := ∃ ns c0 g, Pn H p l ns c0 g ∧ c0 ≤ c
theorem Pe.mono {H : Hp} {p l : Addr} {c c' : Int} (P : Pe H p l c) (h : c ≤ c') : Pe H p l c' := let ⟨ns, c0, g, q, e⟩ := P; ⟨ns, c0, g, q, Int.le_trans e h⟩
theorem Pe.same {H H1 : Hp} {p l : Addr} {c : Int} (P : Pe H p l c) (k : Same H H1) : Pe H1 p l c := let ⟨ns, c0, g, q, e⟩ := P; ⟨ns, c0, g, q.same k, e⟩
theorem Pe.new {H : Hp} {p l q : Addr} {c : Int} {o : HO} (P : Pe H p l c) (h : H q = none) : Pe (L2.upd H q o) p l c := P.same (Same.new (Same.refl H) h)
theorem Pe.atP {H : Hp} {p l : Addr} {c : Int} (P : Pe H p l c) : ∃ o, H p = some o := let ⟨_, _, _, q, _⟩ := P; ⟨_, q.at_⟩
theorem Pe.atL {H : Hp} {p l : Addr} {c : Int} (P : Pe H p l c) : ∃ o, H l = some o := let ⟨_, _, _, q, _⟩ := P; ⟨_, q.cel⟩
theorem Pe.ne {H : Hp} {p l q : Addr} {c : Int} (P : Pe H p l c) (h : H q = none) : q ≠ p := let ⟨_, e⟩ := P.atP; Ne.symm (ne_of_none e h)
theorem Pe.neL {H : Hp} {p l q : Addr} {c : Int} (P : Pe H p l c) (h : H q = none) : q ≠ l := let ⟨_, e⟩ := P.atL; Ne.symm (ne_of_none e h)
theorem Pe.mut {H : Hp} {p l q : Addr} {c : Int} {o : HO} (P : Pe H p l c) (h : q ≠ p) (h2 : q ≠ l) : Pe (L2.upd H q o) p l c := by
  obtain ⟨ns, c0, g, q0, e⟩ := P
  exact ⟨ns, c0, g, ⟨by rw [upd_ne (Ne.symm h)]; exact q0.at_, by rw [upd_ne (Ne.symm h2)]; exact q0.cel, q0.ne, q0.c0, q0.g0⟩, e⟩
/-- an object that the pen isn't: it is no list of a list and two numbers -/
theorem Pe.ne2 {H : Hp} {p l a : Addr} {c : Int} {o : HO} (P : Pe H p l c) (h : H a = some o) (n : ∀ l c g, o ≠ .lst [.ref l, .int c, .int g]) : a ≠ p := by
  obtain ⟨ns, c0, g, q, _⟩ := P
  exact ne_of h q.at_ (n _ _ _)

/-! ### what the draws promise -/
def spPen (K : PySem.W.Frag) : Sp := fun vs H Q _ => ∃ (a : Addr) (ns : List Int), vs = [.ref a] ∧ SqL K H a (ns.map V.int) ∧ ∀ (p l : Addr) (H' : Hp), H p = none → Same H H' → Pe H' p l 0 → Q (.ref p) H'
def spDraw : Sp := fun vs H Q _ => ∃ (p l : Addr) (c many : Int), vs = [.ref p, .int many] ∧ Pe H p l c ∧ 0 < many ∧ many.natAbs < 2 ^ 250 ∧ c < 1000000 ∧
  ∀ (r : Int) (H' : Hp), 0 ≤ r → r < many → Kp p H H' → Pe H' p l (c + 1) → Q (.int r) H'
/-- one of a text's signs, of a list's or a tuple's items -/
def spPick (K : PySem.W.Frag) : Sp := fun vs H Q _ => ∃ (p l : Addr) (c : Int) (x : V), vs = [.ref p, x] ∧ Pe H p l c ∧ c < 1000000 ∧
  ((∃ z : Str, x = .str z ∧ 0 < z.length ∧ z.length ≤ 1000000 ∧ ∀ (ch : Nat) (H' : Hp), ch ∈ z.cps.toList → Kp p H H' → Pe H' p l (c + 1) → Q (.str ⟨#[ch]⟩) H') ∨
    ∃ (a : Addr) (xs : List V), x = .ref a ∧ a ≠ p ∧ (SqL K H a xs ∨ SqT K H a xs) ∧ 0 < xs.length ∧ xs.length ≤ 1000000 ∧ ∀ (v : V) (H' : Hp), v ∈ xs → Kp p H H' → Pe H' p l (c + 1) → Q v H')

theorem mul_lt {a b x y : Int} (h0 : 0 ≤ x) (h1 : x < a) (h2 : 0 ≤ y) (h3 : y < b) : x * y < a * b := by
  have z1 : x * y ≤ x * b := Int.mul_le_mul_of_nonneg_left (by omega) h0
  have z2 : x * b ≤ (a - 1) * b := Int.mul_le_mul_of_nonneg_right (by omega) (by omega)
  have z3 : (a - 1) * b = a * b - b := by rw [Int.sub_mul]; omega
  omega
theorem dp_ints {K : PySem.W.Frag} {H : Hp} : ∀ ns : List Int, DpAll K H (ns.map V.int) (ns.map PyData.int)
  | [] => .nil
  | n :: ns => .cons (.int n) (dp_ints ns)
theorem can_ints : ∀ ns : List Int, PyData.canLayAll0 (ns.map PyData.int) = true
  | [] => rfl
  | n :: ns => by
    rw [List.map_cons, PyData.canLayAll0, PyData.canLay0, can_ints ns]
    rfl
theorem depth_ints : ∀ ns : List Int, PyData.depthAll (ns.map PyData.int) = 0
  | [] => by simp [PyData.depthAll]
  | n :: ns => by
    have := depth_ints ns
    simp [PyData.depthAll, PyData.depth, this]
theorem shaped_ints (ns : List Int) : SeqAt.shaped (.list (ns.map PyData.int)) = true := by
  unfold SeqAt.shaped
  rw [PyData.canLay0, can_ints, PyData.depth, depth_ints]
  rfl
theorem at_mod {ns : List Int} (c : Int) (h : 0 < (ns.length : Int)) : ∃ z, atI (ns.map V.int) (c % ns.length) = some (.int z) := by
  have h0 := Int.emod_nonneg c (b := (ns.length : Int)) (by omega)
  have h1 := Int.emod_lt_of_pos c h
  obtain ⟨j, hj⟩ : ∃ j : Nat, c % ns.length = (j : Int) := ⟨(c % ns.length).toNat, by omega⟩
  have hlt : j < ns.length := by omega
  refine ⟨ns[j], ?_⟩
  rw [hj]
  exact atI_nat (by rw [List.getElem?_map, List.getElem?_eq_getElem hlt]; rfl)
theorem at_in {α : Type} {xs : List α} {r : Int} (h0 : 0 ≤ r) (h1 : r < xs.length) : ∃ v, atI xs r = some v ∧ v ∈ xs := by
  obtain ⟨j, rfl⟩ : ∃ j : Nat, r = (j : Int) := ⟨r.toNat, by omega⟩
  have hlt : j < xs.length := by omega
  exact ⟨xs[j], atI_nat (List.getElem?_eq_getElem hlt), List.getElem_mem hlt⟩
theorem small_bits {n : Nat} (h : n ≤ 1000000) : (n : Int).natAbs < 2 ^ 250 := Nat.lt_of_le_of_lt (show (n : Int).natAbs ≤ 1000000 by omega) (by decide)
theorem cut_ints (ns : List Int) (lo hi : Option Int) : ∃ ms : List Int, cutV (ns.map V.int) lo hi = ms.map V.int := by
  unfold cutV
  exact ⟨_, by rw [← List.map_drop, ← List.map_take]⟩
theorem size_line_big : 1000000 ≤ sizeLine := by rw [sizeLine_eq]; decide
/-! ### letters -/
def abc : List Nat := ("abcdefghijklmnopqrstuvwxyz" : Str).cps.toList
theorem tl_join1 {a : Str} (ha : TL.tl a = []) : ∀ cs : List Nat, (Txt.join a (cs.map fun c => (⟨#[c]⟩ : Str))).cps.toList = cs := fun cs => by
  show TL.tl _ = cs
  rw [TL.join_eq, TL.tl_join, ha]
  induction cs with
  | nil => rfl
  | cons c cs ih =>
    cases cs with
    | nil => rfl
    | cons d cs =>
      rw [List.map_cons, List.map_cons, List.map_cons, List.map_cons, TL.joinL]
      rw [List.map_cons, List.map_cons] at ih
      rw [ih]
      rfl
def spLetters : Sp := fun vs H Q _ => ∃ (p l : Addr) (c n : Int), vs = [.ref p, .int n] ∧ Pe H p l c ∧ 0 ≤ n ∧ n ≤ 1000 ∧ c + n < 1000000 ∧
  ∀ (z : Str) (H' : Hp), (z.length : Int) = n → (∀ ch ∈ z.cps.toList, ch ∈ abc) → Kp p H H' → Pe H' p l (c + n) → Q (.str z) H'
/-! ### a module's constants -/
theorem p_gs {X : Cx} {x z : Str} {pos : Pos} (h : ∃ t, X.mg x = some (.str z t)) (hg : Gl X x := by rfl) (hd : (x == ("__debug__" : Str)) = false := by decide) : PE X (.Name x pos) (tC (.str z)) := by
  obtain ⟨t, h⟩ := h
  exact pe_glob hg h ⟨t, rfl⟩ hd
theorem p_gi {X : Cx} {x : Str} {i : Int} {pos : Pos} (h : ∃ t, X.mg x = some (.int i t)) (hg : Gl X x := by rfl) (hd : (x == ("__debug__" : Str)) = false := by decide) : PE X (.Name x pos) (tC (.int i)) := by
  obtain ⟨t, h⟩ := h
  exact pe_glob hg h ⟨t, rfl⟩ hd
theorem p_gc {X : Cx} {x : Str} {C : Addr} {pos : Pos} (h : X.mg x = some (.ref C)) (hg : Gl X x := by rfl) (hd : (x == ("__debug__" : Str)) = false := by decide) : PE X (.Name x pos) (tC (.ref C)) := pe_glob hg h rfl hd
/-! ### own error classes, as the text that raises them sees them -/
def ErrC (P : Program) (w : World) (K : PySem.W.Frag) (mg : Str → Option Value) (base : Heap) (x : Str) (C : Addr) (ps : List Str) (sp : Sp) : Prop :=
  ∃ (fI : Addr) (fd : FuncData), RxC K mg x C fI ∧ FnOk P w K mg base CX0 1 fI fd ps sp ∧ Binds K fd ps []
theorem ps_rz {X : Cx} {x : Str} {C : Addr} {ps : List Str} {sp : Sp} {e : Expr} {es : List Expr} {ta : TA} {W : WX} {p pos pos2 : Pos} (Z : ErrC X.prog X.w X.K X.mg X.base x C ps sp) (hc : X.calm = true) (hr : Room 2 X.A) (tk : Takes X W) (he : PA X (e :: es) ta)
    (hg : Gl X x := by rfl) (hdb : (x == ("__debug__" : Str)) = false := by decide) (hs : starEach (e :: es) X.env = (false, eval e X.env) :: starEach es X.env := by rfl) (hpl : (backTo pos (starEach es X.env)).any (·.1) = false := by rfl) :
    PS X (.Raise (some (.Call (.Name x p) (e :: es) [] pos)) none pos2) (fun _ σ H => tMkO C sp [] ta σ H fun cls d G => W cls d σ G) := by
  obtain ⟨fI, fd, T, F, b⟩ := Z
  exact ps_raiseO hc T F b hr tk he hg hdb hs hpl
/-! ### names -/
def isStrD : PyData → Bool
  | .str _ => true
  | _ => false
theorem Da.isStr {K : PySem.W.Frag} {H : Hp} {x : V} {d : PyData} (h : Da H x d) : ∃ t, TyOf K H x t ∧ PySem.W.kitOne K t (.type "str") = some (isStrD d) := by
  cases h with
  | non => exact ⟨_, .non, kit_ty (by show kitB _ _ = some false; decide +kernel)⟩
  | bl b => exact ⟨_, .bl b, kit_ty (by show kitB _ _ = some false; decide +kernel)⟩
  | int i => exact ⟨_, .int i, kit_ty (by show kitB _ _ = some false; decide +kernel)⟩
  | str x => exact ⟨_, .str x, kit_ty (by show kitB _ _ = some true; decide +kernel)⟩
  | lst e _ => exact ⟨_, .lst e, kit_ty (by show kitB _ _ = some false; decide +kernel)⟩
  | tup e _ => exact ⟨_, .tup e, kit_ty (by show kitB _ _ = some false; decide +kernel)⟩
  | dic e _ => exact ⟨_, .dK e, kit_ty (by show kitB _ _ = some false; decide +kernel)⟩
def nameS (z : Str) : Bool := decide (1 ≤ z.length) && (decide (z.length ≤ 8) && z.cps.toList.all fun c => decide (c ∈ abc))
def nameD : PyData → Bool
  | .str z => nameS z
  | _ => false
def shortD : PyData → Prop
  | .str z => z.length ≤ 1000000
  | _ => True
def spIsName : Sp := fun vs H Q _ => ∃ (x : V) (d : PyData), vs = [x] ∧ Da H x d ∧ shortD d ∧ ∀ H', Same H H' → Q (.bl (nameD d)) H'
def spNeedName (C : Addr) : Sp := fun vs H Q E => ∃ (x : V) (d : PyData), vs = [x] ∧ Da H x d ∧ shortD d ∧ (nameD d = true → ∀ H', Same H H' → Q .non H') ∧
  (nameD d = false → ∀ H' dd, Same H H' → H dd = none → H' dd = some (.xd [("value", x)]) → E (.ref C) (some dd) H')
theorem isStr_str {d : PyData} (h : isStrD d = true) : ∃ z, d = .str z := by
  cases d <;> first | exact ⟨_, rfl⟩ | cases h
theorem nameD_not {d : PyData} (h : isStrD d = false) : nameD d = false := by
  cases d <;> first | rfl | cases h
theorem abc_lt {c : Nat} (h : c ∈ abc) : c < 200 := by
  have e : (abc.all fun c => decide (c < 200)) = true := by decide +kernel
  exact of_decide_eq_true (List.all_eq_true.mp e c h)
theorem nameS_true {z : Str} (h1 : 1 ≤ z.length) (h2 : z.length ≤ 8) (h3 : ∀ c ∈ z.cps.toList, c ∈ abc) : nameS z = true := by
  unfold nameS
  rw [decide_eq_true h1, decide_eq_true h2]
  simp only [Bool.true_and]
  rw [List.all_eq_true]
  exact fun c hc => decide_eq_true (h3 c hc)
theorem nameS_false {z : Str} (h : z.length = 0 ∨ 8 < z.length ∨ ∃ c ∈ z.cps.toList, c ∉ abc) : nameS z = false := by
  cases e : nameS z with
  | false => rfl
  | true =>
    unfold nameS at e
    simp only [Bool.and_eq_true, decide_eq_true_eq] at e
    obtain ⟨e1, e2, e3⟩ := e
    rcases h with h | h | ⟨c, hc, h⟩
    · omega
    · omega
    · exact absurd (of_decide_eq_true (List.all_eq_true.mp e3 c hc)) h
theorem cutS_sub (z : Str) (lo hi : Option Int) : (cutS z lo hi).length ≤ z.length ∧ ∀ c ∈ (cutS z lo hi).cps.toList, c ∈ z.cps.toList :=
  ⟨cutS_length z lo hi, fun c hc => List.mem_of_mem_drop (List.mem_of_mem_take hc)⟩
/-- a short text of small signs -/
def OkS (z : Str) : Prop := z.length ≤ 200 ∧ ∀ c ∈ z.cps.toList, c < 200
theorem OkS.app {x y : Str} (hx : OkS x) (hy : OkS y) (h : x.length + y.length ≤ 200) : OkS (x ++ y) :=
  ⟨by rw [Str.length_append]; exact h, fun c hc => by
    have e : c ∈ TL.tl x ++ TL.tl y := by rw [← TL.tl_append]; exact hc
    exact (List.mem_append.mp e).elim (hx.2 c) (hy.2 c)⟩
theorem OkS.sub {x y : Str} (hx : OkS x) (h1 : y.length ≤ x.length) (h2 : ∀ c ∈ y.cps.toList, c ∈ x.cps.toList) : OkS y := ⟨Nat.le_trans h1 hx.1, fun c hc => hx.2 c (h2 c hc)⟩
theorem mem_appL {x y : Str} {c : Nat} (h : c ∈ x.cps.toList) : c ∈ (x ++ y).cps.toList := by
  show c ∈ TL.tl (x ++ y)
  rw [TL.tl_append]
  exact List.mem_append_left _ h
theorem mem_appR {x y : Str} {c : Nat} (h : c ∈ y.cps.toList) : c ∈ (x ++ y).cps.toList := by
  show c ∈ TL.tl (x ++ y)
  rw [TL.tl_append]
  exact List.mem_append_right _ h
theorem okS_one {c : Nat} (h : c < 200) : OkS ⟨#[c]⟩ := ⟨by show 1 ≤ 200; decide, fun x hx => by rw [List.mem_singleton.mp hx]; exact h⟩
theorem len_tl (z : Str) : z.length = z.cps.toList.length := by simp [Str.length]
end HX

set_option Elab.async false
set_option linter.all false
set_option maxRecDepth 100000
set_option maxHeartbeats 2000000
namespace PySem
namespace HXK
open Builtin Builtin.ObjectAttr HandSPX

/-! ### an own exception made by keywords alone: C(k = e, ..) -/
section
variable {M : Model} {prog : Program} {w : World} {A : Around} {E : Value → Shared → Prop} {R : Result → Shared → Prop} {h : Heap} {g : Array GenState} {dr : Drawn} {tk : Nat} {os : OsState}
variable {nm q : Str} {C N fI : Addr} {bs bm bB : List Value} {sn : List Str} {sub : List Value} {ab : Bool} {col : Option Bool} {dd : Option Addr} {k0 k1 k2 k3 k5 : Option Value} {B nI iI : String} {kw : List (Str × Value)}
theorem kwx_check (Fx : ExcBaseFacts B nI iI bB) (hT : ∀ X : String, bm.contains (.type X) = bB.contains (.type X)) {Q : Unit → Shared → Prop}
    (hC : h.get? C = some (excClassObj nm q C N bs bm true sn sub ab col dd k0 k1 k2 k3 k5 nI)) (hkw : kw.length ≤ 2) (z : Q () ⟨h, g, dr, tk, os⟩) : wpAny M A (checkBuiltinCall nI ⟨[.ref C], kw⟩) Q E ⟨h, g, dr, tk, os⟩ := by
  have c1 : (Value.ref C :: bm).contains (.type B) = true := by rw [List.contains_cons, hT, Fx.hasB, Bool.or_true]
  have st := Fx.noStar
  simp only [checkBuiltinCall, Fx.newKind, Fx.newSplit, Fx.newRow]
  repeat (first | refine wpAny_loadPart_at hC ?_ | (refine wpAny_isSubtype_exc hC ?_; rw [c1]) | refine wpAny_staticBase_exc hC ?_ | refine wpAny_madeBy_exc hC ?_ | simp only [bne_self_eq_false, Bool.false_eq_true, if_false] | wp_step)
  exact z
theorem kwx_new (Fx : ExcBaseFacts B nI iI bB) (hT : ∀ X : String, bm.contains (.type X) = bB.contains (.type X))
    (hC : h.get? C = some (excClassObj nm q C N bs bm true sn sub ab col dd k0 k1 k2 k3 k5 nI))
    (z : R (.ok (.ret (.ref (h.objs.size + 1)))) ⟨(h.push (PySem.W.kdv_tup [])).push (excO C h.objs.size), g, dr, tk, os⟩) :
    codeAny (model prog w) A (.builtin nI ⟨[.ref C], kw⟩) R ⟨h, g, dr, tk, os⟩ := by
  have ends := Fx.ends
  have c1 : (Value.ref C :: bm).contains (.type B) = true := by rw [List.contains_cons, hT, Fx.hasB, Bool.or_true]
  have c2 : (Value.ref C :: bm).contains (.type "AttributeError") = false := by rw [List.contains_cons, hT, Fx.noAttr]; rfl
  have c3 : (Value.ref C :: bm).contains (.type "NameError") = false := by rw [List.contains_cons, hT, Fx.noName]; rfl
  have hrest : ([] : List Value).length ≤ sizeLine := Nat.zero_le _
  refine codeAny_builtinAt Fx.entry ?_
  unfold Builtin.«BaseException.__new__»
  refine wpAt_bind ?_
  show wpAt _ _ _ (stack >>= _) _ _ _
  refine wpAt_bind (wpAt_stack fun p below => wpAt_of_wpAny ?_)
  wp_walk
  refine wpAt_of_wpAny ?_
  rw [Fx.owner]
  repeat (first | with_reducible refine wpAny_madeHere_exc Fx.canon hC ?_ | with_reducible refine wpAny_loadPart_at hC ?_ | (with_reducible refine wpAny_isSubtype_exc hC ?_; first | rw [c1] | rw [c2] | rw [c3]) | wp_step)
  show R _ _
  rw [Heap.size_push]
  exact z
theorem kwx_type (Fx : ExcBaseFacts B nI iI bB) (hT : ∀ X : String, bm.contains (.type X) = bB.contains (.type X)) {Q : Fin → Shared → Prop} (hl : kw.length ≤ 2)
    (hC : h.get? C = some (excClassObj nm q C N bs bm true sn sub ab col dd k0 k1 k2 k3 k5 nI))
    (i0 : PySem.W.Looks (model prog w) h (typeLookup (.ref C) "__init__") (some (.ref fI))) (b0 : ∀ self, PySem.W.Looks (model prog w) h (bindSpecial (.ref fI) self) (.ref fI, [self]))
    (z : codeAny (model prog w) A (.call (.ref fI) ⟨[.ref (h.objs.size + 1)], kw⟩)
      (fun r s' => match r with | .ok (.ret v) => v = .none ∧ Q (.done (.ret (.ref (h.objs.size + 1)))) s' | .ok _ => False | .error e => E e s')
      ⟨(h.push (PySem.W.kdv_tup [])).push (excO C h.objs.size), g, dr, tk, os⟩) :
    wpAny (model prog w) A (Builtin.«type.__call__» ⟨[.ref C], kw⟩) Q E ⟨h, g, dr, tk, os⟩ := by
  repeat (first | with_reducible refine wpAny_loadPart_at hC ?_ | with_reducible refine wpAny_madeBy_exc hC ?_ | wp_step)
  refine codeAny_call_builtin_code (Code.quiet_builtin _ Fx.quiet) (kwx_check Fx hT hC hl ?_)
  refine kwx_new Fx hT hC ?_
  show wpAny _ _ _ _ _ _
  have old : ∀ b o, h.get? b = some o → ((h.push (PySem.W.kdv_tup [])).push (excO C h.objs.size)).get? b = some o := fun b o e => Heap.get?_push_of_some _ (Heap.get?_push_of_some _ e)
  have hC1 := old _ _ hC
  have hx : ((h.push (PySem.W.kdv_tup [])).push (excO C h.objs.size)).get? (h.objs.size + 1) = some (excO C h.objs.size) := by heap_get
  have own : (Value.ref C :: bm).contains (.ref C) = true := by simp
  have i1 := i0.keeps old
  have b1 := (b0 (.ref (h.objs.size + 1))).keeps old
  unfold isInstance
  repeat (first | with_reducible refine wpAny_loadPart_at hx ?_ | (with_reducible refine wpAny_isSubtype_exc hC1 ?_; rw [own]) | wp_step)
  show wpAny _ _ (typeLookup (.ref C) _) _ _ _
  refine i1.at ?_
  refine wpAny_holding (wpAny_bind (b1.at ?_))
  refine wpAny_bind (wpAny_call (codeAny_mono z fun r s' z => ?_))
  rcases r with e | (v | _ | _ | _) <;> first | exact z | exact z.elim | skip
  obtain ⟨rfl, z⟩ := z
  first
    | exact wpAny_pure (wpAny_pure z)
    | (wp_walk; exact z)
theorem kwx_tc {Q : Unit → Shared → Prop} (hl : kw.length ≤ 2) (hC : h.get? C = some (excClassObj nm q C N bs bm true sn sub ab col dd k0 k1 k2 k3 k5 nI))
    (z : Q () ⟨h, g, dr, tk, os⟩) : wpAny M A (checkBuiltinCall "type.__call__" ⟨[.ref C], kw⟩) Q E ⟨h, g, dr, tk, os⟩ := by
  have f3 := tc_sub
  have ty : (⟨h, g, dr, tk, os⟩ : Shared).TypeIs (.ref C) "type" := ⟨_, hC, rfl⟩
  simp only [checkBuiltinCall, tc_kind, tc_split]
  repeat (any_goals (first | assumption | with_reducible refine wpAny_loadPart_at hC ?_ | with_reducible refine wpAny_onRaise ?_ | with_reducible refine wpAny_map ?_ | wp_step))
theorem kwx_call (Fx : ExcBaseFacts B nI iI bB) (hT : ∀ X : String, bm.contains (.type X) = bB.contains (.type X)) (hl : kw.length ≤ 2)
    (hC : h.get? C = some (excClassObj nm q C N bs bm true sn sub ab col dd k0 k1 k2 k3 k5 nI))
    (i0 : PySem.W.Looks (model prog w) h (typeLookup (.ref C) "__init__") (some (.ref fI))) (b0 : ∀ self, PySem.W.Looks (model prog w) h (bindSpecial (.ref fI) self) (.ref fI, [self]))
    (z : codeAny (model prog w) (A.under (.builtin "type.__call__" ⟨[.ref C], kw⟩)) (.call (.ref fI) ⟨[.ref (h.objs.size + 1)], kw⟩) (PySem.W.InitBack (h.objs.size + 1) R)
      ⟨(h.push (PySem.W.kdv_tup [])).push (excO C h.objs.size), g, dr, tk, os⟩) :
    codeAny (model prog w) A (.call (.ref C) ⟨[], kw⟩) R ⟨h, g, dr, tk, os⟩ := by
  have f1 := tc_lookup
  have f2 := tc_bind (.ref C)
  have ty : (⟨h, g, dr, tk, os⟩ : Shared).TypeIs (.ref C) "type" := ⟨_, hC, rfl⟩
  refine codeAny_of_tree ?_
  show wpAny _ _ (callAny (.ref C) _) _ _ _
  repeat (any_goals (first | assumption | with_reducible refine wpAny_loadPart_at hC ?_ | wp_step))
  refine ⟨rfl, ?_⟩
  refine codeAny_call_builtin_at (Code.quiet_builtin _ (by decide +kernel)) entry_typeCall (kwx_tc hl hC (kwx_type Fx hT hl hC i0 b0 ?_))
  refine codeAny_mono z fun r s' z => ?_
  rcases r with e | (v | _ | _ | _) <;> exact z
end
end HXK
end PySem

set_option Elab.async false
set_option linter.all false
set_option maxRecDepth 100000
set_option maxHeartbeats 2000000
namespace HX
open PySem PySem.Spec PyProof.Rows L2

/-! ### an own exception as a value: at e, of the class at C, its fields fs -/
def Er (H : Hp) (e C : Addr) (fs : List (Str × V)) : Prop := ∃ od : Option Addr, H e = some (exT e (.ref C) od) ∧ ((∃ d, od = some d ∧ H d = some (.xd fs)) ∨ (od = none ∧ fs = []))
theorem Er.mo {H H' : Hp} {e C : Addr} {fs : List (Str × V)} (m : Same H H') : Er H e C fs → Er H' e C fs
  | ⟨od, h, q⟩ => ⟨od, m _ _ h, q.elim (fun ⟨d, a, b⟩ => .inl ⟨d, a, m _ _ b⟩) .inr⟩
section
variable {X : Cx} {x f g : Str} {C fI : Addr} {fd : FuncData} {k : Nat} {e e1 e2 : Expr} {es : List Expr} {te te1 te2 : TE} {ta : TA} {p pos : Pos} {ps : List Str} {sp : Sp}
/-- what the maker's end gives the value's reader -/
def QV (H1 : Hp) (C a : Addr) (Q : VK) : VK := fun v H2 => v = .non ∧ ∃ d fs, H2 a = some (exo a C (some d)) ∧ H2 d = some (exd d fs) ∧ H1 d = none ∧ Q (.ref a) (upd (upd (del H2 a) d (.xd fs)) a (exT a (.ref C) (some d)))
theorem end_xv {pins : List (Addr × Obj)} {σ : L2.St} {H1 H2 : Hp} {Q : VK} {hp hp2 h2 : Heap} {g1 g2 : Array GenState} {d1 d2 : Drawn} {t1 t2 : Nat} {os1 os2 : OsState} {a C d : Addr} {fs : List (Str × V)} (I1 : Inv X pins σ H1 ⟨hp, g1, d1, t1, os1⟩)
    (ha : hp.objs.size ≤ a) (k : ∀ b o, hp.get? b = some o → hp2.get? b = some o) (un : Un (frs X.stack) [] (upd H1 a (exo a C none)) H2 hp2 h2) (hok : HOk X.prog X.w H2 h2) (ho : os2 = os1) (hb : AllBare g2)
    (ea : H2 a = some (exo a C (some d))) (ed : H2 d = some (exd d fs)) (hd1 : H1 d = none) (q : Q (.ref a) (upd (upd (del H2 a) d (.xd fs)) a (exT a (.ref C) (some d)))) : EP X pins σ Q (.ref a) ⟨h2, g2, d2, t2, os2⟩ := by
  obtain ⟨t0, G, J, kG, ge, hoe, na⟩ := mk_end0 (d2 := d2) (t2 := t2) I1 ha k un hok ho hb ea ed hd1
  exact ⟨.ref a, _, J.laidN (t' := t2) kG ge na (exT_ok hoe ⟨rfl, rfl⟩ rfl), rfl, q⟩
theorem pe_xv {R : List V → Hp → VK → Prop} (imp : ∀ vs H1 Q, R vs H1 Q → vs.length ≤ 1000 ∧ ∀ a, H1 a = none → sp (.ref a :: vs) (upd H1 a (exo a C none)) (QV H1 C a Q) fun _ _ _ => False) (T : RxC X.K X.mg x C fI) (Fi : FnOk X.prog X.w X.K X.mg X.base CX0 k fI fd ps sp) (b : Binds X.K fd ps []) (hr : Room (k + 1) X.A) (ha : PA X (e :: es) ta) (hg : Gl X x)
    (hdb : (x == ("__debug__" : Str)) = false := by decide) (hs : starEach (e :: es) X.env = (false, eval e X.env) :: starEach es X.env := by rfl) (hpl : (backTo pos (starEach es X.env)).any (·.1) = false := by rfl) :
    PE X (.Call (.Name x p) (e :: es) [] pos) (fun σ H Q => ta σ H fun vs H1 => R vs H1 Q) := by
  refine ⟨fun pins s σ H Q I h => ?_⟩
  obtain ⟨nm, q, N, bs, bm, sn, sub, ab, col, dd, k0, k1, k2, k3, k5, hC, hbm⟩ := T.o.cls
  refine wpAny_Call_Name_kw (ld_glob I hg T.gC ?_ hdb)
  refine PySem.W.callWith_K (h₀ := X.base) I.ok.mod.kin T.o.kC (thn (ha.run pos pins s σ H _ I h) fun us s1 ⟨vs, H1, I1, r1, qR⟩ => ⟨I1.kIn, ?_⟩) hs hpl
  obtain ⟨hz, q1⟩ := imp _ _ _ qR
  show wpAny _ _ (call (.ref C) us) _ _ _
  obtain ⟨hp, gn, dr, tk, os⟩ := s1
  have z1 : hp.objs.size ≤ hp.objs.size + 1 := Nat.le_succ _
  have hn : H1 (hp.objs.size + 1) = none := I1.hok.fresh z1
  have hq := q1 (hp.objs.size + 1) hn
  have old : ∀ b o, hp.get? b = some o → ((hp.push (PySem.W.kdv_tup us)).push (PySem.HandSPX.excO C hp.objs.size)).get? b = some o := fun b o z => Heap.get?_push_of_some _ (Heap.get?_push_of_some _ z)
  have at_ : ((hp.push (PySem.W.kdv_tup us)).push (PySem.HandSPX.excO C hp.objs.size)).get? (hp.objs.size + 1) = some (PySem.HandSPX.excO C hp.objs.size) := by heap_get
  have I2 : Inv X pins σ (upd H1 (hp.objs.size + 1) (exo (hp.objs.size + 1) C none)) ⟨(hp.push (PySem.W.kdv_tup us)).push (PySem.HandSPX.excO C hp.objs.size), gn, dr, tk, os⟩ :=
    I1.laid (t' := tk) (a := hp.objs.size + 1) (o := exo (hp.objs.size + 1) C none) (h' := (hp.push (PySem.W.kdv_tup us)).push (PySem.HandSPX.excO C hp.objs.size)) old z1 (exo_ok at_)
  have r2 : Vals (V.ref (hp.objs.size + 1) :: vs) (Value.ref (hp.objs.size + 1) :: us) := .cons rfl r1
  have hl : ((Value.ref (hp.objs.size + 1) :: us) ++ []).length = ps.length := by
    rw [List.append_nil, ← r2.length]
    exact Fi.len _ _ _ _ hq
  have hus : us.length ≤ sizeLine := by
    rw [← Paired.length r1, sizeLine_eq]
    omega
  have bd := b (Shared.mk _ gn dr tk os) (Value.ref (hp.objs.size + 1) :: us) I2.kIn hl
  rw [List.append_nil] at bd
  refine wpAny_call (PySem.HandSPX.call_own F.excBase_ValueError (fun Y => PySem.HandSPX.refsVE_contains Y bm hbm) (I1.kIn _ _ hC) (PySem.W.looks_findIn I1.kIn T.iC) (fun self => PySem.W.bind_fn I1.kIn self T.tI) hus
    (codeAny_mono (Fi.run _ X.stack _ _ ⟨Value.ref (hp.objs.size + 1) :: us, []⟩ (Value.ref (hp.objs.size + 1) :: us) _ _ (fun _ _ _ => False) (hr.make C us []) (I2.env0.make C us []) bd r2 hq) fun r s' hq' => ?_))
  match r, hq' with
  | .error er, hq' => exact False.elim hq'
  | .ok .next, hq' => exact False.elim hq'
  | .ok .brk, hq' => exact False.elim hq'
  | .ok .cont, hq' => exact False.elim hq'
  | .ok (.ret u), hq' =>
    obtain ⟨v, H2, os2, bare2, un2, hok2, rv, ev, d, fs, ea, ed, hd1, q2⟩ := hq'
    subst ev
    obtain ⟨h2, g2, d2, t2, os'⟩ := s'
    exact ⟨rv, end_xv I1 z1 old un2 hok2 os2 bare2 ea ed hd1 q2⟩
theorem pe_xk {R : List V → Hp → VK → Prop} {ks : List Str} {kws : List Keyword} {gg : List Value → List Value → List Value} {gV : List V → List V → List V} (imp : ∀ zs H1 Q, R zs H1 Q → zs.length = ks.length ∧ ∀ a, H1 a = none → sp (gV [.ref a] zs) (upd H1 a (exo a C none)) (QV H1 C a Q) fun _ _ _ => False) (T : RxC X.K X.mg x C fI) (Fi : FnOk X.prog X.w X.K X.mg X.base CX0 k fI fd ps sp) (b : KBn X.K fd ps 1 ks gg gV) (hks2 : ks.length ≤ 2) (hr : Room (k + 1) X.A) (hkw : PK X kws ta) (hg : Gl X x)
    (hdb : (x == ("__debug__" : Str)) = false := by decide) (hall : (backToKw pos (keywordEach kws X.env)).all (·.1.isSome) = true := by rfl) (hks : (backToKw pos (keywordEach kws X.env)).filterMap (·.1) = ks := by rfl)
    (hpl : ((backTo pos (starEach [] X.env)).any (·.1) || (backToKw pos (keywordEach kws X.env)).any (·.1.isNone)) = false := by rfl) :
    PE X (.Call (.Name x p) [] kws pos) (fun σ H Q => ta σ H fun zs H1 => R zs H1 Q) := by
  refine ⟨fun pins s σ H Q I h => ?_⟩
  obtain ⟨nm, q, N, bs, bm, sn, sub, ab, col, dd, k0, k1, k2, k3, k5, hC, hbm⟩ := T.o.cls
  refine wpAny_Call_Name_kw (ld_glob I hg T.gC ?_ hdb)
  refine PySem.W.callWith_KW0 (h₀ := X.base) I.ok.mod.kin T.o.kC hall (thn (hkw.run pos pins s σ H _ I h) fun ws s1 ⟨zs, H1, I1, rz, qR⟩ => ⟨I1.kIn, ?_⟩) hpl
  obtain ⟨l1, q1⟩ := imp _ _ _ qR
  rw [hks]
  show wpAny _ _ (call (.ref C) [] (ks.zip ws)) _ _ _
  obtain ⟨hp, gn, dr, tk, os⟩ := s1
  have z1 : hp.objs.size ≤ hp.objs.size + 1 := Nat.le_succ _
  have hn : H1 (hp.objs.size + 1) = none := I1.hok.fresh z1
  have hq := q1 (hp.objs.size + 1) hn
  have old : ∀ b o, hp.get? b = some o → ((hp.push (PySem.W.kdv_tup [])).push (PySem.HandSPX.excO C hp.objs.size)).get? b = some o := fun b o z => Heap.get?_push_of_some _ (Heap.get?_push_of_some _ z)
  have at_ : ((hp.push (PySem.W.kdv_tup [])).push (PySem.HandSPX.excO C hp.objs.size)).get? (hp.objs.size + 1) = some (PySem.HandSPX.excO C hp.objs.size) := by heap_get
  have I2 : Inv X pins σ (upd H1 (hp.objs.size + 1) (exo (hp.objs.size + 1) C none)) ⟨(hp.push (PySem.W.kdv_tup [])).push (PySem.HandSPX.excO C hp.objs.size), gn, dr, tk, os⟩ :=
    I1.laid (t' := tk) (a := hp.objs.size + 1) (o := exo (hp.objs.size + 1) C none) (h' := (hp.push (PySem.W.kdv_tup [])).push (PySem.HandSPX.excO C hp.objs.size)) old z1 (exo_ok at_)
  have lw : ws.length = ks.length := rz.length.symm.trans l1
  have lkw : (ks.zip ws).length ≤ 2 := by
    rw [List.length_zip, lw, Nat.min_self]
    exact hks2
  have bd := b.to (Shared.mk _ gn dr tk os) [Value.ref (hp.objs.size + 1)] ws I2.kIn rfl lw
  have r2 := b.rel (vs := [V.ref (hp.objs.size + 1)]) (us := [Value.ref (hp.objs.size + 1)]) (.cons rfl .nil) rz
  refine wpAny_call (PySem.HXK.kwx_call F.excBase_ValueError (fun Y => PySem.HandSPX.refsVE_contains Y bm hbm) lkw (I1.kIn _ _ hC) (PySem.W.looks_findIn I1.kIn T.iC) (fun self => PySem.W.bind_fn I1.kIn self T.tI)
    (codeAny_mono (Fi.run _ X.stack _ _ ⟨[Value.ref (hp.objs.size + 1)], ks.zip ws⟩ (gg [Value.ref (hp.objs.size + 1)] ws) _ _ (fun _ _ _ => False) (hr.make C [] (ks.zip ws)) (I2.env0.make C [] (ks.zip ws)) bd r2 hq) fun r s' hq' => ?_))
  match r, hq' with
  | .error er, hq' => exact False.elim hq'
  | .ok .next, hq' => exact False.elim hq'
  | .ok .brk, hq' => exact False.elim hq'
  | .ok .cont, hq' => exact False.elim hq'
  | .ok (.ret u), hq' =>
    obtain ⟨v, H2, os2, bare2, un2, hok2, rv, ev, d, fs, ea, ed, hd1, q2⟩ := hq'
    subst ev
    obtain ⟨h2, g2, d2, t2, os'⟩ := s'
    exact ⟨rv, end_xv I1 z1 old un2 hok2 os2 bare2 ea ed hd1 q2⟩
/-- C(), no own __init__, kept -/
def tX0 (C : Addr) : TE := fun _ H Q => ∀ a H', Same H H' → H a = none → Er H' a C [] → Q (.ref a) H'
theorem pe_x0 {bmB : List Value} {B newId initId : String} (Fx : ExcBaseFacts B newId initId bmB) (q : PySem.W.excIn X.K C bmB newId = true) (gC : X.mg x = some (.ref C)) (kC : PySem.W.keepIn X.K (.ref C) = true) (hg : Gl X x) (hdb : (x == ("__debug__" : Str)) = false := by decide) :
    PE X (.Call (.Name x p) [] [] pos) (tX0 C) := by
  refine ⟨fun pins s σ H Q I h => ?_⟩
  refine wpAny_Call_Name_kw (ld_glob I hg gC ?_ hdb)
  refine PySem.W.callWith_KW0 (h₀ := X.base) I.ok.mod.kin kC rfl ?_ rfl
  refine PyProof.Rows.kwAll_nil ⟨I.kIn, ?_⟩
  show wpAny _ _ (call (.ref C) []) _ _ _
  obtain ⟨bm, N, nm, qn, bs, hdct, sn, sub, ab, col, dd, k0, k1, k2, k3, k5, mN, hC, hN, hni, T⟩ := exc_obj I.kIn q
  refine wpAny_call_exc_subT Fx T hC hN hni (fun h' a hm => ?_) (Nat.zero_le _)
  have hn : H a = none := I.hok.gone hm.new
  obtain ⟨t, ht, _, _⟩ := hm.there
  exact ⟨.ref a, upd H a (exT a (.ref C) none), I.laidN hm.keeps hm.new hn (exT_ok ht ⟨rfl, rfl⟩ rfl), rfl, h a _ (Same.new (Same.refl _) hn) hn ⟨none, upd_same, .inr ⟨rfl, rfl⟩⟩⟩
/-! ### .. by their fields -/
def R1 (C : Addr) (f : Str) : List V → Hp → VK → Prop := fun vs H1 Q => ∃ v, vs = [v] ∧ ∀ a H', Same H1 H' → H1 a = none → Er H' a C [(f, v)] → Q (.ref a) H'
def R2 (C : Addr) (f g : Str) : List V → Hp → VK → Prop := fun vs H1 Q => ∃ v u, vs = [v, u] ∧ ∀ a H', Same H1 H' → H1 a = none → Er H' a C [(g, u), (f, v)] → Q (.ref a) H'
def R2s (C : Addr) (f g : Str) : List V → Hp → VK → Prop := fun vs H1 Q => ∃ v u, vs = [u, v] ∧ ∀ a H', Same H1 H' → H1 a = none → Er H' a C [(g, u), (f, v)] → Q (.ref a) H'
def sw {α : Type} : List α → List α
  | [a, b] => [b, a]
  | _ => []
theorem sw_vals {vs : List V} {us : List Value} (r : Vals vs us) : Vals (sw vs) (sw us) := by
  cases r with
  | nil => exact .nil
  | cons r1 r =>
    cases r with
    | nil => exact .nil
    | cons r2 r =>
      cases r with
      | nil => exact .cons r2 (.cons r1 .nil)
      | cons _ _ => exact .nil
theorem same_xv {H1 : Hp} {a d : Addr} {o1 o2 u : HO} {H2 : Hp} (na : H1 a = none) (nd : H1 d = none) (e : ∀ b, b ≠ a → b ≠ d → H2 b = H1 b) : Same H1 (upd (upd (del H2 a) d u) a o2) := fun b o z => by
  have n1 := ne_of_none z na
  have n2 := ne_of_none z nd
  rw [upd_ne n1, upd_ne n2, del_ne n1, e b n1 n2]
  exact z
theorem imp1 {C : Addr} {f : Str} (vs : List V) (H1 : Hp) (Q : VK) (h : R1 C f vs H1 Q) : vs.length ≤ 1000 ∧ ∀ a, H1 a = none → spI1 C f (.ref a :: vs) (upd H1 a (exo a C none)) (QV H1 C a Q) fun _ _ _ => False := by
  obtain ⟨v, rfl, k⟩ := h
  refine ⟨by show 1 ≤ 1000; decide, fun a na => ⟨a, v, rfl, upd_same, fun dx nx ne => ⟨rfl, dx, _, upd_same, by rw [upd_ne ne, upd_same], ?_, k a _ (same_xv (o1 := .own 0) na ?_ fun b n1 n2 => ?_) na ?_⟩⟩⟩
  · rw [upd_ne ne] at nx
    exact nx
  · rw [upd_ne ne] at nx
    exact nx
  · rw [upd_ne n1, upd_ne n2, upd_ne n1]
  · exact ⟨some dx, upd_same, .inl ⟨dx, rfl, by rw [upd_ne ne, upd_same]⟩⟩
theorem imp2 {C : Addr} {f g : Str} (vs : List V) (H1 : Hp) (Q : VK) (h : R2 C f g vs H1 Q) : vs.length ≤ 1000 ∧ ∀ a, H1 a = none → spI2 C f g (.ref a :: vs) (upd H1 a (exo a C none)) (QV H1 C a Q) fun _ _ _ => False := by
  obtain ⟨v, u, rfl, k⟩ := h
  refine ⟨by show 2 ≤ 1000; decide, fun a na => ⟨a, v, u, rfl, upd_same, fun dx nx ne => ⟨rfl, dx, _, by rw [upd_ne (Ne.symm ne), upd_same], upd_same, ?_, k a _ (same_xv (o1 := .own 0) na ?_ fun b n1 n2 => ?_) na ?_⟩⟩⟩
  · rw [upd_ne ne] at nx
    exact nx
  · rw [upd_ne ne] at nx
    exact nx
  · rw [upd_ne n2, upd_ne n1, upd_ne n2, upd_ne n1]
  · exact ⟨some dx, upd_same, .inl ⟨dx, rfl, by rw [upd_ne ne, upd_same]⟩⟩
end
/-- an error class of one field, of two -/
def Er1 (P : Program) (w : World) (K : PySem.W.Frag) (mg : Str → Option Value) (base : Heap) (x : Str) (C : Addr) (f : Str) : Prop :=
  ∃ (fI : Addr) (fd : FuncData), RxC K mg x C fI ∧ FnOk P w K mg base CX0 1 fI fd ["self", f] (spI1 C f) ∧ Binds K fd ["self", f] [] ∧ KBn K fd ["self", f] 1 [f] (fun us ws => us ++ ws) (fun vs zs => vs ++ zs)
def Er2 (P : Program) (w : World) (K : PySem.W.Frag) (mg : Str → Option Value) (base : Heap) (x : Str) (C : Addr) (f g : Str) : Prop :=
  ∃ (fI : Addr) (fd : FuncData), RxC K mg x C fI ∧ FnOk P w K mg base CX0 1 fI fd ["self", f, g] (spI2 C f g) ∧ Binds K fd ["self", f, g] [] ∧ KBn K fd ["self", f, g] 1 [g, f] (fun us ws => us ++ sw ws) (fun vs zs => vs ++ sw zs)
section
variable {X : Cx} {x f g : Str} {C : Addr} {e e2 : Expr} {te te2 : TE} {ta : TA} {kws : List Keyword} {p pos : Pos}
theorem pe_e1 (Z : Er1 X.prog X.w X.K X.mg X.base x C f) (hr : Room 2 X.A) (ha : PA X [e] ta) (hg : Gl X x := by rfl)
    (hdb : (x == ("__debug__" : Str)) = false := by decide) (hs : starEach [e] X.env = (false, eval e X.env) :: starEach [] X.env := by rfl) (hpl : (backTo pos (starEach [] X.env)).any (·.1) = false := by rfl) :
    PE X (.Call (.Name x p) [e] [] pos) (fun σ H Q => ta σ H fun vs H1 => R1 C f vs H1 Q) := by
  obtain ⟨fI, fd, T, Fi, b, _⟩ := Z
  exact pe_xv imp1 T Fi b hr ha hg hdb hs hpl
theorem pe_e2 (Z : Er2 X.prog X.w X.K X.mg X.base x C f g) (hr : Room 2 X.A) (ha : PA X [e, e2] ta) (hg : Gl X x := by rfl)
    (hdb : (x == ("__debug__" : Str)) = false := by decide) (hs : starEach [e, e2] X.env = (false, eval e X.env) :: starEach [e2] X.env := by rfl) (hpl : (backTo pos (starEach [e2] X.env)).any (·.1) = false := by rfl) :
    PE X (.Call (.Name x p) [e, e2] [] pos) (fun σ H Q => ta σ H fun vs H1 => R2 C f g vs H1 Q) := by
  obtain ⟨fI, fd, T, Fi, b, _⟩ := Z
  exact pe_xv imp2 T Fi b hr ha hg hdb hs hpl
theorem pe_e1k (Z : Er1 X.prog X.w X.K X.mg X.base x C f) (hr : Room 2 X.A) (hkw : PK X kws ta) (hg : Gl X x := by rfl)
    (hdb : (x == ("__debug__" : Str)) = false := by decide) (hall : (backToKw pos (keywordEach kws X.env)).all (·.1.isSome) = true := by rfl) (hks : (backToKw pos (keywordEach kws X.env)).filterMap (·.1) = [f] := by rfl)
    (hpl : ((backTo pos (starEach [] X.env)).any (·.1) || (backToKw pos (keywordEach kws X.env)).any (·.1.isNone)) = false := by rfl) :
    PE X (.Call (.Name x p) [] kws pos) (fun σ H Q => ta σ H fun vs H1 => R1 C f vs H1 Q) := by
  obtain ⟨fI, fd, T, Fi, _, b⟩ := Z
  refine pe_xk (fun zs H1 Q h => ?_) T Fi b (by show 1 ≤ 2; decide) hr hkw hg hdb hall hks hpl
  have q := (imp1 zs H1 Q h).2
  obtain ⟨v, rfl, _⟩ := h
  exact ⟨rfl, q⟩
theorem pe_e2k (Z : Er2 X.prog X.w X.K X.mg X.base x C f g) (hr : Room 2 X.A) (hkw : PK X kws ta) (hg : Gl X x := by rfl)
    (hdb : (x == ("__debug__" : Str)) = false := by decide) (hall : (backToKw pos (keywordEach kws X.env)).all (·.1.isSome) = true := by rfl) (hks : (backToKw pos (keywordEach kws X.env)).filterMap (·.1) = [g, f] := by rfl)
    (hpl : ((backTo pos (starEach [] X.env)).any (·.1) || (backToKw pos (keywordEach kws X.env)).any (·.1.isNone)) = false := by rfl) :
    PE X (.Call (.Name x p) [] kws pos) (fun σ H Q => ta σ H fun vs H1 => R2s C f g vs H1 Q) := by
  obtain ⟨fI, fd, T, Fi, _, b⟩ := Z
  refine pe_xk (fun zs H1 Q h => ?_) T Fi b (by show 2 ≤ 2; decide) hr hkw hg hdb hall hks hpl
  obtain ⟨v, u, rfl, q⟩ := h
  exact ⟨rfl, (imp2 [v, u] H1 Q ⟨v, u, rfl, q⟩).2⟩
theorem Er.at_ {G : Hp} {a C : Addr} {fs : List (Str × V)} (h : Er G a C fs) (n : fs ≠ []) : ∃ d, G a = some (exT a (.ref C) (some d)) ∧ G d = some (.xd fs) := by
  obtain ⟨od, e, q⟩ := h
  rcases q with ⟨d, rfl, z⟩ | ⟨_, z⟩
  · exact ⟨d, e, z⟩
  · exact absurd z n
end
end HX

set_option Elab.async false
set_option linter.all false
set_option maxRecDepth 100000
set_option maxHeartbeats 2000000
namespace HX
open PySem PySem.Spec PyProof.Rows L2

/-! ### new lists that are not sys.modules -/
section
variable {X : Cx} {es : List Expr} {t : TA} {pos : Pos}
def tLstS (t : TA) : TE := fun σ H Q => t σ H fun xs G => xs.length ≤ sizeLine ∧ ∀ p, G p = none → p ≠ sysModules → Q (.ref p) (upd G p (.lst xs))
theorem pe_lstS (h : PA X es t) : PE X (.List es pos) (tLstS t) := by
  refine ⟨fun pins s σ H Q I k => wpAny_List_spliced (thn (h.run pos pins s σ H _ I k) fun us s1 ⟨xs, G, J, r, z, q⟩ => ⟨by rw [← r.length]; exact z, ?_⟩)⟩
  have nw : G s1.heap.objs.size = none := J.hok.fresh (Nat.le_refl _)
  exact ⟨.ref s1.heap.objs.size, upd G s1.heap.objs.size (.lst xs), J.laid (t' := s1.toks) (fun b u e => Heap.get?_push_of_some _ e) (Nat.le_refl _) ⟨z, us, 0, r, Heap.get?_push_size _ rfl⟩, rfl, q _ nw (Ne.symm (Nat.ne_of_lt J.big))⟩
def rSlLS (K : PySem.W.Frag) : V → Option Int → Option Int → Hp → VK → Prop := fun x lo hi H Q => ∃ a xs, x = .ref a ∧ SqL K H a xs ∧ ∀ p, H p = none → p ≠ sysModules → Q (.ref p) (upd H p (.lst (cutV xs lo hi)))
theorem sl_listS : SlR X (rSlLS X.K) := by
  intro pins s σ H x v vl vu lo hi sl Q I rx hs pl pu h
  obtain ⟨a, xs, rfl, hx, q⟩ := h
  obtain ⟨T, id, z1, z2, z3⟩ := sl_list pins s σ H (.ref a) v vl vu lo hi sl (fun v G => ∃ p, v = .ref p ∧ G = upd H p (.lst (cutV xs lo hi)) ∧ H p = none) I rx hs pl pu ⟨a, xs, rfl, hx, fun p n => ⟨p, rfl, rfl, n⟩⟩
  cases rx
  obtain ⟨its, r, ht, hz⟩ := I.list hx
  have hlen := r.length
  refine ⟨"list", _, F.slot_list_getitem.lookup, ht.isList.typeIs, wpAny_getItem_list_slice ht.isList hs pl pu .none (by simp) ?_ (by rw [List.size_toArray]; omega)⟩
  rw [slicePick_cut, ← hlen]
  exact ⟨.ref s.heap.objs.size, _, I.laid (t' := s.toks) (o := .lst (cutV xs lo hi)) (fun b ob q => Heap.get?_push_of_some _ q) (Nat.le_refl _)
    ⟨Nat.le_trans (cutV_length xs lo hi) hz, _, 0, (r.drop (HT.sIx xs.length 0 lo)).take (HT.sIx xs.length xs.length hi - HT.sIx xs.length 0 lo), Heap.get?_push_size _ rfl⟩, rfl, q _ (I.hok.fresh (Nat.le_refl _)) (Ne.symm (Nat.ne_of_lt I.big))⟩
end

/-! ### values that are drawn, of any kind -/
/-- data that repr can show in a list, beside another -/
structure OkT (d : PyData) : Prop where
  sh : d.showable = true
  dp : d.depth ≤ 30
  lv : d.leavesShort 1000 = true
  wt : d.weight ≤ 1000
theorem OkT.l1 {d : PyData} (h : OkT d) : OkD (.list [d]) := by
  obtain ⟨h1, h2, h3, h4⟩ := h
  refine ⟨?_, ?_, ?_, ?_⟩
  · simp [PyData.showable, PyData.showableAll, h1]
  · simp [PyData.depth, PyData.depthAll]; omega
  · simp [PyData.leavesShort, PyData.leavesShortAll, h3]
  · simp [PyData.weight, PyData.weightAll]; omega
theorem OkT.l2 {d e : PyData} (h : OkT d) (k : OkT e) : OkD (.list [d, e]) := by
  obtain ⟨h1, h2, h3, h4⟩ := h
  obtain ⟨k1, k2, k3, k4⟩ := k
  refine ⟨?_, ?_, ?_, ?_⟩
  · simp [PyData.showable, PyData.showableAll, h1, k1]
  · simp [PyData.depth, PyData.depthAll]; omega
  · simp [PyData.leavesShort, PyData.leavesShortAll, h3, k3]
  · simp [PyData.weight, PyData.weightAll]; omega
theorem okD_nil : OkD (.list []) := ⟨by decide +kernel, by decide +kernel, by decide +kernel, by decide +kernel⟩
theorem okT_by {d : PyData} (e : (d.showable && decide (d.depth ≤ 30) && d.leavesShort 1000 && decide (d.weight ≤ 1000)) = true) : OkT d := by
  simp only [Bool.and_eq_true, decide_eq_true_eq] at e
  exact ⟨e.1.1.1, e.1.1.2, e.1.2, e.2⟩
theorem kpN {H : Hp} {q b : Addr} {o u : HO} (e : H b = some u) (h : H q = none) : L2.upd H q o b = some u := by rw [upd_ne (ne_of_none e h)]; exact e
theorem kp2 {H : Hp} {q b : Addr} {o o' u : HO} (e : H b = some u) (h : H q = none) : L2.upd (L2.upd H q o) q o' b = some u := by rw [upd_ne (ne_of_none e h)]; exact kpN e h
theorem Same.upN {H G : Hp} {l : Addr} {o : HO} (s : Same H G) (n : H l = none) : Same H (L2.upd G l o) := fun c u e => by rw [upd_ne (ne_of_none e n)]; exact s c u e
/-- isinstance(e, c) of an own exception's value -/
def rIsE (K : PySem.W.Frag) : List V → Hp → VK → Prop := fun xs H Q => ∃ (a D : Addr) (fs : List (Str × V)) (c : V) (cv : Value) (b : Bool), xs = [.ref a, c] ∧ Er H a D fs ∧ ExC K D ∧ (∀ u, RelV c u → u = cv) ∧ PySem.W.kitOne K (.ref D) cv = some b ∧ Q (.bl b) H
theorem call_isE {X : Cx} : CallR X (.builtin "isinstance") (rIsE X.K) := fun pins s σ H xs us Q I r h => by
  obtain ⟨a, D, fs, c, cv, b, rfl, ⟨od, e, q⟩, T, hc, hk, z⟩ := h
  refine call_isX pins s σ H _ us Q I r ⟨a, D, od, c, cv, b, rfl, e, fun dd ed => ?_, T, hc, hk, z⟩
  rcases q with ⟨d, e1, e2⟩ | ⟨e1, _⟩
  · rw [ed] at e1
    cases e1
    exact ⟨_, e2⟩
  · rw [ed] at e1
    cases e1
theorem okT_int {i : Int} (h : i.natAbs < 2 ^ 900) : OkT (.int i) := by
  have hl : i.natAbs.log2 < 900 := by
    by_cases z : i.natAbs = 0
    · rw [z]
      decide
    · exact (Nat.log2_lt z).mpr h
  have e := int_text_length_le (a := i) (k := 900) (by decide) hl
  refine ⟨by show decide (i.natAbs.log2 < 1920) = true; exact decide_eq_true (by omega), by show 0 ≤ 30; decide, ?_, by simp only [PyData.weight]; split <;> omega⟩
  show decide ((PyData.shown (.int i)).length ≤ 1000) = true
  refine decide_eq_true ?_
  show (Str.ofString (toString i)).length ≤ 1000
  rw [PySem.ofString_length]
  omega
end HX

set_option Elab.async false
set_option linter.all false
set_option maxRecDepth 100000
set_option maxHeartbeats 2000000
/-! ### + - * // % of an own instance and an int -/
namespace PySem
namespace HXO
open W Builtin PyProof.Rows
section
variable {prog : Program} {w : World} {A : Around} {E : Value → Shared → Prop} {s : Shared} {K : Frag} {x C f g : Addr} {ox : Obj} {od : Option Obj}
theorem headed {K : Frag} {C : Addr} (h : selfFirst K C = true) : ∃ cd rest, clsIn K C = some cd ∧ cd.mro = .ref C :: rest := by
  obtain ⟨d, e1, e2⟩ := any_some h
  rcases hq : d.mro with _ | ⟨a, l⟩
  · rw [hq] at e2
    cases e2
  · rw [hq, List.head?_cons] at e2
    cases (beq_iff_eq.mp e2)
    exact ⟨d, l, e1, hq⟩
theorem slotPy {M : Model} {h : Heap} {nm : String} (X : K.In h) (hs : findIn K (.ref C) (PySem.dunder nm) = some (some (.ref f))) (hr : findIn K (.ref C) (PySem.dunderR nm) = some (some (.ref g))) : Looks M h (numberSlotInPython (.ref C) nm) true := by
  intro A Q E s k q
  unfold numberSlotInPython
  refine wpAny_bind (looks_findIn X hs A _ E s k ?_)
  refine wpAny_bind (wpAny_pure ?_)
  refine wpAny_bind (looks_findIn X hr A _ E s k ?_)
  refine wpAny_bind (wpAny_pure ?_)
  exact wpAny_pure q
theorem binL {op : Operator} {b : Value} {r : Option Value} {Q : Value → Shared → Prop} (X : K.In s.heap) (I : InstAt s.heap x ox C od) (hb : typeOf b = pure (.type "int")) (hc : selfFirst K C = true)
    (fU : fillsNumberSlot (.type "int") op.info.2 = pure true) (rU : typeLookup (.type "int") (PySem.dunderR op.info.2) = pure r) (hsub : isSubtype (.type "int") (.ref C) = pure false)
    (hs : findIn K (.ref C) (PySem.dunder op.info.2) = some (some (.ref f))) (hr : findIn K (.ref C) (PySem.dunderR op.info.2) = some (some (.ref g))) (hf : isFn K (.ref f) = true)
    (h : wpAny (model prog w) A (call (.ref f) [.ref x, b]) (W.CmpBack Q) E s) : wpAny (model prog w) A (binaryOp op (.ref x) b) Q E s := by
  obtain ⟨cd, rest, hcd, hm⟩ := headed hc
  rcases hi : op.info with ⟨sg, nm⟩
  rw [hi] at fU rU hs hr
  dsimp only at fU rU hs hr
  simp only [binaryOp, hi]
  refine wpAny_holding (wpAny_bind ?_)
  simp only [binaryOp1]
  refine wpAny_bind (I.type.here (wpAny_bind (wpAny_of_eq hb (wpAny_bind ((fills_K X hcd hm hs).here ?_)))))
  have ne : (Value.ref C == Value.type "int") = false := by simp
  simp only [ne, Bool.false_eq_true, if_false]
  refine wpAny_bind (wpAny_of_eq fU ?_)
  simp only [Bool.and_self, if_true]
  refine wpAny_bind (wpAny_of_eq hsub ?_)
  simp only [Bool.false_eq_true, if_false, Bool.not_false, Bool.and_self, if_true]
  refine wpAny_bind ((slotPy X hs hr).here ?_)
  have hpy : numberSlotInPython (.type "int") nm = pure false := rfl
  simp only [if_true, hpy, pure_bind, Bool.not_false, rU]
  refine wpAny_bind (m := tryMethod (Value.ref x) _ b) ?_
  unfold tryMethod
  refine wpAny_bind (special_fn X I hs (beq_iff_eq.mp hf) (wpAny_mono h (fun v s2 hv => ?_) fun _ _ z => z))
  cases v <;> first | exact hv.elim | exact (wpAny_pure (wpAny_pure (wpAny_pure hv)))
theorem binE {op : Operator} {y : Addr} {oy : Obj} {oe : Option Obj} {Q : Value → Shared → Prop} (X : K.In s.heap) (I : InstAt s.heap x ox C od) (J : InstAt s.heap y oy C oe) (hc : selfFirst K C = true)
    (hs : findIn K (.ref C) (PySem.dunder op.info.2) = some (some (.ref f)))
    (hf : isFn K (.ref f) = true)
    (h : wpAny (model prog w) A (call (.ref f) [.ref x, .ref y]) (W.CmpBack Q) E s) : wpAny (model prog w) A (binaryOp op (.ref x) (.ref y)) Q E s := by
  obtain ⟨cd, rest, hcd, hm⟩ := headed hc
  rcases hi : op.info with ⟨sg, nm⟩
  rw [hi] at hs
  dsimp only at hs
  simp only [binaryOp, hi]
  refine wpAny_holding (wpAny_bind ?_)
  simp only [binaryOp1]
  refine wpAny_bind (I.type.here (wpAny_bind (J.type.here (wpAny_bind ((fills_K X hcd hm hs).here ?_)))))
  simp only [beq_self_eq_true, if_true, pure_bind, Bool.and_false, Bool.false_eq_true, if_false, Bool.false_and]
  refine wpAny_bind (m := tryMethod (.ref x) _ (.ref y)) ?_
  unfold tryMethod
  refine wpAny_bind (special_fn X I hs (beq_iff_eq.mp hf) (wpAny_mono h (fun v s2 hv => ?_) fun _ _ z => z))
  cases v <;> first | exact hv.elim | exact (wpAny_pure (wpAny_pure (wpAny_pure hv)))
theorem fillsI {M : Model} {h : Heap} {nm : String} {ad : Bool} {cd : ClassData} {rest : List Value} (X : K.In h) (hc : clsIn K C = some cd) (hm : cd.mro = .ref C :: rest) (hs : findIn K (.ref C) (PySem.dunderI nm) = some (some (.ref f))) : Looks M h (fillsInplaceSlot (.ref C) nm ad) true := by
  intro A Q E s k q
  unfold fillsInplaceSlot
  refine wpAny_bind ((looks_clsIn X hc).andThen (f := fun d => pure d.mro) .now A _ E s k ?_)
  rw [hm, List.anyM_cons]
  refine wpAny_bind ?_
  refine wpAny_bind (looks_findIn X hs A _ E s k ?_)
  dsimp only
  rw [if_pos (show (!ownNameWrapper (.ref f) (PySem.dunderI nm)) = true from rfl)]
  refine wpAny_pure ?_
  rw [if_pos rfl]
  exact wpAny_pure q
theorem binI {op : Operator} {b : Value} {Q : Value → Shared → Prop} (X : K.In s.heap) (I : InstAt s.heap x ox C od) (hc : selfFirst K C = true)
    (hs : findIn K (.ref C) (PySem.dunderI op.info.2) = some (some (.ref f))) (hf : isFn K (.ref f) = true)
    (h : wpAny (model prog w) A (call (.ref f) [.ref x, b]) (W.CmpBack Q) E s) : wpAny (model prog w) A (inplaceOp op (.ref x) b) Q E s := by
  obtain ⟨cd, rest, hcd, hm⟩ := headed hc
  unfold inplaceOp
  refine wpAny_holding ?_
  dsimp only
  refine wpAny_bind (I.type.here (wpAny_bind ((fillsI X hcd hm hs).here ?_)))
  show wpAny _ _ (if true = true then _ else _) _ _ _
  rw [if_pos rfl]
  refine wpAny_bind (m := tryMethod (Value.ref x) _ b) ?_
  unfold tryMethod
  refine wpAny_bind (special_fn X I hs (beq_iff_eq.mp hf) (wpAny_mono h (fun v s2 hv => ?_) fun _ _ z => z))
  cases v <;> first | exact hv.elim | exact wpAny_pure (wpAny_bind (wpAny_rule (wpAny_pure hv)))
theorem unN {Q : Value → Shared → Prop} (X : K.In s.heap) (I : InstAt s.heap x ox C od) (hs : findIn K (.ref C) "__neg__" = some (some (.ref f))) (hf : isFn K (.ref f) = true)
    (h : wpAny (model prog w) A (call (.ref f) [.ref x]) Q E s) : wpAny (model prog w) A (unaryOp .USub (.ref x)) Q E s := by
  unfold unaryOp
  refine wpAny_holding ?_
  dsimp only
  rw [if_neg (by decide)]
  exact wpAny_bind (special_fn X I hs (beq_iff_eq.mp hf) (wpAny_mono h (fun v s' hv => wpAny_pure hv) fun _ _ e => e))
theorem unA {Q : Value → Shared → Prop} (X : K.In s.heap) (I : InstAt s.heap x ox C od) (hs : findIn K (.ref C) "__abs__" = some (some (.ref f))) (hf : isFn K (.ref f) = true)
    (h : wpAny (model prog w) A.in1 (call (.ref f) [.ref x]) Q E s) : wpAny (model prog w) A (call (.builtin "abs") [.ref x]) Q E s := by
  refine Calls.call_function_entry kind_abs plain_abs entry_abs (args_abs _) ?_
  unfold Builtin.«abs»
  refine wpAny_bind (m := oneArg "abs" _) (wpAny_pure ?_)
  refine wpAny_bind (special_fn X I hs (beq_iff_eq.mp hf) (wpAny_mono h (fun v s' hv => ?_) fun _ _ e => e))
  exact wpAny_pure ⟨v, rfl, hv⟩
/-- v o x, v an int: the int's own method refuses, x's reflected one is called -/
theorem binR {op : Operator} {a : Value} {idl : String} {Q : Value → Shared → Prop} (X : K.In s.heap) (I : InstAt s.heap x ox C od) (ta : typeOf a = pure (.type "int")) (ha : s.TypeIs a "int") (hc : selfFirst K C = true)
    (fU : fillsNumberSlot (.type "int") op.info.2 = pure true) (hsub : subIn K (.ref C) (.type "int") = some false) (hl : Slot "int" (PySem.dunder op.info.2) idl)
    (hN : ∀ Q : Value → Shared → Prop, Q .notImplemented s → wpAny (model prog w) A (call (.builtin idl) [a, .ref x]) Q E s)
    (hs : findIn K (.ref C) (PySem.dunder op.info.2) = some (some (.ref f))) (hr : findIn K (.ref C) (PySem.dunderR op.info.2) = some (some (.ref g))) (hg : isFn K (.ref g) = true)
    (h : wpAny (model prog w) A (call (.ref g) [.ref x, a]) (W.CmpBack Q) E s) : wpAny (model prog w) A (binaryOp op a (.ref x)) Q E s := by
  obtain ⟨cd, rest, hcd, hm⟩ := headed hc
  rcases hi : op.info with ⟨sg, nm⟩
  rw [hi] at fU hl hs hr
  dsimp only at fU hl hs hr
  simp only [binaryOp, hi]
  refine wpAny_holding (wpAny_bind ?_)
  simp only [binaryOp1]
  refine wpAny_bind (wpAny_of_eq ta (wpAny_bind (I.type.here (wpAny_bind (wpAny_of_eq fU ?_)))))
  have ne : (Value.type "int" == Value.ref C) = false := by simp
  simp only [ne, Bool.false_eq_true, if_false]
  refine wpAny_bind ((fills_K X hcd hm hs).here ?_)
  simp only [Bool.and_self, if_true]
  refine wpAny_bind ((looks_subIn X hsub).here ?_)
  have hpy : numberSlotInPython (.type "int") nm = pure false := rfl
  simp only [Bool.false_eq_true, if_false, Bool.not_false, Bool.and_self, if_true, hpy, pure_bind]
  refine wpAny_bind (m := tryMethod a _ (.ref x)) ?_
  unfold tryMethod
  refine wpAny_bind (wpAny_callSpecial?_slot ha hl (hN _ ?_))
  refine wpAny_pure ?_
  refine wpAny_bind (wpAny_bind (special_fn X I hr (beq_iff_eq.mp hg) (wpAny_mono h (fun v s' hv => ?_) fun _ _ e => e)))
  cases v <;> first | exact hv.elim | exact wpAny_pure (wpAny_bind (wpAny_rule (wpAny_pure (wpAny_pure hv))))
theorem ni_add {i : Int} {t : Tok} {dx : Addr} {Q : Value → Shared → Prop} (hx : s.heap.get? x = some (instObj C dx)) (h : Q .notImplemented s) : wpAny (model prog w) A (call (.builtin "int.__add__") [.int i t, .ref x]) Q E s := by
  refine wpAny_call (codeAny_call_builtin F.slot_int_add.plain F.entry_int_add (F.slot_int_add.check _ _ _ _ _ _ _ _ (typeIs_int s i t) (F.args_int_add_2 _ _) ?_))
  unfold Builtin.«int.__add__»
  refine (by (repeat (first | with_reducible refine wpAny_loadPart_at hx ?_ | with_reducible refine wpAny_load hx ?_ | wp_step)); exact h)
theorem ni_sub {i : Int} {t : Tok} {dx : Addr} {Q : Value → Shared → Prop} (hx : s.heap.get? x = some (instObj C dx)) (h : Q .notImplemented s) : wpAny (model prog w) A (call (.builtin "int.__sub__") [.int i t, .ref x]) Q E s := by
  refine wpAny_call (codeAny_call_builtin F.slot_int_sub.plain F.entry_int_sub (F.slot_int_sub.check _ _ _ _ _ _ _ _ (typeIs_int s i t) (F.args_int_sub_2 _ _) ?_))
  unfold Builtin.«int.__sub__»
  refine (by (repeat (first | with_reducible refine wpAny_loadPart_at hx ?_ | with_reducible refine wpAny_load hx ?_ | wp_step)); exact h)
theorem ni_mul {i : Int} {t : Tok} {dx : Addr} {Q : Value → Shared → Prop} (hx : s.heap.get? x = some (instObj C dx)) (h : Q .notImplemented s) : wpAny (model prog w) A (call (.builtin "int.__mul__") [.int i t, .ref x]) Q E s := by
  refine wpAny_call (codeAny_call_builtin F.slot_int_mul.plain F.entry_int_mul (F.slot_int_mul.check _ _ _ _ _ _ _ _ (typeIs_int s i t) (F.args_int_mul_2 _ _) ?_))
  unfold Builtin.«int.__mul__»
  refine (by (repeat (first | with_reducible refine wpAny_loadPart_at hx ?_ | with_reducible refine wpAny_load hx ?_ | wp_step)); exact h)
theorem ni_floordiv {i : Int} {t : Tok} {dx : Addr} {Q : Value → Shared → Prop} (hx : s.heap.get? x = some (instObj C dx)) (h : Q .notImplemented s) : wpAny (model prog w) A (call (.builtin "int.__floordiv__") [.int i t, .ref x]) Q E s := by
  refine wpAny_call (codeAny_call_builtin F.slot_int_floordiv.plain F.entry_int_floordiv (F.slot_int_floordiv.check _ _ _ _ _ _ _ _ (typeIs_int s i t) (F.args_int_floordiv_2 _ _) ?_))
  unfold Builtin.«int.__floordiv__»
  refine (by (repeat (first | with_reducible refine wpAny_loadPart_at hx ?_ | with_reducible refine wpAny_load hx ?_ | wp_step)); exact h)
theorem ni_mod {i : Int} {t : Tok} {dx : Addr} {Q : Value → Shared → Prop} (hx : s.heap.get? x = some (instObj C dx)) (h : Q .notImplemented s) : wpAny (model prog w) A (call (.builtin "int.__mod__") [.int i t, .ref x]) Q E s := by
  refine wpAny_call (codeAny_call_builtin F.slot_int_mod.plain F.entry_int_mod (F.slot_int_mod.check _ _ _ _ _ _ _ _ (typeIs_int s i t) (F.args_int_mod_2 _ _) ?_))
  unfold Builtin.«int.__mod__»
  refine (by (repeat (first | with_reducible refine wpAny_loadPart_at hx ?_ | with_reducible refine wpAny_load hx ?_ | wp_step)); exact h)
end
theorem int_not (C : Addr) : isSubtype (.type "int") (.ref C) = pure false := by rfl
/-- what an int's operator does beside an own instance -/
structure IntOp (op : Operator) (idl : String) : Prop where
  fU : fillsNumberSlot (.type "int") op.info.2 = pure true
  rU : ∃ r, typeLookup (.type "int") (PySem.dunderR op.info.2) = pure r
  sl : Slot "int" (PySem.dunder op.info.2) idl
  ni : ∀ {prog : Program} {w : World} {A : Around} {E : Value → Shared → Prop} {s : Shared} {x C dx : Addr} {i : Int} {t : Tok} {Q : Value → Shared → Prop}, s.heap.get? x = some (instObj C dx) → Q .notImplemented s → wpAny (model prog w) A (call (.builtin idl) [.int i t, .ref x]) Q E s
theorem io_add : IntOp .Add "int.__add__" := ⟨F.fills_int_add, ⟨_, F.slot_int_radd.lookup⟩, F.slot_int_add, ni_add⟩
theorem io_sub : IntOp .Sub "int.__sub__" := ⟨F.fills_int_sub, ⟨_, F.slot_int_rsub.lookup⟩, F.slot_int_sub, ni_sub⟩
theorem io_mul : IntOp .Mult "int.__mul__" := ⟨F.fills_int_mul, ⟨_, F.slot_int_rmul.lookup⟩, F.slot_int_mul, ni_mul⟩
theorem io_fdiv : IntOp .FloorDiv "int.__floordiv__" := ⟨F.fills_int_floordiv, ⟨_, F.slot_int_rfloordiv.lookup⟩, F.slot_int_floordiv, ni_floordiv⟩
theorem io_mod : IntOp .Mod "int.__mod__" := ⟨F.fills_int_mod, ⟨_, F.slot_int_rmod.lookup⟩, F.slot_int_mod, ni_mod⟩
/-- a class with both methods of an operator -/
structure OwnOp (K : Frag) (C : Addr) (op : Operator) (f g : Addr) : Prop where
  first : selfFirst K C = true
  sub : subIn K (.ref C) (.type "int") = some false
  hs : findIn K (.ref C) (PySem.dunder op.info.2) = some (some (.ref f))
  hr : findIn K (.ref C) (PySem.dunderR op.info.2) = some (some (.ref g))
  hf : isFn K (.ref f) = true
  hg : isFn K (.ref g) = true
end HXO
end PySem
namespace HX
open PySem PySem.Spec PyProof.Rows L2
/-- an instance of the class at C is tracked at a -/
def IsI (C : Addr) (H : Hp) (a : Addr) : Prop := ∃ dx fs, H a = some (.ins C dx fs)
/-- x o y of own instances and ints -/
def rOw (C : Addr) (r0 : L2.R2) (spF spG : Sp) (E : XK) : L2.R2 := fun x y H Q => match x, y with
  | .ref a, .ref b => IsI C H a ∧ IsI C H b ∧ spF [.ref a, .ref b] H Q E
  | .ref a, .int j => IsI C H a ∧ spF [.ref a, .int j] H Q E
  | .int i, .ref b => IsI C H b ∧ spG [.ref b, .int i] H Q E
  | .int i, .int j => r0 (.int i) (.int j) H Q
  | _, _ => False
section
variable {X : Cx} {pins : List (Addr × Obj)} {σ : L2.St} {H : Hp} {s : Shared} {a C : Addr}
theorem inst_at (I : Inv X pins σ H s) (h : IsI C H a) : ∃ dx od, PySem.W.InstAt s.heap a (PySem.W.instObj C dx) C (some od) ∧ s.heap.get? a = some (PySem.W.instObj C dx) := by
  obtain ⟨dx, fs, e⟩ := h
  obtain ⟨_, _, ne, ho, mA, ns, _, _⟩ := (show ObjOk X.prog X.w H s.heap a (.ins C dx fs) from I.hok a _ e)
  obtain ⟨od, z, _⟩ := (ObjM.mk ho ns ne).look
  exact ⟨dx, od, z, ho⟩
theorem ep_own {Q : VK} {u : Value} {s' : Shared} (h : EP X pins σ Q u s') : PySem.W.CmpBack (EP X pins σ Q) u s' := by
  obtain ⟨v, G, J, r, q⟩ := id h
  cases u <;> first | exact h | (cases v <;> first | exact r.elim | (obtain ⟨_, r⟩ := r; cases r) | cases r)
/-- the operator, where both methods keep a promise -/
theorem op_ow {op : Operator} {idl : String} {r0 : L2.R2} {f g : Addr} {ff fg : FuncData} {pf pg : List Str} {spF spG : Sp} {CY : CXT} {k : Nat} {E : XK} (io : PySem.HXO.IntOp op idl) (h0 : OpR X (binaryOp op) r0) (O : PySem.HXO.OwnOp X.K C op f g)
    (Ff : FnOk X.prog X.w X.K X.mg X.base CY k f ff pf spF) (Fg : FnOk X.prog X.w X.K X.mg X.base CY k g fg pg spG) (bf : Binds X.K ff pf []) (bg : Binds X.K fg pg []) (hr : Room k X.A) (hx : Passes CY X E) : OpR X (binaryOp op) (rOw C r0 spF spG E) := by
  intro pins s σ H x y v u Q I rx ry q
  unfold rOw at q
  split at q
  · obtain ⟨i1, i2, q⟩ := q
    cases rx
    cases ry
    obtain ⟨dx, od, J, ho⟩ := inst_at I i1
    obtain ⟨dy, od2, J2, ho2⟩ := inst_at I i2
    rename_i a b
    have rv : Vals [V.ref a, V.ref b] [Value.ref a, Value.ref b] := .cons rfl (.cons rfl .nil)
    exact PySem.HXO.binE I.kIn J J2 O.first O.hs O.hf (wpAny_mono (run_fn Ff hr bf .nil hx I rv (by rw [List.append_nil]; exact q)) (fun u s' h => ep_own h) fun _ _ z => z)
  · obtain ⟨i1, q⟩ := q
    cases rx
    obtain ⟨t, rfl⟩ := (show ∃ t, u = Value.int _ t from ry)
    obtain ⟨dx, od, J, ho⟩ := inst_at I i1
    obtain ⟨r, rU⟩ := io.rU
    rename_i a j
    have rv : Vals [V.ref a, V.int j] [Value.ref a, Value.int j t] := .cons rfl (.cons ⟨t, rfl⟩ .nil)
    refine PySem.HXO.binL I.kIn J rfl O.first io.fU rU (PySem.HXO.int_not C) O.hs O.hr O.hf (wpAny_mono (run_fn Ff hr bf .nil hx I rv (by rw [List.append_nil]; exact q)) (fun u s' h => ep_own h) fun _ _ z => z)
  · obtain ⟨i1, q⟩ := q
    cases ry
    obtain ⟨t, rfl⟩ := (show ∃ t, v = Value.int _ t from rx)
    obtain ⟨dx, od, J, ho⟩ := inst_at I i1
    rename_i j a
    have rv : Vals [V.ref a, V.int j] [Value.ref a, Value.int j t] := .cons rfl (.cons ⟨t, rfl⟩ .nil)
    refine PySem.HXO.binR I.kIn J rfl (typeIs_int s _ t) O.first io.fU O.sub io.sl (fun Q z => io.ni ho z) O.hs O.hr O.hg (wpAny_mono (run_fn Fg hr bg .nil hx I rv (by rw [List.append_nil]; exact q)) (fun u s' h => ep_own h) fun _ _ z => z)
  · exact h0 pins s σ H _ _ v u Q I rx ry q
  · exact q.elim
/-- x o= y, by an own method -/
def rIo (C : Addr) (sp : Sp) (E : XK) : TIp := fun x y H Q => ∃ a, x = .ref a ∧ IsI C H a ∧ sp [.ref a, y] H Q E
theorem ip_ow {op : Operator} {f : Addr} {fd : FuncData} {ps : List Str} {sp : Sp} {CY : CXT} {k : Nat} {E : XK} (first : PySem.W.selfFirst X.K C = true) (hs : PySem.W.findIn X.K (.ref C) (PySem.dunderI op.info.2) = some (some (.ref f))) (hf : PySem.W.isFn X.K (.ref f) = true)
    (Fi : FnOk X.prog X.w X.K X.mg X.base CY k f fd ps sp) (b : Binds X.K fd ps []) (hr : Room k X.A) (hx : Passes CY X E) : PIp X op (rIo C sp E) := by
  intro pins s σ H x y v u Q I rx ry q
  obtain ⟨a, rfl, i1, q⟩ := q
  cases rx
  obtain ⟨dx, od, J, ho⟩ := inst_at I i1
  have rv : Vals [V.ref a, y] [Value.ref a, u] := .cons rfl (.cons ry .nil)
  exact PySem.HXO.binI I.kIn J first hs hf (wpAny_mono (run_fn Fi hr b .nil hx I rv (by rw [List.append_nil]; exact q)) (fun u s' h => ep_own h) fun _ _ z => z)
/-- -x, of an own instance or an int -/
def rNg (C : Addr) (sp : Sp) (E : XK) : V → Hp → VK → Prop := fun x H Q => match x with
  | .ref a => IsI C H a ∧ sp [.ref a] H Q E
  | .int i => Q (.int (-i)) H
  | _ => False
theorem un_ow {f : Addr} {fd : FuncData} {ps : List Str} {sp : Sp} {CY : CXT} {k : Nat} {E : XK} (hs : PySem.W.findIn X.K (.ref C) "__neg__" = some (some (.ref f))) (hf : PySem.W.isFn X.K (.ref f) = true)
    (Fi : FnOk X.prog X.w X.K X.mg X.base CY k f fd ps sp) (b : Binds X.K fd ps []) (hr : Room k X.A) (hx : Passes CY X E) : UnR X (unaryOp .USub) (rNg C sp E) := by
  intro pins s σ H x v Q I rx q
  unfold rNg at q
  split at q
  · obtain ⟨i1, q⟩ := q
    cases rx
    obtain ⟨dx, od, J, ho⟩ := inst_at I i1
    rename_i a
    have rv : Vals [V.ref a] [Value.ref a] := .cons rfl .nil
    exact PySem.HXO.unN I.kIn J hs hf (run_fn Fi hr b .nil hx I rv (by rw [List.append_nil]; exact q))
  · exact un_neg pins s σ H _ v Q I rx ⟨_, rfl, q⟩
  · exact q.elim
end
end HX

set_option Elab.async false
set_option linter.all false
set_option maxRecDepth 100000
set_option maxHeartbeats 2000000
namespace HX
open PySem PySem.Spec PyProof.Rows L2

/-! ### C.m(..), m a static method: its record at p, its def at g -/
structure SMet (K : PySem.W.Frag) (C : Addr) (mc : Value) (m : Str) (p g : Addr) : Prop where
  rd : ClX.CRead K C mc
  at_ : PySem.W.findCls K (.ref C) mc m = some (.get (.builtin "staticmethod.__get__") (.ref p) .none (.ref C))
  rc : ∃ rest, PySem.W.recIn K p "staticmethod" = some (.ref g :: rest)
  kp : PySem.W.keepIn K (.ref g) = true
def tSM (C : Addr) (sp : Sp) (E : XK) (ta : TE) (t : TA) : TE := fun σ H Q => ta σ H fun x H1 => x = .ref C ∧ t σ H1 fun vs H2 => sp vs H2 Q E
def tSMK (C : Addr) (m : Nat) (sp : Sp) (gV : List V → List V → List V) (E : XK) (ta : TE) (t : TA) : TE := fun σ H Q => ta σ H fun x H1 => x = .ref C ∧ t σ H1 fun zs H2 => zs.length = m ∧ sp (gV [] zs) H2 Q E
section
variable {X : Cx} {CY : CXT} {k : Nat} {C p g : Addr} {mc : Value} {sp : Sp} {E : XK} {o e : Expr} {es : List Expr} {m : Str} {pos apos : Pos} {ta : TE} {t : TA} {pl : Sem Bool} {fd : FuncData} {ps : List Str} {pins : List (Addr × Obj)} {σ : L2.St} {H : Hp} {s : Shared} {A : Around}
theorem getm_sm {Ex : Value → Shared → Prop} {Q : Value × List Value → Shared → Prop} (I : Inv X pins σ H s) (c : SMet X.K C mc m p g) (h : ∀ s', Inv X pins σ H s' → Q (.ref g, []) s') : wpAny (model X.prog X.w) A (getMethod (.ref C) m pl) Q Ex s := by
  obtain ⟨rest, hp⟩ := c.rc
  refine PySem.W.method_cls I.kIn c.rd.ga (PySem.W.cls_bind I.kIn c.rd.rd c.at_ ?_)
  exact wpAny_call (PySem.W.sm_get (s := { s with toks := s.toks + 1 }) I.kIn hp (PySem.W.handed_on rfl (h _ (I.tok _))))
theorem pe_sm (he : PE X o ta) (c : SMet X.K C mc m p g) (Fm : FnOk X.prog X.w X.K X.mg X.base CY k g fd ps sp) (b : Binds X.K fd ps []) (hr : Room k X.A) (hx : Passes CY X E) (ha : PA X (e :: es) t)
    (hst : starEach (e :: es) X.env = (false, eval e X.env) :: starEach es X.env := by rfl) (hpl : (backTo pos (starEach es X.env)).any (·.1) = false := by rfl)
    (ht : eval (.Call (.Attribute o m apos) (e :: es) [] pos) X.env = (do
      let v ← eval o X.env
      standAt apos.atName
      let (f, first) ← holding [v] (getMethod v m pl)
      callWith pos f first (backTo pos (starEach (e :: es) X.env)) (backToKw pos (keywordEach [] X.env))) := by rfl) : PE X (.Call (.Attribute o m apos) (e :: es) [] pos) (tSM C sp E ta t) := by
  refine ⟨fun pins s σ H Q I h => PySem.W.methodCall_KW (pl := pl) (thn (he.run pins s σ H _ I h) fun u s1 ⟨x, H1, I1, rx, ex, q⟩ => ?_) ht⟩
  subst ex
  obtain rfl : u = Value.ref C := rx
  refine getm_sm I1 c fun s2 I2 => ?_
  refine PySem.W.callWith_K (h₀ := X.base) I2.ok.mod.kin c.kp (thn (ha.run pos pins s2 σ H1 _ I2 q) fun us s3 ⟨vs, H2, I3, rv, q2⟩ => ⟨I3.kIn, ?_⟩) hst hpl
  exact run_fn Fm hr b .nil hx I3 rv (by rw [List.append_nil]; exact q2)
theorem pe_smk {ks : List Str} {kws : List Keyword} {gg : List Value → List Value → List Value} {gV : List V → List V → List V} (he : PE X o ta) (c : SMet X.K C mc m p g) (Fm : FnOk X.prog X.w X.K X.mg X.base CY k g fd ps sp) (b : KBn X.K fd ps 0 ks gg gV) (hr : Room k X.A) (hx : Passes CY X E) (hkw : PK X kws t)
    (hall : (backToKw pos (keywordEach kws X.env)).all (·.1.isSome) = true := by rfl) (hks : (backToKw pos (keywordEach kws X.env)).filterMap (·.1) = ks := by rfl)
    (hpl : ((backTo pos (starEach [] X.env)).any (·.1) || (backToKw pos (keywordEach kws X.env)).any (·.1.isNone)) = false := by rfl)
    (ht : eval (.Call (.Attribute o m apos) [] kws pos) X.env = (do
      let v ← eval o X.env
      standAt apos.atName
      let (f, first) ← holding [v] (getMethod v m pl)
      callWith pos f first (backTo pos (starEach [] X.env)) (backToKw pos (keywordEach kws X.env))) := by rfl) : PE X (.Call (.Attribute o m apos) [] kws pos) (tSMK C ks.length sp gV E ta t) := by
  refine ⟨fun pins s σ H Q I h => PySem.W.methodCall_KW (pl := pl) (thn (he.run pins s σ H _ I h) fun u s1 ⟨x, H1, I1, rx, ex, q⟩ => ?_) ht⟩
  subst ex
  obtain rfl : u = Value.ref C := rx
  refine getm_sm I1 c fun s2 I2 => ?_
  refine PySem.W.callWith_KW0 (h₀ := X.base) I2.ok.mod.kin c.kp hall (thn (hkw.run pos pins s2 σ H1 _ I2 q) fun ws s3 ⟨zs, H2, I3, rz, l2, q2⟩ => ⟨I3.kIn, ?_⟩) hpl
  rw [hks]
  exact run_kw Fm hr b (fun e s' z => hx _ _ _ _ _ _ I3 z) I3 rz l2 q2
/-- abs(x) of an own instance, an int -/
def rAb (C : Addr) (sp : Sp) (E : XK) : List V → Hp → VK → Prop := fun xs H Q => match xs with
  | [.ref a] => IsI C H a ∧ sp [.ref a] H Q E
  | [.int i] => Q (.int (if i < 0 then -i else i)) H
  | _ => False
theorem call_ab {f : Addr} (hs : PySem.W.findIn X.K (.ref C) "__abs__" = some (some (.ref f))) (hf : PySem.W.isFn X.K (.ref f) = true) (Fi : FnOk X.prog X.w X.K X.mg X.base CY k f fd ps sp) (b : Binds X.K fd ps []) (hr : Room (k + 1) X.A) (hx : Passes CY X E) :
    CallR X (.builtin "abs") (rAb C sp E) := by
  intro pins s σ H xs us Q I r q
  unfold rAb at q
  split at q
  · obtain ⟨i1, q⟩ := q
    obtain ⟨u, rfl, ru⟩ := vals1 r
    cases ru
    obtain ⟨dx, od, J, ho⟩ := inst_at I i1
    rename_i a
    have rv : Vals [V.ref a] [Value.ref a] := .cons rfl .nil
    have hl : ([Value.ref a] ++ []).length = ps.length := by
      rw [List.append_nil, ← rv.length]
      exact Fi.len _ _ _ _ q
    have bd := b s [Value.ref a] I.kIn hl
    rw [List.append_nil] at bd
    refine PySem.HXO.unA I.kIn J hs hf (wpAny_call (codeAny_mono (Fi.run X.A.in1 X.stack s H ⟨[Value.ref a], []⟩ [Value.ref a] [V.ref a] Q E hr.in1 I.env0.in1 bd rv q) fun z s' hq => ?_))
    match z, hq with
    | .error e, hq => exact hx pins σ H s e s' I hq
    | .ok (.ret u), hq => exact I.after hq
    | .ok .next, hq => exact False.elim hq
    | .ok .brk, hq => exact False.elim hq
    | .ok .cont, hq => exact False.elim hq
  · exact call_abs pins s σ H _ us Q I r ⟨_, rfl, q⟩
  · exact q.elim
/-- what is never come to -/
theorem ps_dead {st : Stmt} : PS X st fun _ _ _ => False := ⟨fun _ _ _ _ _ _ h => h.elim⟩
theorem pe_dead : PE X e fun _ _ _ => False := ⟨fun _ _ _ _ _ _ h => h.elim⟩
end
end HX

set_option Elab.async false
set_option linter.all false
set_option maxRecDepth 100000
set_option maxHeartbeats 2000000
namespace HX
open PySem PySem.Spec PyProof.Rows L2

/-! ### the lowest terms of p / q -/
def gcdZ (p q : Int) : Int := ((Nat.gcd p.natAbs q.natAbs : Nat) : Int)
def sgZ (q : Int) : Int := if q < 0 then -1 else 1
def nT (p q : Int) : Int := (sgZ q * p) / gcdZ p q
def nB (p q : Int) : Int := (sgZ q * q) / gcdZ p q
/-- t / b stands in lowest terms -/
def Low (t b : Int) : Prop := 0 < b ∧ Nat.gcd t.natAbs b.natAbs = 1
theorem gcdZ_pos {p q : Int} (h : q ≠ 0) : 0 < gcdZ p q := by
  have : 0 < Nat.gcd p.natAbs q.natAbs := Nat.gcd_pos_of_pos_right _ (by omega)
  unfold gcdZ
  omega
theorem gcdZ_p (p q : Int) : gcdZ p q ∣ p := Int.ofNat_dvd_left.mpr (Nat.gcd_dvd_left _ _)
theorem gcdZ_q (p q : Int) : gcdZ p q ∣ q := Int.ofNat_dvd_left.mpr (Nat.gcd_dvd_right _ _)
theorem sgZ_sq (q : Int) : sgZ q = 1 ∨ sgZ q = -1 := by
  unfold sgZ
  split
  · exact .inr rfl
  · exact .inl rfl
theorem nT_mul {p q : Int} : gcdZ p q * nT p q = sgZ q * p := Int.mul_ediv_cancel' (Int.dvd_trans (gcdZ_p p q) (Int.dvd_mul_left _ _))
theorem nB_mul {p q : Int} : gcdZ p q * nB p q = sgZ q * q := Int.mul_ediv_cancel' (Int.dvd_trans (gcdZ_q p q) (Int.dvd_mul_left _ _))
theorem sgZ_abs {q : Int} : sgZ q * q = (q.natAbs : Int) := by
  unfold sgZ
  split <;> omega
theorem nB_pos {p q : Int} (h : q ≠ 0) : 0 < nB p q := by
  have g := gcdZ_pos (p := p) h
  have e := nB_mul (p := p) (q := q)
  rw [sgZ_abs] at e
  rcases Int.lt_or_le 0 (nB p q) with z | z
  · exact z
  · have := Int.mul_nonpos_of_nonneg_of_nonpos (Int.le_of_lt g) z
    omega
theorem cross {p q : Int} (h : q ≠ 0) : nT p q * q = p * nB p q := by
  have g := gcdZ_pos (p := p) h
  have e1 := nT_mul (p := p) (q := q)
  have e2 := nB_mul (p := p) (q := q)
  have s : sgZ q ≠ 0 := by rcases sgZ_sq q with z | z <;> rw [z] <;> decide
  refine Int.eq_of_mul_eq_mul_left (Int.ne_of_gt g) ?_
  calc gcdZ p q * (nT p q * q) = (gcdZ p q * nT p q) * q := by rw [Int.mul_assoc]
    _ = sgZ q * p * q := by rw [e1]
    _ = p * (sgZ q * q) := by rw [Int.mul_comm (sgZ q) p, Int.mul_assoc]
    _ = p * (gcdZ p q * nB p q) := by rw [e2]
    _ = gcdZ p q * (p * nB p q) := by rw [Int.mul_left_comm]
theorem low_n {p q : Int} (h : q ≠ 0) : Low (nT p q) (nB p q) := by
  refine ⟨nB_pos h, ?_⟩
  have g := gcdZ_pos (p := p) h
  have e1 := congrArg Int.natAbs (nT_mul (p := p) (q := q))
  have e2 := congrArg Int.natAbs (nB_mul (p := p) (q := q))
  have sg : (sgZ q).natAbs = 1 := by rcases sgZ_sq q with z | z <;> rw [z] <;> rfl
  rw [Int.natAbs_mul, Int.natAbs_mul, sg, Nat.one_mul] at e1 e2
  have gg : (gcdZ p q).natAbs = Nat.gcd p.natAbs q.natAbs := rfl
  rw [gg] at e1 e2
  have e3 := Nat.gcd_mul_left (Nat.gcd p.natAbs q.natAbs) (nT p q).natAbs (nB p q).natAbs
  rw [e1, e2] at e3
  have g2 : 0 < Nat.gcd p.natAbs q.natAbs := Nat.gcd_pos_of_pos_right _ (by omega)
  exact Nat.eq_of_mul_eq_mul_left g2 (by rw [Nat.mul_one]; exact e3.symm)
/-- two fractions in lowest terms that are equal are the same -/
theorem low_unique {t b t' b' : Int} (h : Low t b) (h' : Low t' b') (e : t * b' = t' * b) : t = t' ∧ b = b' := by
  obtain ⟨p, g⟩ := h
  obtain ⟨p', g'⟩ := h'
  have e' := congrArg Int.natAbs e
  rw [Int.natAbs_mul, Int.natAbs_mul] at e'
  have d1 : b.natAbs ∣ b'.natAbs := by
    have : b.natAbs ∣ t.natAbs * b'.natAbs := ⟨t'.natAbs, by rw [e', Nat.mul_comm]⟩
    exact (Nat.Coprime.dvd_of_dvd_mul_left (Nat.Coprime.symm g) this)
  have d2 : b'.natAbs ∣ b.natAbs := by
    have : b'.natAbs ∣ t'.natAbs * b.natAbs := ⟨t.natAbs, by rw [← e', Nat.mul_comm]⟩
    exact (Nat.Coprime.dvd_of_dvd_mul_left (Nat.Coprime.symm g') this)
  have eb : b = b' := by
    have := Nat.dvd_antisymm d1 d2
    omega
  subst eb
  exact ⟨Int.eq_of_mul_eq_mul_right (by omega) e, rfl⟩
theorem n_unique {p q t b : Int} (hq : q ≠ 0) (h : Low t b) (e : t * q = p * b) : nT p q = t ∧ nB p q = b := by
  refine low_unique (low_n hq) h ?_
  have c := cross (p := p) hq
  refine Int.eq_of_mul_eq_mul_left hq ?_
  calc q * (nT p q * b) = (nT p q * q) * b := by rw [← Int.mul_assoc, Int.mul_comm q]
    _ = p * nB p q * b := by rw [c]
    _ = (p * b) * nB p q := by rw [Int.mul_right_comm]
    _ = t * q * nB p q := by rw [e]
    _ = q * (t * nB p q) := by rw [Int.mul_comm t q, Int.mul_assoc]
theorem low_int (i : Int) : Low i 1 := ⟨by decide, by simp⟩
theorem low_neg {t b : Int} (h : Low t b) : Low (-t) b := ⟨h.1, by rw [Int.natAbs_neg]; exact h.2⟩
theorem low_abs {t b : Int} (h : Low t b) : Low (if t < 0 then -t else t) b := by split; exact low_neg h; exact h
theorem n_self {t b : Int} (h : Low t b) : nT t b = t ∧ nB t b = b := n_unique (by have := h.1; omega) h rfl
theorem nT_le {p q : Int} (h : q ≠ 0) : (nT p q).natAbs ≤ p.natAbs := by
  have e1 := congrArg Int.natAbs (nT_mul (p := p) (q := q))
  have sg : (sgZ q).natAbs = 1 := by rcases sgZ_sq q with z | z <;> rw [z] <;> rfl
  rw [Int.natAbs_mul, Int.natAbs_mul, sg, Nat.one_mul] at e1
  have g := gcdZ_pos (p := p) h
  have : 1 ≤ (gcdZ p q).natAbs := by omega
  calc (nT p q).natAbs = 1 * (nT p q).natAbs := (Nat.one_mul _).symm
    _ ≤ (gcdZ p q).natAbs * (nT p q).natAbs := Nat.mul_le_mul_right _ this
    _ = p.natAbs := e1
theorem nB_le {p q : Int} (h : q ≠ 0) : (nB p q).natAbs ≤ q.natAbs := by
  have e1 := congrArg Int.natAbs (nB_mul (p := p) (q := q))
  have sg : (sgZ q).natAbs = 1 := by rcases sgZ_sq q with z | z <;> rw [z] <;> rfl
  rw [Int.natAbs_mul, Int.natAbs_mul, sg, Nat.one_mul] at e1
  have g := gcdZ_pos (p := p) h
  have : 1 ≤ (gcdZ p q).natAbs := by omega
  calc (nB p q).natAbs = 1 * (nB p q).natAbs := (Nat.one_mul _).symm
    _ ≤ (gcdZ p q).natAbs * (nB p q).natAbs := Nat.mul_le_mul_right _ this
    _ = q.natAbs := e1
/-- the divisor of the program: the gcd with the sign of q -/
theorem fdiv_sg {p q z : Int} (h : q ≠ 0) (d : gcdZ p q ∣ z) : z.fdiv (if q < 0 then -(gcdZ p q) else gcdZ p q) = (sgZ q * z) / gcdZ p q := by
  have g := gcdZ_pos (p := p) h
  obtain ⟨k, rfl⟩ := d
  unfold sgZ
  split
  · have e : gcdZ p q * k = -(gcdZ p q) * -k := (Int.neg_mul_neg _ _).symm
    have e2 : -1 * (gcdZ p q * k) = gcdZ p q * -k := by rw [Int.neg_one_mul, Int.mul_neg]
    rw [e2, Int.mul_ediv_cancel_left _ (Int.ne_of_gt g), e, Int.mul_fdiv_cancel_left _ (by omega)]
  · rw [Int.one_mul, Int.fdiv_eq_ediv_of_nonneg _ (Int.le_of_lt g)]
/-- floor division of a fraction in lowest terms is that of p by q -/
theorem floor_n {p q : Int} (h : q ≠ 0) : nT p q / nB p q = p.fdiv q := by
  have g := gcdZ_pos (p := p) h
  have e1 := nT_mul (p := p) (q := q)
  have e2 := nB_mul (p := p) (q := q)
  have b := nB_pos (p := p) h
  have z : (gcdZ p q * nT p q) / (gcdZ p q * nB p q) = nT p q / nB p q := Int.mul_ediv_mul_of_pos _ _ g
  have pos : 0 ≤ sgZ q * q := by rw [sgZ_abs]; omega
  rw [← z, e1, e2, ← Int.fdiv_eq_ediv_of_nonneg _ pos]
  rcases sgZ_sq q with s | s
  · rw [s, Int.one_mul, Int.one_mul]
  · rw [s, Int.neg_one_mul, Int.neg_one_mul, Int.neg_fdiv_neg]
end HX

set_option Elab.async false
set_option linter.all false
set_option maxRecDepth 100000
set_option maxHeartbeats 2000000
namespace HX
open PySem PySem.Spec PyProof.Rows L2

/-! ### one side alone -/
def rOwL (C : Addr) (sp : Sp) (E : XK) : L2.R2 := fun x y H Q => match x, y with
  | .ref a, .ref b => IsI C H a ∧ IsI C H b ∧ sp [.ref a, .ref b] H Q E
  | .ref a, .int j => IsI C H a ∧ sp [.ref a, .int j] H Q E
  | _, _ => False
def rOwR (C : Addr) (r0 : L2.R2) (sp : Sp) (E : XK) : L2.R2 := fun x y H Q => match x, y with
  | .int i, .ref b => IsI C H b ∧ sp [.ref b, .int i] H Q E
  | .int i, .int j => r0 (.int i) (.int j) H Q
  | _, _ => False
section
variable {X : Cx} {C f g : Addr} {fd : FuncData} {ps : List Str} {sp : Sp} {CY : CXT} {k : Nat} {E : XK} {op : Operator} {idl : String} {r0 : L2.R2}
theorem op_owL (io : PySem.HXO.IntOp op idl) (O : PySem.HXO.OwnOp X.K C op f g) (Ff : FnOk X.prog X.w X.K X.mg X.base CY k f fd ps sp) (bf : Binds X.K fd ps []) (hr : Room k X.A) (hx : Passes CY X E) : OpR X (binaryOp op) (rOwL C sp E) := by
  intro pins s σ H x y v u Q I rx ry q
  unfold rOwL at q
  split at q
  · obtain ⟨i1, i2, q⟩ := q
    cases rx
    cases ry
    obtain ⟨dx, od, J, ho⟩ := inst_at I i1
    obtain ⟨dy, od2, J2, ho2⟩ := inst_at I i2
    rename_i a b
    have rv : Vals [V.ref a, V.ref b] [Value.ref a, Value.ref b] := .cons rfl (.cons rfl .nil)
    exact PySem.HXO.binE I.kIn J J2 O.first O.hs O.hf (wpAny_mono (run_fn Ff hr bf .nil hx I rv (by rw [List.append_nil]; exact q)) (fun u s' h => ep_own h) fun _ _ z => z)
  · obtain ⟨i1, q⟩ := q
    cases rx
    obtain ⟨t, rfl⟩ := (show ∃ t, u = Value.int _ t from ry)
    obtain ⟨dx, od, J, ho⟩ := inst_at I i1
    obtain ⟨r, rU⟩ := io.rU
    rename_i a j
    have rv : Vals [V.ref a, V.int j] [Value.ref a, Value.int j t] := .cons rfl (.cons ⟨t, rfl⟩ .nil)
    exact PySem.HXO.binL I.kIn J rfl O.first io.fU rU (PySem.HXO.int_not C) O.hs O.hr O.hf (wpAny_mono (run_fn Ff hr bf .nil hx I rv (by rw [List.append_nil]; exact q)) (fun u s' h => ep_own h) fun _ _ z => z)
  · exact q.elim
theorem op_owR (io : PySem.HXO.IntOp op idl) (h0 : OpR X (binaryOp op) r0) (O : PySem.HXO.OwnOp X.K C op f g) (Fg : FnOk X.prog X.w X.K X.mg X.base CY k g fd ps sp) (bg : Binds X.K fd ps []) (hr : Room k X.A) (hx : Passes CY X E) : OpR X (binaryOp op) (rOwR C r0 sp E) := by
  intro pins s σ H x y v u Q I rx ry q
  unfold rOwR at q
  split at q
  · obtain ⟨i1, q⟩ := q
    cases ry
    obtain ⟨t, rfl⟩ := (show ∃ t, v = Value.int _ t from rx)
    obtain ⟨dx, od, J, ho⟩ := inst_at I i1
    rename_i j a
    have rv : Vals [V.ref a, V.int j] [Value.ref a, Value.int j t] := .cons rfl (.cons ⟨t, rfl⟩ .nil)
    exact PySem.HXO.binR I.kIn J rfl (typeIs_int s _ t) O.first io.fU O.sub io.sl (fun Q z => io.ni ho z) O.hs O.hr O.hg (wpAny_mono (run_fn Fg hr bg .nil hx I rv (by rw [List.append_nil]; exact q)) (fun u s' h => ep_own h) fun _ _ z => z)
  · exact h0 pins s σ H _ _ v u Q I rx ry q
  · exact q.elim
/-- // by any int but 0, below 2 ^ 9000 -/
def CDivZ (_ j : Int) : Prop := j ≠ 0 ∧ j.natAbs.log2 < 9000
theorem o_fdivZ : OpR X (binaryOp .FloorDiv) (rI2 CDivZ fun i j => .int (i.fdiv j)) := opC (opI fun _ _ _ _ _ _ _ hc q => floordiv_int hc.1 q (.inl (PyProof.noPylong_of_log2 hc.2)))
theorem o_mulW : OpR X (binaryOp .Mult) (rI2 CMulW fun i j => .int (i * j)) := opC op_mulW
end

/-! ### amounts: top t, bottom b -/
def afs (t b : Int) : List (Str × V) := [("top", .int t), ("bottom", .int b)]
def Am (A : Addr) (H : Hp) (a : Addr) (t b : Int) : Prop := ∃ dx, H a = some (.ins A dx (afs t b))
/-- an amount or an int -/
def Nu (A : Addr) (H : Hp) (v : V) (t b : Int) : Prop := (∃ a, v = .ref a ∧ Am A H a t b) ∨ (v = .int t ∧ b = 1)
/-- fewer than n bits -/
def Sm (n : Nat) (i : Int) : Prop := i.natAbs < 2 ^ n
theorem Am.mo {A : Addr} {H G : Hp} {a : Addr} {t b : Int} (s : Same H G) : Am A H a t b → Am A G a t b := fun ⟨dx, e⟩ => ⟨dx, s _ _ e⟩
theorem Nu.mo {A : Addr} {H G : Hp} {v : V} {t b : Int} (s : Same H G) : Nu A H v t b → Nu A G v t b := fun h => h.elim (fun ⟨a, e, z⟩ => .inl ⟨a, e, z.mo s⟩) .inr
theorem Am.isI {A : Addr} {H : Hp} {a : Addr} {t b : Int} (h : Am A H a t b) : IsI A H a := let ⟨dx, e⟩ := h; ⟨dx, _, e⟩
/-- a new amount is the answer -/
def QA (A : Addr) (H : Hp) (Q : VK) (t b : Int) : Prop := ∀ r G, H r = none → Same H G → Am A G r t b → Q (.ref r) G
theorem QA.mo {A : Addr} {H G : Hp} {Q : VK} {t b : Int} (s : Same H G) (h : QA A H Q t b) : QA A G Q t b := fun r G' n s' a => h r G' (s.free n) (s.trans s') a
theorem Sm.mono {m n : Nat} {i : Int} (h : Sm m i) (le : m ≤ n) : Sm n i := Nat.lt_of_lt_of_le h (Nat.pow_le_pow_right (by decide) le)
theorem Sm.mul {m n : Nat} {i j : Int} (h : Sm m i) (k : Sm n j) : Sm (m + n) (i * j) := wide_lt h k
theorem Sm.add {n : Nat} {i j : Int} (h : Sm n i) (k : Sm n j) : Sm (n + 1) (i + j) := by
  unfold Sm at *
  rw [Nat.pow_succ]
  omega
theorem Sm.neg {n : Nat} {i : Int} (h : Sm n i) : Sm n (-i) := by
  unfold Sm at *
  rw [Int.natAbs_neg]
  exact h
theorem Sm.cMul {m n : Nat} {i j : Int} (h : Sm m i) (k : Sm n j) (hm : 0 < m := by decide) (hn : 0 < n := by decide) (le : m + n ≤ 1000000 := by decide) : CMulW i j := wide_mul h k hm hn le
theorem Sm.cDiv {n : Nat} {i j : Int} (h : Sm n j) (z : j ≠ 0) (hn : 0 < n := by decide) (le : n ≤ 9000 := by decide) : CDivZ i j := ⟨z, Nat.lt_of_lt_of_le (PySem.Flt.log2_lt_of hn h) le⟩
theorem Sm.nT {n : Nat} {p q : Int} (h : Sm n p) (z : q ≠ 0) : Sm n (nT p q) := Nat.lt_of_le_of_lt (nT_le z) h
theorem Sm.nB {n : Nat} {p q : Int} (h : Sm n q) (z : q ≠ 0) : Sm n (nB p q) := Nat.lt_of_le_of_lt (nB_le z) h
theorem sm_one : Sm 1 1 := by unfold Sm; decide

/-! ### what the parts of Amount promise -/
def spIsInt (A : Addr) : Sp := fun vs H Q _ => ∃ v, vs = [v] ∧ (((∃ i, v = .int i) ∧ Q (.bl true) H) ∨ ∃ a, v = .ref a ∧ IsI A H a ∧ Q (.bl false) H)
def spInit (A : Addr) : Sp := fun vs H Q _ => ∃ (x dx : Addr) (p q : Int), vs = [.ref x, .int p, .int q] ∧ H x = some (.ins A dx []) ∧ q ≠ 0 ∧ Sm 900 p ∧ Sm 900 q ∧
  ∀ G, (∀ b o, b ≠ x → H b = some o → G b = some o) → G x = some (.ins A dx (afs (nT p q) (nB p q))) → Q .non G
def spIsNum (A : Addr) : Sp := fun vs H Q _ => ∃ v t b, vs = [v] ∧ Nu A H v t b ∧ Q (.bl true) H
def spOf (A : Addr) : Sp := fun vs H Q _ => ∃ v t b, vs = [v] ∧ Nu A H v t b ∧ Sm 900 t ∧ ∀ r G, Same H G → Am A G r t b → Q (.ref r) G
/-- self and a number: a new amount -/
def spBin (A : Addr) (n : Nat) (p q : Int → Int → Int → Int → Int) : Sp := fun vs H Q _ => ∃ (a : Addr) (v : V) (t b c d : Int), vs = [.ref a, v] ∧ Am A H a t b ∧ Nu A H v c d ∧ Low t b ∧ Low c d ∧ Sm n t ∧ Sm n b ∧ Sm n c ∧ Sm n d ∧ q t b c d ≠ 0 ∧ QA A H Q (nT (p t b c d) (q t b c d)) (nB (p t b c d) (q t b c d))
theorem mkA {A : Addr} {H : Hp} {Q : VK} {E : XK} {p q : Int} (z : q ≠ 0) (sp : Sm 900 p) (sq : Sm 900 q) (k : QA A H Q (nT p q) (nB p q)) : ∀ x dx, H x = none → H dx = none → dx ≠ x →
    spInit A (.ref x :: [.int p, .int q]) (upd (upd H dx (.own x)) x (.ins A dx [])) (fun v H2 => v = .non ∧ Q (.ref x) H2) E := fun x dx nx nd ne =>
  ⟨x, dx, p, q, rfl, upd_same, z, sp, sq, fun G kp gx => ⟨rfl, k x G nx (fun b o e => kp b o (ne_of_none e nx) (by rw [upd_ne (ne_of_none e nx), upd_ne (ne_of_none e nd)]; exact e)) ⟨dx, gx⟩⟩⟩
end HX

set_option Elab.async false
set_option linter.all false
set_option maxRecDepth 100000
set_option maxHeartbeats 2000000
/-! ### comparisons of own instances -/
namespace PySem
namespace HXC
open W Builtin PyProof.Rows
section
variable {prog : Program} {w : World} {A : Around} {E : Value → Shared → Prop} {s : Shared} {K : Frag} {x C f : Addr} {ox : Obj} {od : Option Obj}
theorem try_own {b : Value} {name : Str} {Q : Value → Shared → Prop} (X : K.In s.heap) (I : InstAt s.heap x ox C od) (hs : findIn K (.ref C) name = some (some (.ref f))) (hf : isFn K (.ref f) = true)
    (h : wpAny (model prog w) A (call (.ref f) [.ref x, b]) (W.CmpBack Q) E s) : wpAny (model prog w) A (tryCompare (.ref x) name b) (fun r s2 => ∃ v, r = some v ∧ Q v s2) E s := by
  unfold tryCompare
  refine wpAny_bind (ifBound_K X I hs hf (wpAny_mono h (fun v s2 hv => ?_) fun _ _ z => z))
  cases v <;> first | exact hv.elim | exact (wpAny_pure ⟨_, rfl, hv⟩)
/-- x o b, b of a built-in type -/
theorem cmL {op : CmpOp} {b : Value} {T : String} {Q : Value → Shared → Prop} (hu : A.units < cLine) (X : K.In s.heap) (I : InstAt s.heap x ox C od) (hb : s.TypeIs b T) (hsub : isSubtype (.type T) (.ref C) = pure false)
    (hs : findIn K (.ref C) (cmpInfo op).2.1 = some (some (.ref f))) (hf : isFn K (.ref f) = true)
    (h : wpAny (model prog w) A (call (.ref f) [.ref x, b]) (W.CmpBack Q) E s) : wpAny (model prog w) A (richCompare op (.ref x) b) Q E s := by
  have one := try_own X I hs hf h
  unfold richCompare
  simp only [oneThing_ref]
  refine wpAny_holding (wpAny_bind (wpAny_cRoomFor hu ?_))
  refine wpAny_bind (I.type.here (wpAny_bind (wpAny_typeOf hb ?_)))
  have ne : (Value.ref C != Value.type T) = true := by simp
  rw [if_pos ne]
  refine wpAny_bind (wpAny_of_eq hsub ?_)
  simp only [Bool.false_eq_true, if_false]
  refine wpAny_bind (wpAny_mono one (fun r s2 z => ?_) fun _ _ z => z)
  obtain ⟨v, rfl, hq⟩ := z
  exact (wpAny_pure hq)
/-- x o y of one class -/
theorem cmE {op : CmpOp} {y : Addr} {oy : Obj} {oe : Option Obj} {Q : Value → Shared → Prop} (hu : A.units < cLine) (X : K.In s.heap) (I : InstAt s.heap x ox C od) (J : InstAt s.heap y oy C oe)
    (hs : findIn K (.ref C) (cmpInfo op).2.1 = some (some (.ref f))) (hf : isFn K (.ref f) = true)
    (h : wpAny (model prog w) A (call (.ref f) [.ref x, .ref y]) (W.CmpBack Q) E s) : wpAny (model prog w) A (richCompare op (.ref x) (.ref y)) Q E s := by
  have one := try_own X I hs hf h
  unfold richCompare
  simp only [oneThing_ref]
  refine wpAny_holding (wpAny_bind (wpAny_cRoomFor hu ?_))
  refine wpAny_bind (I.type.here (wpAny_bind (J.type.here ?_)))
  have ne : (Value.ref C != Value.ref C) = false := by simp
  rw [if_neg (by rw [ne]; decide)]
  refine wpAny_bind (wpAny_pure ?_)
  simp only [Bool.false_eq_true, if_false]
  refine wpAny_bind (wpAny_mono one (fun r s2 z => ?_) fun _ _ z => z)
  obtain ⟨v, rfl, hq⟩ := z
  exact (wpAny_pure hq)
/-- v o x, v an int -/
theorem cmR {op : CmpOp} {i : Int} {t : Tok} {idl : String} {Q : Value → Shared → Prop} (hu : A.units < cLine) (X : K.In s.heap) (I : InstAt s.heap x ox C od) (hsub : subIn K (.ref C) (.type "int") = some false) (sl : Slot "int" (cmpInfo op).2.1 idl)
    (hN : ∀ Q : Value → Shared → Prop, Q .notImplemented s → wpAny (model prog w) A (call (.builtin idl) [.int i t, .ref x]) Q E s)
    (hs : findIn K (.ref C) (cmpInfo op).2.2 = some (some (.ref f))) (hf : isFn K (.ref f) = true)
    (h : wpAny (model prog w) A (call (.ref f) [.ref x, .int i t]) (W.CmpBack Q) E s) : wpAny (model prog w) A (richCompare op (.int i t) (.ref x)) Q E s := by
  have one := try_own X I hs hf h
  have hO : oneThing? op (.int i t) (.ref x) = none := by rfl
  unfold richCompare
  simp only [hO]
  refine wpAny_holding (wpAny_bind (wpAny_cRoomFor hu ?_))
  refine wpAny_bind (wpAny_of_eq (show typeOf (.int i t) = pure (.type "int") from rfl) (wpAny_bind (I.type.here ?_)))
  have ne : (Value.type "int" != Value.ref C) = true := by simp
  rw [if_pos ne]
  refine wpAny_bind ((looks_subIn X hsub).here ?_)
  simp only [Bool.false_eq_true, if_false, Bool.not_false, if_true]
  refine wpAny_bind (m := tryCompare (.int i t) _ (.ref x)) ?_
  unfold tryCompare
  refine wpAny_bind (wpAny_callSpecialIfBound?_slot (typeIs_int s i t) sl (hN _ ?_))
  refine (wpAny_pure ?_)
  refine wpAny_bind (wpAny_mono one (fun r s2 z => ?_) fun _ _ z => z)
  obtain ⟨v, rfl, hq⟩ := z
  exact (wpAny_pure hq)
theorem nc_lt {i : Int} {t : Tok} {dx : Addr} {Q : Value → Shared → Prop} (hx : s.heap.get? x = some (instObj C dx)) (h : Q .notImplemented s) : wpAny (model prog w) A (call (.builtin "int.__lt__") [.int i t, .ref x]) Q E s := by
  refine wpAny_call (codeAny_call_builtin F.slot_int_lt.plain F.entry_int_lt (F.slot_int_lt.check _ _ _ _ _ _ _ _ (typeIs_int s i t) (F.args_int_lt_2 _ _) ?_))
  unfold Builtin.«int.__lt__»
  refine (by (repeat (first | with_reducible refine wpAny_loadPart_at hx ?_ | with_reducible refine wpAny_load hx ?_ | wp_step)); exact h)
theorem nc_le {i : Int} {t : Tok} {dx : Addr} {Q : Value → Shared → Prop} (hx : s.heap.get? x = some (instObj C dx)) (h : Q .notImplemented s) : wpAny (model prog w) A (call (.builtin "int.__le__") [.int i t, .ref x]) Q E s := by
  refine wpAny_call (codeAny_call_builtin F.slot_int_le.plain F.entry_int_le (F.slot_int_le.check _ _ _ _ _ _ _ _ (typeIs_int s i t) (F.args_int_le_2 _ _) ?_))
  unfold Builtin.«int.__le__»
  refine (by (repeat (first | with_reducible refine wpAny_loadPart_at hx ?_ | with_reducible refine wpAny_load hx ?_ | wp_step)); exact h)
theorem nc_gt {i : Int} {t : Tok} {dx : Addr} {Q : Value → Shared → Prop} (hx : s.heap.get? x = some (instObj C dx)) (h : Q .notImplemented s) : wpAny (model prog w) A (call (.builtin "int.__gt__") [.int i t, .ref x]) Q E s := by
  refine wpAny_call (codeAny_call_builtin F.slot_int_gt.plain F.entry_int_gt (F.slot_int_gt.check _ _ _ _ _ _ _ _ (typeIs_int s i t) (F.args_int_gt_2 _ _) ?_))
  unfold Builtin.«int.__gt__»
  refine (by (repeat (first | with_reducible refine wpAny_loadPart_at hx ?_ | with_reducible refine wpAny_load hx ?_ | wp_step)); exact h)
theorem nc_ge {i : Int} {t : Tok} {dx : Addr} {Q : Value → Shared → Prop} (hx : s.heap.get? x = some (instObj C dx)) (h : Q .notImplemented s) : wpAny (model prog w) A (call (.builtin "int.__ge__") [.int i t, .ref x]) Q E s := by
  refine wpAny_call (codeAny_call_builtin F.slot_int_ge.plain F.entry_int_ge (F.slot_int_ge.check _ _ _ _ _ _ _ _ (typeIs_int s i t) (F.args_int_ge_2 _ _) ?_))
  unfold Builtin.«int.__ge__»
  refine (by (repeat (first | with_reducible refine wpAny_loadPart_at hx ?_ | with_reducible refine wpAny_load hx ?_ | wp_step)); exact h)
theorem nc_eq {i : Int} {t : Tok} {dx : Addr} {Q : Value → Shared → Prop} (hx : s.heap.get? x = some (instObj C dx)) (h : Q .notImplemented s) : wpAny (model prog w) A (call (.builtin "int.__eq__") [.int i t, .ref x]) Q E s := by
  refine wpAny_call (codeAny_call_builtin F.slot_int_eq.plain F.entry_int_eq (F.slot_int_eq.check _ _ _ _ _ _ _ _ (typeIs_int s i t) (F.args_int_eq_2 _ _) ?_))
  unfold Builtin.«int.__eq__»
  refine (by (repeat (first | with_reducible refine wpAny_loadPart_at hx ?_ | with_reducible refine wpAny_load hx ?_ | wp_step)); exact h)
end
end HXC
end PySem
namespace HX
open PySem PySem.Spec PyProof.Rows L2
/-- a class's methods of a comparison: f of o, g of its mirror -/
structure CmpO (K : PySem.W.Frag) (C : Addr) (op : CmpOp) (f g : Addr) (idl : String) : Prop where
  sub : PySem.W.subIn K (.ref C) (.type "int") = some false
  hs : PySem.W.findIn K (.ref C) (cmpInfo op).2.1 = some (some (.ref f))
  hr : PySem.W.findIn K (.ref C) (cmpInfo op).2.2 = some (some (.ref g))
  hf : PySem.W.isFn K (.ref f) = true
  hg : PySem.W.isFn K (.ref g) = true
  rich : ∀ a b, compareOp op a b = richCompare op a b
  sl : Slot "int" (cmpInfo op).2.1 idl
  ni : ∀ {prog : Program} {w : World} {A : Around} {E : Value → Shared → Prop} {s : Shared} {x C dx : Addr} {i : Int} {t : Tok} {Q : Value → Shared → Prop}, s.heap.get? x = some (PySem.W.instObj C dx) → Q .notImplemented s → wpAny (model prog w) A (call (.builtin idl) [.int i t, .ref x]) Q E s
theorem op_cm {X : Cx} {C f g : Addr} {op : CmpOp} {idl : String} {r0 : L2.R2} {ff fg : FuncData} {pf pg : List Str} {spF spG : Sp} {CY : CXT} {k : Nat} {E : XK} (h0 : OpR X (compareOp op) r0) (O : CmpO X.K C op f g idl)
    (Ff : FnOk X.prog X.w X.K X.mg X.base CY k f ff pf spF) (Fg : FnOk X.prog X.w X.K X.mg X.base CY k g fg pg spG) (bf : Binds X.K ff pf []) (bg : Binds X.K fg pg []) (hr : Room k X.A) (hx : Passes CY X E) : OpR X (compareOp op) (rOw C r0 spF spG E) := by
  intro pins s σ H x y v u Q I rx ry q
  have hu := hr.units0
  unfold rOw at q
  split at q
  · obtain ⟨i1, i2, q⟩ := q
    cases rx
    cases ry
    obtain ⟨dx, od, J, ho⟩ := inst_at I i1
    obtain ⟨dy, od2, J2, ho2⟩ := inst_at I i2
    rename_i a b
    have rv : Vals [V.ref a, V.ref b] [Value.ref a, Value.ref b] := .cons rfl (.cons rfl .nil)
    rw [O.rich]
    exact PySem.HXC.cmE hu I.kIn J J2 O.hs O.hf (wpAny_mono (run_fn Ff hr bf .nil hx I rv (by rw [List.append_nil]; exact q)) (fun u s2 h => ep_own h) fun _ _ z => z)
  · obtain ⟨i1, q⟩ := q
    cases rx
    obtain ⟨t, rfl⟩ := (show ∃ t, u = Value.int _ t from ry)
    obtain ⟨dx, od, J, ho⟩ := inst_at I i1
    rename_i a j
    have rv : Vals [V.ref a, V.int j] [Value.ref a, Value.int j t] := .cons rfl (.cons ⟨t, rfl⟩ .nil)
    rw [O.rich]
    exact PySem.HXC.cmL hu I.kIn J (typeIs_int s _ t) (PySem.HXO.int_not C) O.hs O.hf (wpAny_mono (run_fn Ff hr bf .nil hx I rv (by rw [List.append_nil]; exact q)) (fun u s2 h => ep_own h) fun _ _ z => z)
  · obtain ⟨i1, q⟩ := q
    cases ry
    obtain ⟨t, rfl⟩ := (show ∃ t, v = Value.int _ t from rx)
    obtain ⟨dx, od, J, ho⟩ := inst_at I i1
    rename_i j a
    have rv : Vals [V.ref a, V.int j] [Value.ref a, Value.int j t] := .cons rfl (.cons ⟨t, rfl⟩ .nil)
    rw [O.rich]
    exact PySem.HXC.cmR hu I.kIn J O.sub O.sl (fun Q z => O.ni ho z) O.hr O.hg (wpAny_mono (run_fn Fg hr bg .nil hx I rv (by rw [List.append_nil]; exact q)) (fun u s2 h => ep_own h) fun _ _ z => z)
  · exact h0 pins s σ H _ _ v u Q I rx ry q
  · exact q.elim
theorem cmpO_lt {K : PySem.W.Frag} {C f g : Addr} (sub : PySem.W.subIn K (.ref C) (.type "int") = some false) (hs : PySem.W.findIn K (.ref C) "__lt__" = some (some (.ref f))) (hr : PySem.W.findIn K (.ref C) "__gt__" = some (some (.ref g))) (hf : PySem.W.isFn K (.ref f) = true) (hg : PySem.W.isFn K (.ref g) = true) : CmpO K C .Lt f g "int.__lt__" := ⟨sub, hs, hr, hf, hg, fun _ _ => rfl, F.slot_int_lt, PySem.HXC.nc_lt⟩
theorem cmpO_le {K : PySem.W.Frag} {C f g : Addr} (sub : PySem.W.subIn K (.ref C) (.type "int") = some false) (hs : PySem.W.findIn K (.ref C) "__le__" = some (some (.ref f))) (hr : PySem.W.findIn K (.ref C) "__ge__" = some (some (.ref g))) (hf : PySem.W.isFn K (.ref f) = true) (hg : PySem.W.isFn K (.ref g) = true) : CmpO K C .LtE f g "int.__le__" := ⟨sub, hs, hr, hf, hg, fun _ _ => rfl, F.slot_int_le, PySem.HXC.nc_le⟩
theorem cmpO_gt {K : PySem.W.Frag} {C f g : Addr} (sub : PySem.W.subIn K (.ref C) (.type "int") = some false) (hs : PySem.W.findIn K (.ref C) "__gt__" = some (some (.ref f))) (hr : PySem.W.findIn K (.ref C) "__lt__" = some (some (.ref g))) (hf : PySem.W.isFn K (.ref f) = true) (hg : PySem.W.isFn K (.ref g) = true) : CmpO K C .Gt f g "int.__gt__" := ⟨sub, hs, hr, hf, hg, fun _ _ => rfl, F.slot_int_gt, PySem.HXC.nc_gt⟩
theorem cmpO_ge {K : PySem.W.Frag} {C f g : Addr} (sub : PySem.W.subIn K (.ref C) (.type "int") = some false) (hs : PySem.W.findIn K (.ref C) "__ge__" = some (some (.ref f))) (hr : PySem.W.findIn K (.ref C) "__le__" = some (some (.ref g))) (hf : PySem.W.isFn K (.ref f) = true) (hg : PySem.W.isFn K (.ref g) = true) : CmpO K C .GtE f g "int.__ge__" := ⟨sub, hs, hr, hf, hg, fun _ _ => rfl, F.slot_int_ge, PySem.HXC.nc_ge⟩
theorem cmpO_eq {K : PySem.W.Frag} {C f : Addr} (sub : PySem.W.subIn K (.ref C) (.type "int") = some false) (hs : PySem.W.findIn K (.ref C) "__eq__" = some (some (.ref f))) (hf : PySem.W.isFn K (.ref f) = true) : CmpO K C .Eq f f "int.__eq__" := ⟨sub, hs, hs, hf, hf, fun _ _ => rfl, F.slot_int_eq, PySem.HXC.nc_eq⟩
end HX

set_option Elab.async false
set_option linter.all false
set_option maxRecDepth 100000
set_option maxHeartbeats 2000000
/-! ### != of own instances without a method of their own for it, their text, their truth -/
namespace PySem
namespace HXN
open W Builtin PyProof.Rows
section
variable {prog : Program} {w : World} {A : Around} {E : Value → Shared → Prop} {s : Shared} {K : Frag} {x C f : Addr} {ox : Obj} {od : Option Obj}
theorem bound_ne {M : Model} {args : List Value} {Q : Option Value → Shared → Prop} (X : K.In s.heap) (I : InstAt s.heap x ox C od) (hn : findIn K (.ref C) "__ne__" = some (some (.builtin "object.__ne__")))
    (z : wpAny M A (call (.builtin "object.__ne__") (.ref x :: args)) (fun v => Q (some v)) E s) : wpAny M A (callSpecialIfBound? (.ref x) "__ne__" args) Q E s := by
  simp only [callSpecialIfBound?, bindSpecialIfBound?]
  refine wpAny_holding (wpAny_bind (wpAny_bind (wpAny_bind (I.type.here ((looks_findIn X hn).here ?_)))))
  refine wpAny_bind (wpAny_askSetting (wpAny_ite ?_))
  have after : wpAny M A (call (.builtin "object.__ne__") ([.ref x] ++ args) >>= fun v => pure (some v)) Q E s := wpAny_bind (wpAny_mono z (fun v s1 q => wpAny_pure q) fun _ _ q => q)
  split
  · exact wpAny_bind (wpAny_of_eq (PySem.F.cmp_object.ne.bind _) (wpAny_pure (by exact after)))
  · exact wpAny_tryCatch (wpAny_bind (wpAny_of_eq (PySem.F.cmp_object.ne.bind _) (wpAny_pure (by exact after))))
theorem ne_does {b : Value} {Q : Fin → Shared → Prop} (hu : A.units < cLine) (X : K.In s.heap) (I : InstAt s.heap x ox C od) (hs : findIn K (.ref C) "__eq__" = some (some (.ref f))) (hf : isFn K (.ref f) = true)
    (z : wpAny (model prog w) A (call (.ref f) [.ref x, b]) (fun v s1 => ∃ c, v = .bool c ∧ Q (.done (.ret (.bool (!c)))) s1) E s) : wpAny (model prog w) A (Builtin.«object.__ne__» ⟨[.ref x, b], []⟩) Q E s := by
  unfold Builtin.«object.__ne__»
  repeat (first
    | with_reducible refine wpAny_cRoomFor hu ?_
    | (refine wpAny_bind (m := callSpecialIfBound? (.ref x) (Str.ofString "__eq__") [b]) (ifBound_K X I hs hf (wpAny_mono z (fun r s1 q => by
          obtain ⟨c, rfl, q⟩ := q
          repeat (first | exact q | exact wpAny_pure q | exact wpAny_truthy_bool q | (refine wpAny_bind (m := truthy (.bool _)) (wpAny_truthy_bool ?_)) | wp_step)) fun _ _ q => q)))
    | wp_step)
theorem try_ne {b : Value} {Q : Value → Shared → Prop} (hu : A.in1.units < cLine) (X : K.In s.heap) (I : InstAt s.heap x ox C od) (hm : mroIn K C (.type "object") = some true) (hn : findIn K (.ref C) "__ne__" = some (some (.builtin "object.__ne__")))
    (hs : findIn K (.ref C) "__eq__" = some (some (.ref f))) (hf : isFn K (.ref f) = true)
    (z : wpAny (model prog w) A.in1 (call (.ref f) [.ref x, b]) (fun v s1 => ∃ c, v = .bool c ∧ Q (.bool (!c)) s1) E s) : wpAny (model prog w) A (tryCompare (.ref x) "__ne__" b) (fun r s1 => ∃ v, r = some v ∧ Q v s1) E s := by
  unfold tryCompare
  refine wpAny_bind (bound_ne X I hn (wpAny_call (codeAny_call_builtin PySem.F.cmp_object.ne.plain PySem.F.cmpEntry_ne (check_slot PySem.F.cmpKind_ne PySem.F.cmpSplit_ne (I.type.andThen (looks_mroIn X hm)) (PySem.F.cmpArgs_ne _ _)
    (ne_does (A := A.in1) hu X I hs hf (wpAny_mono z (fun v s1 q => ?_) fun _ _ q => q))))))
  obtain ⟨c, rfl, q⟩ := q
  exact ⟨c, rfl, wpAny_pure ⟨_, rfl, q⟩⟩
/-- x o b, by what the first method says -/
theorem oL {op : CmpOp} {b : Value} {T : String} {Q : Value → Shared → Prop} (hu : A.units < cLine) (I : InstAt s.heap x ox C od) (hb : s.TypeIs b T) (hsub : isSubtype (.type T) (.ref C) = pure false)
    (one : wpAny (model prog w) A (tryCompare (.ref x) (cmpInfo op).2.1 b) (fun r s2 => ∃ v, r = some v ∧ Q v s2) E s) : wpAny (model prog w) A (richCompare op (.ref x) b) Q E s := by
  unfold richCompare
  simp only [oneThing_ref]
  refine wpAny_holding (wpAny_bind (wpAny_cRoomFor hu ?_))
  refine wpAny_bind (I.type.here (wpAny_bind (wpAny_typeOf hb ?_)))
  have ne : (Value.ref C != Value.type T) = true := by simp
  rw [if_pos ne]
  refine wpAny_bind (wpAny_of_eq hsub ?_)
  simp only [Bool.false_eq_true, if_false]
  refine wpAny_bind (wpAny_mono one (fun r s2 z => ?_) fun _ _ z => z)
  obtain ⟨v, rfl, hq⟩ := z
  exact (wpAny_pure hq)
theorem oE {op : CmpOp} {y : Addr} {oy : Obj} {oe : Option Obj} {Q : Value → Shared → Prop} (hu : A.units < cLine) (I : InstAt s.heap x ox C od) (J : InstAt s.heap y oy C oe)
    (one : wpAny (model prog w) A (tryCompare (.ref x) (cmpInfo op).2.1 (.ref y)) (fun r s2 => ∃ v, r = some v ∧ Q v s2) E s) : wpAny (model prog w) A (richCompare op (.ref x) (.ref y)) Q E s := by
  unfold richCompare
  simp only [oneThing_ref]
  refine wpAny_holding (wpAny_bind (wpAny_cRoomFor hu ?_))
  refine wpAny_bind (I.type.here (wpAny_bind (J.type.here ?_)))
  have ne : (Value.ref C != Value.ref C) = false := by simp
  rw [if_neg (by rw [ne]; decide)]
  refine wpAny_bind (wpAny_pure ?_)
  simp only [Bool.false_eq_true, if_false]
  refine wpAny_bind (wpAny_mono one (fun r s2 z => ?_) fun _ _ z => z)
  obtain ⟨v, rfl, hq⟩ := z
  exact (wpAny_pure hq)
theorem oR {op : CmpOp} {i : Int} {t : Tok} {idl : String} {Q : Value → Shared → Prop} (hu : A.units < cLine) (X : K.In s.heap) (I : InstAt s.heap x ox C od) (hsub : subIn K (.ref C) (.type "int") = some false) (sl : Slot "int" (cmpInfo op).2.1 idl)
    (hN : ∀ Q : Value → Shared → Prop, Q .notImplemented s → wpAny (model prog w) A (call (.builtin idl) [.int i t, .ref x]) Q E s)
    (one : wpAny (model prog w) A (tryCompare (.ref x) (cmpInfo op).2.2 (.int i t)) (fun r s2 => ∃ v, r = some v ∧ Q v s2) E s) : wpAny (model prog w) A (richCompare op (.int i t) (.ref x)) Q E s := by
  have hO : oneThing? op (.int i t) (.ref x) = none := by rfl
  unfold richCompare
  simp only [hO]
  refine wpAny_holding (wpAny_bind (wpAny_cRoomFor hu ?_))
  refine wpAny_bind (wpAny_of_eq (show typeOf (.int i t) = pure (.type "int") from rfl) (wpAny_bind (I.type.here ?_)))
  have ne : (Value.type "int" != Value.ref C) = true := by simp
  rw [if_pos ne]
  refine wpAny_bind ((looks_subIn X hsub).here ?_)
  simp only [Bool.false_eq_true, if_false, Bool.not_false, if_true]
  refine wpAny_bind (m := tryCompare (.int i t) _ (.ref x)) ?_
  unfold tryCompare
  refine wpAny_bind (wpAny_callSpecialIfBound?_slot (typeIs_int s i t) sl (hN _ ?_))
  refine (wpAny_pure ?_)
  refine wpAny_bind (wpAny_mono one (fun r s2 z => ?_) fun _ _ z => z)
  obtain ⟨v, rfl, hq⟩ := z
  exact (wpAny_pure hq)
theorem nc_ne {i : Int} {t : Tok} {dx : Addr} {Q : Value → Shared → Prop} (hx : s.heap.get? x = some (instObj C dx)) (h : Q .notImplemented s) : wpAny (model prog w) A (call (.builtin "int.__ne__") [.int i t, .ref x]) Q E s := by
  refine wpAny_call (codeAny_call_builtin F.slot_int_ne.plain F.entry_int_ne (F.slot_int_ne.check _ _ _ _ _ _ _ _ (typeIs_int s i t) (F.args_int_ne_2 _ _) ?_))
  unfold Builtin.«int.__ne__»
  refine (by (repeat (first | with_reducible refine wpAny_loadPart_at hx ?_ | with_reducible refine wpAny_load hx ?_ | wp_step)); exact h)
/-- bool(x) -/
theorem truth_own {M : Model} {Q : Bool → Shared → Prop} (X : K.In s.heap) (I : InstAt s.heap x ox C od) (hs : findIn K (.ref C) "__bool__" = some (some (.ref f))) (hf : isFn K (.ref f) = true)
    (z : wpAny M A (call (.ref f) [.ref x]) (W.BoolBack Q) E s) : wpAny M A (truthy (.ref x)) Q E s := by
  unfold truthy
  refine wpAny_bind (m := callSpecial? (.ref x) (Str.ofString "__bool__")) (special_fn X I hs (beq_iff_eq.mp hf) (wpAny_mono z (fun r s1 q => ?_) fun _ _ q => q))
  cases r <;> first | exact q.elim | skip
  exact wpAny_pure q
theorem bool_own {Q : Value → Shared → Prop} (X : K.In s.heap) (I : InstAt s.heap x ox C od) (hs : findIn K (.ref C) "__bool__" = some (some (.ref f))) (hf : isFn K (.ref f) = true)
    (z : wpAny (model prog w) A.in1.in1 (call (.ref f) [.ref x]) (W.BoolBack fun c s1 => Q (.bool c) s1) E s) : wpAny (model prog w) A (call (.type "bool") [.ref x]) Q E s := by
  refine callType_codes (T := "bool") (Bi := Builtin.«object.__init__») (Q₁ := fun r s₁ => ∃ c, r = .bool c ∧ Q r s₁) PySem.F.called_bool (PySem.F.typeCall_bool_1 _) PySem.F.entry_object_init ?_ ?_
  · refine codeAny_of_tree ?_
    show wpAny _ A.in1.in1 (do checkBuiltinCall "bool.__new__" ⟨[.type "bool", .ref x], []⟩; again (.builtin "bool.__new__" ⟨[.type "bool", .ref x], []⟩)) _ _ s
    refine wpAny_bind (wpAny_of_eq (PySem.F.newCall_bool_1 _) (wpAny_pure ⟨plainId_quiet (by decide +kernel) _, codeAny_builtin PySem.F.entry_bool_new ?_⟩))
    rw [Around.under_plainId (by decide +kernel) _]
    have f1 := PySem.F.conv_sub_bool
    have z2 := truth_own (Q := fun c s1 => Q (.bool c) s1) X I hs hf z
    repeat (any_goals (first | assumption | (refine wpAny_bind (m := truthy (.ref x)) (wpAny_mono z2 (fun c s1 q => ?_) fun _ _ q => q)) | wp_step))
    all_goals first | exact ⟨_, rfl, q⟩ | exact ⟨_, rfl, ‹_›⟩ | skip
  · rintro obj s₁ ⟨c, rfl, hq⟩
    exact ⟨rfl, PySem.F.args_object_init_2 _ _, object_init_meets PySem.F.called_bool.init.lookup PySem.F.called_bool.made (by decide) prog w A.in1 _ s₁ ⟨rfl, rfl, hq⟩⟩
end
end HXN
end PySem
namespace HX
open PySem PySem.Spec PyProof.Rows L2
section
variable {X : Cx} {C f : Addr} {fd : FuncData} {ps : List Str} {sp : Sp} {CY : CXT} {k : Nat} {E : XK}
/-- a def called from within a built-in of the model -/
theorem run_at {A' : Around} {pins : List (Addr × Obj)} {σ : L2.St} {H : Hp} {s : Shared} {Q : VK} {us : List Value} {vs : List V} (Fi : FnOk X.prog X.w X.K X.mg X.base CY k f fd ps sp) (b : Binds X.K fd ps []) (hr : Room k A') (e0 : Env0 X.prog X.w X.K X.mg X.base A' X.stack s H)
    (hx : Passes CY X E) (I : Inv X pins σ H s) (r : Vals vs us) (h : sp vs H Q E) : wpAny (model X.prog X.w) A' (call (.ref f) us) (EP X pins σ Q) X.xe s := by
  have hl : (us ++ []).length = ps.length := by
    rw [List.append_nil, ← r.length]
    exact Fi.len _ _ _ _ h
  have bd := b s us I.kIn hl
  rw [List.append_nil] at bd
  refine wpAny_call (codeAny_mono (Fi.run A' X.stack s H ⟨us, []⟩ us vs Q E hr e0 bd r h) fun z s' hq => ?_)
  match z, hq with
  | .error e, hq => exact hx pins σ H s e s' I hq
  | .ok (.ret u), hq => exact I.after hq
  | .ok .next, hq => exact False.elim hq
  | .ok .brk, hq => exact False.elim hq
  | .ok .cont, hq => exact False.elim hq
/-- x != y of own instances and ints, by == -/
structure RNw (C : Addr) (r0 : L2.R2) (sp : Sp) (E : XK) (x y : V) (H : Hp) (Q : VK) : Prop where
  go : rOw C (fun x y H _ => r0 x y H Q) sp sp E x y H fun v G => ∃ c, v = .bl c ∧ Q (.bl (!c)) G
def rNw (C : Addr) (r0 : L2.R2) (sp : Sp) (E : XK) : L2.R2 := fun x y H Q => RNw C r0 sp E x y H Q
theorem ep_not {pins : List (Addr × Obj)} {σ : L2.St} {Q : VK} {u : Value} {s' : Shared} (h : EP X pins σ (fun v G => ∃ c, v = .bl c ∧ Q (.bl (!c)) G) u s') : ∃ c, u = .bool c ∧ EP X pins σ Q (.bool (!c)) s' := by
  obtain ⟨v, G, J, r, c, rfl, q⟩ := h
  exact ⟨c, r, .bl (!c), G, J, rfl, q⟩
theorem op_new {r0 : L2.R2} (h0 : OpR X (compareOp .NotEq) r0) (hsub : PySem.W.subIn X.K (.ref C) (.type "int") = some false) (hm : PySem.W.mroIn X.K C (.type "object") = some true) (hn : PySem.W.findIn X.K (.ref C) "__ne__" = some (some (.builtin "object.__ne__")))
    (hs : PySem.W.findIn X.K (.ref C) "__eq__" = some (some (.ref f))) (hf : PySem.W.isFn X.K (.ref f) = true) (Fi : FnOk X.prog X.w X.K X.mg X.base CY k f fd ps sp) (b : Binds X.K fd ps []) (hr : Room (k + 1) X.A) (hx : Passes CY X E) : OpR X (compareOp .NotEq) (rNw C r0 sp E) := by
  intro pins s σ H x y v u Q I rx ry q
  have hu := hr.units0
  have hu1 := (hr.in1).units0
  have rich : ∀ a b, compareOp .NotEq a b = richCompare .NotEq a b := fun _ _ => rfl
  replace q := q.go
  unfold rOw at q
  split at q
  · obtain ⟨i1, i2, q⟩ := q
    cases rx
    cases ry
    obtain ⟨dx, od, J, ho⟩ := inst_at I i1
    obtain ⟨dy, od2, J2, ho2⟩ := inst_at I i2
    rename_i a b'
    have rv : Vals [V.ref a, V.ref b'] [Value.ref a, Value.ref b'] := .cons rfl (.cons rfl .nil)
    rw [rich]
    exact PySem.HXN.oE hu J J2 (PySem.HXN.try_ne hu1 I.kIn J hm hn hs hf (wpAny_mono (run_at Fi b hr.in1 I.env0.in1 hx I rv q) (fun u s2 h => ep_not h) fun _ _ z => z))
  · obtain ⟨i1, q⟩ := q
    cases rx
    obtain ⟨t, rfl⟩ := (show ∃ t, u = Value.int _ t from ry)
    obtain ⟨dx, od, J, ho⟩ := inst_at I i1
    rename_i a j
    have rv : Vals [V.ref a, V.int j] [Value.ref a, Value.int j t] := .cons rfl (.cons ⟨t, rfl⟩ .nil)
    rw [rich]
    exact PySem.HXN.oL hu J (typeIs_int s _ t) (PySem.HXO.int_not C) (PySem.HXN.try_ne hu1 I.kIn J hm hn hs hf (wpAny_mono (run_at Fi b hr.in1 I.env0.in1 hx I rv q) (fun u s2 h => ep_not h) fun _ _ z => z))
  · obtain ⟨i1, q⟩ := q
    cases ry
    obtain ⟨t, rfl⟩ := (show ∃ t, v = Value.int _ t from rx)
    obtain ⟨dx, od, J, ho⟩ := inst_at I i1
    rename_i j a
    have rv : Vals [V.ref a, V.int j] [Value.ref a, Value.int j t] := .cons rfl (.cons ⟨t, rfl⟩ .nil)
    rw [rich]
    exact PySem.HXN.oR hu I.kIn J hsub PySem.F.slot_int_ne (fun Q z => PySem.HXN.nc_ne ho z) (PySem.HXN.try_ne hu1 I.kIn J hm hn hs hf (wpAny_mono (run_at Fi b hr.in1 I.env0.in1 hx I rv q) (fun u s2 h => ep_not h) fun _ _ z => z))
  · exact h0 pins s σ H _ _ v u Q I rx ry q
  · exact q.elim
/-- the type of a plain value in the model's words -/
theorem typeIs_of {K : PySem.W.Frag} {pins : List (Addr × Obj)} {σ : L2.St} {H : Hp} {s : Shared} {y : V} {v : Value} {T : String} (I : Inv X pins σ H s) (r : RelV y v) (ty : TyOf K H y (.type T)) : s.TypeIs v T := by
  cases ty with
  | non => cases (show v = Value.none from r); exact rfl
  | bl b => cases (show v = Value.bool b from r); exact rfl
  | int i => obtain ⟨t, rfl⟩ := (show ∃ t, v = Value.int i t from r); exact typeIs_int s i t
  | str z => obtain ⟨t, rfl⟩ := (show ∃ t, v = Value.str z t from r); exact typeIs_str s z t
  | flt z => obtain ⟨t, rfl⟩ := (show ∃ t, v = Value.float z t from r); exact rfl
  | @lst a xs e =>
    cases (show v = Value.ref a from r)
    obtain ⟨_, _, n, _, h1⟩ := (show ObjOk X.prog X.w H s.heap a (.lst xs) from I.hok a _ e)
    exact ⟨_, h1, rfl⟩
  | @frz a ob xs e =>
    cases (show v = Value.ref a from r)
    obtain ⟨_, _, _, n, _, h1⟩ := (show ObjOk X.prog X.w H s.heap a (.frz ob (.lst xs)) from I.hok a _ e)
    exact ⟨_, h1, rfl⟩
  | @tup a xs e =>
    cases (show v = Value.ref a from r)
    obtain ⟨_, _, _, p⟩ := (show ObjOk X.prog X.w H s.heap a (.tup xs) from I.hok a _ e)
    obtain ⟨o, h1, h2, _⟩ := p
    exact ⟨o, h1, h2⟩
  | @dK a kvs e =>
    cases (show v = Value.ref a from r)
    obtain ⟨_, _, vs, _, p⟩ := (show ObjOk X.prog X.w H s.heap a (.dK kvs) from I.hok a _ e)
    obtain ⟨o, es, ep, h1, h2, _⟩ := p
    exact ⟨o, h1, h2.1⟩
  | @dT a kvs e =>
    cases (show v = Value.ref a from r)
    obtain ⟨_, _, xs, _, o, es, ep, h1, h2, _⟩ := (show ObjOk X.prog X.w H s.heap a (.dT kvs) from I.hok a _ e)
    exact ⟨o, h1, h2.1⟩
/-- x == y, y a plain value -/
def rEqO (K : PySem.W.Frag) (C : Addr) (sp : Sp) (E : XK) : L2.R2 := fun x y H Q => ∃ (a : Addr) (T : String), x = .ref a ∧ IsI C H a ∧ TyOf K H y (.type T) ∧ isSubtype (.type T) (.ref C) = pure false ∧ sp [.ref a, y] H Q E
theorem op_eqO (hs : PySem.W.findIn X.K (.ref C) "__eq__" = some (some (.ref f))) (hf : PySem.W.isFn X.K (.ref f) = true) (Fi : FnOk X.prog X.w X.K X.mg X.base CY k f fd ps sp) (b : Binds X.K fd ps []) (hr : Room k X.A) (hx : Passes CY X E) :
    OpR X (compareOp .Eq) (rEqO X.K C sp E) := by
  intro pins s σ H x y v u Q I rx ry q
  obtain ⟨a, T, rfl, i1, ty, hT, q⟩ := q
  cases rx
  obtain ⟨dx, od, J, ho⟩ := inst_at I i1
  rw [show compareOp .Eq (Value.ref a) u = richCompare .Eq (Value.ref a) u from rfl]
  exact PySem.HXC.cmL hr.units0 I.kIn J (typeIs_of I ry ty) hT hs hf (wpAny_mono (run_fn Fi hr b .nil hx I (show Vals [V.ref a, y] [Value.ref a, u] from .cons rfl (.cons ry .nil)) (by rw [List.append_nil]; exact q)) (fun u s2 h => ep_own h) fun _ _ z => z)
/-- str(x) of an own instance, an int -/
def rStrO (C : Addr) (sp : Sp) (E : XK) : List V → Hp → VK → Prop := fun xs H Q => match xs with
  | [.ref a] => IsI C H a ∧ sp [.ref a] H (fun v G => ∃ z, v = .str z ∧ Q v G) E
  | [.int i] => i.natAbs.log2 < 1920 ∧ Q (.str (toString i)) H
  | _ => False
theorem call_strO (hs : PySem.W.findIn X.K (.ref C) "__str__" = some (some (.ref f))) (hf : PySem.W.isFn X.K (.ref f) = true) (Fi : FnOk X.prog X.w X.K X.mg X.base CY k f fd ps sp) (b : Binds X.K fd ps []) (hr : Room (k + 2) X.A) (hx : Passes CY X E) :
    CallR X (.type "str") (rStrO C sp E) := by
  intro pins s σ H xs us Q I r q
  unfold rStrO at q
  split at q
  · obtain ⟨i1, q⟩ := q
    obtain ⟨u, rfl, ru⟩ := vals1 r
    cases ru
    obtain ⟨dx, od, J, ho⟩ := inst_at I i1
    rename_i a
    refine PySem.W.kso_call hr.in1.in1.units0 I.kIn J hs hf (wpAny_mono (run_at Fi b hr.in1.in1 I.env0.in1.in1 hx I (show Vals [V.ref a] [Value.ref a] from .cons rfl .nil) q) (fun u s2 h => ?_) fun _ _ z => z)
    obtain ⟨v, G, J2, rv, z, rfl, qz⟩ := h
    obtain ⟨t, rfl⟩ := (show ∃ t, u = Value.str z t from rv)
    exact ⟨.str z, G, J2, ⟨t, rfl⟩, qz⟩
  · exact call_str_int pins s σ H _ us Q I r ⟨_, rfl, q.1, q.2⟩
  · exact q.elim
/-- bool(x) of an own instance -/
def rBoolO (C : Addr) (sp : Sp) (E : XK) : List V → Hp → VK → Prop := fun xs H Q => ∃ a, xs = [.ref a] ∧ IsI C H a ∧ sp [.ref a] H (fun v G => ∃ c, v = .bl c ∧ Q v G) E
theorem call_boolO (hs : PySem.W.findIn X.K (.ref C) "__bool__" = some (some (.ref f))) (hf : PySem.W.isFn X.K (.ref f) = true) (Fi : FnOk X.prog X.w X.K X.mg X.base CY k f fd ps sp) (b : Binds X.K fd ps []) (hr : Room (k + 2) X.A) (hx : Passes CY X E) :
    CallR X (.type "bool") (rBoolO C sp E) := by
  intro pins s σ H xs us Q I r q
  obtain ⟨a, rfl, i1, q⟩ := q
  obtain ⟨u, rfl, ru⟩ := vals1 r
  cases ru
  obtain ⟨dx, od, J, ho⟩ := inst_at I i1
  refine PySem.HXN.bool_own I.kIn J hs hf (wpAny_mono (run_at Fi b hr.in1.in1 I.env0.in1.in1 hx I (show Vals [V.ref a] [Value.ref a] from .cons rfl .nil) q) (fun u s2 h => ?_) fun _ _ z => z)
  obtain ⟨v, G, J2, rv, c, rfl, qz⟩ := h
  cases (show u = Value.bool c from rv)
  exact ⟨.bl c, G, J2, rfl, qz⟩
/-- not x of an own instance -/
def rNotO (C : Addr) (sp : Sp) (E : XK) (te : TE) : TE := fun σ H Q => te σ H fun x G => ∃ a, x = .ref a ∧ IsI C G a ∧ sp [.ref a] G (fun v G2 => ∃ c, v = .bl c ∧ Q (.bl (!c)) G2) E
theorem e_notO {e : Expr} {ta : TE} {pos : Pos} (hs : PySem.W.findIn X.K (.ref C) "__bool__" = some (some (.ref f))) (hf : PySem.W.isFn X.K (.ref f) = true) (Fi : FnOk X.prog X.w X.K X.mg X.base CY k f fd ps sp) (b : Binds X.K fd ps []) (hr : Room k X.A) (hx : Passes CY X E) (ha : PE X e ta) :
    PE X (.UnaryOp .Not e pos) (rNotO C sp E ta) := by
  refine ⟨fun pins s σ H Q I h => UnaryOp_ (thn (ha.run pins s σ H _ I h) fun v s1 ⟨x, G, I1, r1, a, ex, i1, z⟩ => ?_)⟩
  subst ex
  cases r1
  obtain ⟨dx, od, J, ho⟩ := inst_at I1 i1
  refine not_of (PySem.HXN.truth_own I1.kIn J hs hf (wpAny_mono (run_fn Fi hr b .nil hx I1 (show Vals [V.ref a] [Value.ref a] from .cons rfl .nil) (by rw [List.append_nil]; exact z)) (fun u s2 h => ?_) fun _ _ z => z))
  obtain ⟨v, G2, J2, rv, c, rfl, qz⟩ := h
  cases (show u = Value.bool c from rv)
  exact ⟨.bl (!c), G2, J2, rfl, qz⟩
end
/-- the built-in types are below no own class -/
theorem sub_non (C : Addr) : isSubtype (.type "NoneType") (.ref C) = pure false := by rfl
theorem sub_bl (C : Addr) : isSubtype (.type "bool") (.ref C) = pure false := by rfl
theorem sub_str (C : Addr) : isSubtype (.type "str") (.ref C) = pure false := by rfl
theorem sub_lst (C : Addr) : isSubtype (.type "list") (.ref C) = pure false := by rfl
theorem sub_tup (C : Addr) : isSubtype (.type "tuple") (.ref C) = pure false := by rfl
theorem sub_dic (C : Addr) : isSubtype (.type "dict") (.ref C) = pure false := by rfl
end HX

set_option Elab.async false
set_option linter.all false
set_option maxRecDepth 100000
set_option maxHeartbeats 4000000
namespace HX
open PySem PySem.Spec PyProof.Rows L2
section
variable {X : Cx}
/-- C() is raised, C an own class of errors without an own __init__ -/
theorem pmk_c0 {C : Addr} {bmB : List Value} {B newId initId : String} {x : Str} {p pos : Pos} (Fx : ExcBaseFacts B newId initId bmB) (q : PySem.W.excIn X.K C bmB newId = true) (gC : X.mg x = some (.ref C)) (kC : PySem.W.keepIn X.K (.ref C) = true) (r : Raises X (.ref C)) (hg : Gl X x)
    (hdb : (x == ("__debug__" : Str)) = false := by decide) : PMk X (.Call (.Name x p) [] [] pos) (fun _ H Q => Q (.ref C) none H) := fun pins s σ H Q I h => by
  refine wpAny_Call_Name_kw (ld_glob I hg gC ?_ hdb)
  refine PySem.W.callWith_KW0 (h₀ := X.base) I.ok.mod.kin kC rfl ?_ rfl
  refine PyProof.Rows.kwAll_nil ⟨I.kIn, ?_⟩
  show wpAny _ _ (call (.ref C) []) _ _ _
  obtain ⟨bm, N, nm, qn, bs, hdct, sn, sub, ab, col, dd, k0, k1, k2, k3, k5, mN, hC, hN, hni, T⟩ := exc_obj I.kIn q
  refine wpAny_call_exc_subT Fx T hC hN hni (fun h' a hm => ?_) (Nat.zero_le _)
  exact mk_of I hm r h (I.hok.gone hm.new)
end
/-- all but the pen's list and the tables of code stays -/
def Kt (p : Addr) (H G : Hp) : Prop := ∀ b o, b ≠ p → H b = some o → (∀ ps, o ≠ .tbl ps) → G b = some o
theorem Kt.refl {p : Addr} {H : Hp} : Kt p H H := fun _ _ _ e _ => e
theorem Kt.trans {p : Addr} {H G J : Hp} (a : Kt p H G) (b : Kt p G J) : Kt p H J := fun c o n e t => b c o n (a c o n e t) t
theorem Kt.kp {p : Addr} {H G : Hp} (k : Kp p H G) : Kt p H G := fun c o n e _ => k c o n e
theorem Kt.same {p : Addr} {H G : Hp} (k : Same H G) : Kt p H G := fun c o _ e _ => k c o e
theorem Kt.extN {p : Addr} {H G : Hp} (k : LamX.ExtN H G) : Kt p H G := fun c o _ e t => k c o e t
theorem Pe.extN {H G : Hp} {p l : Addr} {c : Int} (P : Pe H p l c) (k : LamX.ExtN H G) : Pe G p l c :=
  let ⟨ns, c0, g, q, e⟩ := P
  ⟨ns, c0, g, ⟨k _ _ q.at_ (fun _ z => by cases z), k _ _ q.cel (fun _ z => by cases z), q.ne, q.c0, q.g0⟩, e⟩
theorem Tabs.kp {T : List (Addr × Str)} {H G : Hp} {p : Addr} {o : HO} (t : LamX.Tabs T H) (hp : H p = some o) (nt : ∀ ps, o ≠ .tbl ps) (nc : ∀ q, o ≠ LamX.CodeO p q) (k : Kp p H G) : LamX.Tabs T G := fun x hx => by
  obtain ⟨ps, h1, h2, h3⟩ := t x hx
  refine ⟨ps, k _ _ (fun z => by rw [z, hp] at h1; exact nt _ (Option.some.inj h1)) h1, h2, fun pos cv hc => ?_⟩
  obtain ⟨c, e1, e2⟩ := h3 pos cv hc
  exact ⟨c, e1, k _ _ (fun z => by rw [z] at e2; rw [hp] at e2; exact nc _ (Option.some.inj e2)) e2⟩
end HX

set_option Elab.async false
set_option linter.all false
set_option maxRecDepth 100000
set_option maxHeartbeats 4000000
namespace HX
open PySem PySem.Spec PyProof.Rows L2
section
variable {X : Cx}
/-- errors are caught in a state of the def's own length -/
theorem takes_len {W : WX} (t : Takes X W) : Takes X (fun c d σ H => σ.length = X.N.length → W c d σ H) := fun u s' h => by
  obtain ⟨a, B, sI, pins, σ, H, cls, d, e, I, r1, r2, r3, r4, r5, r6, w⟩ := h
  exact t u s' ⟨a, B, sI, pins, σ, H, cls, d, e, I, r1, r2, r3, r4, r5, r6, w I.len⟩
/-- isinstance(e, (A, B, ..)) of a kept error -/
def rIsXT (K : PySem.W.Frag) : List V → Hp → VK → Prop := fun xs H Q => ∃ (a D tp : Addr) (d : Option Addr) (cs : List V) (us : List Value) (b : Bool), xs = [.ref a, .ref tp] ∧ H a = some (exT a (.ref D) d) ∧ (∀ dd, d = some dd → ∃ fs, H dd = some (.xd fs)) ∧ ExC K D ∧ H tp = some (.tup cs) ∧ (∀ ws, Vals cs ws → ws = us) ∧
  PySem.W.kitAny K (.ref D) us = some b ∧ Q (.bl b) H
theorem call_isXT : CallR X (.builtin "isinstance") (rIsXT X.K) := by
  intro pins s σ H xs us Q I r h
  obtain ⟨a, D, tp, d, cs, us', b, rfl, ea, ed, T, et, hu, hk, q⟩ := h
  obtain ⟨u, u2, rfl, r1, r2⟩ := vals2 r
  cases r1
  cases r2
  obtain ⟨its, rv, ⟨o, ho, hc, n, hd⟩, _⟩ := I.tuple (SqT.of et)
  have e2 := hu _ rv
  subst e2
  obtain ⟨oe, vs, z1, z2, z3⟩ := exT_at I.hok ea
  have hcl : (PySem.W.clsIn X.K D).isSome = true := by
    obtain ⟨cd, z, _⟩ := PySem.W.any_some T.hd
    rw [z]
    rfl
  obtain ⟨oc, odd, odt, osl⟩ := o
  dsimp only at hc hd
  subst hc
  subst hd
  cases d with
  | none => exact PySem.W.kia_tup (PySem.W.kitx_exc hcl T.ga T.gg T.sub T.ha T.hn T.ht T.hm) I.kIn (instAt_of0 z1 z2 z3) ho hk (fun z => nomatch z) fun tk => ⟨.bl b, H, I.kept (t' := tk) fun _ _ z => z, rfl, q⟩
  | some dd =>
    obtain ⟨fs, ed⟩ := ed dd rfl
    obtain ⟨mA, ⟨od, _, _, ho2, _⟩, _⟩ := (show ObjOk X.prog X.w H s.heap dd (.xd fs) from I.hok dd _ ed)
    exact PySem.W.kia_tup (PySem.W.kitx_exc hcl T.ga T.gg T.sub T.ha T.hn T.ht T.hm) I.kIn (instAt_of z1 z2 z3 ho2) ho hk (fun z => nomatch z) fun tk => ⟨.bl b, H, I.kept (t' := tk) fun _ _ z => z, rfl, q⟩
theorem vals_refs {cs : List Addr} {ws : List Value} (r : Vals (cs.map V.ref) ws) : ws = cs.map Value.ref := by
  induction cs generalizing ws with
  | nil => cases r; rfl
  | cons c cs ih =>
    cases r with
    | cons r1 r2 =>
      rw [ih r2]
      cases r1
      rfl
end
end HX

set_option Elab.async false
set_option linter.all false
set_option maxRecDepth 100000
set_option maxHeartbeats 2000000
namespace HX
open PySem PySem.Spec PyProof.Rows L2

/-! ### the end of a law that makes lambdas and calls repr: its def's table of code is tracked too -/
/-- the heap that knows the script, locked, and one empty table -/
def scrT (Pt : Addr) (S : Hp) : Hp := fun b => if b = Pt then some (.tbl #[]) else S b
section
variable {P : Program} {w : World} {K : PySem.W.Frag} {mg mb : Str → Option Value} {CX : CXT} {k : Nat} {fa a c Pt : Addr} {fd : FuncData} {x : Str} {sp : Sp} {s : Shared} {vs : List Value} {ns : List Int}
theorem law_goT (kin : K.In s.heap) (hn : s.heap.Ns mainGlobals mg) (hb : s.heap.Ns builtinsNs mb) (hbb : ∀ y : Str, y ≠ "__name__" → mb y = bootBuiltins y) (lim : s.heap.NoLimit) (hg : s.gens = #[])
    (hT : s.heap.get? Pt = some { cls := .none, data := .fields #[] }) (nT : K.lookup Pt = none) (hC : PySem.W.codeHdIn K c Pt = true)
    (hbm : ∃ (bm : Addr) (ob : Obj), mg "__builtins__" = some (.ref bm) ∧ bm ≠ builtinsNs ∧ s.heap.get? bm = some ob ∧ ob.cls = .type "module" ∧ ob.dict = some builtinsNs ∧ ob.data = .plain)
    (H : Hp) (hH : H Pt = some (.tbl #[])) (only : ∀ b, b = Pt ∨ H b = none ∨ ∃ o xs, H b = some (.frz o (.lst xs))) (hok : HOk P w H s.heap) (at1 : ∀ b, b ≠ Pt → H b ≠ none → s.heap.get? b = some { cls := .type "list", data := .seq vs.toArray } ∧ K.lookup b = none)
    (hr : Room k callerA) (F : ∀ base : Heap, K.In base → base.Ns mainGlobals mg → LamX.TabB base mg c Pt → FnG P w K mg base CX k fa fd [x] sp)
    (bind1 : ∀ (s : Shared) (u : Value), BindsTo s fd ⟨[u], []⟩ [(x, u)])
    (hsp : sp [.ref a] H (fun v _ => v = .bl true) fun _ _ _ => False) (hCX : ∀ e s', CX [] H s (fun _ _ _ => False) e s' → False) :
    codeAny (model P w) callerA (.call (.ref fa) ⟨[.ref a], []⟩) (fun r s' => r = .ok (.ret (.bool true)) ∧ OldK s.heap s'.heap ∧ s'.os = s.os ∧ AllBare s'.gens) s := by
  have untr : ∀ b o, s.heap.get? b = some o → ((o.data ≠ .seq vs.toArray ∧ o.data ≠ .fields #[]) ∨ K.lookup b ≠ none) → H b = none := fun b o e d => by
    cases q : H b with
    | none => rfl
    | some u =>
      have tr : (o.data = .seq vs.toArray ∨ o.data = .fields #[]) ∧ K.lookup b = none := by
        by_cases hb : b = Pt
        · rw [hb, hT] at e
          cases e
          exact ⟨.inr rfl, by rw [hb]; exact nT⟩
        · obtain ⟨z1, z2⟩ := at1 b hb (by rw [q]; exact fun z => nomatch z)
          rw [e] at z1
          cases z1
          exact ⟨.inl rfl, z2⟩
      rcases d with ⟨d1, d2⟩ | d
      · exact (tr.1.elim d1 d2).elim
      · exact (d tr.2).elim
  have isNs : ∀ {b : Addr} {m : Str → Option Value}, s.heap.Ns b m → (hidT s.heap H).Ns b m := fun {b m} z => by
    obtain ⟨o, es, ep, e, d, r⟩ := z
    exact ⟨o, es, ep, hidT_get e (untr b o e (.inl ⟨(fun z => by rw [d] at z; cases z), (fun z => by rw [d] at z; cases z)⟩)), d, r⟩
  have kinB : K.In (hidT s.heap H) := fun b o e => hidT_get (kin b o e) (untr b o (kin b o e) (.inr (by rw [e]; exact fun z => nomatch z)))
  have md : Mod K mg (hidT s.heap H) := ⟨kinB, isNs hn, ⟨mb, isNs hb, hbb⟩, let ⟨m, z1, z2⟩ := lim; ⟨m, isNs z1, z2⟩⟩
  have nsTab : ∀ {b : Addr} {m : Str → Option Value}, s.heap.Ns b m → b ≠ Pt := fun {b m} z e => by
    obtain ⟨o, es, ep, e1, d, _⟩ := z
    rw [e, hT] at e1
    cases e1
    cases d
  have TB : LamX.TabB (hidT s.heap H) mg c Pt := by
    refine ⟨PySem.W.codeHd_of_K kinB hC, ?_, nsTab hn⟩
    obtain ⟨bm, ob, b1, b2, b3, b4, b5, b6⟩ := hbm
    refine ⟨bm, ob, b1, b2, fun e => ?_, fun e => ?_, hidT_get b3 (untr bm ob b3 (.inl ⟨(fun z => by rw [b6] at z; cases z), (fun z => by rw [b6] at z; cases z)⟩)), b4, b5, b6⟩
    · obtain ⟨o, es, ep, e1, d, _⟩ := hn
      rw [← e, b3] at e1
      cases e1
      rw [b6] at d
      cases d
    · rw [e, hT] at b3
      cases b3
      cases b6
  have e0 : Env0 P w K mg (hidT s.heap H) callerA [] s H :=
    ⟨rfl, md, fun _ _ e => of_hidT e, Nat.le_of_eq (hidT_size _ _), trivial, fun b z => absurd (show b ∈ ([] : List Addr) from z) List.not_mem_nil, hok, AllBare.of_eq hg⟩
  have run := (F _ kinB (isNs hn) TB).go callerA [] s H ⟨[.ref a], []⟩ [.ref a] [.ref a] (fun v _ => v = .bl true) (fun _ _ _ => False) rfl hr e0 (bind1 s (.ref a)) (.cons rfl .nil) hsp
  refine codeAny_mono run fun r s' q => ?_
  match r, q with
  | .error e, q => exact (hCX e s' q).elim
  | .ok .next, q => exact False.elim q
  | .ok .brk, q => exact False.elim q
  | .ok .cont, q => exact False.elim q
  | .ok (.ret u), q =>
    obtain ⟨v, G, os, bare, un, hok', rv, ev⟩ := q
    subst ev
    obtain rfl : u = Value.bool true := rv
    have stay : ∀ b o, b ≠ Pt → s.heap.get? b = some o → s'.heap.get? b = some o := fun b o nb e => by
      rcases only b with z | n | ⟨ob, xs, n⟩
      · exact absurd z nb
      · exact un.keep b o e n (fun z => absurd (show b ∈ ([] : List Addr) from z) List.not_mem_nil) List.not_mem_nil
      · have y1 := (hok b _ n).1
        have y2 := (hok' b _ (un.frzs b ob _ n)).1
        exact (y2.trans y1.symm).trans e
    obtain ⟨more, mT⟩ := un.tbls Pt #[] hH
    have gT : s'.heap.get? Pt = some { cls := .none, data := .fields (#[] ++ more) } := hok' Pt _ mT
    rw [Array.empty_append] at gT
    refine ⟨rfl, ⟨fun b o e => ?_, fun b o e => ?_⟩, os, bare⟩
    · by_cases hb : b = Pt
      · rw [hb, hT] at e
        cases e
        rw [hb]
        exact .inr (.inl ⟨((PySem.W.codeHd_of_K kin hC).tab hT).isCodeTable, rfl, #[], more, rfl, by rw [Array.empty_append]; exact gT⟩)
      · exact .inl (stay b o hb e)
    · by_cases hb : b = Pt
      · rw [hb]
        exact ⟨_, gT⟩
      · exact ⟨o, stay b o hb e⟩
end
/-- .. -/
theorem walkGT {l : PySem.W.OpenLaw} {n k : Nat} {q : Program} {loose : List Str} {XP : (Str → Option Value) → Heap → Prop} {YP : World → Heap → Prop} {d d' : DefRec} {K : Params → PySem.W.Frag} {sp : PySem.W.Frag → List (Addr × Str) → Sp} {x : Str}
    (hm : l.most = some n) (hn : n ≤ sizeLine) (hdf : d.params.defaults = []) (hr : Room k callerA) (hrec : (recsOf q).find? (fun e => e.name == d.name) = some d') (hY : ∀ (w : World) (h : Heap), YP w h → (K w.params).In h)
    (F : ∀ (w : World) (mg : Str → Option Value) (fa : Addr) (h : Heap), (K w.params).In h → h.Ns mainGlobals mg → mg d.name = some (.ref fa) →
      ∃ (fd : FuncData) (c Pt : Addr) (qL : Str), PySem.W.tabIn (K w.params) d.name = some (c, Pt) ∧ (K w.params).lookup Pt = none ∧ PySem.W.codeHdIn (K w.params) c Pt = true ∧ (∀ (s : Shared) (u : Value), BindsTo s fd ⟨[u], []⟩ [(x, u)]) ∧
        ∀ base : Heap, (K w.params).In base → base.Ns mainGlobals mg → LamX.TabB base mg c Pt → FnG l.prog w (K w.params) mg base CX0 k fa fd [x] (sp (K w.params) [(Pt, qL)]))
    (hsp : ∀ (K : PySem.W.Frag) (H : Hp) (a Pt : Addr) (qL : Str) (ns : List Int), ns.length ≤ n → H Pt = some (.tbl #[]) → SqL K H a (ns.map V.int) → sp K [(Pt, qL)] [.ref a] H (fun v _ => v = .bl true) fun _ _ _ => False) :
    PySem.W.WalkO q loose XP YP l.row.toRowW d [] (fun f vs => PySem.call f vs) := by
  refine Att.attach_call hm hdf fun w s₀ s mg mb fa o pm cd doc a vs ns G Y ho hd hcd hmg hobj hi hlen hg => ?_
  have kin := hY w _ Y
  obtain ⟨fd, c, Pt, qL, tI, nT, hC, b1, f1⟩ := F w mg fa _ kin G.T.g hmg
  have hT : s.heap.get? Pt = some { cls := .none, data := .fields #[] } := (PySem.W.tab_of G.T kin hrec tI).2
  have aP : a ≠ Pt := fun e => by
    rw [e, hT] at hobj
    have z : Data.fields #[] = Data.seq vs.toArray _ := congrArg Obj.data (Option.some.inj hobj)
    cases z
  have rv := vals_ints hi
  have lv := hi.length
  cases e : (K w.params).lookup a with
  | some ob =>
    have z := kin a ob e
    rw [hobj] at z
    cases z
    refine law_goT (vs := vs) kin G.T.g G.T.b G.T.builtins G.T.nolimit hg hT nT hC G.T.bmain (scrT Pt fun _ => none) (if_pos rfl) (fun b => ?_) (fun b u z => ?_) (fun b nb z => absurd (if_neg nb) z) hr f1 b1 ?_ fun _ _ z => z
    · by_cases hb : b = Pt
      · exact .inl hb
      · exact .inr (.inl (if_neg hb))
    · unfold scrT at z
      split at z
      · rename_i hb
        cases z
        rw [hb]
        exact hT
      · cases z
    · refine hsp _ _ a Pt qL ns hlen (if_pos rfl) (.inr ⟨_, vs.toArray, _, e, rfl, rfl, rfl, ?_, by simpa using rv⟩)
      rw [List.size_toArray, lv]
      exact Nat.le_trans hlen hn
  | none =>
    have at_ : ∀ b u, scr a { cls := .type "list", data := .seq vs.toArray } ns b = some u → b = a ∧ u = .frz { cls := .type "list", data := .seq vs.toArray } (.lst (ns.map V.int)) := fun b u z => by
      unfold scr at z
      split at z
      · rename_i hb
        exact ⟨hb, (Option.some.inj z).symm⟩
      · cases z
    refine law_goT (vs := vs) kin G.T.g G.T.b G.T.builtins G.T.nolimit hg hT nT hC G.T.bmain (scrT Pt (scr a { cls := .type "list", data := .seq vs.toArray } ns)) (if_pos rfl) (fun b => ?_) (fun b u z => ?_) (fun b nb z => ?_) hr f1 b1 ?_ fun _ _ z => z
    · by_cases hb : b = Pt
      · exact .inl hb
      · refine .inr ?_
        rw [show scrT Pt (scr a { cls := .type "list", data := .seq vs.toArray } ns) b = scr a { cls := .type "list", data := .seq vs.toArray } ns b from if_neg hb]
        cases z : scr a { cls := .type "list", data := .seq vs.toArray } ns b with
        | none => exact .inl rfl
        | some u => exact .inr ⟨_, _, by rw [(at_ b u z).2]⟩
    · unfold scrT at z
      split at z
      · rename_i hb
        cases z
        rw [hb]
        exact hT
      · obtain ⟨rfl, rfl⟩ := at_ b u z
        exact ⟨hobj, by rw [List.length_map]; exact Nat.le_trans hlen hn, vs, _, rv, hobj⟩
    · rw [show scrT Pt (scr a { cls := .type "list", data := .seq vs.toArray } ns) b = scr a { cls := .type "list", data := .seq vs.toArray } ns b from if_neg nb] at z
      cases y : scr a { cls := .type "list", data := .seq vs.toArray } ns b with
      | none => exact absurd y z
      | some u =>
        obtain ⟨rfl, _⟩ := at_ b u y
        exact ⟨hobj, e⟩
    · refine hsp _ _ a Pt qL ns hlen (if_pos rfl) (.inl (.inr ⟨_, (if_neg aP).trans (if_pos rfl)⟩))
end HX

set_option Elab.async false
set_option linter.all false
set_option maxRecDepth 100000
set_option maxHeartbeats 4000000
namespace LW
open PySem PySem.Spec PyProof.Rows L2 HX NumText
def top (i : Nat) : Stmt := PySem.Challenge.pw_holeshift_k03_sums_with_coefficients.main.body.getD i (.Pass ⟨0, 0, 0, 0⟩)

abbrev s__wall : Stmt := top 1
abbrev n__wall : List Str := ["k"]
theorem sc__wall : FnScope n__wall ["k"] (defScope s__wall) := ⟨rfl, rfl, rfl, by decide +kernel, rfl, by decide +kernel, by decide +kernel⟩

abbrev s_BadAmount_init : Stmt := inClass (top 6) 0
abbrev n_BadAmount_init : List Str := ["self", "value"]
theorem sc_BadAmount_init : FnScope n_BadAmount_init ["self", "value"] (defScope s_BadAmount_init) := ⟨rfl, rfl, rfl, by decide +kernel, rfl, by decide +kernel, by decide +kernel⟩

abbrev s_BadDay_init : Stmt := inClass (top 7) 0
abbrev n_BadDay_init : List Str := ["self", "value"]
theorem sc_BadDay_init : FnScope n_BadDay_init ["self", "value"] (defScope s_BadDay_init) := ⟨rfl, rfl, rfl, by decide +kernel, rfl, by decide +kernel, by decide +kernel⟩

abbrev s_BadItem_init : Stmt := inClass (top 8) 0
abbrev n_BadItem_init : List Str := ["self", "part"]
theorem sc_BadItem_init : FnScope n_BadItem_init ["self", "part"] (defScope s_BadItem_init) := ⟨rfl, rfl, rfl, by decide +kernel, rfl, by decide +kernel, by decide +kernel⟩

abbrev s_BadText_init : Stmt := inClass (top 9) 0
abbrev n_BadText_init : List Str := ["self", "line", "word"]
theorem sc_BadText_init : FnScope n_BadText_init ["self", "line", "word"] (defScope s_BadText_init) := ⟨rfl, rfl, rfl, by decide +kernel, rfl, by decide +kernel, by decide +kernel⟩

abbrev s_is_int : Stmt := top 13
abbrev n_is_int : List Str := ["value"]
theorem sc_is_int : FnScope n_is_int ["value"] (defScope s_is_int) := ⟨rfl, rfl, rfl, by decide +kernel, rfl, by decide +kernel, by decide +kernel⟩

abbrev s_is_int_within : Stmt := top 14
abbrev n_is_int_within : List Str := ["value", "least", "most"]
theorem sc_is_int_within : FnScope n_is_int_within ["value", "least", "most"] (defScope s_is_int_within) := ⟨rfl, rfl, rfl, by decide +kernel, rfl, by decide +kernel, by decide +kernel⟩

abbrev s_sum_of_products : Stmt := top 15
abbrev n_sum_of_products : List Str := ["pairs", "top", "bottom", "amount", "times", "shared"]
theorem sc_sum_of_products : FnScope n_sum_of_products ["pairs"] (defScope s_sum_of_products) := ⟨rfl, rfl, rfl, by decide +kernel, rfl, by decide +kernel, by decide +kernel⟩

abbrev s__is_figures : Stmt := top 16
abbrev n__is_figures : List Str := ["text"]
theorem sc__is_figures : FnScope n__is_figures ["text"] (defScope s__is_figures) := ⟨rfl, rfl, rfl, by decide +kernel, rfl, by decide +kernel, by decide +kernel⟩

abbrev s_Amount_init : Stmt := inClass (top 17) 0
abbrev n_Amount_init : List Str := ["self", "top", "bottom", "shared"]
theorem sc_Amount_init : FnScope n_Amount_init ["self", "top", "bottom"] (defScope s_Amount_init) := ⟨rfl, rfl, rfl, by decide +kernel, rfl, by decide +kernel, by decide +kernel⟩

abbrev s_Amount_is_number : Stmt := inClass (top 17) 1
abbrev n_Amount_is_number : List Str := ["value"]
theorem sc_Amount_is_number : FnScope n_Amount_is_number ["value"] (defScope s_Amount_is_number) := ⟨rfl, rfl, rfl, by decide +kernel, rfl, by decide +kernel, by decide +kernel⟩

abbrev s_Amount_of : Stmt := inClass (top 17) 2
abbrev n_Amount_of : List Str := ["number"]
theorem sc_Amount_of : FnScope n_Amount_of ["number"] (defScope s_Amount_of) := ⟨rfl, rfl, rfl, by decide +kernel, rfl, by decide +kernel, by decide +kernel⟩

abbrev s_Amount_total : Stmt := inClass (top 17) 3
abbrev n_Amount_total : List Str := ["numbers", "number"]
theorem sc_Amount_total : FnScope n_Amount_total ["numbers"] (defScope s_Amount_total) := ⟨rfl, rfl, rfl, by decide +kernel, rfl, by decide +kernel, by decide +kernel⟩

abbrev s_Amount_read : Stmt := inClass (top 17) 4
abbrev n_Amount_read : List Str := ["cls", "text", "above", "stroke", "below", "amount"]
theorem sc_Amount_read : FnScope n_Amount_read ["cls", "text"] (defScope s_Amount_read) := ⟨rfl, rfl, rfl, by decide +kernel, rfl, by decide +kernel, by decide +kernel⟩

abbrev s_Amount_str : Stmt := inClass (top 17) 5
abbrev n_Amount_str : List Str := ["self"]
theorem sc_Amount_str : FnScope n_Amount_str ["self"] (defScope s_Amount_str) := ⟨rfl, rfl, rfl, by decide +kernel, rfl, by decide +kernel, by decide +kernel⟩

abbrev s_Amount_is_whole : Stmt := inClass (top 17) 6
abbrev n_Amount_is_whole : List Str := ["self"]
theorem sc_Amount_is_whole : FnScope n_Amount_is_whole ["self"] (defScope s_Amount_is_whole) := ⟨rfl, rfl, rfl, by decide +kernel, rfl, by decide +kernel, by decide +kernel⟩

abbrev s_Amount_over : Stmt := inClass (top 17) 7
abbrev n_Amount_over : List Str := ["self", "number", "divisor"]
theorem sc_Amount_over : FnScope n_Amount_over ["self", "number"] (defScope s_Amount_over) := ⟨rfl, rfl, rfl, by decide +kernel, rfl, by decide +kernel, by decide +kernel⟩

abbrev s_Amount_add : Stmt := inClass (top 17) 8
abbrev n_Amount_add : List Str := ["self", "other"]
theorem sc_Amount_add : FnScope n_Amount_add ["self", "other"] (defScope s_Amount_add) := ⟨rfl, rfl, rfl, by decide +kernel, rfl, by decide +kernel, by decide +kernel⟩

abbrev s_Amount_radd : Stmt := inClass (top 17) 9
abbrev n_Amount_radd : List Str := ["self", "other"]
theorem sc_Amount_radd : FnScope n_Amount_radd ["self", "other"] (defScope s_Amount_radd) := ⟨rfl, rfl, rfl, by decide +kernel, rfl, by decide +kernel, by decide +kernel⟩

abbrev s_Amount_iadd : Stmt := inClass (top 17) 10
abbrev n_Amount_iadd : List Str := ["self", "other"]
theorem sc_Amount_iadd : FnScope n_Amount_iadd ["self", "other"] (defScope s_Amount_iadd) := ⟨rfl, rfl, rfl, by decide +kernel, rfl, by decide +kernel, by decide +kernel⟩

abbrev s_Amount_sub : Stmt := inClass (top 17) 11
abbrev n_Amount_sub : List Str := ["self", "other"]
theorem sc_Amount_sub : FnScope n_Amount_sub ["self", "other"] (defScope s_Amount_sub) := ⟨rfl, rfl, rfl, by decide +kernel, rfl, by decide +kernel, by decide +kernel⟩

abbrev s_Amount_rsub : Stmt := inClass (top 17) 12
abbrev n_Amount_rsub : List Str := ["self", "other"]
theorem sc_Amount_rsub : FnScope n_Amount_rsub ["self", "other"] (defScope s_Amount_rsub) := ⟨rfl, rfl, rfl, by decide +kernel, rfl, by decide +kernel, by decide +kernel⟩

abbrev s_Amount_isub : Stmt := inClass (top 17) 13
abbrev n_Amount_isub : List Str := ["self", "other"]
theorem sc_Amount_isub : FnScope n_Amount_isub ["self", "other"] (defScope s_Amount_isub) := ⟨rfl, rfl, rfl, by decide +kernel, rfl, by decide +kernel, by decide +kernel⟩

abbrev s_Amount_mul : Stmt := inClass (top 17) 14
abbrev n_Amount_mul : List Str := ["self", "other"]
theorem sc_Amount_mul : FnScope n_Amount_mul ["self", "other"] (defScope s_Amount_mul) := ⟨rfl, rfl, rfl, by decide +kernel, rfl, by decide +kernel, by decide +kernel⟩

abbrev s_Amount_rmul : Stmt := inClass (top 17) 15
abbrev n_Amount_rmul : List Str := ["self", "other"]
theorem sc_Amount_rmul : FnScope n_Amount_rmul ["self", "other"] (defScope s_Amount_rmul) := ⟨rfl, rfl, rfl, by decide +kernel, rfl, by decide +kernel, by decide +kernel⟩

abbrev s_Amount_imul : Stmt := inClass (top 17) 16
abbrev n_Amount_imul : List Str := ["self", "other"]
theorem sc_Amount_imul : FnScope n_Amount_imul ["self", "other"] (defScope s_Amount_imul) := ⟨rfl, rfl, rfl, by decide +kernel, rfl, by decide +kernel, by decide +kernel⟩

abbrev s_Amount_floordiv : Stmt := inClass (top 17) 17
abbrev n_Amount_floordiv : List Str := ["self", "other", "quotient"]
theorem sc_Amount_floordiv : FnScope n_Amount_floordiv ["self", "other"] (defScope s_Amount_floordiv) := ⟨rfl, rfl, rfl, by decide +kernel, rfl, by decide +kernel, by decide +kernel⟩

abbrev s_Amount_rfloordiv : Stmt := inClass (top 17) 18
abbrev n_Amount_rfloordiv : List Str := ["self", "other"]
theorem sc_Amount_rfloordiv : FnScope n_Amount_rfloordiv ["self", "other"] (defScope s_Amount_rfloordiv) := ⟨rfl, rfl, rfl, by decide +kernel, rfl, by decide +kernel, by decide +kernel⟩

abbrev s_Amount_ifloordiv : Stmt := inClass (top 17) 19
abbrev n_Amount_ifloordiv : List Str := ["self", "other"]
theorem sc_Amount_ifloordiv : FnScope n_Amount_ifloordiv ["self", "other"] (defScope s_Amount_ifloordiv) := ⟨rfl, rfl, rfl, by decide +kernel, rfl, by decide +kernel, by decide +kernel⟩

abbrev s_Amount_mod : Stmt := inClass (top 17) 20
abbrev n_Amount_mod : List Str := ["self", "other"]
theorem sc_Amount_mod : FnScope n_Amount_mod ["self", "other"] (defScope s_Amount_mod) := ⟨rfl, rfl, rfl, by decide +kernel, rfl, by decide +kernel, by decide +kernel⟩

abbrev s_Amount_rmod : Stmt := inClass (top 17) 21
abbrev n_Amount_rmod : List Str := ["self", "other"]
theorem sc_Amount_rmod : FnScope n_Amount_rmod ["self", "other"] (defScope s_Amount_rmod) := ⟨rfl, rfl, rfl, by decide +kernel, rfl, by decide +kernel, by decide +kernel⟩

abbrev s_Amount_imod : Stmt := inClass (top 17) 22
abbrev n_Amount_imod : List Str := ["self", "other"]
theorem sc_Amount_imod : FnScope n_Amount_imod ["self", "other"] (defScope s_Amount_imod) := ⟨rfl, rfl, rfl, by decide +kernel, rfl, by decide +kernel, by decide +kernel⟩

abbrev s_Amount_neg : Stmt := inClass (top 17) 23
abbrev n_Amount_neg : List Str := ["self"]
theorem sc_Amount_neg : FnScope n_Amount_neg ["self"] (defScope s_Amount_neg) := ⟨rfl, rfl, rfl, by decide +kernel, rfl, by decide +kernel, by decide +kernel⟩

abbrev s_Amount_abs : Stmt := inClass (top 17) 24
abbrev n_Amount_abs : List Str := ["self"]
theorem sc_Amount_abs : FnScope n_Amount_abs ["self"] (defScope s_Amount_abs) := ⟨rfl, rfl, rfl, by decide +kernel, rfl, by decide +kernel, by decide +kernel⟩

abbrev s_Amount_bool : Stmt := inClass (top 17) 25
abbrev n_Amount_bool : List Str := ["self"]
theorem sc_Amount_bool : FnScope n_Amount_bool ["self"] (defScope s_Amount_bool) := ⟨rfl, rfl, rfl, by decide +kernel, rfl, by decide +kernel, by decide +kernel⟩

abbrev s_Amount_eq : Stmt := inClass (top 17) 26
abbrev n_Amount_eq : List Str := ["self", "other"]
theorem sc_Amount_eq : FnScope n_Amount_eq ["self", "other"] (defScope s_Amount_eq) := ⟨rfl, rfl, rfl, by decide +kernel, rfl, by decide +kernel, by decide +kernel⟩

abbrev s_Amount_lt : Stmt := inClass (top 17) 27
abbrev n_Amount_lt : List Str := ["self", "other", "number"]
theorem sc_Amount_lt : FnScope n_Amount_lt ["self", "other"] (defScope s_Amount_lt) := ⟨rfl, rfl, rfl, by decide +kernel, rfl, by decide +kernel, by decide +kernel⟩

abbrev s_Amount_le : Stmt := inClass (top 17) 28
abbrev n_Amount_le : List Str := ["self", "other", "number"]
theorem sc_Amount_le : FnScope n_Amount_le ["self", "other"] (defScope s_Amount_le) := ⟨rfl, rfl, rfl, by decide +kernel, rfl, by decide +kernel, by decide +kernel⟩

abbrev s_Amount_gt : Stmt := inClass (top 17) 29
abbrev n_Amount_gt : List Str := ["self", "other", "number"]
theorem sc_Amount_gt : FnScope n_Amount_gt ["self", "other"] (defScope s_Amount_gt) := ⟨rfl, rfl, rfl, by decide +kernel, rfl, by decide +kernel, by decide +kernel⟩

abbrev s_Amount_ge : Stmt := inClass (top 17) 30
abbrev n_Amount_ge : List Str := ["self", "other", "number"]
theorem sc_Amount_ge : FnScope n_Amount_ge ["self", "other"] (defScope s_Amount_ge) := ⟨rfl, rfl, rfl, by decide +kernel, rfl, by decide +kernel, by decide +kernel⟩

abbrev s_is_name : Stmt := top 20
abbrev n_is_name : List Str := ["value"]
theorem sc_is_name : FnScope n_is_name ["value"] (defScope s_is_name) := ⟨rfl, rfl, rfl, by decide +kernel, rfl, by decide +kernel, by decide +kernel⟩

abbrev s_wrong_part : Stmt := top 22
abbrev n_wrong_part : List Str := ["parts", "account", "part"]
theorem sc_wrong_part : FnScope n_wrong_part ["parts"] (defScope s_wrong_part) := ⟨rfl, rfl, rfl, by decide +kernel, rfl, by decide +kernel, by decide +kernel⟩

abbrev s_ascending_days : Stmt := top 23
abbrev n_ascending_days : List Str := ["days", "day"]
theorem sc_ascending_days : FnScope n_ascending_days ["days"] (defScope s_ascending_days) := ⟨rfl, rfl, rfl, by decide +kernel, rfl, by decide +kernel, by decide +kernel⟩

abbrev s_Linear_init : Stmt := inClass (top 24) 2
abbrev n_Linear_init : List Str := ["self", "parts", "wrong", "account"]
theorem sc_Linear_init : FnScope n_Linear_init ["self", "parts"] (defScope s_Linear_init) := ⟨rfl, rfl, rfl, by decide +kernel, rfl, by decide +kernel, by decide +kernel⟩

abbrev s_Linear_accounts : Stmt := inClass (top 24) 3
abbrev n_Linear_accounts : List Str := ["self"]
theorem sc_Linear_accounts : FnScope n_Linear_accounts ["self"] (defScope s_Linear_accounts) := ⟨rfl, rfl, rfl, by decide +kernel, rfl, by decide +kernel, by decide +kernel⟩

abbrev s_Linear_getitem : Stmt := inClass (top 24) 4
abbrev n_Linear_getitem : List Str := ["self", "account"]
theorem sc_Linear_getitem : FnScope n_Linear_getitem ["self", "account"] (defScope s_Linear_getitem) := ⟨rfl, rfl, rfl, by decide +kernel, rfl, by decide +kernel, by decide +kernel⟩

abbrev s_Linear_iter : Stmt := inClass (top 24) 5
abbrev n_Linear_iter : List Str := ["self"]
theorem sc_Linear_iter : FnScope n_Linear_iter ["self"] (defScope s_Linear_iter) := ⟨rfl, rfl, rfl, by decide +kernel, rfl, by decide +kernel, by decide +kernel⟩

abbrev s_Linear_contains : Stmt := inClass (top 24) 6
abbrev n_Linear_contains : List Str := ["self", "account"]
theorem sc_Linear_contains : FnScope n_Linear_contains ["self", "account"] (defScope s_Linear_contains) := ⟨rfl, rfl, rfl, by decide +kernel, rfl, by decide +kernel, by decide +kernel⟩

abbrev s_Linear_len : Stmt := inClass (top 24) 7
abbrev n_Linear_len : List Str := ["self"]
theorem sc_Linear_len : FnScope n_Linear_len ["self"] (defScope s_Linear_len) := ⟨rfl, rfl, rfl, by decide +kernel, rfl, by decide +kernel, by decide +kernel⟩

abbrev s_Linear_sum_of : Stmt := inClass (top 24) 8
abbrev n_Linear_sum_of : List Str := ["self", "gaps", "account", "part"]
theorem sc_Linear_sum_of : FnScope n_Linear_sum_of ["self", "gaps"] (defScope s_Linear_sum_of) := ⟨rfl, rfl, rfl, by decide +kernel, rfl, by decide +kernel, by decide +kernel⟩

abbrev s_Linear_sum_in : Stmt := inClass (top 24) 9
abbrev n_Linear_sum_in : List Str := ["self", "numbers"]
theorem sc_Linear_sum_in : FnScope n_Linear_sum_in ["self", "numbers"] (defScope s_Linear_sum_in) := ⟨rfl, rfl, rfl, by decide +kernel, rfl, by decide +kernel, by decide +kernel⟩

abbrev s_Linear_neg : Stmt := inClass (top 24) 10
abbrev n_Linear_neg : List Str := ["self", "account", "part"]
theorem sc_Linear_neg : FnScope n_Linear_neg ["self"] (defScope s_Linear_neg) := ⟨rfl, rfl, rfl, by decide +kernel, rfl, by decide +kernel, by decide +kernel⟩

abbrev s_Linear_eq : Stmt := inClass (top 24) 11
abbrev n_Linear_eq : List Str := ["self", "other"]
theorem sc_Linear_eq : FnScope n_Linear_eq ["self", "other"] (defScope s_Linear_eq) := ⟨rfl, rfl, rfl, by decide +kernel, rfl, by decide +kernel, by decide +kernel⟩

abbrev s_Dated_init : Stmt := inClass (top 25) 1
abbrev n_Dated_init : List Str := ["self", "days"]
theorem sc_Dated_init : FnScope n_Dated_init ["self", "days"] (defScope s_Dated_init) := ⟨rfl, rfl, rfl, by decide +kernel, rfl, by decide +kernel, by decide +kernel⟩

abbrev s_Dated_days : Stmt := inClass (top 25) 2
abbrev n_Dated_days : List Str := ["self"]
theorem sc_Dated_days : FnScope n_Dated_days ["self"] (defScope s_Dated_days) := ⟨rfl, rfl, rfl, by decide +kernel, rfl, by decide +kernel, by decide +kernel⟩

abbrev s_Dated_is_daily : Stmt := inClass (top 25) 3
abbrev n_Dated_is_daily : List Str := ["self"]
theorem sc_Dated_is_daily : FnScope n_Dated_is_daily ["self"] (defScope s_Dated_is_daily) := ⟨rfl, rfl, rfl, by decide +kernel, rfl, by decide +kernel, by decide +kernel⟩

abbrev s_Dated_falls_on : Stmt := inClass (top 25) 4
abbrev n_Dated_falls_on : List Str := ["self", "day"]
theorem sc_Dated_falls_on : FnScope n_Dated_falls_on ["self", "day"] (defScope s_Dated_falls_on) := ⟨rfl, rfl, rfl, by decide +kernel, rfl, by decide +kernel, by decide +kernel⟩

abbrev s_as_name : Stmt := top 27
abbrev n_as_name : List Str := ["word"]
theorem sc_as_name : FnScope n_as_name ["word"] (defScope s_as_name) := ⟨rfl, rfl, rfl, by decide +kernel, rfl, by decide +kernel, by decide +kernel⟩

abbrev s_read_word : Stmt := top 28
abbrev n_read_word : List Str := ["words", "at", "reading", "found"]
theorem sc_read_word : FnScope n_read_word ["words", "at", "reading"] (defScope s_read_word) := ⟨rfl, rfl, rfl, by decide +kernel, rfl, by decide +kernel, by decide +kernel⟩

abbrev s_need_end : Stmt := top 29
abbrev n_need_end : List Str := ["words", "at"]
theorem sc_need_end : FnScope n_need_end ["words", "at"] (defScope s_need_end) := ⟨rfl, rfl, rfl, by decide +kernel, rfl, by decide +kernel, by decide +kernel⟩

abbrev s__is_changes : Stmt := top 33
abbrev n__is_changes : List Str := ["value"]
theorem sc__is_changes : FnScope n__is_changes ["value"] (defScope s__is_changes) := ⟨rfl, rfl, rfl, by decide +kernel, rfl, by decide +kernel, by decide +kernel⟩

abbrev s__is_accounts : Stmt := top 34
abbrev n__is_accounts : List Str := ["value", "account"]
theorem sc__is_accounts : FnScope n__is_accounts ["value"] (defScope s__is_accounts) := ⟨rfl, rfl, rfl, by decide +kernel, rfl, by decide +kernel, by decide +kernel⟩

abbrev s__words : Stmt := top 35
abbrev n__words : List Str := ["item", "accounts", "days", "changes", "left", "account", "day"]
theorem sc__words : FnScope n__words ["item"] (defScope s__words) := ⟨rfl, rfl, rfl, by decide +kernel, rfl, by decide +kernel, by decide +kernel⟩

abbrev s_Item_init : Stmt := inClass (top 36) 0
abbrev n_Item_init : List Str := ["self", "parts", "days", "__class__"]
theorem sc_Item_init : NdefX.NScope n_Item_init ["self", "parts", "days"] ["__class__"] (defScope s_Item_init) := NdefX.nscope_by (by decide +kernel)

abbrev s_Item_with_days : Stmt := inClass (top 36) 1
abbrev n_Item_with_days : List Str := ["self", "days"]
theorem sc_Item_with_days : FnScope n_Item_with_days ["self", "days"] (defScope s_Item_with_days) := ⟨rfl, rfl, rfl, by decide +kernel, rfl, by decide +kernel, by decide +kernel⟩

abbrev s_Item_renamed : Stmt := inClass (top 36) 2
abbrev n_Item_renamed : List Str := ["self", "names"]
theorem sc_Item_renamed : FnScope n_Item_renamed ["self", "names"] (defScope s_Item_renamed) := ⟨rfl, rfl, rfl, by decide +kernel, rfl, by decide +kernel, by decide +kernel⟩

abbrev s_Item_begun_at : Stmt := inClass (top 36) 3
abbrev n_Item_begun_at : List Str := ["self", "day", "days"]
theorem sc_Item_begun_at : FnScope n_Item_begun_at ["self", "day", "days"] (defScope s_Item_begun_at) := ⟨rfl, rfl, rfl, by decide +kernel, rfl, by decide +kernel, by decide +kernel⟩

abbrev s_Item_repeated : Stmt := inClass (top 36) 4
abbrev n_Item_repeated : List Str := ["self", "k", "days"]
theorem sc_Item_repeated : FnScope n_Item_repeated ["self", "k", "days"] (defScope s_Item_repeated) := ⟨rfl, rfl, rfl, by decide +kernel, rfl, by decide +kernel, by decide +kernel⟩

abbrev s_Itemfurther : Stmt := inClass (top 36) 5
abbrev n_Itemfurther : List Str := ["self"]
theorem sc_Itemfurther : FnScope n_Itemfurther ["self"] (defScope s_Itemfurther) := ⟨rfl, rfl, rfl, by decide +kernel, rfl, by decide +kernel, by decide +kernel⟩

abbrev s_Item_eq : Stmt := inClass (top 36) 6
abbrev n_Item_eq : List Str := ["self", "other"]
theorem sc_Item_eq : FnScope n_Item_eq ["self", "other"] (defScope s_Item_eq) := ⟨rfl, rfl, rfl, by decide +kernel, rfl, by decide +kernel, by decide +kernel⟩

abbrev s_Item_str : Stmt := inClass (top 36) 7
abbrev n_Item_str : List Str := ["self"]
theorem sc_Item_str : FnScope n_Item_str ["self"] (defScope s_Item_str) := ⟨rfl, rfl, rfl, by decide +kernel, rfl, by decide +kernel, by decide +kernel⟩

abbrev s_Item_read : Stmt := inClass (top 36) 8
abbrev n_Item_read : List Str := ["cls", "text"]
theorem sc_Item_read : FnScope n_Item_read ["cls", "text"] (defScope s_Item_read) := ⟨rfl, rfl, rfl, by decide +kernel, rfl, by decide +kernel, by decide +kernel⟩

abbrev s_Shift_init : Stmt := inClass (top 37) 1
abbrev n_Shift_init : List Str := ["self", "changes", "weight", "hand", "days", "__class__"]
theorem sc_Shift_init : NdefX.NScope n_Shift_init ["self", "changes", "weight", "hand", "days"] ["__class__"] (defScope s_Shift_init) := NdefX.nscope_by (by decide +kernel)

abbrev s_Shift_changes : Stmt := inClass (top 37) 2
abbrev n_Shift_changes : List Str := ["self"]
theorem sc_Shift_changes : FnScope n_Shift_changes ["self"] (defScope s_Shift_changes) := ⟨rfl, rfl, rfl, by decide +kernel, rfl, by decide +kernel, by decide +kernel⟩

abbrev s_Shift_weight : Stmt := inClass (top 37) 3
abbrev n_Shift_weight : List Str := ["self"]
theorem sc_Shift_weight : FnScope n_Shift_weight ["self"] (defScope s_Shift_weight) := ⟨rfl, rfl, rfl, by decide +kernel, rfl, by decide +kernel, by decide +kernel⟩

abbrev s_Shift_weight_2 : Stmt := inClass (top 37) 4
abbrev n_Shift_weight_2 : List Str := ["self", "value"]
theorem sc_Shift_weight_2 : FnScope n_Shift_weight_2 ["self", "value"] (defScope s_Shift_weight_2) := ⟨rfl, rfl, rfl, by decide +kernel, rfl, by decide +kernel, by decide +kernel⟩

abbrev s_Shift_hand : Stmt := inClass (top 37) 5
abbrev n_Shift_hand : List Str := ["self"]
theorem sc_Shift_hand : FnScope n_Shift_hand ["self"] (defScope s_Shift_hand) := ⟨rfl, rfl, rfl, by decide +kernel, rfl, by decide +kernel, by decide +kernel⟩

abbrev s_Shiftfurther : Stmt := inClass (top 37) 6
abbrev n_Shiftfurther : List Str := ["self"]
theorem sc_Shiftfurther : FnScope n_Shiftfurther ["self"] (defScope s_Shiftfurther) := ⟨rfl, rfl, rfl, by decide +kernel, rfl, by decide +kernel, by decide +kernel⟩

abbrev s_Shift_mul : Stmt := inClass (top 37) 7
abbrev n_Shift_mul : List Str := ["self", "other", "days", "weight", "hand", "changes", "account", "part"]
theorem sc_Shift_mul : FnScope n_Shift_mul ["self", "other"] (defScope s_Shift_mul) := ⟨rfl, rfl, rfl, by decide +kernel, rfl, by decide +kernel, by decide +kernel⟩

abbrev s_Check_init : Stmt := inClass (top 38) 0
abbrev n_Check_init : List Str := ["self", "parts", "days", "__class__"]
theorem sc_Check_init : NdefX.NScope n_Check_init ["self", "parts", "days"] ["__class__"] (defScope s_Check_init) := NdefX.nscope_by (by decide +kernel)

abbrev s_Check_call : Stmt := inClass (top 38) 1
abbrev n_Check_call : List Str := ["self", "gaps"]
theorem sc_Check_call : FnScope n_Check_call ["self", "gaps"] (defScope s_Check_call) := ⟨rfl, rfl, rfl, by decide +kernel, rfl, by decide +kernel, by decide +kernel⟩

abbrev s_Check_moved_by : Stmt := inClass (top 38) 2
abbrev n_Check_moved_by : List Str := ["self", "shift"]
theorem sc_Check_moved_by : FnScope n_Check_moved_by ["self", "shift"] (defScope s_Check_moved_by) := ⟨rfl, rfl, rfl, by decide +kernel, rfl, by decide +kernel, by decide +kernel⟩

abbrev s_Count_init : Stmt := inClass (top 39) 1
abbrev n_Count_init : List Str := ["self", "account", "days", "__class__"]
theorem sc_Count_init : NdefX.NScope n_Count_init ["self", "account", "days"] ["__class__"] (defScope s_Count_init) := NdefX.nscope_by (by decide +kernel)

abbrev s_Count_call : Stmt := inClass (top 39) 2
abbrev n_Count_call : List Str := ["self", "gaps"]
theorem sc_Count_call : FnScope n_Count_call ["self", "gaps"] (defScope s_Count_call) := ⟨rfl, rfl, rfl, by decide +kernel, rfl, by decide +kernel, by decide +kernel⟩

abbrev s_Total_init : Stmt := inClass (top 40) 1
abbrev n_Total_init : List Str := ["self", "accounts", "days", "__class__", "account"]
theorem sc_Total_init : NdefX.NScope n_Total_init ["self", "accounts", "days"] ["__class__"] (defScope s_Total_init) := NdefX.nscope_by (by decide +kernel)

abbrev s_Total_call : Stmt := inClass (top 40) 2
abbrev n_Total_call : List Str := ["self", "gaps"]
theorem sc_Total_call : FnScope n_Total_call ["self", "gaps"] (defScope s_Total_call) := ⟨rfl, rfl, rfl, by decide +kernel, rfl, by decide +kernel, by decide +kernel⟩

abbrev s_Match_call : Stmt := inClass (top 41) 2
abbrev n_Match_call : List Str := ["self", "gaps"]
theorem sc_Match_call : FnScope n_Match_call ["self", "gaps"] (defScope s_Match_call) := ⟨rfl, rfl, rfl, by decide +kernel, rfl, by decide +kernel, by decide +kernel⟩

abbrev s__read_accounts : Stmt := top 42
abbrev n__read_accounts : List Str := ["word", "accounts", "account"]
theorem sc__read_accounts : FnScope n__read_accounts ["word"] (defScope s__read_accounts) := ⟨rfl, rfl, rfl, by decide +kernel, rfl, by decide +kernel, by decide +kernel⟩

abbrev s__read_changes : Stmt := top 43
abbrev n__read_changes : List Str := ["word", "numbers", "pairs", "accounts", "changes", "part", "pair", "account"]
theorem sc__read_changes : FnScope n__read_changes ["word"] (defScope s__read_changes) := ⟨rfl, rfl, rfl, by decide +kernel, rfl, by decide +kernel, by decide +kernel⟩

abbrev s__read_some_days : Stmt := top 44
abbrev n__read_some_days : List Str := ["word", "numbers", "words", "day"]
theorem sc__read_some_days : FnScope n__read_some_days ["word"] (defScope s__read_some_days) := ⟨rfl, rfl, rfl, by decide +kernel, rfl, by decide +kernel, by decide +kernel⟩

abbrev s__read_days : Stmt := top 45
abbrev n__read_days : List Str := ["word"]
theorem sc__read_days : FnScope n__read_days ["word"] (defScope s__read_days) := ⟨rfl, rfl, rfl, by decide +kernel, rfl, by decide +kernel, by decide +kernel⟩

abbrev s__read_weight : Stmt := top 46
abbrev n__read_weight : List Str := ["word", "numbers", "weight"]
theorem sc__read_weight : FnScope n__read_weight ["word"] (defScope s__read_weight) := ⟨rfl, rfl, rfl, by decide +kernel, rfl, by decide +kernel, by decide +kernel⟩

abbrev s__read_shift : Stmt := top 47
abbrev n__read_shift : List Str := ["words", "changes", "days", "weight", "hand"]
theorem sc__read_shift : FnScope n__read_shift ["words"] (defScope s__read_shift) := ⟨rfl, rfl, rfl, by decide +kernel, rfl, by decide +kernel, by decide +kernel⟩

abbrev s__read_match : Stmt := top 48
abbrev n__read_match : List Str := ["words", "left", "right", "days", "account"]
theorem sc__read_match : FnScope n__read_match ["words"] (defScope s__read_match) := ⟨rfl, rfl, rfl, by decide +kernel, rfl, by decide +kernel, by decide +kernel⟩

abbrev s__read_count : Stmt := top 49
abbrev n__read_count : List Str := ["words", "account", "days"]
theorem sc__read_count : FnScope n__read_count ["words"] (defScope s__read_count) := ⟨rfl, rfl, rfl, by decide +kernel, rfl, by decide +kernel, by decide +kernel⟩

abbrev s__read_total : Stmt := top 50
abbrev n__read_total : List Str := ["words", "accounts", "days"]
theorem sc__read_total : FnScope n__read_total ["words"] (defScope s__read_total) := ⟨rfl, rfl, rfl, by decide +kernel, rfl, by decide +kernel, by decide +kernel⟩

abbrev s__read_item : Stmt := top 52
abbrev n__read_item : List Str := ["words", "reading"]
theorem sc__read_item : FnScope n__read_item ["words"] (defScope s__read_item) := ⟨rfl, rfl, rfl, by decide +kernel, rfl, by decide +kernel, by decide +kernel⟩

abbrev s__law_pen : Stmt := top 54
abbrev n__law_pen : List Str := ["_law_script"]
theorem sc__law_pen : FnScope n__law_pen ["_law_script"] (defScope s__law_pen) := ⟨rfl, rfl, rfl, by decide +kernel, rfl, by decide +kernel, by decide +kernel⟩

abbrev s__law_draw : Stmt := top 55
abbrev n__law_draw : List Str := ["_law_pen_here", "_law_many", "_law_digit", "_law_begun", "_law_lone", "_law_great", "_law_mixed"]
theorem sc__law_draw : FnScope n__law_draw ["_law_pen_here", "_law_many"] (defScope s__law_draw) := ⟨rfl, rfl, rfl, by decide +kernel, rfl, by decide +kernel, by decide +kernel⟩

abbrev s__law_pick : Stmt := top 56
abbrev n__law_pick : List Str := ["_law_pen_here", "_law_some"]
theorem sc__law_pick : FnScope n__law_pick ["_law_pen_here", "_law_some"] (defScope s__law_pick) := ⟨rfl, rfl, rfl, by decide +kernel, rfl, by decide +kernel, by decide +kernel⟩

abbrev s__law_accounts : Stmt := top 57
abbrev n__law_accounts : List Str := ["_law_pen_here", "_law_many", "_law_left", "_law_spot"]
theorem sc__law_accounts : FnScope n__law_accounts ["_law_pen_here", "_law_many"] (defScope s__law_accounts) := ⟨rfl, rfl, rfl, by decide +kernel, rfl, by decide +kernel, by decide +kernel⟩

abbrev s__law_terms : Stmt := top 58
abbrev n__law_terms : List Str := ["_law_pen_here", "_law_owners", "_law_owner"]
theorem sc__law_terms : FnScope n__law_terms ["_law_pen_here", "_law_owners"] (defScope s__law_terms) := ⟨rfl, rfl, rfl, by decide +kernel, rfl, by decide +kernel, by decide +kernel⟩

abbrev s__law_told_right : Stmt := top 59
abbrev n__law_told_right : List Str := ["_law_made", "_law_terms_here", "_law_owner", "_law_due"]
theorem sc__law_told_right : FnScope n__law_told_right ["_law_made", "_law_terms_here"] (defScope s__law_told_right) := ⟨rfl, rfl, rfl, by decide +kernel, rfl, by decide +kernel, by decide +kernel⟩

abbrev s__law_equal_right : Stmt := top 60
abbrev n__law_equal_right : List Str := ["_law_pen_here", "_law_made", "_law_terms_here", "_law_turned", "_law_other", "_law_owner", "_law_less", "_law_lone", "_law_thing", "_law_one"]
theorem sc__law_equal_right : FnScope n__law_equal_right ["_law_pen_here", "_law_made", "_law_terms_here"] (defScope s__law_equal_right) := ⟨rfl, rfl, rfl, by decide +kernel, rfl, by decide +kernel, by decide +kernel⟩

abbrev s_law : Stmt := top 61
abbrev n_law : List Str := ["_law_script", "_law_pen_here", "_law_turn", "_law_terms_here", "_law_passed", "_law_made", "_law_owner", "_law_contrary", "_law_wide", "_law_sign"]
theorem sc_law : FnScope n_law ["_law_script"] (defScope s_law) := ⟨rfl, rfl, rfl, by decide +kernel, rfl, by decide +kernel, by decide +kernel⟩

/-- what the module's names are -/
structure Txt (K : PySem.W.Frag) (mg : Str → Option Value) : Prop where
  b_int : mg "int" = none
  b_len : mg "len" = none
  b_abs : mg "abs" = none
  b_list : mg "list" = none
  b_range : mg "range" = none
  b_isinstance : mg "isinstance" = none
  b_repr : mg "repr" = none
  b_bool : mg "bool" = none
  b_str : mg "str" = none
  b_dict : mg "dict" = none
  b_tuple : mg "tuple" = none
  b_sorted : mg "sorted" = none
  b_set : mg "set" = none
  b_all : mg "all" = none
  b_any : mg "any" = none
  b_sum : mg "sum" = none
  b_super : mg "super" = none
  b_enumerate : mg "enumerate" = none
  g_MOST_LETTERS : ∃ t, mg "MOST_LETTERS" = some (.int 8 t)
section
variable {P : Program} {w : World} {K : PySem.W.Frag} {mg : Str → Option Value} {base : Heap}

theorem ok_pen {f : Addr} {fd : FuncData} (F : Fun K "_law_pen" "_law_pen" s__law_pen f fd) (T : Txt K mg) : FnOk P w K mg base CX0 1 f fd ["_law_script"] (spPen K) := by
  refine F.ok sc__law_pen (fun vs H Q E h => ?_) (fun cdv A outer s H vs Q E hr h => ?_)
  · obtain ⟨a, ns, rfl, _⟩ := h
    rfl
  · obtain ⟨a, ns, rfl, hs, k⟩ := h
    refine ⟨_, (pss_one (ps_ret (pe_lst (pa_cons (pe_callTy call_list_of (by rfl) T.b_list (by decide +kernel) (pa_cons (pe_slice sl_list (pc 0) po_none (po_some pe_int)) pa_nil)) (pa_cons pe_int (pa_cons pe_int pa_nil)))))), ?_⟩
    refine ⟨_, rfl, a, _, rfl, hs, fun q1 n1 => ⟨q1, _, rfl, .inl (SqL.of upd_same), fun q2 n2 => ⟨by show 3 ≤ sizeLine; decide, fun p n3 => ?_⟩⟩⟩
    obtain ⟨ms, hm⟩ := cut_ints ns none (some 63)
    have s1 : Same H (upd H q1 (.lst (cutV (ns.map V.int) none (some 63)))) := Same.new (Same.refl H) n1
    have s2 := Same.new (o := .lst (cutV (ns.map V.int) none (some 63))) s1 n2
    have s3 := Same.new (o := .lst [.ref q2, .int 0, .int 0]) s2 n3
    refine k p q2 _ (s2.free n3) s3 ⟨ms, 0, 0, ⟨upd_same, ?_, ne_of_none upd_same n3, by decide, by decide⟩, by decide⟩
    rw [upd_ne (ne_of_none upd_same n3), upd_same, hm]

theorem ok_draw {f : Addr} {fd : FuncData} (F : Fun K "_law_draw" "_law_draw" s__law_draw f fd) (T : Txt K mg) : FnOk P w K mg base CX0 1 f fd ["_law_pen_here", "_law_many"] spDraw := by
  refine F.ok sc__law_draw (fun vs H Q E h => ?_) (fun cdv A outer s H vs Q E hr h => ?_)
  · obtain ⟨p, l, c, many, rfl, _⟩ := h
    rfl
  · obtain ⟨p, l, cM, many, rfl, ⟨ns, c, g, Pp, cle⟩, hm, hz, hcM, k⟩ := h
    have hc : c < 1000000 := by omega
    obtain ⟨hp, hl, ne, c0, g0⟩ := id Pp
    refine ⟨_, (pss_cons (s_if (t_cmp o_gt (p_ix (pc 0) pe_int) pe_int) (pss_cons (ps_set (i := 2) sc__law_draw.nd rfl (Or.inl rfl) (pe_op o_mod (pe_callTy c_int (by rfl) T.b_int (by decide +kernel) (pa_cons (p_ix (pc 0) pe_int) pa_nil)) (pc 1)))
    (pss_cons (ps_asg (pe_op o_fdiv (pe_callTy c_int (by rfl) T.b_int (by decide +kernel) (pa_cons (p_ix (pc 0) pe_int) pa_nil)) (pc 1)) (pg_sub (pc 0) pe_int set_list))
    (pss_one (ps_ret (pc 2))))) pss_nil)
    (pss_cons (ps_set (i := 3) sc__law_draw.nd rfl (Or.inl rfl) (p_ix (pc 0) pe_int))
    (s_cut (ps_asg (pe_op o_add (pc 3) pe_int) (pg_sub (pc 0) pe_int set_list))
    (pss_cons (ps_set (i := 4) sc__law_draw.nd rfl (Or.inl rfl) (pe_op o_add (pe_op o_mul pe_int (pc 3)) pe_int))
    (s_cut (s_if (t_cmp (o_ne hr.units) (p_ix (pc 0) pe_int) (pe_lst pa_nil)) (pss_one (ps_set (i := 4) sc__law_draw.nd rfl (Or.inl rfl) (p_ix (p_ix (pc 0) pe_int) (pe_op o_mod (pe_callTy c_int (by rfl) T.b_int (by decide +kernel) (pa_cons (pc 3) pa_nil)) (pe_callB c_len (by rfl) T.b_len (by decide +kernel) (pa_cons (p_ix (pc 0) pe_int) pa_nil)))))) pss_nil)
    (s_cut (s_if (PW.pt (w_and (t_cmp o_lt (pc 3) (pe_callB c_len (by rfl) T.b_len (by decide +kernel) (pa_cons (p_ix (pc 0) pe_int) pa_nil))) (pw_and1 (t_cmp o_ge (pe_callB c_abs (by rfl) T.b_abs (by decide +kernel) (pa_cons (pc 4) pa_nil)) (pe_op o_pow pe_int pe_int))))) (pss_cons (ps_set (i := 5) sc__law_draw.nd rfl (Or.inl rfl) (pe_op o_add (pe_op o_mul pe_int (pe_op o_sub (pe_callB c_abs (by rfl) T.b_abs (by decide +kernel) (pa_cons (pc 4) pa_nil)) (pe_op o_pow pe_int pe_int))) (pe_callTy c_int (by rfl) T.b_int (by decide +kernel) (pa_cons (p_cmp o_lt (pc 4) pe_int) pa_nil))))
    (pss_cons (ps_asg (pe_op o_fdiv (pe_callTy c_int (by rfl) T.b_int (by decide +kernel) (pa_cons (pc 5) pa_nil)) (pc 1)) (pg_sub (pc 0) pe_int set_list))
    (pss_one (ps_ret (pe_op o_mod (pe_callTy c_int (by rfl) T.b_int (by decide +kernel) (pa_cons (pc 5) pa_nil)) (pc 1)))))) pss_nil)
    (s_cut (ps_set (i := 6) sc__law_draw.nd rfl (Or.inl rfl) (pe_op o_mod (pe_callTy c_int (by rfl) T.b_int (by decide +kernel) (pa_cons (pe_op o_pow (pe_op o_add (pe_op o_add (pe_op o_mod (pe_callTy c_int (by rfl) T.b_int (by decide +kernel) (pa_cons (pc 4) pa_nil)) pe_int) (pe_op o_mul pe_int (pc 3))) pe_int) pe_int) pa_nil)) pe_int))
    (s_cut (ps_set (i := 6) sc__law_draw.nd rfl (Or.inl rfl) (pe_op o_mod (pe_callTy c_int (by rfl) T.b_int (by decide +kernel) (pa_cons (pe_op o_pow (pe_op o_add (pe_op o_add (pe_op o_mul (pc 6) (pe_op o_add (pe_op o_mul pe_int (pc 3)) pe_int)) (pe_op o_mul (pe_op o_mul pe_int (pc 3)) (pc 3))) pe_int) pe_int) pa_nil)) pe_int))
    (pss_one (ps_ret (pe_op o_mod (pe_callTy c_int (by rfl) T.b_int (by decide +kernel) (pa_cons (pe_op o_fdiv (pc 6) pe_int) pa_nil)) (pc 1)))))))))))), ?_⟩
    -- what is left of a great cell
    refine ⟨_, _, .inl (SqL.of hp), rfl, fun h => ?_, fun _ => ?_⟩
    · have hg := of_decide_eq_true h
      have q0 : 0 ≤ g / many := Int.ediv_nonneg g0 (Int.le_of_lt hm)
      refine ⟨_, _, .inl (SqL.of hp), rfl, hm, _, _, .inl (SqL.of hp), rfl, wide_div hm hz (by decide) (by decide), p, _, _, 2, rfl, rfl, hp, rfl, ?_⟩
      have kk : Kp p H (upd H p (.lst [.ref l, .int c, .int (g / many)])) := Kp.refl.upd
      exact k (g % many) _ (Int.emod_nonneg _ (by omega)) (Int.emod_lt_of_pos _ hm) kk ⟨ns, c, _, Pp.put kk c0 q0 upd_same, by omega⟩
    · -- one more cell is begun
      refine ⟨_, _, .inl (SqL.of hp), rfl, fun σ G => σ = [some (.ref p), some (.int many), none, some (.int c), none, none, none] ∧ Kp p H G ∧ Pn G p l ns (c + 1) g, ?_, ?_⟩
      · exact ⟨p, _, _, 1, rfl, rfl, hp, rfl, rfl, Kp.refl.upd, Pp.put Kp.refl.upd (by omega) g0 upd_same⟩
      rintro σ H1 ⟨rfl, k1, P1⟩
      -- the cell, if there is one
      refine ⟨.inl (.inl ⟨by decide, by decide⟩), fun σ G => ∃ lone : Int, σ = [some (.ref p), some (.int many), none, some (.int c), some (.int lone), none, none] ∧ Kp p H G ∧ Pn G p l ns (c + 1) g, ?_, ?_⟩
      · refine ⟨_, _, .inl (SqL.of P1.at_), rfl, Nat.zero_le _, fun q nq => ?_⟩
        have k2 : Kp p H1 (upd H1 q (.lst [])) := Kp.refl.new nq
        have P2 : Pn (upd H1 q (.lst [])) p l ns (c + 1) g := P1.new nq
        have hq : upd H1 q (.lst []) q = some (.lst []) := upd_same
        refine ⟨.list (ns.map PyData.int), .list [], .lst (SqL.of P2.cel) (dp_ints ns), .lst (SqL.of hq) .nil, shaped_ints ns, rfl, ?_, ?_⟩
        · intro h
          have hn : ns ≠ [] := by
            intro e
            subst e
            cases h
          have hlen : 0 < (ns.length : Int) := by
            have := List.length_pos_iff.mpr hn
            omega
          obtain ⟨z, hzz⟩ := at_mod (ns := ns) c hlen
          refine ⟨_, _, .inl (SqL.of P2.at_), rfl, _, _, .inl (SqL.of P2.at_), rfl, _, .inl (SqL.of P2.cel), by rw [List.length_map]; exact hlen, _, .int z, .inl (SqL.of P2.cel), ?_, ?_⟩
          · rw [List.length_map]
            exact hzz
          · exact ⟨z, rfl, k1.trans k2, P2⟩
        · intro _
          exact ⟨_, rfl, k1.trans k2, P2⟩
      · rintro σ G ⟨lone, rfl, kG, PG⟩
        -- a great cell
        refine ⟨fun σ G' => σ = [some (.ref p), some (.int many), none, some (.int c), some (.int lone), none, none] ∧ Kp p H G' ∧ Pn G' p l ns (c + 1) g, ?_, ?_⟩
        · refine ⟨_, _, .inl (SqL.of PG.at_), rfl, _, .inl (SqL.of PG.cel), fun h1 => ?_, fun _ => ⟨fun z => Bool.noConfusion z, fun _ => ⟨rfl, kG, PG⟩⟩⟩
          refine ⟨⟨by decide, by decide, by decide⟩, fun h2 => ?_, fun _ => ⟨rfl, kG, PG⟩⟩
          have h2 := of_decide_eq_true h2
          refine ⟨⟨by decide, by decide, by decide⟩, .inl (.inl ⟨by decide, by decide⟩), wide_div hm hz (by decide) (by decide), p, _, _, 2, rfl, rfl, PG.at_, rfl, hm, ?_⟩
          have kk := kG.upd (p := p) (o := .lst [.ref l, .int (c + 1), .int ((2 * ((if lone < 0 then -lone else lone) - 10 ^ (18 : Int).toNat) + (if decide (lone < 0) = true then 1 else 0)) / many)])
          refine k _ _ (Int.emod_nonneg _ (by omega)) (Int.emod_lt_of_pos _ hm) kk ⟨ns, c + 1, _, Pp.put kk (by omega) ?_ upd_same, by omega⟩
          refine Int.ediv_nonneg ?_ (Int.le_of_lt hm)
          have z : (0 : Int) ≤ (if decide (lone < 0) = true then 1 else 0) := by split <;> decide
          omega
        · rintro σ' G' ⟨rfl, kG', PG'⟩
          -- a mix
          have e0 := fun b : Int => Int.emod_nonneg lone (b := b)
          have e1 := fun b : Int => Int.emod_lt_of_pos lone (b := b)
          refine ⟨fun σ G => ∃ m : Int, σ = [some (.ref p), some (.int many), none, some (.int c), some (.int lone), none, some (.int m)] ∧ G = G' ∧ 0 ≤ m ∧ m < 2147483648, ?_, ?_⟩
          · refine ⟨(by show (0 : Int) < _; decide), .inl (.inl ⟨by decide, by decide⟩), ⟨by decide, by decide, by omega⟩, (by show (0 : Int) < _; decide), _, rfl, rfl, Int.emod_nonneg _ (by decide), ?_⟩
            exact Int.lt_trans (Int.emod_lt_of_pos _ (by decide)) (by decide)
          rintro σ G2 ⟨m, rfl, rfl, m0, m1⟩
          refine ⟨fun σ G => ∃ m : Int, σ = [some (.ref p), some (.int many), none, some (.int c), some (.int lone), none, some (.int m)] ∧ G = G2 ∧ 0 ≤ m ∧ m < 2147483648, ?_, ?_⟩
          · have hb : ∀ a b d : Int, 0 ≤ a → a ≤ 1000 → 0 ≤ b → b ≤ 100000 → 0 ≤ d → d ≤ 1000 → (m * (2 * c + a) + b * c * c + d).natAbs < 2 ^ 64 := fun a b d h1 h2 h3 h4 h5 h6 => by
              have y1 := mul_lt (a := 2147483648) (b := 2002000) m0 m1 (show 0 ≤ 2 * c + a by omega) (by omega)
              have y2 := Int.mul_nonneg m0 (show 0 ≤ 2 * c + a by omega)
              have y3 := mul_lt (a := 100001) (b := 1000000) h3 (by omega) c0 hc
              have y4 := Int.mul_nonneg h3 c0
              have y5 := mul_lt (a := 100001000000) (b := 1000000) y4 (by omega) c0 hc
              have y6 := Int.mul_nonneg y4 c0
              omega
            have hb2 : ∀ b : Int, 0 ≤ b → b ≤ 100000 → CMulU (b * c) c := fun b h3 h4 => by
              have y3 := mul_lt (a := 100001) (b := 1000000) h3 (by omega) c0 hc
              have y4 := Int.mul_nonneg h3 c0
              exact .inl (.inl ⟨by omega, by omega⟩)
            refine ⟨.inl (.inl ⟨by decide, by decide⟩), .inl (.inl ⟨by omega, by omega⟩), .inl (.inl ⟨by decide, by decide⟩), hb2 _ (by decide) (by decide), ⟨by decide, by decide, ?_⟩, (by show (0 : Int) < _; decide), _, rfl, rfl, Int.emod_nonneg _ (by decide), ?_⟩
            · exact hb _ _ _ (by decide) (by decide) (by decide) (by decide) (by decide) (by decide)
            · exact Int.lt_trans (Int.emod_lt_of_pos _ (by decide)) (by decide)
          rintro σ G3 ⟨m, rfl, rfl, m0, m1⟩
          refine ⟨wide_div (b := 10) (by decide) (by decide) (by decide) (by decide), hm, ?_⟩
          exact k _ _ (Int.emod_nonneg _ (by omega)) (Int.emod_lt_of_pos _ hm) kG' ⟨ns, c + 1, g, PG', by omega⟩

theorem ok_pick {f : Addr} {fd : FuncData} {B : FuncData → Prop} (F : Fun K "_law_pick" "_law_pick" s__law_pick f fd) (T : Txt K mg) (cD : CalO P w K mg base "_law_draw" 1 ["_law_pen_here", "_law_many"] spDraw B) : FnOk P w K mg base CX0 2 f fd ["_law_pen_here", "_law_some"] (spPick K) := by
  refine F.ok sc__law_pick (fun vs H Q E h => ?_) (fun cdv A outer s H vs Q E hr h => ?_)
  · obtain ⟨p, l, c, x, rfl, _⟩ := h
    rfl
  · obtain ⟨p, l, c, x, rfl, Pp, hc, k⟩ := h
    refine ⟨_, (pss_one (ps_ret (p_ix (pc 1) (pe_cO cD (hr.mono (by decide)) (pa_cons (pc 0) (pa_cons (pe_callB c_len (by rfl) T.b_len (by decide +kernel) (pa_cons (pc 1) pa_nil)) pa_nil)))))), ?_⟩
    rcases k with ⟨z, rfl, h0, h1, k⟩ | ⟨a, xs, rfl, ne, hs, h0, h1, k⟩
    · refine ⟨Nat.le_trans h1 size_line_big, p, l, c, (z.length : Int), rfl, Pp, by omega, small_bits h1, hc, fun r H' r0 r1 kk P' => ?_⟩
      have e : z.length = z.cps.toList.length := by simp [Str.length]
      obtain ⟨ch, h2, h3⟩ := at_in (xs := z.cps.toList) r0 (by rw [← e]; exact r1)
      exact ⟨Nat.le_trans h1 size_line_big, ch, h2, k ch H' h3 kk P'⟩
    · refine ⟨xs, hs, p, l, c, (xs.length : Int), rfl, Pp, by omega, small_bits h1, hc, fun r H' r0 r1 kk P' => ?_⟩
      obtain ⟨v, h2, h3⟩ := at_in (xs := xs) r0 r1
      exact ⟨xs, v, hs.elim (fun z => .inl (kk.seq ne z)) (fun z => .inr (kk.seqT ne z)), h2, k v H' h3 kk P'⟩

end
end LW

set_option Elab.async false
set_option linter.all false
set_option maxRecDepth 100000
set_option maxHeartbeats 2000000
/-! Z1: values by predicates over a heap of facts: a reading answers with a value of which S holds, whatever else changes -/
namespace HX
open PySem PySem.Spec PyProof.Rows L2
abbrev Pr := V → Hp → Prop
class Mo (S : Pr) : Prop where
  mo : ∀ {v : V} {F F' : Hp}, Same F F' → S v F → S v F'
/-- the facts F are true of G; the dicts at L are locked -/
def Fits (L : List Addr) (F G : Hp) : Prop := ∀ b o, F b = some o → (b ∉ L ∧ G b = some o) ∨ (b ∈ L ∧ ∃ ob, G b = some (.frz ob o))
/-- all but the pen stays; the pen is asked n times at most -/
def Rn (p : Option Addr) (n : Nat) (H G : Hp) : Prop := match p with
  | none => Same H G
  | some q => Kp q H G ∧ (H q ≠ none → G q ≠ none) ∧ ∀ k0 c, Pe H q k0 c → Pe G q k0 (c + n)
def Bud (p : Option Addr) (n : Nat) (G : Hp) : Prop := match p with
  | none => True
  | some q => n = 0 ∨ ∃ k0 c, Pe G q k0 c ∧ c + n ≤ 999000
section
variable {p : Option Addr} {n m : Nat} {H G J F F' F1 F2 : Hp} {L : List Addr} {D : Addr} {o : HO}
theorem Rn.refl : Rn p 0 H H := match p with
  | none => Same.refl H
  | some _ => ⟨Kp.refl, id, fun _ _ P => by simpa using P⟩
theorem Rn.trans (a : Rn p n H G) (b : Rn p m G J) : Rn p (n + m) H J := match p, a, b with
  | none, a, b => Same.trans a b
  | some _, ⟨a1, a2, a3⟩, ⟨b1, b2, b3⟩ => ⟨a1.trans b1, fun z => b2 (a2 z), fun k0 c P => (b3 _ _ (a3 _ _ P)).mono (by push_cast; omega)⟩
theorem Rn.same (s : Same H G) : Rn p 0 H G := match p with
  | none => s
  | some q => ⟨Kp.same s, (fun z e => by
      cases h : H q with
      | none => exact z h
      | some o => rw [s _ _ h] at e; cases e), fun k0 c P => (P.same s).mono (by omega)⟩
theorem Rn.le (a : Rn p n H G) (h : n ≤ m) : Rn p m H G := match p, a with
  | none, a => a
  | some _, ⟨a1, a2, a3⟩ => ⟨a1, a2, fun k0 c P => (a3 _ _ P).mono (by omega)⟩
theorem Rn.mut (a : Rn p n H G) (h : H D = none) : Rn p n H (L2.upd G D o) := match p, a with
  | none, a => Same.mut a h
  | some q, ⟨a1, a2, a3⟩ => ⟨a1.mut h, (fun z e => by
      by_cases c : q = D
      · rw [c, upd_same] at e; cases e
      · rw [upd_ne c] at e; exact a2 z e), fun k0 c P => (a3 _ _ P).mut (P.ne h) (P.neL h)⟩
theorem Rn.keep (a : Rn p n H G) {b : Addr} (hb : p ≠ some b) (e : H b = some o) : G b = some o := match p, a with
  | none, a => a _ _ e
  | some q, ⟨a1, _, _⟩ => a1 _ _ (fun z => hb (by rw [z])) e
theorem Rn.trk (a : Rn p n H G) {b : Addr} (h : H b ≠ none) : G b ≠ none := fun z => by
  cases e : H b with
  | none => exact h e
  | some o =>
    match p, a with
    | none, a => rw [a _ _ e] at z; cases z
    | some q, ⟨a1, a2, _⟩ =>
      by_cases c : b = q
      · subst c; exact a2 h z
      · rw [a1 _ _ c e] at z; cases z
theorem Bud.le (b : Bud p m G) (h : n ≤ m) : Bud p n G := match p, b with
  | none, _ => trivial
  | some _, b => b.elim (fun e => .inl (by omega)) fun ⟨k0, c, P, l⟩ => .inr ⟨k0, c, P, by omega⟩
theorem Bud.zero : Bud p 0 G := match p with
  | none => trivial
  | some _ => .inl rfl
theorem Bud.step (b : Bud p (n + m) G) (a : Rn p n G J) : Bud p m J := match p, b, a with
  | none, _, _ => trivial
  | some _, b, ⟨_, _, a3⟩ => b.elim (fun e => .inl (by omega)) fun ⟨k0, c, P, l⟩ => .inr ⟨k0, _, a3 _ _ P, by push_cast at l; omega⟩
/-- a state: the facts fit, the pen is no fact, what is locked is a dict -/
structure At (p : Option Addr) (L : List Addr) (F G : Hp) : Prop where
  fits : Fits L F G
  out : ∀ q, p = some q → F q = none
  trk : ∀ q, p = some q → G q ≠ none
  lk : ∀ b ∈ L, p ≠ some b ∧ ∃ ob kvs, G b = some (.frz ob (.dK kvs))
/-- a step -/
structure Nx (p : Option Addr) (L : List Addr) (n : Nat) (F G F' G' : Hp) : Prop where
  r : Rn p n G G'
  s : Same F F'
  f : Fits L F' G'
  w : ∀ b, F b = none → G b ≠ none → F' b = none
theorem At.ne (a : At p L F G) {b : Addr} (e : F b = some o) : p ≠ some b := fun z => by
  rw [a.out b z] at e
  cases e
theorem At.seen (a : At p L F G) {b : Addr} (e : F b = some o) : G b ≠ none := fun z => by
  rcases a.fits b o e with ⟨_, h⟩ | ⟨_, ob, h⟩ <;> rw [z] at h <;> cases h
theorem Nx.at_ {F' G' : Hp} (x : Nx p L n F G F' G') (a : At p L F G) : At p L F' G' :=
  ⟨x.f, fun q h => x.w q (a.out q h) (a.trk q h), fun q h => x.r.trk (a.trk q h), fun b hb => ⟨(a.lk b hb).1, let ⟨ob, kvs, e⟩ := (a.lk b hb).2; ⟨ob, kvs, x.r.keep (a.lk b hb).1 e⟩⟩⟩
theorem Nx.refl (a : At p L F G) : Nx p L 0 F G F G := ⟨Rn.refl, Same.refl F, a.fits, fun _ h _ => h⟩
theorem Nx.trans {F1 G1 F2 G2 : Hp} (x : Nx p L n F G F1 G1) (y : Nx p L m F1 G1 F2 G2) : Nx p L (n + m) F G F2 G2 :=
  ⟨x.r.trans y.r, x.s.trans y.s, y.f, fun b h z => y.w b (x.w b h z) (x.r.trk z)⟩
theorem Nx.le {F' G' : Hp} (x : Nx p L n F G F' G') (h : n ≤ m) : Nx p L m F G F' G' := ⟨x.r.le h, x.s, x.f, x.w⟩
theorem At.nl (a : At p L F G) {q : Addr} (h : G q = none) : q ∉ L := fun z => by
  obtain ⟨_, ob, kvs, e⟩ := a.lk q z
  rw [h] at e
  cases e
theorem At.nf (a : At p L F G) {q : Addr} (h : G q = none) : F q = none := by
  cases e : F q with
  | none => rfl
  | some o => exact absurd h (a.seen e)
theorem At.np (a : At p L F G) {q : Addr} (h : G q = none) : p ≠ some q := fun z => a.trk q z h
/-- a new object that is a fact -/
theorem Nx.new (a : At p L F G) {q : Addr} (h : G q = none) (o : HO) : Nx p L 0 F G (L2.upd F q o) (L2.upd G q o) :=
  ⟨Rn.same (Same.new (Same.refl G) h), Same.new (Same.refl F) (a.nf h), fun b u e => by
    by_cases c : b = q
    · subst c
      rw [upd_same] at e ⊢
      exact .inl ⟨a.nl h, e⟩
    · rw [upd_ne c] at e
      rcases a.fits b u e with ⟨z, y⟩ | ⟨z, ob, y⟩
      · exact .inl ⟨z, by rw [upd_ne c]; exact y⟩
      · exact .inr ⟨z, ob, by rw [upd_ne c]; exact y⟩, fun b e z => by rw [upd_ne (fun c => z (by rw [c]; exact h))]; exact e⟩
/-- facts that stay -/
theorem Fits.rn (f : Fits L F G) (out : ∀ q, p = some q → F q = none) (r : Rn p n G J) : Fits L F J := fun b o e => by
  have hb : p ≠ some b := fun z => by rw [out b z] at e; cases e
  rcases f b o e with ⟨z, y⟩ | ⟨z, ob, y⟩
  · exact .inl ⟨z, r.keep hb y⟩
  · exact .inr ⟨z, ob, r.keep hb y⟩
/-- a step told by the heaps alone -/
theorem Nx.of (a : At p L F G) (r : Rn p n G J) : Nx p L n F G F J := ⟨r, Same.refl F, a.fits.rn a.out r, fun _ h _ => h⟩
theorem Nx.same (a : At p L F G) (s : Same G J) : Nx p L 0 F G F J := Nx.of a (Rn.same s)
/-- an object laid by what was called becomes a fact -/
theorem Nx.put (x : Nx p L n F G F1 J) (h : G D = none) (h1 : F1 D = none) (e : J D = some o) (nl : D ∉ L) : Nx p L n F G (L2.upd F1 D o) J :=
  ⟨x.r, Same.new x.s h1, fun b u z => by
    by_cases c : b = D
    · subst c
      rw [upd_same] at z
      cases z
      exact .inl ⟨nl, e⟩
    · rw [upd_ne c] at z
      exact x.f b u z, fun b z y => by rw [upd_ne (fun c => y (by rw [c]; exact h))]; exact x.w b z y⟩
theorem At.dkL (a : At p L F G) {b : Addr} {C dx : Addr} {fs : List (Str × V)} (e : F b = some (.ins C dx fs)) : G b = some (.ins C dx fs) := by
  rcases a.fits b _ e with ⟨_, h⟩ | ⟨z, ob, h⟩
  · exact h
  · obtain ⟨_, ob2, kvs, y⟩ := a.lk b z
    rw [h] at y
    cases y
theorem At.tup (a : At p L F G) {b : Addr} {vs : List V} (e : F b = some (.tup vs)) : G b = some (.tup vs) := by
  rcases a.fits b _ e with ⟨_, h⟩ | ⟨z, ob, h⟩
  · exact h
  · obtain ⟨_, ob2, kvs, y⟩ := a.lk b z
    rw [h] at y
    cases y
theorem At.lst (a : At p L F G) {b : Addr} {vs : List V} (e : F b = some (.lst vs)) : G b = some (.lst vs) := by
  rcases a.fits b _ e with ⟨_, h⟩ | ⟨z, ob, h⟩
  · exact h
  · obtain ⟨_, ob2, kvs, y⟩ := a.lk b z
    rw [h] at y
    cases y
theorem At.dic (a : At p L F G) {b : Addr} {kvs : List (Key × V)} (e : F b = some (.dK kvs)) : Rd G b (.dK kvs) := by
  rcases a.fits b _ e with ⟨_, h⟩ | ⟨z, ob, h⟩
  · exact .inl h
  · exact .inr ⟨ob, h⟩
theorem At.sub {F0 : Hp} (a : At p L F G) (s : Same F0 F) : At p L F0 G := ⟨fun b o e => a.fits b o (s _ _ e), fun q h => by
  cases e : F0 q with
  | none => rfl
  | some o => exact absurd (a.out q h) (by rw [s _ _ e]; exact fun z => nomatch z), a.trk, a.lk⟩
end
def join (F F' : Hp) : Hp := fun b => match F b with
  | some o => some o
  | none => F' b
theorem same_joinL {F F' : Hp} : Same F (join F F') := fun b o e => by unfold join; rw [e]
theorem join_of {F F' : Hp} {b : Addr} {o : HO} (e : join F F' b = some o) : F b = some o ∨ F' b = some o := by
  unfold join at e
  cases h : F b with
  | none => rw [h] at e; exact .inr e
  | some u => rw [h] at e; exact .inl e
theorem same_joinR {L : List Addr} {F F' G : Hp} (f : Fits L F G) (f' : Fits L F' G) : Same F' (join F F') := fun b o e => by
  unfold join
  cases h : F b with
  | none => exact e
  | some u =>
    rcases f b u h with ⟨z, y⟩ | ⟨z, ob, y⟩
    · rcases f' b o e with ⟨_, y'⟩ | ⟨z', _⟩
      · rw [y] at y'; exact y'
      · exact absurd z' z
    · rcases f' b o e with ⟨z', _⟩ | ⟨_, ob', y'⟩
      · exact absurd z z'
      · rw [y] at y'; cases y'; rfl
theorem fits_join {L : List Addr} {F F' G : Hp} (f : Fits L F G) (f' : Fits L F' G) : Fits L (join F F') G := fun b o e => (join_of e).elim (f b o) (f' b o)
theorem join_none {F F' : Hp} {b : Addr} (h : F b = none) (h' : F' b = none) : join F F' b = none := by unfold join; rw [h]; exact h'
/-- an expression's answer -/
def Ev (p : Option Addr) (L : List Addr) (F : Hp) (n : Nat) (te : TE) (σ : L2.St) (S : Pr) : Prop :=
  ∀ G, At p L F G → Bud p n G → ∀ Q : VK, (∀ v F' G', Nx p L n F G F' G' → S v F' → Q v G') → te σ G Q
/-- a test's -/
def EvT (p : Option Addr) (L : List Addr) (F : Hp) (n : Nat) (tt : TT) (σ : L2.St) (B : Bool → Prop) : Prop :=
  ∀ G, At p L F G → Bud p n G → ∀ Q : Bool → Hp → Prop, (∀ b F' G', Nx p L n F G F' G' → B b → Q b G') → tt σ G Q
def AllP : List Pr → List V → Hp → Prop
  | [], vs, _ => vs = []
  | S :: Ss, vs, F => ∃ v r, vs = v :: r ∧ S v F ∧ AllP Ss r F
class MoL (Ss : List Pr) : Prop where
  mo : ∀ {vs : List V} {F F' : Hp}, Same F F' → AllP Ss vs F → AllP Ss vs F'
instance : MoL [] := ⟨fun _ h => h⟩
instance {S : Pr} {Ss : List Pr} [Mo S] [MoL Ss] : MoL (S :: Ss) := ⟨fun s ⟨v, r, e, a, b⟩ => ⟨v, r, e, Mo.mo s a, MoL.mo s b⟩⟩
instance {α : Type} {R : α → Pr} {xs : List α} [∀ x, Mo (R x)] : MoL (xs.map R) := by
  induction xs with
  | nil => exact inferInstanceAs (MoL [])
  | cons x xs ih => exact inferInstanceAs (MoL (R x :: xs.map R))
theorem AllP.len : ∀ {Ss : List Pr} {vs : List V} {F : Hp}, AllP Ss vs F → vs.length = Ss.length
  | [], _, _, h => by rw [show _ = [] from h]; rfl
  | _ :: _, _, _, ⟨v, r, e, _, h⟩ => by rw [e, List.length_cons, List.length_cons, h.len]
theorem AllP.get : ∀ {Ss : List Pr} {vs : List V} {F : Hp} {i : Nat} {S : Pr}, AllP Ss vs F → Ss[i]? = some S → ∃ v, vs[i]? = some v ∧ S v F
  | _ :: _, _, _, 0, _, ⟨v, r, e, a, _⟩, h => by
    cases h
    exact ⟨v, by rw [e]; rfl, a⟩
  | _ :: _, _, _, i + 1, _, ⟨v, r, e, _, b⟩, h => by
    obtain ⟨u, h1, h2⟩ := b.get (i := i) (by simpa using h)
    exact ⟨u, by rw [e]; simpa using h1, h2⟩
theorem AllP.snoc : ∀ {Ss : List Pr} {vs : List V} {F : Hp} {S : Pr} {v : V}, AllP Ss vs F → S v F → AllP (Ss ++ [S]) (vs ++ [v]) F
  | [], _, _, _, v, h, s => by rw [show _ = [] from h]; exact ⟨v, [], rfl, s, rfl⟩
  | _ :: _, _, _, _, v, ⟨u, r, e, a, b⟩, s => ⟨u, r ++ [v], by rw [e]; rfl, a, b.snoc s⟩
theorem AllP.app : ∀ {Ss Ts : List Pr} {vs us : List V} {F : Hp}, AllP Ss vs F → AllP Ts us F → AllP (Ss ++ Ts) (vs ++ us) F
  | [], _, _, _, _, h, t => by rw [show _ = [] from h]; exact t
  | _ :: _, _, _, us, _, ⟨u, r, e, a, b⟩, t => ⟨u, r ++ us, by rw [e]; rfl, a, b.app t⟩
def EvA (p : Option Addr) (L : List Addr) (F : Hp) (n : Nat) (ta : TA) (σ : L2.St) (Ss : List Pr) : Prop :=
  ∀ G, At p L F G → Bud p n G → ∀ Q : List V → Hp → Prop, (∀ vs F' G', Nx p L n F G F' G' → AllP Ss vs F' → Q vs G') → ta σ G Q
section
variable {p : Option Addr} {n m l : Nat} {F F1 G : Hp} {L : List Addr} {te t1 t2 : TE} {ta : TA} {tt t3 t4 : TT} {σ : L2.St} {S S' S1 S2 : Pr} {Ss Ts : List Pr}
theorem Ev.up [Mo S] (s : Same F F1) (h : Ev p L F n te σ S) : Ev p L F1 n te σ S := fun G a b Q k =>
  h G (a.sub s) b Q fun v F' G' x sv => by
    have f1 : Fits L F1 G' := a.fits.rn a.out x.r
    exact k v (join F1 F') G' ⟨x.r, same_joinL, fits_join f1 x.f, fun c h z => join_none h (x.w c (by
      cases e : F c with
      | none => rfl
      | some o => rw [s _ _ e] at h; cases h) z)⟩ (Mo.mo (same_joinR f1 x.f) sv)
theorem EvA.up [MoL Ss] (s : Same F F1) (h : EvA p L F n ta σ Ss) : EvA p L F1 n ta σ Ss := fun G a b Q k =>
  h G (a.sub s) b Q fun v F' G' x sv => by
    have f1 : Fits L F1 G' := a.fits.rn a.out x.r
    exact k v (join F1 F') G' ⟨x.r, same_joinL, fits_join f1 x.f, fun c h z => join_none h (x.w c (by
      cases e : F c with
      | none => rfl
      | some o => rw [s _ _ e] at h; cases h) z)⟩ (MoL.mo (same_joinR f1 x.f) sv)
theorem EvT.up {B : Bool → Prop} (s : Same F F1) (h : EvT p L F n tt σ B) : EvT p L F1 n tt σ B := fun G a b Q k =>
  h G (a.sub s) b Q fun v F' G' x sv => by
    have f1 : Fits L F1 G' := a.fits.rn a.out x.r
    exact k v (join F1 F') G' ⟨x.r, same_joinL, fits_join f1 x.f, fun c h z => join_none h (x.w c (by
      cases e : F c with
      | none => rfl
      | some o => rw [s _ _ e] at h; cases h) z)⟩ sv
theorem Ev.le (h : Ev p L F n te σ S) (z : n ≤ m) : Ev p L F m te σ S := fun G a b Q k => h G a (b.le z) Q fun v F' G' x sv => k v F' G' (x.le z) sv
theorem EvT.le {B : Bool → Prop} (h : EvT p L F n tt σ B) (z : n ≤ m) : EvT p L F m tt σ B := fun G a b Q k => h G a (b.le z) Q fun v F' G' x sv => k v F' G' (x.le z) sv
theorem EvA.le (h : EvA p L F n ta σ Ss) (z : n ≤ m) : EvA p L F m ta σ Ss := fun G a b Q k => h G a (b.le z) Q fun v F' G' x sv => k v F' G' (x.le z) sv
theorem Ev.to (h : Ev p L F n te σ S) (f : ∀ v F', Same F F' → S v F' → S' v F') : Ev p L F n te σ S' := fun G a b Q k => h G a b Q fun v F' G' x sv => k v F' G' x (f v F' x.s sv)
theorem EvT.to {B B' : Bool → Prop} (h : EvT p L F n tt σ B) (f : ∀ b, B b → B' b) : EvT p L F n tt σ B' := fun G a b Q k => h G a b Q fun v F' G' x sv => k v F' G' x (f v sv)
theorem Ev.var {k : Nat} {v : V} (e : σ[k]? = some (some v)) (s : S v F) : Ev p L F 0 (cV k) σ S := fun G a b Q q => by
  show (match σ[k]? with | some (some v) => Q v G | _ => False)
  rw [e]
  exact q v F G (Nx.refl a) s
theorem Ev.c {v : V} (s : S v F) : Ev p L F 0 (tC v) σ S := fun G a b Q q => q v F G (Nx.refl a) s
theorem EvA.nil : EvA p L F 0 tNil σ [] := fun G a b Q q => q [] F G (Nx.refl a) rfl
theorem EvA.cons [Mo S] [MoL Ss] (h1 : Ev p L F n te σ S) (h2 : EvA p L F m ta σ Ss) : EvA p L F (n + m) (tCons te ta) σ (S :: Ss) := fun G a b Q q =>
  h1 G a (b.le (Nat.le_add_right _ _)) _ fun v F1 G1 x1 s1 => (h2.up x1.s) G1 (x1.at_ a) (b.step x1.r) _ fun vs F2 G2 x2 s2 => q _ F2 G2 (x1.trans x2) ⟨v, vs, rfl, Mo.mo x2.s s1, s2⟩
/-- two operands, by values -/
theorem Ev.op {r : L2.R2} [Mo S1] [Mo S2] (h1 : Ev p L F n t1 σ S1) (h2 : Ev p L F m t2 σ S2)
    (hr : ∀ v u F' G, Same F F' → At p L F' G → Bud p l G → S1 v F' → S2 u F' → ∀ Q : VK, (∀ z F'' G', Nx p L l F' G F'' G' → S z F'' → Q z G') → r v u G Q) : Ev p L F (n + m + l) (tOp r t1 t2) σ S := fun G a b Q q =>
  h1 G a (b.le (by omega)) _ fun v F1 G1 x1 s1 => (h2.up x1.s) G1 (x1.at_ a) (Bud.step (n := n) (b.le (m := n + m + l) (n := n + m) (by omega)) x1.r) _ fun u F2 G2 x2 s2 =>
    hr v u F2 G2 (x1.s.trans x2.s) (x2.at_ (x1.at_ a)) (Bud.step b (x1.trans x2).r) (Mo.mo x2.s s1) s2 _ fun z F3 G3 x3 s3 => q z F3 G3 ((x1.trans x2).trans x3) s3
/-- .. nothing changes -/
theorem Ev.op0 {r : L2.R2} [Mo S1] [Mo S2] (h1 : Ev p L F n t1 σ S1) (h2 : Ev p L F m t2 σ S2)
    (hr : ∀ v u F' G, Same F F' → At p L F' G → S1 v F' → S2 u F' → ∀ Q : VK, (∀ z, S z F' → Q z G) → r v u G Q) : Ev p L F (n + m) (tOp r t1 t2) σ S :=
  Ev.op (l := 0) h1 h2 fun v u F' G s a _ s1 s2 Q q => hr v u F' G s a s1 s2 Q fun z sz => q z F' G (Nx.refl a) sz
theorem Ev.un {r : V → Hp → VK → Prop} (h1 : Ev p L F n t1 σ S1)
    (hr : ∀ v F' G, Same F F' → At p L F' G → Bud p l G → S1 v F' → ∀ Q : VK, (∀ z F'' G', Nx p L l F' G F'' G' → S z F'' → Q z G') → r v G Q) : Ev p L F (n + l) (tUn r t1) σ S := fun G a b Q q =>
  h1 G a (b.le (by omega)) _ fun v F1 G1 x1 s1 => hr v F1 G1 x1.s (x1.at_ a) (Bud.step b x1.r) s1 _ fun z F3 G3 x3 s3 => q z F3 G3 (x1.trans x3) s3
/-- a built-in, by values -/
theorem Ev.cb {r : List V → Hp → VK → Prop} (h1 : EvA p L F n ta σ Ss)
    (hr : ∀ vs F' G, Same F F' → At p L F' G → Bud p l G → AllP Ss vs F' → ∀ Q : VK, (∀ z F'' G', Nx p L l F' G F'' G' → S z F'' → Q z G') → r vs G Q) : Ev p L F (n + l) (tCB r ta) σ S := fun G a b Q q =>
  h1 G a (b.le (by omega)) _ fun v F1 G1 x1 s1 => hr v F1 G1 x1.s (x1.at_ a) (Bud.step b x1.r) s1 _ fun z F3 G3 x3 s3 => q z F3 G3 (x1.trans x3) s3
/-- a def, by its promise -/
theorem Ev.call {sp : Sp} {ds : List V} {E : XK} (h1 : EvA p L F n ta σ Ss)
    (hr : ∀ vs F' G, Same F F' → At p L F' G → Bud p l G → AllP Ss vs F' → ∀ Q : VK, (∀ z F'' G', Nx p L l F' G F'' G' → S z F'' → Q z G') → sp (vs ++ ds) G Q E) : Ev p L F (n + l) (tCall sp ds E ta) σ S := fun G a b Q q =>
  h1 G a (b.le (by omega)) _ fun v F1 G1 x1 s1 => hr v F1 G1 x1.s (x1.at_ a) (Bud.step b x1.r) s1 _ fun z F3 G3 x3 s3 => q z F3 G3 (x1.trans x3) s3
/-! ### kinds -/
def VI (i : Int) : Pr := fun v _ => v = .int i
def VB (b : Bool) : Pr := fun v _ => v = .bl b
def VS (z : Str) : Pr := fun v _ => v = .str z
def VN : Pr := fun v _ => v = .non
def VR (a : Addr) : Pr := fun v _ => v = .ref a
/-- some x that is told -/
def ExP {α : Type} (P : α → Prop) (R : α → Pr) : Pr := fun v F => ∃ x, P x ∧ R x v F
instance {i : Int} : Mo (VI i) := ⟨fun _ h => h⟩
instance {b : Bool} : Mo (VB b) := ⟨fun _ h => h⟩
instance {z : Str} : Mo (VS z) := ⟨fun _ h => h⟩
instance : Mo VN := ⟨fun _ h => h⟩
instance {a : Addr} : Mo (VR a) := ⟨fun _ h => h⟩
instance {α : Type} {P : α → Prop} {R : α → Pr} [∀ x, Mo (R x)] : Mo (ExP P R) := ⟨fun s ⟨x, h, r⟩ => ⟨x, h, Mo.mo s r⟩⟩
def VT (Ss : List Pr) : Pr := fun v F => ∃ a vs, v = .ref a ∧ F a = some (.tup vs) ∧ AllP Ss vs F
def VL (Ss : List Pr) : Pr := fun v F => ∃ a vs, v = .ref a ∧ F a = some (.lst vs) ∧ AllP Ss vs F
instance [MoL Ss] : Mo (VT Ss) := ⟨fun s ⟨a, vs, e, h, r⟩ => ⟨a, vs, e, s _ _ h, MoL.mo s r⟩⟩
instance [MoL Ss] : Mo (VL Ss) := ⟨fun s ⟨a, vs, e, h, r⟩ => ⟨a, vs, e, s _ _ h, MoL.mo s r⟩⟩
theorem Ev.tup [MoL Ss] (h : EvA p L F n ta σ Ss) (hl : Ss.length ≤ 1000 := by simp) : Ev p L F n (tTup ta) σ (VT Ss) := fun G a b Q q =>
  h G a b _ fun vs F1 G1 x1 s1 => ⟨by rw [s1.len, sizeLine_eq]; omega, fun t nt => by
    have y := Nx.new (x1.at_ a) nt (.tup vs)
    exact q _ _ _ (x1.trans y) ⟨t, vs, rfl, upd_same, MoL.mo y.s s1⟩⟩
theorem Ev.lst [MoL Ss] (h : EvA p L F n ta σ Ss) (hl : Ss.length ≤ 1000 := by simp) : Ev p L F n (tLst ta) σ (VL Ss) := fun G a b Q q =>
  h G a b _ fun vs F1 G1 x1 s1 => ⟨by rw [s1.len, sizeLine_eq]; omega, fun t nt => by
    have y := Nx.new (x1.at_ a) nt (.lst vs)
    exact q _ _ _ (x1.trans y) ⟨t, vs, rfl, upd_same, MoL.mo y.s s1⟩⟩
/-! ### tests -/
theorem EvT.val {P : Bool → Prop} (h : Ev p L F n te σ (ExP P VB)) : EvT p L F n (cT te) σ P := fun G a b Q q =>
  h G a b _ fun v F1 G1 x1 ⟨c, hc, e⟩ => by
    cases (show v = .bl c from e)
    exact q c F1 G1 x1 hc
theorem EvT.b {c : Bool} (h : Ev p L F n te σ (VB c)) : EvT p L F n (cT te) σ (· = c) := EvT.val (h.to fun v F' s e => ⟨c, rfl, e⟩)
theorem EvT.not {c : Bool} (h : EvT p L F n tt σ (· = c)) : EvT p L F n (tNot tt) σ (· = !c) := fun G a b Q q => h G a b _ fun v F1 G1 x1 e => q _ F1 G1 x1 (by rw [e])
theorem EvT.yes : EvT p L F 0 tYes σ (· = true) := fun G a b Q q => q true F G (Nx.refl a) rfl
theorem EvT.or {c d : Bool} (h1 : EvT p L F n t3 σ (· = c)) (h2 : c = false → EvT p L F m t4 σ (· = d)) : EvT p L F (n + m) (cOr t3 t4) σ (· = (c || d)) := fun G a b Q q =>
  h1 G a (b.le (by omega)) _ fun c' F1 G1 x1 e => by
    subst e
    cases c' with
    | true => exact ⟨fun _ => q true F1 G1 (x1.le (by omega)) (by simp), fun z => nomatch z⟩
    | false => exact ⟨fun z => (nomatch z), fun _ => (h2 rfl).up x1.s G1 (x1.at_ a) (Bud.step b x1.r) _ fun d' F2 G2 x2 e2 => q d' F2 G2 (x1.trans x2) (by rw [e2]; simp)⟩
theorem EvT.and {c d : Bool} (h1 : EvT p L F n t3 σ (· = c)) (h2 : c = true → EvT p L F m t4 σ (· = d)) : EvT p L F (n + m) (cAnd t3 t4) σ (· = (c && d)) := fun G a b Q q =>
  h1 G a (b.le (by omega)) _ fun c' F1 G1 x1 e => by
    subst e
    cases c' with
    | false => exact ⟨fun z => (nomatch z), fun _ => q false F1 G1 (x1.le (by omega)) (by simp)⟩
    | true => exact ⟨fun _ => (h2 rfl).up x1.s G1 (x1.at_ a) (Bud.step b x1.r) _ fun d' F2 G2 x2 e2 => q d' F2 G2 (x1.trans x2) (by rw [e2]; simp), fun z => nomatch z⟩
theorem Ev.and {c d : Bool} (h1 : Ev p L F n t1 σ (VB c)) (h2 : c = true → Ev p L F m t2 σ (VB d)) : Ev p L F (n + m) (cAndV t1 t2) σ (VB (c && d)) := fun G a b Q q =>
  h1 G a (b.le (by omega)) _ fun v F1 G1 x1 e => by
    cases (show v = .bl c from e)
    cases c with
    | false => exact ⟨fun z => (nomatch z), fun _ => q _ F1 G1 (x1.le (by omega)) rfl⟩
    | true => exact ⟨fun _ => (h2 rfl).up x1.s G1 (x1.at_ a) (Bud.step b x1.r) _ fun d' F2 G2 x2 e2 => q d' F2 G2 (x1.trans x2) (by rw [show d' = _ from e2]; rfl), fun z => nomatch z⟩
theorem Ev.or {c d : Bool} (h1 : Ev p L F n t1 σ (VB c)) (h2 : c = false → Ev p L F m t2 σ (VB d)) : Ev p L F (n + m) (cOrV t1 t2) σ (VB (c || d)) := fun G a b Q q =>
  h1 G a (b.le (by omega)) _ fun v F1 G1 x1 e => by
    cases (show v = .bl c from e)
    cases c with
    | true => exact ⟨fun _ => q _ F1 G1 (x1.le (by omega)) rfl, fun z => nomatch z⟩
    | false => exact ⟨fun z => (nomatch z), fun _ => (h2 rfl).up x1.s G1 (x1.at_ a) (Bud.step b x1.r) _ fun d' F2 G2 x2 e2 => q d' F2 G2 (x1.trans x2) (by rw [show d' = _ from e2]; rfl)⟩
theorem Ev.not {c : Bool} (h1 : Ev p L F n t1 σ (VB c)) : Ev p L F n (cNotV t1) σ (VB (!c)) := fun G a b Q q =>
  h1 G a b _ fun v F1 G1 x1 e => by
    cases (show v = .bl c from e)
    exact q _ F1 G1 x1 rfl
theorem Ev.ite {c : Bool} (h : EvT p L F n tt σ (· = c)) (h1 : c = true → Ev p L F m t1 σ S) (h2 : c = false → Ev p L F m t2 σ S) [Mo S] : Ev p L F (n + m) (cIfE tt t1 t2) σ S := fun G a b Q q =>
  h G a (b.le (by omega)) _ fun c' F1 G1 x1 e => by
    subst e
    cases c' with
    | true => exact ⟨fun _ => (h1 rfl).up x1.s G1 (x1.at_ a) (Bud.step b x1.r) _ fun d' F2 G2 x2 e2 => q d' F2 G2 (x1.trans x2) e2, fun z => nomatch z⟩
    | false => exact ⟨fun z => (nomatch z), fun _ => (h2 rfl).up x1.s G1 (x1.at_ a) (Bud.step b x1.r) _ fun d' F2 G2 x2 e2 => q d' F2 G2 (x1.trans x2) e2⟩
end
end HX

set_option Elab.async false
set_option linter.all false
set_option maxRecDepth 100000
set_option maxHeartbeats 2000000
namespace HX
open PySem PySem.Spec PyProof.Rows L2 NumText

/-! ### figures -/
def ofL (l : List Nat) : Str := ⟨l.toArray⟩
theorem ofL_cps (l : List Nat) : (ofL l).cps.toList = l := by simp [ofL]
theorem ofL_of (x : Str) : ofL x.cps.toList = x := by cases x; simp [ofL]
theorem ofL_inj {l k : List Nat} (h : ofL l = ofL k) : l = k := by
  have := congrArg (fun x => x.cps.toList) h
  simpa [ofL] using this
theorem ofL_len (l : List Nat) : (ofL l).length = l.length := by simp [ofL, Str.length]
theorem ofL_app (l k : List Nat) : ofL l ++ ofL k = ofL (l ++ k) := by
  show Str.mk (l.toArray ++ k.toArray) = _
  simp [ofL]
/-- the figures of a number -/
def dg (n : Nat) : List Nat := (Nat.toDigits 10 n).map Char.toNat
theorem dg_ne (n : Nat) : dg n ≠ [] := by
  unfold dg
  intro h
  exact Nat.toDigits_ne_nil (List.map_eq_nil_iff.mp h)
theorem dg_all (n : Nat) : AllDigits (dg n) := by
  intro c hc
  obtain ⟨d, hd, rfl⟩ := List.mem_map.mp hc
  have h := Nat.isDigit_of_mem_toDigits (b := 10) (by decide) (by decide) hd
  unfold Char.isDigit at h
  simp only [Bool.and_eq_true, decide_eq_true_eq, ge_iff_le] at h
  exact ⟨by have := h.1; exact this, by have := h.2; exact this⟩
theorem val_map (l : List Char) (hl : ∀ c ∈ l, 48 ≤ c.toNat) : ∀ a : Nat, (l.map Char.toNat).foldl (fun acc c => acc * 10 + (c - 48)) a = Nat.ofDigitChars 10 l a := by
  induction l with
  | nil => intro a; rfl
  | cons c l ih =>
    intro a
    rw [List.map_cons, List.foldl_cons, Nat.ofDigitChars_cons, ih (fun d hd => hl d (List.mem_cons_of_mem _ hd))]
    congr 1
    show a * 10 + (c.toNat - 48) = 10 * a + (c.toNat - '0'.toNat)
    rw [Nat.mul_comm]
    rfl
theorem dg_val (n : Nat) : digitsVal (dg n) = n := by
  unfold digitsVal dg
  rw [val_map _ (fun c hc => by
    have h := Nat.isDigit_of_mem_toDigits (b := 10) (by decide) (by decide) hc
    unfold Char.isDigit at h
    simp only [Bool.and_eq_true, decide_eq_true_eq, ge_iff_le] at h
    exact h.1)]
  exact Nat.ofDigitChars_ten_toDigits
theorem dg_len {n k : Nat} (h : 0 < k) : (dg n).length ≤ k ↔ n < 10 ^ k := by
  unfold dg
  rw [List.length_map]
  exact Nat.length_toDigits_le_iff (by decide) h
theorem dg_inj {m n : Nat} (h : dg m = dg n) : m = n := by
  have := congrArg digitsVal h
  rwa [dg_val, dg_val] at this
/-- the signs of an int's text -/
def it (i : Int) : List Nat := if i < 0 then 45 :: dg i.natAbs else dg i.natAbs
theorem it_text (i : Int) : Str.ofString (toString i) = ofL (it i) := by
  rw [Str.ofString_eq_toList]
  show Str.mk _ = Str.mk _
  congr 2
  unfold it
  match i with
  | .ofNat n =>
    rw [if_neg (show ¬ Int.ofNat n < 0 from Int.not_lt.mpr (Int.natCast_nonneg n))]
    show (Nat.repr n).toList.map Char.toNat = dg n
    rw [Nat.toList_repr]
    rfl
  | .negSucc n =>
    rw [if_pos (Int.negSucc_lt_zero n)]
    show (("-" ++ Nat.repr (n + 1)) : String).toList.map Char.toNat = 45 :: dg (n + 1)
    rw [String.toList_append, Nat.toList_repr]
    rfl
theorem it_len {i : Int} {k : Nat} (h : 0 < k) (hi : i.natAbs < 10 ^ k) : (it i).length ≤ k + 1 := by
  have := (dg_len (n := i.natAbs) h).mpr hi
  unfold it
  split
  · rw [List.length_cons]; omega
  · omega
theorem it_47 (i : Int) : 47 ∉ it i := by
  unfold it
  have h := dg_all i.natAbs
  split
  · intro m
    rcases List.mem_cons.mp m with z | z
    · cases z
    · have := h _ z; omega
  · intro m
    have := h _ m
    omega
theorem it_inj {i j : Int} (h : it i = it j) : i = j := by
  have hd : ∀ n m : Nat, ¬ (45 :: dg n = dg m) := fun n m e => by
    have := dg_all m 45 (by rw [← e]; exact List.mem_cons_self ..)
    omega
  unfold it at h
  split at h
  · rename_i a
    split at h
    · rename_i b
      have := dg_inj (List.cons_inj_right 45 |>.mp h)
      omega
    · exact absurd h (hd _ _)
  · rename_i a
    split at h
    · exact absurd h.symm (hd _ _)
    · have := dg_inj h
      omega
theorem it_read {i : Int} {k : Nat} (h0 : 0 < k) (h4 : k ≤ 600) (hi : i.natAbs < 10 ^ k) : PySem.intText? (ofL (it i)) = some i := by
  have hl := it_len h0 hi
  by_cases h : i < 0
  · have e : it i = 45 :: dg i.natAbs := if_pos h
    rw [intText_neg (x := ofL (it i)) (cs := dg i.natAbs) (by rw [ofL_cps, e]) (dg_all _) (dg_ne _) (by rw [ofL_len]; omega), dg_val]
    congr 1
    omega
  · have e : it i = dg i.natAbs := if_neg h
    rw [intText_digits (x := ofL (it i)) (by rw [ofL_cps, e]; exact dg_all _) (by rw [ofL_cps, e]; exact dg_ne _) (by rw [ofL_len]; omega), ofL_cps, e, dg_val]
    congr 1
    omega

/-! ### parted at the first stroke -/
theorem at_slash (l : List Nat) (i : Nat) : StrLaws.At (ofL l) "/" (ofL l).length i ↔ l[i]? = some 47 := by
  have e : ("/" : Str) = ⟨#[47]⟩ := by decide +kernel
  unfold StrLaws.At
  rw [e, ofL_len]
  constructor
  · rintro ⟨h1, h2⟩
    have h1 : i + 1 ≤ l.length := h1
    unfold Builtin.Str.subAt at h2
    have h3 := congrArg Array.toList (eq_of_beq h2)
    have h4 : (l.drop i).take 1 = [47] := by
      have : ((ofL l).cps.extract i (i + 1)).toList = [47] := h3
      simpa [ofL, List.take_drop] using this
    have h5 : ((l.drop i).take 1)[0]? = some 47 := by rw [h4]; rfl
    simpa using h5
  · intro h
    have hi : i < l.length := by
      rcases Nat.lt_or_ge i l.length with z | z
      · exact z
      · rw [List.getElem?_eq_none z] at h
        cases h
    refine ⟨hi, ?_⟩
    unfold Builtin.Str.subAt
    refine beq_iff_eq.mpr ?_
    show (ofL l).cps.extract i (i + 1) = #[47]
    apply Array.toList_inj.mp
    have h6 : (l.drop i).take 1 = [47] := by
      rw [List.getElem?_eq_getElem hi] at h
      have h7 : l.drop i = l[i] :: l.drop (i + 1) := List.drop_eq_getElem_cons hi
      rw [h7, Option.some.inj h]
      rfl
    simpa [ofL, List.take_drop] using h6
theorem part_no {l : List Nat} (h : 47 ∉ l) : Txt.partition (ofL l) "/" = (ofL l, Str.empty, Str.empty) := by
  unfold Txt.partition
  rcases StrLaws.occ_head (ofL l) "/" 1 (Nat.le_refl 1) with ⟨h0, hn⟩ | ⟨i, r, h0, hi, hn⟩
  · rw [h0]
  · exact absurd (List.mem_of_getElem? ((at_slash l i).mp hi)) h
theorem part_at {pre post : List Nat} (h : 47 ∉ pre) : Txt.partition (ofL (pre ++ 47 :: post)) "/" = (ofL pre, ("/" : Str), ofL post) := by
  have e : ("/" : Str) = ⟨#[47]⟩ := by decide +kernel
  have at0 : (pre ++ 47 :: post)[pre.length]? = some 47 := by simp
  unfold Txt.partition
  rcases StrLaws.occ_head (ofL (pre ++ 47 :: post)) "/" 1 (Nat.le_refl 1) with ⟨h0, hn⟩ | ⟨i, r, h0, hi, hn⟩
  · exact absurd ((at_slash _ _).mpr at0) (hn _)
  · have hi' := (at_slash _ _).mp hi
    have ei : i = pre.length := by
      rcases Nat.lt_trichotomy i pre.length with z | z | z
      · rw [List.getElem?_append_left z] at hi'
        exact absurd (List.mem_of_getElem? hi') h
      · exact z
      · exact absurd ((at_slash _ _).mpr at0) (hn _ z)
    subst ei
    rw [h0]
    have l1 : (("/" : Str)).length = 1 := by rw [e]; rfl
    show (Builtin.Str.strSub (ofL (pre ++ 47 :: post)) 0 pre.length, ("/" : Str), Builtin.Str.strSub (ofL (pre ++ 47 :: post)) (pre.length + ("/" : Str).length) (ofL (pre ++ 47 :: post)).length) = _
    have a1 : Builtin.Str.strSub (ofL (pre ++ 47 :: post)) 0 pre.length = ofL pre := by
      refine StrLaws.mk_of_toList ?_
      rw [StrLaws.strSub_toList, ofL_cps]
      simp
    have a2 : Builtin.Str.strSub (ofL (pre ++ 47 :: post)) (pre.length + ("/" : Str).length) (ofL (pre ++ 47 :: post)).length = ofL post := by
      refine StrLaws.mk_of_toList ?_
      rw [StrLaws.strSub_toList, ofL_cps, l1, ofL_len]
      have e2 : (pre ++ 47 :: post).drop (pre.length + 1) = post := by simp
      rw [e2]
      exact List.take_of_length_le (by rw [List.length_append, List.length_cons]; omega)
    rw [a1, a2]
theorem prefix_minus (l : List Nat) : Txt.removeprefix (ofL l) "-" = match l with
    | 45 :: r => ofL r
    | _ => ofL l := by
  have e : ("-" : Str) = ⟨#[45]⟩ := by decide +kernel
  have l1 : (("-" : Str)).length = 1 := by rw [e]; rfl
  rw [StrLaws.removeprefix_eq, l1, ofL_len, ofL_cps]
  have sub : Builtin.Str.subAt (ofL l) "-" 0 = decide (l.take 1 = [45]) := by
    unfold Builtin.Str.subAt
    rw [e]
    show ((ofL l).cps.extract 0 (0 + 1) == #[45]) = _
    rw [Bool.eq_iff_iff, beq_iff_eq, decide_eq_true_eq, ← Array.toList_inj]
    simp [ofL]
  rw [sub]
  match l with
  | [] => rfl
  | c :: r =>
    by_cases hc : c = 45
    · subst hc
      simp [ofL]
    · have h1 : decide ((c :: r).take 1 = [45]) = false := decide_eq_false (by simp [hc])
      rw [h1, Bool.and_false, if_neg (by decide)]
      split
      · rename_i q z
        cases z
        exact absurd rfl hc
      · rfl
/-- the figures of a text, as the program asks -/
theorem figs_of {l : List Nat} : (Txt.isascii (ofL l) && Txt.isdigit (ofL l)) = true ↔ AllDigits l ∧ l ≠ [] := by
  unfold Txt.isascii Txt.isdigit
  rw [Bool.and_eq_true, Bool.and_eq_true, ← Array.all_toList, ← Array.all_toList, List.all_eq_true, List.all_eq_true, ofL_cps, ofL_len]
  have cls : ∀ c, c < 128 → (Unicode.isDigit c = true ↔ 48 ≤ c ∧ c ≤ 57) := by
    have h : ∀ c, c < 128 → Unicode.isDigit c = decide (48 ≤ c ∧ c ≤ 57) := by decide +kernel
    intro c hc
    rw [h c hc, decide_eq_true_eq]
  constructor
  · rintro ⟨h1, h2, h3⟩
    refine ⟨fun c hc => (cls c (of_decide_eq_true (h1 c hc))).mp (h3 c hc), fun z => ?_⟩
    rw [z] at h2
    exact absurd h2 (by decide)
  · rintro ⟨h1, h2⟩
    refine ⟨fun c hc => decide_eq_true (by have := h1 c hc; omega), decide_eq_true (List.length_pos_iff.mpr h2), fun c hc => (cls c (by have := h1 c hc; omega)).mpr (h1 c hc)⟩
end HX

set_option Elab.async false
set_option linter.all false
set_option maxRecDepth 100000
set_option maxHeartbeats 2000000
namespace HX
open PySem PySem.Spec PyProof.Rows L2 NumText

/-! ### a class that a local name holds, made -/
def tMakeL (i : Nat) (C : Addr) (sp : Sp) (dvs : List V) (E : XK) (t : TA) : TE := fun σ H Q => σ[i]? = some (some (.ref C)) ∧ tMake C sp dvs E t σ H Q
theorem pe_makeL {X : Cx} {CY : CXT} {C f : Addr} {k i : Nat} {fd : FuncData} {ps : List Str} {sp : Sp} {ds : List Value} {dvs : List V} {E : XK} {t : TA} {x : Str} {p pos : Pos} {e : Expr} {es : List Expr} (M : Mk X.K C f) (F : FnOk X.prog X.w X.K X.mg X.base CY k f fd ps sp) (hr : Room (k + 1) X.A) (hb : Binds X.K fd ps ds) (hd : Vals dvs ds) (hx : Passes CY X E)
    (ha : PA X (e :: es) t) (hN : X.N[i]? = some x := by rfl) (hv : Vis X.env.scope x := by first | exact Or.inl rfl | exact Or.inr (Or.inl rfl) | exact Or.inr (Or.inr rfl)) (hdb : (x == ("__debug__" : Str)) = false := by decide) (hcd : (x == ("__classdict__" : Str)) = false := by decide)
    (he : starEach (e :: es) X.env = (false, eval e X.env) :: starEach es X.env := by rfl) (hpl : (backTo pos (starEach es X.env)).any (·.1) = false := by rfl) :
    PE X (.Call (.Name x p) (e :: es) [] pos) (tMakeL i C sp dvs E t) := by
  refine ⟨fun pins s σ H Q I h => ?_⟩
  refine wpAny_Call_Name_kw (thn ((pe_var hN hv hdb hcd).run pins s σ H (fun v G => v = .ref C ∧ G = H) I ⟨_, h.1, rfl, rfl⟩) fun u s0 ⟨v, G, I0, rv, ev, eG⟩ => ?_)
  subst ev
  subst eG
  obtain rfl : u = Value.ref C := rv
  refine PySem.W.callWith_K (h₀ := X.base) I0.ok.mod.kin M.kp (thn (ha.run pos pins s0 σ G _ I0 h.2) fun us s1 ⟨vs, H1, I1, r, q⟩ => ⟨I1.kIn, ?_⟩) he hpl
  exact run_make M F hr hb hd hx I1 r q

/-! ### the text of a fraction -/
def atx (t b : Int) : List Nat := if b = 1 then it t else it t ++ 47 :: it b
/-- what read takes -/
def RT (l : List Nat) (t b : Int) : Prop := Low t b ∧ t.natAbs < 10 ^ 200 ∧ b.natAbs < 10 ^ 200 ∧ l = atx t b
/-- above, stroke, below -/
def pt3 (l : List Nat) : List Nat × List Nat × List Nat := match l with
  | [] => ([], [], [])
  | c :: r => if c = 47 then ([], [47], r) else (c :: (pt3 r).1, (pt3 r).2.1, (pt3 r).2.2)
theorem pt3_no : ∀ {l : List Nat}, 47 ∉ l → pt3 l = (l, [], [])
  | [], _ => rfl
  | c :: r, h => by
    have h1 : ¬ c = 47 := fun z => h (by rw [z]; exact List.mem_cons_self ..)
    have h2 := pt3_no (l := r) (fun z => h (List.mem_cons_of_mem _ z))
    show (if c = 47 then _ else _) = _
    rw [if_neg h1, h2]
theorem pt3_at : ∀ {pre post : List Nat}, 47 ∉ pre → pt3 (pre ++ 47 :: post) = (pre, [47], post)
  | [], post, _ => by
    show (if (47 : Nat) = 47 then _ else _) = _
    rw [if_pos rfl]
  | c :: r, post, h => by
    have h1 : ¬ c = 47 := fun z => h (by rw [z]; exact List.mem_cons_self ..)
    have h2 := pt3_at (pre := r) (post := post) (fun z => h (List.mem_cons_of_mem _ z))
    have e : pt3 (c :: r ++ 47 :: post) = (c :: (pt3 (r ++ 47 :: post)).1, (pt3 (r ++ 47 :: post)).2.1, (pt3 (r ++ 47 :: post)).2.2) := if_neg h1
    rw [e, h2]
theorem split47 {l : List Nat} (h : 47 ∈ l) : ∃ pre post, l = pre ++ 47 :: post ∧ 47 ∉ pre := by
  obtain ⟨pre, post, e, n⟩ := List.eq_append_cons_of_mem h
  exact ⟨pre, post, e, n⟩
theorem part3 (l : List Nat) : Txt.partition (ofL l) "/" = (ofL (pt3 l).1, ofL (pt3 l).2.1, ofL (pt3 l).2.2) := by
  by_cases h : 47 ∈ l
  · obtain ⟨pre, post, rfl, n⟩ := split47 h
    rw [part_at n, pt3_at n]
    have e : ("/" : Str) = ofL [47] := by decide +kernel
    rw [e]
  · rw [part_no h, pt3_no h]
    rfl
theorem atx_parts (t b : Int) : pt3 (atx t b) = if b = 1 then (it t, [], []) else (it t, [47], it b) := by
  unfold atx
  split
  · exact pt3_no (it_47 t)
  · exact pt3_at (it_47 t)
theorem ofL_nil {l : List Nat} : (ofL l = ("" : Str)) ↔ l = [] := by
  have e : ("" : Str) = ofL [] := by decide +kernel
  rw [e]
  exact ⟨ofL_inj, fun h => by rw [h]⟩
/-- the part without its sign -/
def unm (l : List Nat) : List Nat := match l with
  | 45 :: r => r
  | _ => l
theorem unm_eq (l : List Nat) : Txt.removeprefix (ofL l) "-" = ofL (unm l) := by
  rw [prefix_minus]
  match l with
  | [] => rfl
  | c :: r =>
    by_cases h : c = 45
    · subst h
      rfl
    · have e : unm (c :: r) = c :: r := by
        unfold unm
        split
        · rename_i q z
          cases z
          exact absurd rfl h
        · rfl
      rw [e]
      split
      · rename_i q z
        cases z
        exact absurd rfl h
      · rfl
theorem unm_it (i : Int) : unm (it i) = dg i.natAbs := by
  unfold it
  split
  · rfl
  · unfold unm
    split
    · rename_i r e
      have := dg_all i.natAbs 45 (by rw [e]; exact List.mem_cons_self ..)
      omega
    · rfl
/-- the figures that the program lets -/
def figB (l : List Nat) : Bool := Txt.isascii (ofL l) && (Txt.isdigit (ofL l) && decide (l.length ≤ 200))
theorem figB_iff {l : List Nat} : figB l = true ↔ AllDigits l ∧ l ≠ [] ∧ l.length ≤ 200 := by
  unfold figB
  rw [← Bool.and_assoc, Bool.and_eq_true, figs_of, decide_eq_true_eq, and_assoc]
theorem figB_dg {n : Nat} (h : n < 10 ^ 200) : figB (dg n) = true := figB_iff.mpr ⟨dg_all n, dg_ne n, (dg_len (by decide)).mpr h⟩
theorem atx_len {t b : Int} (ht : t.natAbs < 10 ^ 200) (hb : b.natAbs < 10 ^ 200) : (atx t b).length ≤ 403 := by
  have h1 := it_len (by decide) ht
  have h2 := it_len (by decide) hb
  unfold atx
  split
  · omega
  · rw [List.length_append, List.length_cons]
    omega
end HX

set_option Elab.async false
set_option linter.all false
set_option maxRecDepth 100000
set_option maxHeartbeats 2000000
namespace HX
open PySem PySem.Spec PyProof.Rows L2 NumText

/-! ### texts of wide ints -/
/-- what of the text says that sys.set_int_max_str_digits was never called -/
structure NoDg (K : PySem.W.Frag) : Prop where
  ok : PySem.W.nsOkIn K cStatics = true
  no : PySem.W.nsIn K cStatics "sys.int_max_str_digits" = some none
theorem NoDg.at_ {K : PySem.W.Frag} {h : Heap} (N : NoDg K) (X : K.In h) : h.NoDigits := ⟨h.nsMap cStatics, .of_isNs (PySem.W.isNs_of_in X N.ok), PySem.W.nsMap_none_of_in X N.ok N.no⟩
section
variable {X : Cx}
theorem call_str_intW {k : Nat} (N : NoDg X.K) (hr : Room k X.A) : CallR X (.type "str") (fun xs H Q => ∃ i, xs = [.int i] ∧ i.natAbs < 10 ^ 4300 ∧ Q (.str (toString i)) H) := by
  intro pins s σ H xs us Q I r h
  obtain ⟨i, rfl, hz, q⟩ := h
  obtain ⟨u, rfl, t, rfl⟩ := vals1 r
  exact str_of_int_or hr.hd (N.at_ I.kIn) (fun _ => ⟨.str _, H, I.tok _, ⟨_, rfl⟩, q⟩) (fun z => absurd z (Nat.not_le.mpr hz))
/-- {x}: an int, wide -/
def tFmtW (te : TE) : TE := fun σ H Q => te σ H fun x H1 => ∃ i : Int, x = .int i ∧ i.natAbs < 10 ^ 4300 ∧ Q (.str (toString i)) H1
theorem pe_fmtW {k : Nat} {e : Expr} {te : TE} {pos : Pos} (N : NoDg X.K) (hr : Room k X.A) (he : PE X e te) : PE X (.FormattedValue e (-1) none pos) (tFmtW te) := by
  refine ⟨fun pins s σ H Q I h => ?_⟩
  refine wpAny_FormattedValue_plain (thn (he.run pins s σ H _ I h) fun v s1 hv => ?_)
  obtain ⟨x, H1, I1, r1, i, rfl, hz, q⟩ := hv
  obtain ⟨t, rfl⟩ := r1
  exact formatField_int hr.hd (N.at_ I1.kIn) (fun _ => ⟨.str (toString i), H1, I1.tok _, ⟨_, rfl⟩, q⟩) (fun z => absurd z (Nat.not_le.mpr hz))
end
theorem wide_sm {n : Nat} {i : Int} (h : i.natAbs < 2 ^ n) (le : n ≤ 12900 := by decide) : i.natAbs < 10 ^ 4300 := Nat.lt_of_lt_of_le (Nat.lt_of_lt_of_le h (Nat.pow_le_pow_right (by decide) le)) pow_lo
end HX

set_option Elab.async false
set_option linter.all false
set_option maxRecDepth 100000
set_option maxHeartbeats 2000000
namespace HX
open PySem PySem.Spec PyProof.Rows L2 NumText

/-! ### what a text of a fraction says -/
theorem fold_lt : ∀ (l : List Nat), AllDigits l → ∀ a : Nat, l.foldl (fun acc c => acc * 10 + (c - 48)) a + 1 ≤ (a + 1) * 10 ^ l.length
  | [], _, a => by
    show a + 1 ≤ (a + 1) * 10 ^ 0
    omega
  | c :: l, h, a => by
    have h2 := h c (List.mem_cons_self ..)
    have ih := fold_lt l (fun d hd => h d (List.mem_cons_of_mem _ hd)) (a * 10 + (c - 48))
    show l.foldl _ (a * 10 + (c - 48)) + 1 ≤ _
    rw [List.length_cons, Nat.pow_succ, Nat.mul_comm (10 ^ l.length) 10, ← Nat.mul_assoc]
    exact Nat.le_trans ih (Nat.mul_le_mul_right _ (by omega))
theorem digitsVal_lt {l : List Nat} (h : AllDigits l) : digitsVal l < 10 ^ l.length := by
  have := fold_lt l h 0
  unfold digitsVal
  omega
theorem unm_id {l : List Nat} (h : ∀ r, l ≠ 45 :: r) : unm l = l := by
  unfold unm
  split
  · rename_i r
    exact absurd rfl (h r)
  · rfl
theorem pow_len {l : List Nat} (h : AllDigits l) (hl : l.length ≤ 200) : digitsVal l < 10 ^ 200 := Nat.lt_of_lt_of_le (digitsVal_lt h) (Nat.pow_le_pow_right (by decide) hl)
/-- the int of a text of figures, with or without minus -/
def sv (l : List Nat) : Int := match l with
  | 45 :: r => -(digitsVal r : Int)
  | _ => digitsVal l
theorem sv_it (t : Int) : sv (it t) = t := by
  unfold it
  split
  · show -(digitsVal (dg t.natAbs) : Int) = t
    rw [dg_val]
    omega
  · unfold sv
    split
    · rename_i r e
      have := dg_all t.natAbs 45 (by rw [e]; exact List.mem_cons_self ..)
      omega
    · rw [dg_val]
      omega
theorem sv_read {l : List Nat} (h : figB (unm l) = true) : PySem.intText? (ofL l) = some (sv l) := by
  obtain ⟨h1, h2, h3⟩ := figB_iff.mp h
  unfold sv
  split
  · rename_i r
    have h1 : AllDigits r := h1
    have h3 : r.length ≤ 200 := h3
    rw [intText_neg (x := ofL (45 :: r)) (cs := r) (ofL_cps _) h1 h2 (by rw [ofL_len, List.length_cons]; omega)]
  · rename_i ne
    have e : unm l = l := by
      unfold unm
      split
      · rename_i r
        exact absurd rfl (ne r)
      · rfl
    rw [e] at h1 h2 h3
    rw [intText_digits (x := ofL l) (by rw [ofL_cps]; exact h1) (by rw [ofL_cps]; exact h2) (by rw [ofL_len]; omega), ofL_cps]
theorem sv_abs (l : List Nat) : (sv l).natAbs = digitsVal (unm l) := by
  unfold sv
  split
  · rename_i r
    show (-(digitsVal r : Int)).natAbs = digitsVal r
    omega
  · rename_i ne
    rw [unm_id (fun r z => ne r z)]
    omega
theorem sv_lt {l : List Nat} (h : figB (unm l) = true) : (sv l).natAbs < 10 ^ 200 := by
  obtain ⟨h1, h2, h3⟩ := figB_iff.mp h
  rw [sv_abs l]
  exact pow_len h1 h3
/-- as the program reads -/
def below (l : List Nat) : List Nat := if (pt3 l).2.1 = [] then [49] else (pt3 l).2.2
def okF (l : List Nat) : Prop := figB (unm (pt3 l).1) = true ∧ figB (below l) = true ∧ digitsVal (below l) ≠ 0
def rdP (l : List Nat) : Int := nT (sv (pt3 l).1) (digitsVal (below l))
def rdQ (l : List Nat) : Int := nB (sv (pt3 l).1) (digitsVal (below l))
open Classical in
noncomputable def rdv (l : List Nat) : Option (Int × Int) := if okF l ∧ atx (rdP l) (rdQ l) = l then some (rdP l, rdQ l) else none
theorem rdv_rt {l : List Nat} {t b : Int} (h : rdv l = some (t, b)) : RT l t b := by
  unfold rdv at h
  split at h
  · rename_i c
    obtain ⟨⟨h1, h2, h3⟩, h4⟩ := c
    cases h
    have qz : ((digitsVal (below l) : Nat) : Int) ≠ 0 := by omega
    have lt2 : digitsVal (below l) < 10 ^ 200 := let ⟨a, _, b⟩ := figB_iff.mp h2; pow_len a b
    exact ⟨low_n qz, Nat.lt_of_le_of_lt (nT_le qz) (sv_lt h1), Nat.lt_of_le_of_lt (nB_le qz) (by simpa using lt2), h4.symm⟩
  · cases h
theorem fig_one : figB [49] = true ∧ digitsVal [49] = 1 := by
  constructor
  · exact figB_iff.mpr ⟨fun c hc => by rcases List.mem_singleton.mp hc with rfl; exact ⟨by decide, by decide⟩, by decide, by decide⟩
  · decide
theorem rt_rdv {l : List Nat} {t b : Int} (h : RT l t b) : rdv l = some (t, b) := by
  obtain ⟨lo, ht, hb, rfl⟩ := h
  have b0 := lo.1
  have e3 := atx_parts t b
  have u := n_self lo
  have bz : b ≠ 0 := by omega
  have main : (pt3 (atx t b)).1 = it t ∧ figB (below (atx t b)) = true ∧ ((digitsVal (below (atx t b)) : Nat) : Int) = b := by
    rw [e3]
    unfold below
    rw [e3]
    by_cases b1 : b = 1
    · rw [if_pos b1]
      exact ⟨rfl, fig_one.1, by show ((digitsVal [49] : Nat) : Int) = b; rw [fig_one.2, b1]; rfl⟩
    · rw [if_neg b1]
      have eB : it b = dg b.natAbs := if_neg (by omega)
      refine ⟨rfl, ?_, ?_⟩
      · show figB (if ([47] : List Nat) = [] then [49] else it b) = true
        rw [if_neg (by decide), eB]
        exact figB_dg hb
      · show ((digitsVal (if ([47] : List Nat) = [] then [49] else it b) : Nat) : Int) = b
        rw [if_neg (by decide), eB, dg_val]
        omega
  have eP : rdP (atx t b) = t ∧ rdQ (atx t b) = b := by
    unfold rdP rdQ
    rw [main.1, main.2.2, sv_it]
    exact u
  unfold rdv
  rw [if_pos ⟨⟨by rw [main.1, unm_it]; exact figB_dg ht, main.2.1, by have := main.2.2; omega⟩, by rw [eP.1, eP.2]⟩, eP.1, eP.2]
theorem rdv_none {l : List Nat} : rdv l = none ↔ ¬ (okF l ∧ atx (rdP l) (rdQ l) = l) := by
  unfold rdv
  split
  · rename_i c
    exact ⟨fun z => (nomatch z), fun z => absurd c z⟩
  · rename_i c
    exact ⟨fun _ => c, fun _ => rfl⟩
open Classical in
/-- figures as the law reads them -/
noncomputable def fgs (l : List Nat) : Option Nat := if (1 ≤ l.length ∧ l.length ≤ 200 ∧ AllDigits l) ∧ ¬ (1 < l.length ∧ l.take 1 = [48]) then some (digitsVal l) else none
theorem fgs_dg {n : Nat} (h : n < 10 ^ 200) : fgs (dg n) = some n := by
  have hl := (dg_len (n := n) (k := 200) (by decide)).mpr h
  have h1 : 1 ≤ (dg n).length := List.length_pos_iff.mpr (dg_ne n)
  have h2 : ¬ (1 < (dg n).length ∧ (dg n).take 1 = [48]) := by
    rintro ⟨a, b⟩
    obtain ⟨c, r, e⟩ : ∃ c r, dg n = c :: r := List.exists_cons_of_length_pos (by omega)
    rw [e] at a b
    have c48 : c = 48 := by simpa using b
    subst c48
    have v := dg_val n
    rw [e, digitsVal_zero] at v
    have ad : AllDigits r := fun d hd => dg_all n d (by rw [e]; exact List.mem_cons_of_mem _ hd)
    have r0 : 0 < r.length := by rw [List.length_cons] at a; omega
    have lt := digitsVal_lt ad
    rw [v] at lt
    have := (dg_len (n := n) r0).mpr lt
    rw [e, List.length_cons] at this
    omega
  unfold fgs
  rw [if_pos ⟨⟨h1, hl, dg_all n⟩, h2⟩, dg_val]
theorem fgs_some {l : List Nat} {n : Nat} (h : fgs l = some n) : n < 10 ^ 200 := by
  unfold fgs at h
  split at h
  · rename_i c
    cases h
    exact pow_len c.1.2.2 c.1.2.1
  · cases h
/-- the law's own reader -/
noncomputable def lTop (l : List Nat) : Option Nat := fgs (pt3 (unm l)).1
noncomputable def lBot (l : List Nat) : Option Nat := if (pt3 (unm l)).2.1 = [] then some 1 else fgs (pt3 (unm l)).2.2
def sgn (l : List Nat) (n : Nat) : Int := if unm l = l then (n : Int) else 0 - (n : Int)
noncomputable def lrd (l : List Nat) : Option (Int × Int) := match lTop l, lBot l with
  | some t, some b => if b = 0 then none else if atx (nT (sgn l t) b) (nB (sgn l t) b) = l then some (nT (sgn l t) b, nB (sgn l t) b) else none
  | _, _ => none
theorem lrd_rt {l : List Nat} {t b : Int} (h : lrd l = some (t, b)) : RT l t b := by
  unfold lrd at h
  split at h
  · rename_i p q e1 e2
    split at h
    · cases h
    · rename_i qz
      split at h
      · rename_i c
        cases h
        have lt1 := fgs_some e1
        have lt2 : q < 10 ^ 200 := by
          unfold lBot at e2
          split at e2
          · cases e2; exact Nat.one_lt_pow (by decide) (by decide)
          · exact fgs_some e2
        have z : ((q : Nat) : Int) ≠ 0 := by omega
        have sl : (sgn l p).natAbs = p := by unfold sgn; split <;> omega
        exact ⟨low_n z, Nat.lt_of_le_of_lt (nT_le z) (by rw [sl]; exact lt1), Nat.lt_of_le_of_lt (nB_le z) (by simpa using lt2), c.symm⟩
      · cases h
  · cases h
theorem rt_lrd {l : List Nat} {t b : Int} (h : RT l t b) : lrd l = some (t, b) := by
  obtain ⟨lo, ht, hb, rfl⟩ := h
  have b0 := lo.1
  have u := n_self lo
  have bz : b ≠ 0 := by omega
  have eB : it b = dg b.natAbs := if_neg (by omega)
  have n47 : 47 ∉ dg t.natAbs := fun m => by have := dg_all _ _ m; omega
  -- the plain text
  have hp : unm (atx t b) = (if b = 1 then dg t.natAbs else dg t.natAbs ++ 47 :: it b) ∧ sgn (atx t b) t.natAbs = t := by
    by_cases t0 : t < 0
    · have e : it t = 45 :: dg t.natAbs := if_pos t0
      have e2 : atx t b = 45 :: (if b = 1 then dg t.natAbs else dg t.natAbs ++ 47 :: it b) := by
        unfold atx
        rw [e]
        split <;> rfl
      have e3 : unm (atx t b) = (if b = 1 then dg t.natAbs else dg t.natAbs ++ 47 :: it b) := by
        rw [e2]
        rfl
      refine ⟨e3, ?_⟩
      have ne : unm (atx t b) ≠ atx t b := fun z => by
        have := congrArg List.length z
        rw [e3, e2, List.length_cons] at this
        omega
      unfold sgn
      rw [if_neg ne]
      omega
    · have e : it t = dg t.natAbs := if_neg t0
      have e2 : atx t b = (if b = 1 then dg t.natAbs else dg t.natAbs ++ 47 :: it b) := by
        unfold atx
        rw [e]
      have ne : ∀ r, atx t b ≠ 45 :: r := fun r z => by
        have m : 45 ∈ dg t.natAbs ∨ dg t.natAbs = [] := by
          rw [e2] at z
          split at z
          · exact .inl (by rw [z]; exact List.mem_cons_self ..)
          · cases hd : dg t.natAbs with
            | nil => exact .inr rfl
            | cons c r2 =>
              rw [hd] at z
              have : c = 45 := (List.cons.inj z).1
              exact .inl (by rw [this]; exact List.mem_cons_self ..)
        rcases m with m | m
        · have := dg_all _ _ m
          omega
        · exact dg_ne _ m
      have e3 := unm_id ne
      refine ⟨by rw [e3, e2], ?_⟩
      unfold sgn
      rw [if_pos e3]
      omega
  have parts : pt3 (unm (atx t b)) = if b = 1 then (dg t.natAbs, [], []) else (dg t.natAbs, [47], it b) := by
    rw [hp.1]
    split
    · exact pt3_no n47
    · exact pt3_at n47
  have e1 : lTop (atx t b) = some t.natAbs := by
    unfold lTop
    rw [parts]
    split <;> exact fgs_dg ht
  have e2 : lBot (atx t b) = some b.natAbs := by
    unfold lBot
    rw [parts]
    by_cases b1 : b = 1
    · rw [if_pos b1]
      show some 1 = _
      rw [b1]
      rfl
    · rw [if_neg b1]
      show (if ([47] : List Nat) = [] then some 1 else fgs (it b)) = _
      rw [if_neg (by decide), eB]
      exact fgs_dg hb
  have eb : ((b.natAbs : Nat) : Int) = b := by omega
  unfold lrd
  rw [e1, e2]
  show (if b.natAbs = 0 then none else _) = _
  rw [if_neg (by omega), hp.2, eb, u.1, u.2, if_pos rfl]
theorem lrd_eq (l : List Nat) : lrd l = rdv l := by
  cases h : rdv l with
  | some x =>
    obtain ⟨t, b⟩ := x
    exact rt_lrd (rdv_rt h)
  | none =>
    cases h2 : lrd l with
    | some x =>
      obtain ⟨t, b⟩ := x
      rw [rt_rdv (lrd_rt h2)] at h
      cases h
    | none => rfl
end HX

set_option Elab.async false
set_option linter.all false
set_option maxRecDepth 100000
set_option maxHeartbeats 2000000
namespace HX
open PySem PySem.Spec PyProof.Rows L2

/-! ### classmethods read off their class: one that may raise, one called by keywords -/
section
variable {X : Cx} {CY : CXT} {k : Nat} {C p g : Addr} {mc : Value} {sp : Sp} {E : XK} {W : WX} {o e : Expr} {es : List Expr} {m : Str} {pos apos : Pos} {ta : TE} {t : TA} {pl : Sem Bool} {fd : FuncData} {ps : List Str} {ks : List Str} {kws : List Keyword} {gg : List Value → List Value → List Value} {gV : List V → List V → List V}
theorem pe_cmethX (he : PE X o ta) (r : ClX.CRead X.K C mc) (c : ClX.CMet X.K C mc m p g) (F : FnR X.prog X.w X.K X.mg X.base (CX X.prog X.w) k g sp) (hr : Room k X.A) (tk : Takes X W) (ha : PA X (e :: es) t)
    (hst : starEach (e :: es) X.env = (false, eval e X.env) :: starEach es X.env := by rfl) (hpl : (backTo pos (starEach es X.env)).any (·.1) = false := by rfl)
    (ht : eval (.Call (.Attribute o m apos) (e :: es) [] pos) X.env = (do
      let ov ← eval o X.env
      standAt apos.atName
      let (f, first) ← holding [ov] (getMethod ov m pl)
      callWith pos f first (backTo pos (starEach (e :: es) X.env)) (backToKw pos (keywordEach [] X.env))) := by rfl) :
    PE X (.Call (.Attribute o m apos) (e :: es) [] pos) (fun σ H Q => ClX.tCMeth C sp (WE W σ) ta t σ H Q) :=
 by
  refine ⟨fun pins s σ H Q I h => PySem.W.methodCall_KW (pl := pl) (thn (he.run pins s σ H _ I h) fun u s1 ⟨x, H1, I1, rx, ex, q⟩ => ?_) ht⟩
  subst ex
  obtain rfl : u = Value.ref C := rx
  refine ClX.getmethcm_ok I1 r c fun s2 I2 => ?_
  refine ClX.callwith_cm I2 (ClX.base_none I1 (Nat.le_refl _)) c.fi (thn (ha.run pos _ s2 σ H1 _ I2 q) fun us s3 ⟨vs, H2, I3, rv, q2⟩ => ⟨⟨ClX.pin_at I3, I3.kIn⟩, ?_⟩) hst hpl
  have run := F X.A X.stack s3 H2 (.ref C :: us) (.ref C :: vs) Q (WE W σ) hr I3.env0 (.cons rfl rv) q2
  have z : wpAny (model X.prog X.w) X.A (call (.ref s1.heap.objs.size) us) (EP X ((s1.heap.objs.size, PySem.W.methodObj (.ref g) (.ref C)) :: pins) σ Q) X.xe s3 := by
    refine wpAny_call (PySem.W.method_call (ClX.pin_at I3) (codeAny_mono run fun r s' q => ?_))
    match r, q with
    | .error e, q => exact passAt tk σ _ _ _ _ _ I3 q
    | .ok (.ret u), q => exact I3.after q
    | .ok .next, q => exact False.elim q
    | .ok .brk, q => exact False.elim q
    | .ok .cont, q => exact False.elim q
  exact thn z fun _ _ y => ClX.unpinE y
/-- C.m(k = e, ..), m a classmethod -/
def tCMK (C : Addr) (n : Nat) (sp : Sp) (gV : List V → List V → List V) (E : XK) (ta : TE) (t : TA) : TE := fun σ H Q => ta σ H fun x H1 => x = .ref C ∧ t σ H1 fun zs H2 => zs.length = n ∧ sp (gV [.ref C] zs) H2 Q E
theorem pe_cmk (he : PE X o ta) (r : ClX.CRead X.K C mc) (c : ClX.CMet X.K C mc m p g) (Fm : FnOk X.prog X.w X.K X.mg X.base CY k g fd ps sp) (b : KBn X.K fd ps 1 ks gg gV) (hr : Room k X.A) (hx : Passes CY X E) (hkw : PK X kws t)
    (hall : (backToKw pos (keywordEach kws X.env)).all (·.1.isSome) = true := by rfl) (hks : (backToKw pos (keywordEach kws X.env)).filterMap (·.1) = ks := by rfl)
    (hpl : ((backTo pos (starEach [] X.env)).any (·.1) || (backToKw pos (keywordEach kws X.env)).any (·.1.isNone)) = false := by rfl)
    (ht : eval (.Call (.Attribute o m apos) [] kws pos) X.env = (do
      let v ← eval o X.env
      standAt apos.atName
      let (f, first) ← holding [v] (getMethod v m pl)
      callWith pos f first (backTo pos (starEach [] X.env)) (backToKw pos (keywordEach kws X.env))) := by rfl) : PE X (.Call (.Attribute o m apos) [] kws pos) (tCMK C ks.length sp gV E ta t) := by
  refine ⟨fun pins s σ H Q I h => PySem.W.methodCall_KW (pl := pl) (thn (he.run pins s σ H _ I h) fun u s1 ⟨x, H1, I1, rx, ex, q⟩ => ?_) ht⟩
  subst ex
  obtain rfl : u = Value.ref C := rx
  refine ClX.getmethcm_ok I1 r c fun s2 I2 => ?_
  have hb := ClX.base_none I1 (Nat.le_refl _)
  refine PySem.W.callWith_of (P := PySem.W.MethP X.K s1.heap.objs.size g (.ref C)) hpl (PySem.W.keeps_M c.fi) (evalArgs_kw2_nil hall (thn (hkw.run pos _ s2 σ H1 _ I2 q) fun ws s3 ⟨zs, H2, I3, rz, l2, q2⟩ => ⟨⟨ClX.pin_at I3, I3.kIn⟩, ?_⟩))
  rw [hks]
  have l3 : ws.length = ks.length := rz.length.symm.trans l2
  have run := Fm.run X.A X.stack s3 H2 ⟨[.ref C], ks.zip ws⟩ (gg [.ref C] ws) (gV [.ref C] zs) Q E hr I3.env0 (b.to s3 [.ref C] ws I3.kIn rfl l3) (b.rel (.cons rfl .nil) rz) q2
  have z : wpAny (model X.prog X.w) X.A (call (.ref s1.heap.objs.size) [] (ks.zip ws)) (EP X ((s1.heap.objs.size, PySem.W.methodObj (.ref g) (.ref C)) :: pins) σ Q) X.xe s3 := by
    refine wpAny_call (PySem.W.method_call (ClX.pin_at I3) (codeAny_mono run fun r s' q => ?_))
    match r, q with
    | .error e, q => exact hx _ _ _ _ _ _ I3 q
    | .ok (.ret u), q => exact I3.after q
    | .ok .next, q => exact False.elim q
    | .ok .brk, q => exact False.elim q
    | .ok .cont, q => exact False.elim q
  exact thn z fun _ _ y => ClX.unpinE y
end
end HX

set_option Elab.async false
set_option linter.all false
set_option maxRecDepth 100000
set_option maxHeartbeats 2000000
namespace HX
open PySem PySem.Spec PyProof.Rows L2

/-! ### own errors inside a try whose clause raises out: defs and errors that fly without a context -/
section
variable {P : Program} {w : World} {K : PySem.W.Frag} {mg : Str → Option Value} {base : Heap}
/-- a def that may raise where the clause raises out again -/
theorem okN {x qual : Str} {st : Stmt} {f : Addr} {fd : FuncData} {N ps : List Str} {k : Nat} {sp : Sp} (F : Fun K x qual st f fd) (S : FnScope N ps (defScope st)) (len : ∀ vs H Q E, sp vs H Q E → vs.length = ps.length)
    (go : ∀ (cdv : Value) (A : Around) (outer : List Env) (s : Shared) (H : Hp) (vs : List V) (Q : VK) (E : XK), Room k (A.deeper (envOfC qual (defScope st) s.heap.objs.size f cdv)) → sp vs H Q E →
      ∃ t, PSs (cxOf (L2N.CX P w) P w K mg base N qual (defScope st) f cdv A outer s H E) (defBody st) t ∧ t { nx := fun _ G => Q .non G, rt := Q } (start N vs) H) : FnOk P w K mg base (L2N.CX P w) (k + 1) f fd ps sp := by
  have ⟨_, _, _, _, _, _, c, _, _, e, lk, hcd⟩ := F.ex
  subst e
  exact fn_of lk hcd S len fun A outer s H vs Q E => go c A outer s H vs Q E
/-- the same def while an exception is handled; here its own may not leave it -/
theorem okH {x qual : Str} {st : Stmt} {f : Addr} {fd : FuncData} {N ps : List Str} {k : Nat} {sp : Sp} (F : Fun K x qual st f fd) (S : FnScope N ps (defScope st)) (len : ∀ vs H Q E, sp vs H Q E → vs.length = ps.length)
    (go : ∀ (cdv : Value) (A : Around) (outer : List Env) (s : Shared) (H : Hp) (vs : List V) (Q : VK) (E : XK) (p : Addr × Obj), sp vs H Q E →
      ∃ t, PSs (L2H.cxH CX0 P w K mg base N qual (defScope st) f cdv A outer s H E p) (defBody st) t ∧ t { nx := fun _ G => Q .non G, rt := Q } (start N vs) H) : L2H.FnH P w K mg base CX0 (k + 1) f fd ps sp := by
  have ⟨_, _, _, _, _, _, c, _, _, e, lk, hcd⟩ := F.ex
  subst e
  exact L2H.fn_ofH lk hcd S len fun A outer s H vs Q E p _ _ => go c A outer s H vs Q E p
variable {C fI : Addr} {fd : FuncData} {qual f g : Str} {st : Stmt}
theorem ok_init2H (F : Fun K "__init__" qual st fI fd) (T : OexC K C) (no : PySem.W.findIn K (.ref C) f = some none) (no2 : PySem.W.findIn K (.ref C) g = some none) (S : FnScope ["self", f, g] ["self", f, g] (defScope st))
    (hb : ∃ p1 p2 p3 p4 q1 q2 q3 q4, defBody st = [.Assign [.Attribute (.Name "self" p1) f p2] (.Name f p3) p4, .Assign [.Attribute (.Name "self" q1) g q2] (.Name g q3) q4])
    (v0 : Vis (defScope st) "self" := by exact Or.inl rfl) (v1 : Vis (defScope st) f := by exact Or.inl rfl) (v2 : Vis (defScope st) g := by exact Or.inl rfl)
    (hd : (f == ("__debug__" : Str)) = false := by decide) (hcd : (f == ("__classdict__" : Str)) = false := by decide)
    (hd2 : (g == ("__debug__" : Str)) = false := by decide) (hcd2 : (g == ("__classdict__" : Str)) = false := by decide) : L2H.FnH P w K mg base CX0 1 fI fd ["self", f, g] (spI2 C f g) := by
  obtain ⟨p1, p2, p3, p4, q1, q2, q3, q4, eb⟩ := hb
  refine okH F S (fun vs H Q E h => ?_) (fun cdv A outer s H vs Q E p h => ?_)
  · obtain ⟨a, v, u, rfl, _⟩ := h
    rfl
  · obtain ⟨a, v, u, rfl, ha, k⟩ := h
    rw [eb]
    refine ⟨_, pss_cons (ps_ost (pe_var (i := 0) rfl v0) (pe_var (i := 1) rfl v1 hd hcd)) (pss_one (ps_ost (pe_var (i := 0) rfl v0) (pe_var (i := 2) rfl v2 hd2 hcd2))), ?_⟩
    refine ⟨v, rfl, _, rfl, a, C, rfl, T, no, .inl ⟨ha, fun dx n ne => ?_⟩⟩
    exact ⟨u, rfl, _, rfl, a, C, rfl, T, no2, .inr ⟨dx, [(f, v)], upd_same, by rw [upd_ne ne, upd_same], by show 1 ≤ 900; decide, k dx n ne⟩⟩
/-- such an error class, made where an exception is handled -/
def ErrH (P : Program) (w : World) (K : PySem.W.Frag) (mg : Str → Option Value) (base : Heap) (x : Str) (C : Addr) (ps : List Str) (sp : Sp) : Prop :=
  ∃ (fI : Addr) (fd : FuncData), RxC K mg x C fI ∧ L2H.FnH P w K mg base CX0 1 fI fd ps sp ∧ Binds K fd ps []
end
section
variable {X : Cx} {x : Str} {C : Addr} {ps : List Str} {sp : Sp} {e : Expr} {es : List Expr} {ta : TA} {W : WX} {p pos pos2 : Pos}
/-- an own error made where nothing is handled flies without a context -/
theorem mkN (Z : ErrC X.prog X.w X.K X.mg X.base x C ps sp) (hr : Room 2 X.A) (he : PA X (e :: es) ta) (hg : Gl X x) (hdb : (x == ("__debug__" : Str)) = false) (hs : starEach (e :: es) X.env = (false, eval e X.env) :: starEach es X.env) (hpl : (backTo pos (starEach es X.env)).any (·.1) = false) :
    L2N.PMk X (.Call (.Name x p) (e :: es) [] pos) (tMkO C sp [] ta) := by
  intro pins s σ H Q I h
  obtain ⟨fI, fd, T, F, b⟩ := Z
  obtain ⟨_, _, _, _, bm, _, _, _, _, _, _, _, _, _, _, hC, hbm⟩ := T.o.cls
  refine wpAny_Call_Name_kw (ld_glob I hg T.gC ?_ hdb)
  refine PySem.W.callWith_K (h₀ := X.base) I.ok.mod.kin T.o.kC (thn (he.run pos pins s σ H _ I h) fun us s1 ⟨vs, H1, I1, rv, small, ask⟩ => ⟨I1.kIn, ?_⟩) hs hpl
  show wpAny _ _ (call (.ref C) us) _ _ _
  obtain ⟨hp, gn, dw, tk, os⟩ := s1
  have ask := ask (hp.objs.size + 1) (I1.hok.fresh (Nat.le_succ _))
  rw [List.append_nil] at ask
  have kp : ∀ b o, hp.get? b = some o → ((hp.push (PySem.W.kdv_tup us)).push (PySem.HandSPX.excO C hp.objs.size)).get? b = some o := fun b o z => Heap.get?_push_of_some _ (Heap.get?_push_of_some _ z)
  have I2 := I1.laid (t' := tk) (a := hp.objs.size + 1) (o := exo (hp.objs.size + 1) C none) (h' := (hp.push (PySem.W.kdv_tup us)).push (PySem.HandSPX.excO C hp.objs.size)) kp (Nat.le_succ _) (exo_ok (by heap_get))
  have rv2 : Vals (V.ref (hp.objs.size + 1) :: vs) (Value.ref (hp.objs.size + 1) :: us) := .cons rfl rv
  have len : (Value.ref (hp.objs.size + 1) :: us ++ []).length = ps.length := by
    rw [List.append_nil]
    exact rv2.length.symm.trans (F.len _ _ _ _ ask)
  have bnd := b _ (Value.ref (hp.objs.size + 1) :: us) I2.kIn len
  rw [List.append_nil] at bnd
  have tiny : us.length ≤ sizeLine := by
    have := Paired.length rv
    rw [sizeLine_eq]
    omega
  have run := F.run _ X.stack _ _ ⟨Value.ref (hp.objs.size + 1) :: us, []⟩ _ _ _ _ (hr.make C us []) (I2.env0.make C us []) bnd rv2 ask
  refine wpAny_call (PySem.HandSPX.call_own PySem.F.excBase_ValueError (fun _ => PySem.HandSPX.refsVE_contains _ bm hbm) (I1.kIn _ _ hC) (PySem.W.looks_findIn I1.kIn T.iC) (fun _ => PySem.W.bind_fn I1.kIn _ T.tI) tiny (codeAny_mono run fun r s' got => ?_))
  match r, got with
  | .error _, got => exact got.elim
  | .ok .next, got => exact got.elim
  | .ok .brk, got => exact got.elim
  | .ok .cont, got => exact got.elim
  | .ok (.ret u), got =>
    obtain ⟨v, H2, ho, hb, un, hok, ru, rfl, d, fs, ea, ed, d1, q⟩ := got
    obtain ⟨h2, g2, d2, t2, os'⟩ := s'
    obtain ⟨_, G, J, kG, ge, at_, na⟩ := mk_end0 (d2 := d2) (t2 := t2) I1 (Nat.le_succ _) kp un hok ho hb ea ed d1
    refine ⟨ru, _, _, _, ⟨G, g2, d2, t2, os'⟩, _, .ref C, some d, rfl, J, kG, ge, at_, ⟨rfl, rfl, fun vs hv => ?_⟩, rfl, rfl, na, rfl, hb, raises_own T.o.exC T.o.tyC, q⟩
    cases hv
    rfl
theorem ps_rzN (Z : ErrC X.prog X.w X.K X.mg X.base x C ps sp) (hc : X.calm = true) (hr : Room 2 X.A) (tk : L2N.Takes X W) (he : PA X (e :: es) ta)
    (hg : Gl X x := by rfl) (hdb : (x == ("__debug__" : Str)) = false := by decide) (hs : starEach (e :: es) X.env = (false, eval e X.env) :: starEach es X.env := by rfl) (hpl : (backTo pos (starEach es X.env)).any (·.1) = false := by rfl) :
    PS X (.Raise (some (.Call (.Name x p) (e :: es) [] pos)) none pos2) (fun _ σ H => tMkO C sp [] ta σ H fun cls d G => W cls d σ G) :=
  L2N.ps_raise hc tk (mkN Z hr he hg hdb hs hpl)
/-- raise C(e, ..) from None, in a clause -/
theorem ps_rzF {j : Nat} {cpos : Pos} (Z : ErrH X.prog X.w X.K X.mg X.base x C ps sp) (hc : L2H.HotC X) (hr : L2H.RoomH 2 X.A) (tk : Takes X W) (he : PA X (e :: es) ta)
    (hg : Gl X x := by rfl) (hdb : (x == ("__debug__" : Str)) = false := by decide) (hs : starEach (e :: es) X.env = (false, eval e X.env) :: starEach es X.env := by rfl) (hpl : (backTo pos (starEach es X.env)).any (·.1) = false := by rfl) :
    PS X (.Raise (some (.Call (.Name x p) (e :: es) [] pos)) (some (.Constant .none j cpos)) pos2) (fun _ σ H => tMkO C sp [] ta σ H fun cls d G => W cls d σ G) := by
  obtain ⟨fI, fd, T, F, b⟩ := Z
  exact L2H.ps_raiseHN hc tk (L2H.pmk5_oexH T.o T.iC T.tI F hr hc b (fun _ _ _ _ _ _ _ z => z.elim) hg T.gC he hdb hs hpl)
end
section
variable {X : Cx} {CY : CXT} {k : Nat} {C p g : Addr} {mc : Value} {sp : Sp} {E : XK} {W : WX} {o e : Expr} {es : List Expr} {m : Str} {pos apos : Pos} {ta : TE} {t : TA} {pl : Sem Bool} {fd : FuncData} {ps : List Str} {ks : List Str} {kws : List Keyword} {gg : List Value → List Value → List Value} {gV : List V → List V → List V}
theorem pe_cmethXN (he : PE X o ta) (r : ClX.CRead X.K C mc) (c : ClX.CMet X.K C mc m p g) (F : FnR X.prog X.w X.K X.mg X.base (L2N.CX X.prog X.w) k g sp) (hr : Room k X.A) (tk : L2N.Takes X W) (ha : PA X (e :: es) t)
    (hst : starEach (e :: es) X.env = (false, eval e X.env) :: starEach es X.env := by rfl) (hpl : (backTo pos (starEach es X.env)).any (·.1) = false := by rfl)
    (ht : eval (.Call (.Attribute o m apos) (e :: es) [] pos) X.env = (do
      let ov ← eval o X.env
      standAt apos.atName
      let (f, first) ← holding [ov] (getMethod ov m pl)
      callWith pos f first (backTo pos (starEach (e :: es) X.env)) (backToKw pos (keywordEach [] X.env))) := by rfl) :
    PE X (.Call (.Attribute o m apos) (e :: es) [] pos) (fun σ H Q => ClX.tCMeth C sp (WE W σ) ta t σ H Q) :=
 by
  refine ⟨fun pins s σ H Q I h => PySem.W.methodCall_KW (pl := pl) (thn (he.run pins s σ H _ I h) fun u s1 ⟨x, H1, I1, rx, ex, q⟩ => ?_) ht⟩
  subst ex
  obtain rfl : u = Value.ref C := rx
  refine ClX.getmethcm_ok I1 r c fun s2 I2 => ?_
  refine ClX.callwith_cm I2 (ClX.base_none I1 (Nat.le_refl _)) c.fi (thn (ha.run pos _ s2 σ H1 _ I2 q) fun us s3 ⟨vs, H2, I3, rv, q2⟩ => ⟨⟨ClX.pin_at I3, I3.kIn⟩, ?_⟩) hst hpl
  have run := F X.A X.stack s3 H2 (.ref C :: us) (.ref C :: vs) Q (WE W σ) hr I3.env0 (.cons rfl rv) q2
  have z : wpAny (model X.prog X.w) X.A (call (.ref s1.heap.objs.size) us) (EP X ((s1.heap.objs.size, PySem.W.methodObj (.ref g) (.ref C)) :: pins) σ Q) X.xe s3 := by
    refine wpAny_call (PySem.W.method_call (ClX.pin_at I3) (codeAny_mono run fun r s' q => ?_))
    match r, q with
    | .error e, q => exact L2N.passAt tk σ _ _ _ _ _ I3 q
    | .ok (.ret u), q => exact I3.after q
    | .ok .next, q => exact False.elim q
    | .ok .brk, q => exact False.elim q
    | .ok .cont, q => exact False.elim q
  exact thn z fun _ _ y => ClX.unpinE y
end
end HX

set_option Elab.async false
set_option linter.all false
set_option maxRecDepth 100000
set_option maxHeartbeats 2000000
namespace HX
open PySem PySem.Spec PyProof.Rows L2

/-! ### a text cut at its blanks, and what a text of gaps says -/
def wds (l : List Nat) : List (List Nat) := TL.spl [32] 0 [] l
theorem spl32 : ∀ (r acc : List Nat), (∀ w ∈ TL.spl [32] 0 acc r, w.length ≤ acc.length + r.length ∧ ∀ c ∈ w, c ∈ acc ∨ c ∈ r) ∧ 1 ≤ (TL.spl [32] 0 acc r).length ∧ (TL.spl [32] 0 acc r).length ≤ r.length + 1
  | [], acc => by
    rw [TL.spl_nil]
    exact ⟨fun w hw => by rw [List.mem_singleton.mp hw]; exact ⟨by simp, fun c h => .inl h⟩, by simp, by simp⟩
  | c :: r, acc => by
    by_cases h : TL.pre [32] (c :: r) = true
    · obtain ⟨i1, i2, i3⟩ := spl32 r []
      rw [TL.spl_hit h]
      refine ⟨fun w hw => ?_, by simp, by simp at i3 ⊢; exact i3⟩
      rcases List.mem_cons.mp hw with e | hw
      · rw [e]
        exact ⟨by omega, fun c h => .inl h⟩
      · obtain ⟨a, b⟩ := i1 w hw
        simp only [List.length_nil, List.length_cons] at a ⊢
        exact ⟨by omega, fun x hx => .inr (List.mem_cons_of_mem _ ((b x hx).elim (fun z => nomatch z) id))⟩
    · have e : TL.spl [32] 0 acc (c :: r) = TL.spl [32] 0 (acc ++ [c]) r := by
        show (if TL.pre [32] (c :: r) = true then _ else _) = _
        rw [if_neg h]
      obtain ⟨i1, i2, i3⟩ := spl32 r (acc ++ [c])
      rw [e]
      refine ⟨fun w hw => ?_, i2, by rw [List.length_cons]; omega⟩
      obtain ⟨a, b⟩ := i1 w hw
      rw [List.length_append, List.length_singleton] at a
      rw [List.length_cons]
      refine ⟨by omega, fun x hx => ?_⟩
      rcases b x hx with z | z
      · rcases List.mem_append.mp z with z | z
        · exact .inl z
        · rw [List.mem_singleton.mp z]
          exact .inr (List.mem_cons_self ..)
      · exact .inr (List.mem_cons_of_mem _ z)
theorem wds_mem {l w : List Nat} (h : w ∈ wds l) : w.length ≤ l.length ∧ ∀ c ∈ w, c ∈ l := by
  obtain ⟨a, b⟩ := (spl32 l []).1 w h
  simp at a
  exact ⟨a, fun c hc => (b c hc).elim (fun z => nomatch z) id⟩
theorem wds_len (l : List Nat) : 1 ≤ (wds l).length ∧ (wds l).length ≤ l.length + 1 := (spl32 l []).2
theorem wds_is (l : List Nat) : Txt.split (ofL l) (Str.ofString " ") = (wds l).map ofL := by
  have e : (Str.ofString " ") = SX.S [32] := by decide +kernel
  rw [e]
  exact SX.split_S (a := l) (by decide) (by decide)
def isNm (l : List Nat) : Bool := decide (1 ≤ l.length ∧ l.length ≤ 8 ∧ ∀ c ∈ l, c ∈ abc)
/-- what a text of gaps says, word after word: the place that is wrong, or the gaps -/
noncomputable def duW : Nat → List Nat → List (List Nat × Int × Int) → List (List Nat) → Nat ⊕ List (List Nat × Int × Int)
  | at_, ah, acc, [] => if at_ % 2 = 1 then .inl at_ else .inr acc
  | at_, ah, acc, w :: ws =>
    if at_ % 2 = 0 then (if isNm w = true ∧ ah < w then duW (at_ + 1) w acc ws else .inl at_)
    else match rdv w with
      | some (t, b) => if t = 0 then .inl at_ else duW (at_ + 1) ah (acc ++ [(ah, t, b)]) ws
      | none => .inl at_
noncomputable def due (l : List Nat) : Nat ⊕ List (List Nat × Int × Int) := if l = [110, 111, 110, 101] then .inr [] else duW 0 [] [] (wds l)
/-- a dict of pairs, by its names -/
inductive KPs (H : Hp) : List (Key × V) → List (List Nat × Int × Int) → Prop
  | nil : KPs H [] []
  | cons {q : Addr} {k : List Nat} {t b : Int} {kvs : List (Key × V)} {ps : List (List Nat × Int × Int)} : H q = some (.tup [.int t, .int b]) → KPs H kvs ps → KPs H ((.inr (ofL k), .ref q) :: kvs) ((k, t, b) :: ps)
theorem KPs.mo {H G : Hp} (s : ∀ q t b, H q = some (.tup [.int t, .int b]) → G q = some (.tup [.int t, .int b])) : ∀ {kvs ps}, KPs H kvs ps → KPs G kvs ps
  | _, _, .nil => .nil
  | _, _, .cons e r => .cons (s _ _ _ e) (r.mo s)
theorem KPs.snoc {H : Hp} {q : Addr} {k : List Nat} {t b : Int} (e : H q = some (.tup [.int t, .int b])) : ∀ {kvs ps}, KPs H kvs ps → KPs H (kvs ++ [(.inr (ofL k), .ref q)]) (ps ++ [(k, t, b)])
  | _, _, .nil => .cons e .nil
  | _, _, .cons e2 r => .cons e2 (r.snoc e)
theorem KPs.len {H : Hp} : ∀ {kvs ps}, KPs H kvs ps → kvs.length = ps.length
  | _, _, .nil => rfl
  | _, _, .cons _ r => by rw [List.length_cons, List.length_cons, r.len]
theorem KPs.out {H : Hp} {k : List Nat} : ∀ {kvs ps}, KPs H kvs ps → (∀ p ∈ ps, p.1 ≠ k) → valV kvs (.inr (ofL k)) = none
  | _, _, .nil, _ => rfl
  | _, _, .cons (k := k2) e r, n => by
    rw [valV_neg (by intro z; exact n _ (List.mem_cons_self ..) (ofL_inj (Sum.inr.inj z)))]
    exact r.out fun p hp => n p (List.mem_cons_of_mem _ hp)
end HX

set_option Elab.async false
set_option linter.all false
set_option maxRecDepth 100000
set_option maxHeartbeats 2000000
namespace HX
open PySem PySem.Spec PyProof.Rows L2

/-! ### a dict against an empty one -/
def rEqE (neg : Bool) : L2.R2 := fun x y H Q => ∃ a b ks, x = .ref a ∧ y = .ref b ∧ H a = some (.dK ks) ∧ H b = some (.dK []) ∧ Q (.bl (xor neg (decide (ks = [])))) H
section
variable {X : Cx}
theorem op_eqE (hu : X.A.units < cLine) : OpR X (compareOp .Eq) (rEqE false) := by
  intro pins s σ H x y v u Q I rx ry h
  obtain ⟨a, b, ks, rfl, rfl, ea, eb, q⟩ := h
  obtain rfl : v = Value.ref a := rx
  obtain rfl : u = Value.ref b := ry
  obtain ⟨_, na, va, ra, da⟩ := (show ObjOk X.prog X.w H s.heap a (.dK ks) from I.hok a _ ea)
  obtain ⟨_, nb, vb, rb, db⟩ := (show ObjOk X.prog X.w H s.heap b (.dK []) from I.hok b _ eb)
  have lb : vb.length = 0 := rb.length.symm
  have la := ra.length
  cases ks with
  | nil =>
    have e0 : va.length = 0 := la.symm
    exact PySem.W.keq_eq (knd := mixKind X.prog X.w) (r := true) na nb da db hu (fun _ => hits_all rb ra fun p z => nomatch z) (fin_bl I q (by simp [e0, lb]))
  | cons p r =>
    have e0 : va.length = r.length + 1 := la.symm
    exact PySem.W.keq_eq (knd := mixKind X.prog X.w) (r := true) na nb da db hu (fun z => absurd z (by omega)) (fin_bl I q (by simp [e0, lb]))
end
theorem KPs.at_ {H : Hp} : ∀ {kvs ps}, KPs H kvs ps → (∀ (i : Nat) (k : Key) (v : V), kvs[i]? = some (k, v) → ∃ n t b, ps[i]? = some (n, t, b) ∧ k = .inr (ofL n))
  | _, _, .nil, i, k, v, e => by simp at e
  | _, _, .cons (k := n) (t := t) (b := b) _ r, 0, k, v, e => by
    simp at e
    exact ⟨n, t, b, rfl, e.1.symm⟩
  | _, _, .cons _ r, i + 1, k, v, e => by
    simp at e
    obtain ⟨n, t, b, x, y⟩ := r.at_ i k v e
    exact ⟨n, t, b, by simpa using x, y⟩
theorem KPs.get {H : Hp} {n : List Nat} {t b : Int} : ∀ {kvs ps}, KPs H kvs ps → (ps.map (·.1)).Nodup → (n, t, b) ∈ ps → ∃ q, valV kvs (.inr (ofL n)) = some (.ref q) ∧ H q = some (.tup [.int t, .int b])
  | _, _, .nil, _, z => nomatch z
  | _, _, .cons (q := q) (k := m) (t := t2) (b := b2) (ps := ps) e r, nd, z => by
    rw [List.map_cons, List.nodup_cons] at nd
    rcases List.mem_cons.mp z with z | z
    · cases z
      exact ⟨q, valV_pos (p := ((Sum.inr (ofL n) : Key), V.ref q)) rfl, e⟩
    · obtain ⟨q2, v2, e2⟩ := r.get nd.2 z
      refine ⟨q2, ?_, e2⟩
      rw [valV_neg (by intro y; exact nd.1 (List.mem_map.mpr ⟨_, z, (ofL_inj (Sum.inr.inj y)).symm⟩))]
      exact v2
end HX

set_option Elab.async false
set_option linter.all false
set_option maxRecDepth 100000
set_option maxHeartbeats 2000000
namespace HX
open PySem PySem.Spec PyProof.Rows L2

/-! ### a dict's comprehension over any walk -/
section
variable {J : It} {n : Nat} {G : Hp → Prop} {Y : Nat → Hp → V → Hp → Prop}
theorem dc_it (wk : Walk J n G Y) {g : TG} {tt : TT} {tk tv : TE} {vs : List Nat} {σ : L2.St} {H1 : Hp} {D : Addr} {Fin : Hp → Prop} (Pv : Nat → Hp → Prop) (h0 : Pv 0 (upd H1 D (.dK []))) (hG : ∀ i H, i ≤ n → Pv i H → G H)
    (hs : ∀ i x H H', i < n → Pv i H → Y i H x H' → g x (wipe σ vs) H' fun σ2 H2 => wipe σ2 vs = wipe σ vs ∧ tt σ2 H2 fun b H3 =>
      if b = true then tk σ2 H3 fun y H4 => tv σ2 H4 fun z H5 => ∃ kvs k, y = kV k ∧ H5 D = some (.dK kvs) ∧ kvs.length < sizeLine ∧ Pv (i + 1) (upd H5 D (.dK (putK kvs k z))) else Pv (i + 1) H3) (hd : ∀ H, Pv n H → Fin H) :
    ∃ W : Nat → Nat → Hp → Prop, (∃ m, W 0 m (upd H1 D (.dK []))) ∧ ∀ i m H, W i m H →
      (J.stop i H ∧ Fin H) ∨ (J.go i H ∧ ∃ Nx : Hp → Prop, (∀ H', Nx H' → ∃ m', m' < m ∧ W (i + 1) m' H') ∧ ∀ x H', J.yld i H x H' → g x (wipe σ vs) H' fun σ2 H2 => wipe σ2 vs = wipe σ vs ∧ tt σ2 H2 fun b H3 =>
        if b = true then tk σ2 H3 fun y H4 => tv σ2 H4 fun z H5 => ∃ kvs k, y = kV k ∧ H5 D = some (.dK kvs) ∧ kvs.length < sizeLine ∧ Nx (upd H5 D (.dK (putK kvs k z))) else Nx H3) := by
  refine ⟨fun i left H => left + i = n ∧ Pv i H, ⟨n, rfl, h0⟩, ?_⟩
  rintro i left H ⟨sum, pv⟩
  have le : i ≤ n := by omega
  have st := hG i H le pv
  rcases Nat.lt_or_ge i n with lt | ge
  · exact .inr ⟨wk.goes i H lt st, Pv (i + 1), fun H' p' => ⟨left - 1, by omega, by omega, p'⟩, fun x H' y => hs i x H H' lt pv (wk.yields i H x H' lt st y)⟩
  · have e : i = n := Nat.le_antisymm le ge
    subst e
    exact .inl ⟨wk.stops H st, hd H pv⟩
end
/-! ### dicts of Amounts, by their names: what a dict told holds -/
/-- R says what stands under a name -/
inductive KRs (R : V → Int → Int → Prop) : List (Key × V) → List (List Nat × Int × Int) → Prop
  | nil : KRs R [] []
  | cons {v : V} {k : List Nat} {t b : Int} {kvs : List (Key × V)} {ps : List (List Nat × Int × Int)} : R v t b → KRs R kvs ps → KRs R ((.inr (ofL k), v) :: kvs) ((k, t, b) :: ps)
section
variable {R S : V → Int → Int → Prop}
theorem KRs.mo (s : ∀ v t b, R v t b → S v t b) : ∀ {kvs ps}, KRs R kvs ps → KRs S kvs ps
  | _, _, .nil => .nil
  | _, _, .cons e r => .cons (s _ _ _ e) (r.mo s)
theorem KRs.snoc {v : V} {k : List Nat} {t b : Int} (e : R v t b) : ∀ {kvs ps}, KRs R kvs ps → KRs R (kvs ++ [(.inr (ofL k), v)]) (ps ++ [(k, t, b)])
  | _, _, .nil => .cons e .nil
  | _, _, .cons e2 r => .cons e2 (r.snoc e)
theorem KRs.len : ∀ {kvs ps}, KRs R kvs ps → kvs.length = ps.length
  | _, _, .nil => rfl
  | _, _, .cons _ r => by rw [List.length_cons, List.length_cons, r.len]
theorem KRs.keys : ∀ {kvs ps}, KRs R kvs ps → kvs.map (·.1) = (ps.map (·.1)).map fun k => (Sum.inr (ofL k) : Key)
  | _, _, .nil => rfl
  | _, _, .cons _ r => by rw [List.map_cons, List.map_cons, List.map_cons, r.keys]
theorem KRs.out {k : List Nat} : ∀ {kvs ps}, KRs R kvs ps → (∀ p ∈ ps, p.1 ≠ k) → valV kvs (.inr (ofL k)) = none
  | _, _, .nil, _ => rfl
  | _, _, .cons e r, n => by
    rw [valV_neg (by intro z; exact n _ (List.mem_cons_self ..) (ofL_inj (Sum.inr.inj z)))]
    exact r.out fun p hp => n p (List.mem_cons_of_mem _ hp)
theorem KRs.get {n : List Nat} {t b : Int} : ∀ {kvs ps}, KRs R kvs ps → (ps.map (·.1)).Nodup → (n, t, b) ∈ ps → ∃ v, valV kvs (.inr (ofL n)) = some v ∧ R v t b
  | _, _, .nil, _, z => nomatch z
  | _, _, .cons (v := v) e r, nd, z => by
    rw [List.map_cons, List.nodup_cons] at nd
    rcases List.mem_cons.mp z with z | z
    · cases z
      exact ⟨v, valV_pos (p := ((Sum.inr (ofL n) : Key), v)) rfl, e⟩
    · obtain ⟨u, u1, u2⟩ := r.get nd.2 z
      refine ⟨u, ?_, u2⟩
      rw [valV_neg (by intro y; exact nd.1 (List.mem_map.mpr ⟨_, z, (ofL_inj (Sum.inr.inj y)).symm⟩))]
      exact u1
theorem KRs.at_ : ∀ {kvs ps}, KRs R kvs ps → ∀ (i : Nat) (k : Key) (v : V), kvs[i]? = some (k, v) → ∃ n t b, ps[i]? = some (n, t, b) ∧ k = .inr (ofL n) ∧ R v t b
  | _, _, .nil, i, k, v, e => by simp at e
  | _, _, .cons (v := u) (k := n) (t := t) (b := b) x _, 0, k, v, e => by
    simp at e
    obtain ⟨rfl, rfl⟩ := e
    exact ⟨n, t, b, rfl, rfl, x⟩
  | _, _, .cons _ r, i + 1, k, v, e => by
    simp at e
    obtain ⟨n, t, b, x, y, z⟩ := r.at_ i k v e
    exact ⟨n, t, b, by simpa using x, y, z⟩
end
end HX

set_option Elab.async false
set_option linter.all false
set_option maxRecDepth 100000
set_option maxHeartbeats 2000000
/-! Z2: walks, comprehensions, lists, dicts by facts -/
namespace HX
open PySem PySem.Spec PyProof.Rows L2
section
variable {p : Option Addr} {n m l : Nat} {F F1 G : Hp} {L : List Addr} {te t1 t2 t3 : TE} {ta : TA} {tt : TT} {σ : L2.St} {S S' S1 S2 : Pr} {Ss Ts : List Pr} {K : PySem.W.Frag}
theorem At.sql (a : At p L F G) {b : Addr} {vs : List V} (e : F b = some (.lst vs)) : SqL K G b vs := SqL.of (a.lst e)
theorem At.sqt (a : At p L F G) {b : Addr} {vs : List V} (e : F b = some (.tup vs)) : SqT K G b vs := SqT.of (a.tup e)
/-! ### walks -/
/-- what J gives: items of which xs hold, as long as the facts stand -/
structure Wk (p : Option Addr) (L : List Addr) (F G : Hp) (J : It) (xs : List Pr) : Prop where
  goes : ∀ i H F' k, i < xs.length → Same F F' → At p L F' H → Rn p k G H → J.go i H
  stops : ∀ H F' k, Same F F' → At p L F' H → Rn p k G H → J.stop xs.length H
  yields : ∀ i H x H' F' k, i < xs.length → Same F F' → At p L F' H → Rn p k G H → J.yld i H x H' → ∃ F3 S, Nx p L 0 F' H F3 H' ∧ xs[i]? = some S ∧ S x F3
def EvI (p : Option Addr) (L : List Addr) (F : Hp) (n : Nat) (wi : TI) (σ : L2.St) (xs : List Pr) : Prop :=
  ∀ G, At p L F G → Bud p n G → ∀ R, (∀ J F' G', Nx p L n F G F' G' → Wk p L F' G' J xs → R J G') → wi σ G R
theorem EvI.list [MoL Ss] (h : Ev p L F n te σ (VL Ss)) : EvI p L F n (iList K te) σ Ss := fun G a b R q =>
  h G a b _ fun v F1 G1 x1 ⟨c, vs, e, hc, al⟩ => ⟨c, e, ⟨vs, (x1.at_ a).sql hc⟩, q _ F1 G1 x1 ⟨fun i H F' k hi s z _ => by
      have hi' : i < vs.length := by rw [al.len]; exact hi
      exact ⟨vs, vs[i], z.sql (s _ _ hc), List.getElem?_eq_getElem hi'⟩, fun H F' k s z _ => ⟨vs, z.sql (s _ _ hc), by rw [al.len]; exact Nat.le_refl _⟩, fun i H x H' F' k hi s z _ y => by
      obtain ⟨rfl, y⟩ := y
      have e1 : Ss[i]? = some Ss[i] := List.getElem?_eq_getElem hi
      obtain ⟨v', h1, h2⟩ := (MoL.mo s al).get e1
      have := y vs (z.sql (s _ _ hc))
      rw [this] at h1
      cases h1
      exact ⟨F', Ss[i], Nx.refl z, e1, h2⟩⟩⟩
theorem EvI.tup [MoL Ss] (h : Ev p L F n te σ (VT Ss)) : EvI p L F n (iTup K te) σ Ss := fun G a b R q =>
  h G a b _ fun v F1 G1 x1 ⟨c, vs, e, hc, al⟩ => ⟨c, e, ⟨vs, (x1.at_ a).sqt hc⟩, q _ F1 G1 x1 ⟨fun i H F' k hi s z _ => by
      have hi' : i < vs.length := by rw [al.len]; exact hi
      exact ⟨vs, vs[i], z.sqt (s _ _ hc), List.getElem?_eq_getElem hi'⟩, fun H F' k s z _ => ⟨vs, z.sqt (s _ _ hc), by rw [al.len]; exact Nat.le_refl _⟩, fun i H x H' F' k hi s z _ y => by
      obtain ⟨rfl, y⟩ := y
      have e1 : Ss[i]? = some Ss[i] := List.getElem?_eq_getElem hi
      obtain ⟨v', h1, h2⟩ := (MoL.mo s al).get e1
      have := y vs (z.sqt (s _ _ hc))
      rw [this] at h1
      cases h1
      exact ⟨F', Ss[i], Nx.refl z, e1, h2⟩⟩⟩
theorem EvI.range {k : Nat} (h : EvA p L F n ta σ [VI (k : Int)]) (hk : k < 2 ^ 60) : EvI p L F n (iRng1 ta) σ ((List.range k).map fun i : Nat => VI (i : Int)) := fun G a b R q =>
  h G a b _ fun vs F1 G1 x1 ⟨v, r, e, hv, hr⟩ => ⟨k, by rw [e, show r = [] from hr, show v = .int k from hv], by omega, by omega, q _ F1 G1 x1 ⟨fun i H F' _ hi s z _ => (by show i < (k : Int).toNat; simpa using hi), fun H F' _ s z _ => by
      show (k : Int).toNat ≤ _
      simp, fun i H x H' F' _ hi s z _ y => by
      obtain ⟨rfl, y⟩ := y
      have hi' : i < k := by simpa using hi
      exact ⟨F', VI (i : Int), Nx.refl z, by rw [List.getElem?_map, List.getElem?_range hi']; rfl, by rw [y]; show V.int (0 + i) = .int i; rw [Int.zero_add]⟩⟩⟩
/-! ### dicts -/
def AllK : List (Key × Pr) → List (Key × V) → Hp → Prop
  | [], kvs, _ => kvs = []
  | (k, S) :: r, kvs, F => ∃ v t, kvs = (k, v) :: t ∧ S v F ∧ AllK r t F
class MoK (ps : List (Key × Pr)) : Prop where
  mo : ∀ {kvs : List (Key × V)} {F F' : Hp}, Same F F' → AllK ps kvs F → AllK ps kvs F'
instance : MoK [] := ⟨fun _ h => h⟩
instance {k : Key} {S : Pr} {r : List (Key × Pr)} [Mo S] [MoK r] : MoK ((k, S) :: r) := ⟨fun s ⟨v, t, e, a, b⟩ => ⟨v, t, e, Mo.mo s a, MoK.mo s b⟩⟩
instance {α : Type} {k : α → Key} {R : α → Pr} {xs : List α} [∀ x, Mo (R x)] : MoK (xs.map fun x => (k x, R x)) := by
  induction xs with
  | nil => exact inferInstanceAs (MoK [])
  | cons x xs ih => exact inferInstanceAs (MoK ((k x, R x) :: xs.map fun x => (k x, R x)))
theorem AllK.len : ∀ {ps : List (Key × Pr)} {kvs : List (Key × V)}, AllK ps kvs F → kvs.length = ps.length
  | [], _, h => by rw [show _ = [] from h]; rfl
  | (_, _) :: _, _, ⟨v, t, e, _, h⟩ => by rw [e, List.length_cons, List.length_cons, h.len]
theorem AllK.keys : ∀ {ps : List (Key × Pr)} {kvs : List (Key × V)}, AllK ps kvs F → kvs.map (·.1) = ps.map (·.1)
  | [], _, h => by rw [show _ = [] from h]; rfl
  | (_, _) :: _, _, ⟨v, t, e, _, h⟩ => by rw [e, List.map_cons, List.map_cons, h.keys]
theorem AllK.at_ : ∀ {ps : List (Key × Pr)} {kvs : List (Key × V)} {i : Nat} {k : Key} {S : Pr}, AllK ps kvs F → ps[i]? = some (k, S) → ∃ v, kvs[i]? = some (k, v) ∧ S v F
  | (_, _) :: _, _, 0, _, _, ⟨v, t, e, a, _⟩, h => by
    cases h
    exact ⟨v, by rw [e]; rfl, a⟩
  | (_, _) :: _, _, i + 1, _, _, ⟨v, t, e, _, b⟩, h => by
    obtain ⟨u, h1, h2⟩ := b.at_ (i := i) (by simpa using h)
    exact ⟨u, by rw [e]; simpa using h1, h2⟩
def valP (ps : List (Key × Pr)) (k : Key) : Option Pr := (ps.find? fun e => decide (e.1 = k)).map (·.2)
theorem AllK.val : ∀ {ps : List (Key × Pr)} {kvs : List (Key × V)} (k : Key), AllK ps kvs F → (valP ps k = none ∧ valV kvs k = none) ∨ ∃ S v, valP ps k = some S ∧ valV kvs k = some v ∧ S v F
  | [], _, k, h => by rw [show _ = [] from h]; exact .inl ⟨rfl, rfl⟩
  | (k', S) :: r, _, k, ⟨v, t, e, a, b⟩ => by
    rw [e]
    unfold valP
    unfold valV
    simp only [List.find?_cons]
    by_cases c : k' = k
    · simp only [c, decide_true]
      exact .inr ⟨S, v, rfl, rfl, a⟩
    · simp only [c, decide_false]
      exact b.val k
def VD (ps : List (Key × Pr)) : Pr := fun v F => ∃ a kvs, v = .ref a ∧ F a = some (.dK kvs) ∧ AllK ps kvs F
instance {ps : List (Key × Pr)} [MoK ps] : Mo (VD ps) := ⟨fun s ⟨a, kvs, e, h, r⟩ => ⟨a, kvs, e, s _ _ h, MoK.mo s r⟩⟩
def VKy (k : Key) : Pr := fun v _ => v = kV k
instance {k : Key} : Mo (VKy k) := ⟨fun _ h => h⟩
variable {ps : List (Key × Pr)} {k : Key}
theorem At.dget (a : At p L F G) {b : Addr} {kvs : List (Key × V)} (e : F b = some (.dK kvs)) : DGet G b (kV k) (valV kvs k) := .inl ⟨kvs, k, a.dic e, rfl, rfl⟩
/-- d[k], there -/
theorem Ev.dget [MoK ps] (h1 : Ev p L F n t1 σ (VD ps)) (h2 : Ev p L F m t2 σ (VKy k)) (hk : valP ps k = some S) : Ev p L F (n + m) (tDGet t1 t2) σ S := fun G a b Q q =>
  h1 G a (b.le (by omega)) _ fun v F1 G1 x1 s1 => (h2.up x1.s) G1 (x1.at_ a) (Bud.step b x1.r) _ fun u F2 G2 x2 s2 => by
    obtain ⟨d, kvs, rfl, hd, al⟩ := (Mo.mo x2.s s1 : VD ps v F2)
    have a2 := x2.at_ (x1.at_ a)
    rw [show u = kV k from s2]
    have al2 := al
    rcases al2.val k with ⟨z, _⟩ | ⟨S0, w0, z, y, sw⟩
    · rw [hk] at z; cases z
    · rw [hk] at z
      cases z
      have dg := a2.dget (k := k) hd
      rw [y] at dg
      exact ⟨d, w0, rfl, dg, q w0 F2 G2 (x1.trans x2) sw⟩
/-- d.get(k, x) -/
theorem Ev.dget2 [MoK ps] [Mo S'] (h1 : Ev p L F n t1 σ (VD ps)) (h2 : Ev p L F m t2 σ (VKy k)) (h3 : Ev p L F l t3 σ S') : Ev p L F (n + m + l) (tDGet2 t1 t2 t3) σ (fun v F => match valP ps k with
    | some S => S v F
    | none => S' v F) := fun G a b Q q =>
  h1 G a (b.le (by omega)) _ fun v F1 G1 x1 s1 => by
    obtain ⟨d, kvs, rfl, hd, al⟩ := s1
    have a1 := x1.at_ a
    refine ⟨d, rfl, .inl ⟨kvs, a1.dic hd⟩, (h2.up x1.s) G1 a1 (Bud.step (m := m) (b.le (by omega)) x1.r) _ fun u F2 G2 x2 s2 => (h3.up (x1.s.trans x2.s)) G2 (x2.at_ a1) (Bud.step b (x1.trans x2).r) _ fun z F3 G3 x3 s3 => ?_⟩
    have a3 := x3.at_ (x2.at_ a1)
    rw [show u = kV k from s2]
    refine ⟨_, a3.dget (x3.s _ _ (x2.s _ _ hd)), ?_⟩
    have al3 := MoK.mo x3.s (MoK.mo x2.s al)
    rcases al3.val k with ⟨y1, y2⟩ | ⟨S0, w0, y1, y2, sw⟩
    · rw [y2]
      refine q _ F3 G3 ((x1.trans x2).trans x3) ?_
      show match valP ps k with | some S => _ | none => _
      rw [y1]
      exact s3
    · rw [y2]
      refine q _ F3 G3 ((x1.trans x2).trans x3) ?_
      show match valP ps k with | some S => _ | none => _
      rw [y1]
      exact sw
/-! ### built-ins upon lists, dicts -/
def rListOf (K : PySem.W.Frag) : List V → Hp → VK → Prop := fun xs H Q => ∃ p ys, xs = [.ref p] ∧ (SqL K H p ys ∨ SqT K H p ys) ∧ ∀ l, H l = none → Q (.ref l) (L2.upd H l (.lst ys))
theorem one_all {vs : List V} (h : AllP [S] vs F) : ∃ v, vs = [v] ∧ S v F := by
  obtain ⟨v, r, e, s, h⟩ := h
  exact ⟨v, by rw [e, show r = [] from h], s⟩
theorem Ev.listL [MoL Ss] (h : EvA p L F n ta σ [VL Ss]) : Ev p L F n (tCB (fun xs H Q => ∃ p ys, xs = [.ref p] ∧ (SqL K H p ys ∨ SqT K H p ys) ∧ ∀ l, H l = none → Q (.ref l) (L2.upd H l (.lst ys))) ta) σ (VL Ss) := fun G a b Q q =>
  h G a b _ fun vs F1 G1 x1 s1 => by
    obtain ⟨v, rfl, c, ws, rfl, hc, al⟩ := one_all s1
    have a1 := x1.at_ a
    exact ⟨c, ws, rfl, .inl (a1.sql hc), fun t nt => by
      have y := Nx.new a1 nt (.lst ws)
      exact q _ _ _ (x1.trans y) ⟨t, ws, rfl, upd_same, MoL.mo y.s al⟩⟩
theorem Ev.listT [MoL Ss] (h : EvA p L F n ta σ [VT Ss]) : Ev p L F n (tCB (fun xs H Q => ∃ p ys, xs = [.ref p] ∧ (SqL K H p ys ∨ SqT K H p ys) ∧ ∀ l, H l = none → Q (.ref l) (L2.upd H l (.lst ys))) ta) σ (VL Ss) := fun G a b Q q =>
  h G a b _ fun vs F1 G1 x1 s1 => by
    obtain ⟨v, rfl, c, ws, rfl, hc, al⟩ := one_all s1
    have a1 := x1.at_ a
    exact ⟨c, ws, rfl, .inr (a1.sqt hc), fun t nt => by
      have y := Nx.new a1 nt (.lst ws)
      exact q _ _ _ (x1.trans y) ⟨t, ws, rfl, upd_same, MoL.mo y.s al⟩⟩
theorem Ev.tupL [MoL Ss] (h : EvA p L F n ta σ [VL Ss]) : Ev p L F n (tCB (fun xs H Q => ∃ p ys, xs = [.ref p] ∧ ((SqL K H p ys ∧ ∀ l, H l = none → Q (.ref l) (L2.upd H l (.tup ys))) ∨ (SqT K H p ys ∧ Q (.ref p) H))) ta) σ (VT Ss) := fun G a b Q q =>
  h G a b _ fun vs F1 G1 x1 s1 => by
    obtain ⟨v, rfl, c, ws, rfl, hc, al⟩ := one_all s1
    have a1 := x1.at_ a
    exact ⟨c, ws, rfl, .inl ⟨a1.sql hc, fun t nt => by
      have y := Nx.new a1 nt (.tup ws)
      exact q _ _ _ (x1.trans y) ⟨t, ws, rfl, upd_same, MoL.mo y.s al⟩⟩⟩
theorem AllK.keyP : ∀ {ps : List (Key × Pr)} {kvs : List (Key × V)}, AllK ps kvs F → AllP (ps.map fun e => VKy e.1) (kvs.map fun kv => kV kv.1) F1
  | [], _, h => by rw [show _ = [] from h]; rfl
  | (k, _) :: _, _, ⟨v, t, e, _, h⟩ => by rw [e]; exact ⟨_, _, rfl, rfl, h.keyP⟩
/-- list(d) -/
theorem Ev.listD [MoK ps] (h : EvA p L F n ta σ [VD ps]) : Ev p L F n (tCB (fun xs H Q => ∃ (a : Addr) (kvs : List (Key × V)), xs = [.ref a] ∧ Rd H a (.dK kvs) ∧ ∀ p, H p = none → Q (.ref p) (L2.upd H p (.lst (kvs.map fun kv => kV kv.1)))) ta) σ (VL (ps.map fun e => VKy e.1)) := fun G a b Q q =>
  h G a b _ fun vs F1 G1 x1 s1 => by
    obtain ⟨v, rfl, c, kvs, rfl, hc, al⟩ := one_all s1
    have a1 := x1.at_ a
    exact ⟨c, kvs, rfl, a1.dic hc, fun t nt => by
      have y := Nx.new a1 nt (.lst (kvs.map fun kv => kV kv.1))
      exact q _ _ _ (x1.trans y) ⟨t, _, rfl, upd_same, al.keyP⟩⟩
/-- dict(d) -/
theorem Ev.dictD [MoK ps] (h : EvA p L F n ta σ [VD ps]) : Ev p L F n (tCB (fun xs H Q => ∃ (a : Addr) (kvs : List (Key × V)), xs = [.ref a] ∧ Rd H a (.dK kvs) ∧ ∀ p, H p = none → Q (.ref p) (L2.upd H p (.dK kvs))) ta) σ (VD ps) := fun G a b Q q =>
  h G a b _ fun vs F1 G1 x1 s1 => by
    obtain ⟨v, rfl, c, kvs, rfl, hc, al⟩ := one_all s1
    have a1 := x1.at_ a
    exact ⟨c, kvs, rfl, a1.dic hc, fun t nt => by
      have y := Nx.new a1 nt (.dK kvs)
      exact q _ _ _ (x1.trans y) ⟨t, _, rfl, upd_same, MoK.mo y.s al⟩⟩
theorem putK_out {acc : List (Key × V)} {k : Key} {v : V} (h : ∀ e ∈ acc, e.1 ≠ k) : putK acc k v = acc ++ [(k, v)] := by
  unfold putK
  rw [if_neg]
  intro z
  obtain ⟨e, he, hk⟩ := List.any_eq_true.mp z
  exact h e he (of_decide_eq_true hk)
theorem mergeK_nd : ∀ {kvs acc : List (Key × V)}, ((acc ++ kvs).map (·.1)).Nodup → mergeK acc kvs = acc ++ kvs
  | [], acc, _ => by rw [List.append_nil]; rfl
  | (k, v) :: r, acc, nd => by
    show mergeK (putK acc k v) r = _
    have out : ∀ e ∈ acc, e.1 ≠ k := fun e he z => by
      rw [List.map_append, List.map_cons] at nd
      exact (List.nodup_append.mp nd).2.2 _ (List.mem_map.mpr ⟨e, he, rfl⟩) k List.mem_cons_self z
    rw [putK_out out, mergeK_nd (by simpa using nd)]
    simp
theorem pairs_of : ∀ {ps : List (Key × Pr)} {vs : List V}, AllP (ps.map fun e => VT [VKy e.1, e.2]) vs F → ∃ (as : List Addr) (kvs : List (Key × V)), vs = as.map V.ref ∧ Paired (fun a (kv : Key × V) => F a = some (.tup [kV kv.1, kv.2])) as kvs ∧ AllK ps kvs F
  | [], _, h => ⟨[], [], by rw [show _ = [] from h]; rfl, .nil, rfl⟩
  | (k, S) :: r, _, ⟨v, t, e, ⟨a, ws, ev, ha, x, y, e1, hx, z, y2, e2, hz, e3⟩, h⟩ => by
    obtain ⟨as, kvs, e4, h1, h2⟩ := pairs_of h
    refine ⟨a :: as, (k, z) :: kvs, by rw [e, ev, e4]; rfl, .cons ?_ h1, z, kvs, rfl, hz, h2⟩
    rw [ha, e1, e2, show y2 = [] from e3, show x = kV k from hx]
/-- dict([(k, v), ..]) -/
theorem Ev.dictP [MoK ps] (h : EvA p L F n ta σ [VL (ps.map fun e => VT [VKy e.1, e.2])]) (nd : (ps.map (·.1)).Nodup) : Ev p L F n (tCB (fun xs H Q => ∃ (a : Addr) (ps : List Addr) (kvs : List (Key × V)), xs = [.ref a] ∧ SqL K H a (ps.map V.ref) ∧ Paired (fun p kv => SqT K H p [kV kv.1, kv.2]) ps kvs ∧
    ∀ p, H p = none → Q (.ref p) (L2.upd H p (.dK (mergeK [] kvs)))) ta) σ (VD ps) := fun G a b Q q =>
  h G a b _ fun vs F1 G1 x1 s1 => by
    obtain ⟨v, rfl, c, ws, rfl, hc, al⟩ := one_all s1
    obtain ⟨as, kvs, rfl, pr, ak⟩ := pairs_of al
    have a1 := x1.at_ a
    refine ⟨c, as, kvs, rfl, a1.sql hc, Paired.mapP pr fun p kv e => a1.sqt e, fun t nt => ?_⟩
    have y := Nx.new a1 nt (.dK kvs)
    rw [mergeK_nd (acc := []) (by rw [List.nil_append, ak.keys]; exact nd), List.nil_append]
    exact q _ _ _ (x1.trans y) ⟨t, kvs, rfl, upd_same, MoK.mo y.s ak⟩
/-- sorted, of texts -/
theorem Ev.sortedS {xs : List Str} (h : EvA p L F n ta σ [VL (xs.map VS)]) (hl : xs.length < 64) : Ev p L F n (tCB (rSortedS K) ta) σ (ExP (fun ys : List Str => ys.Perm xs ∧ sortedS ys = true) fun ys => VL (ys.map VS)) := fun G a b Q q =>
  h G a b _ fun vs F1 G1 x1 s1 => by
    obtain ⟨v, rfl, c, ws, rfl, hc, al⟩ := one_all s1
    have a1 := x1.at_ a
    have ew : ∀ {zs : List Str} {ws : List V} {F : Hp}, AllP (zs.map VS) ws F → ws = zs.map V.str := fun {zs} => by
      induction zs with
      | nil => exact fun h => h
      | cons z zs ih => exact fun ⟨v, r, e, hv, h⟩ => by rw [e, show v = .str z from hv, ih h]; rfl
    have we : ∀ (zs : List Str) (F : Hp), AllP (zs.map VS) (zs.map V.str) F := fun zs F => by
      induction zs with
      | nil => exact rfl
      | cons z zs ih => exact ⟨_, _, rfl, rfl, ih⟩
    have e := ew al
    subst e
    refine ⟨c, xs, rfl, a1.sql hc, hl, fun ys t pm srt nt => ?_⟩
    have y := Nx.new a1 nt (.lst (ys.map V.str))
    exact q _ _ _ (x1.trans y) ⟨ys, ⟨pm, srt⟩, t, _, rfl, upd_same, we ys _⟩
/-- len -/
theorem Ev.lenL [MoL Ss] (h : EvA p L F n ta σ [VL Ss]) : Ev p L F n (tCB (rLen2 K) ta) σ (VI (Ss.length : Int)) := fun G a b Q q =>
  h G a b _ fun vs F1 G1 x1 s1 => by
    obtain ⟨v, rfl, c, ws, rfl, hc, al⟩ := one_all s1
    exact ⟨ws, .inl ((x1.at_ a).sql hc), q _ F1 G1 x1 (by rw [al.len]; rfl)⟩
theorem Ev.lenT [MoL Ss] (h : EvA p L F n ta σ [VT Ss]) : Ev p L F n (tCB (rLen2 K) ta) σ (VI (Ss.length : Int)) := fun G a b Q q =>
  h G a b _ fun vs F1 G1 x1 s1 => by
    obtain ⟨v, rfl, c, ws, rfl, hc, al⟩ := one_all s1
    exact ⟨ws, .inr ((x1.at_ a).sqt hc), q _ F1 G1 x1 (by rw [al.len]; rfl)⟩
theorem Ev.ixL {i : Nat} [MoL Ss] (h1 : Ev p L F n t1 σ (VL Ss)) (h2 : Ev p L F m t2 σ (VI (i : Int))) (hi : Ss[i]? = some S) : Ev p L F (n + m) (tOp (rIx2 K) t1 t2) σ S :=
  Ev.op0 h1 h2 fun v u F' G s a ⟨c, vs, e, hc, al⟩ e2 Q q => by
    subst e
    rw [show u = .int i from e2]
    obtain ⟨w, h3, h4⟩ := al.get hi
    exact ⟨vs, w, .inl (a.sql hc), atI_nat h3, q w h4⟩
theorem Ev.ixT {i : Nat} [MoL Ss] (h1 : Ev p L F n t1 σ (VT Ss)) (h2 : Ev p L F m t2 σ (VI (i : Int))) (hi : Ss[i]? = some S) : Ev p L F (n + m) (tOp (rIx2 K) t1 t2) σ S :=
  Ev.op0 h1 h2 fun v u F' G s a ⟨c, vs, e, hc, al⟩ e2 Q q => by
    subst e
    rw [show u = .int i from e2]
    obtain ⟨w, h3, h4⟩ := al.get hi
    exact ⟨vs, w, .inr (a.sqt hc), atI_nat h3, q w h4⟩
end
end HX

set_option Elab.async false
set_option linter.all false
set_option maxRecDepth 100000
set_option maxHeartbeats 2000000
/-! Z3: comprehensions, loops, locked dicts by facts -/
namespace HX
open PySem PySem.Spec PyProof.Rows L2
section
variable {p : Option Addr} {n n0 n1 m l : Nat} {F F1 G : Hp} {L : List Addr} {te t1 t2 t3 : TE} {ta : TA} {tt : TT} {wi : TI} {σ : L2.St} {S S' S1 S2 : Pr} {Ss Ts : List Pr} {K : PySem.W.Frag}
theorem allP_mo {α : Type} {R : α → Pr} [∀ x, Mo (R x)] {xs : List α} {vs : List V} {F F' : Hp} (s : Same F F') (h : AllP (xs.map R) vs F) : AllP (xs.map R) vs F' := MoL.mo s h
/-- [e for x in xs if t] -/
theorem Ev.lc {α : Type} {zs : List α} {R R' : α → Pr} {keep : α → Bool} {g : TG} {vs : List Nat} [∀ x, Mo (R x)] [∀ x, Mo (R' x)] (hi : EvI p L F n0 wi σ (zs.map R))
    (hg : ∀ z ∈ zs, ∀ x F', Same F F' → R z x F' → ∃ σ2, wipe σ2 vs = wipe σ vs ∧ (∀ G (Q : L2.St → Hp → Prop), At p L F' G → Q σ2 G → g x (wipe σ vs) G Q) ∧ EvT p L F' n1 tt σ2 (· = keep z) ∧ (keep z = true → Ev p L F' n te σ2 (R' z)))
    (hl : zs.length ≤ 1000000) : Ev p L F (n0 + (n1 + n) * zs.length) (tLc wi g tt te vs) σ (VL ((zs.filter keep).map R')) := fun G a b Q q => by
  unfold tLc
  refine hi G a (b.le (by omega)) _ (fun J F1 G1 x1 wk D nD => ?_)
  have a1 := x1.at_ a
  have D1 := a1.nf nD
  have DL := a1.nl nD
  have Dp := a1.np nD
  have b1 : Bud p ((n1 + n) * zs.length) G1 := b.step x1.r
  refine ⟨fun i left H => left = zs.length - i ∧ i ≤ zs.length ∧ ∃ F2 acc, H D = some (.lst acc) ∧ F2 D = none ∧ Nx p L ((n1 + n) * i) F1 G1 F2 H ∧ AllP (((zs.take i).filter keep).map R') acc F2, ⟨zs.length, by simp, Nat.zero_le _, F1, [], upd_same, D1, ?_, rfl⟩, ?_⟩
  · exact ⟨(Rn.refl.mut nD).le (by omega), Same.refl F1, fun c u e => by
      rcases a1.fits c u e with ⟨z, y⟩ | ⟨z, ob, y⟩
      · exact .inl ⟨z, by rw [upd_ne (ne_of_none y nD)]; exact y⟩
      · exact .inr ⟨z, ob, by rw [upd_ne (ne_of_none y nD)]; exact y⟩, fun _ e _ => e⟩
  · rintro i left H ⟨rfl, il, F2, acc, hD, D2, x2, al⟩
    have a2 := x2.at_ a1
    have F12 := x2.s
    rcases Nat.lt_or_ge i zs.length with lt | ge
    · refine .inr ⟨wk.goes i H F2 _ (by simpa using lt) F12 a2 x2.r, fun H' => i + 1 ≤ zs.length ∧ ∃ F2 acc, H' D = some (.lst acc) ∧ F2 D = none ∧ Nx p L ((n1 + n) * (i + 1)) F1 G1 F2 H' ∧ AllP (((zs.take (i + 1)).filter keep).map R') acc F2, fun H' ⟨h1, h2⟩ => ⟨_, by omega, rfl, h1, h2⟩, fun x H' y => ?_⟩
      obtain ⟨F3, S0, x3, eS, hx⟩ := wk.yields i H x H' F2 _ (by simpa using lt) F12 a2 x2.r y
      have ez : zs[i]? = some zs[i] := List.getElem?_eq_getElem lt
      rw [List.getElem?_map, ez] at eS
      cases eS
      have zm : zs[i] ∈ zs := List.getElem_mem lt
      have a3 := x3.at_ a2
      have D3 : F3 D = none := x3.w D D2 (by rw [hD]; exact fun z => nomatch z)
      obtain ⟨σ2, w2, g2, ht, he⟩ := hg _ zm x F3 ((x1.s.trans F12).trans x3.s) hx
      refine g2 H' _ a3 ⟨w2, ?_⟩
      have hD3 : H' D = some (.lst acc) := x3.r.keep Dp hD
      have bi : Bud p (n1 + n) H := by
        have e : (n1 + n) * zs.length = (n1 + n) * i + (n1 + n) * (zs.length - i) := by rw [← Nat.mul_add]; congr 1; omega
        rw [e] at b1
        exact (b1.step x2.r).le (by have := Nat.mul_le_mul_left (n1 + n) (show 1 ≤ zs.length - i by omega); omega)
      have b3 : Bud p (n1 + n) H' := Bud.step (n := 0) (by rw [Nat.zero_add]; exact bi) x3.r
      refine ht H' a3 (b3.le (by omega)) _ fun bo F4 G4 x4 eb => ?_
      have a4 := x4.at_ a3
      have D4 : F4 D = none := x4.w D D3 (by rw [hD3]; exact fun z => nomatch z)
      have hD4 : G4 D = some (.lst acc) := x4.r.keep Dp hD3
      have tk : zs.take (i + 1) = zs.take i ++ [zs[i]] := by rw [List.take_add_one, ez]; rfl
      subst eb
      have x24 : Nx p L ((n1 + n) * i + n1) F1 G1 F4 G4 := ((x2.trans x3).trans x4).le (by omega)
      cases hk : keep zs[i] with
      | false =>
        rw [if_neg (by decide)]
        refine ⟨lt, F4, acc, hD4, D4, x24.le (by rw [Nat.mul_add]; omega), ?_⟩
        have ef : (zs.take (i + 1)).filter keep = (zs.take i).filter keep := by rw [tk, List.filter_append, List.filter_cons, hk]; simp
        rw [ef]
        exact allP_mo (x3.s.trans x4.s) al
      | true =>
        rw [if_pos rfl]
        refine ((he hk).up x4.s) G4 a4 (Bud.step (n := n1) b3 x4.r) _ fun v F5 G5 x5 hv => ?_
        have hD5 : G5 D = some (.lst acc) := x5.r.keep Dp hD4
        have D5 : F5 D = none := x5.w D D4 (by rw [hD4]; exact fun z => nomatch z)
        have x25 := x24.trans x5
        have al5 := allP_mo ((x3.s.trans x4.s).trans x5.s) al
        have len := al5.len
        have ef : (zs.take (i + 1)).filter keep = (zs.take i).filter keep ++ [zs[i]] := by rw [tk, List.filter_append, List.filter_cons, hk]; simp
        have lf := List.length_filter_le keep (zs.take i)
        rw [List.length_take] at lf
        rw [List.length_map] at len
        refine ⟨acc, hD5, by rw [sizeLine_eq]; omega, lt, F5, acc ++ [v], upd_same, D5, ?_, ?_⟩
        · refine ⟨(x25.r.mut nD).le (by rw [Nat.mul_add]; omega), x25.s, fun c u e => ?_, x25.w⟩
          have cD : c ≠ D := fun z => by rw [z, D5] at e; cases e
          rcases x25.f c u e with ⟨z, y⟩ | ⟨z, ob, y⟩
          · exact .inl ⟨z, by rw [upd_ne cD]; exact y⟩
          · exact .inr ⟨z, ob, by rw [upd_ne cD]; exact y⟩
        · rw [ef, List.map_append]
          exact al5.snoc hv
    · have e : i = zs.length := by omega
      subst e
      rw [List.take_length] at al
      refine .inl ⟨by simpa using wk.stops H F2 _ F12 a2 x2.r, ?_⟩
      have x12 := x1.trans x2
      have GD : G D = none := by
        cases h : G D with
        | none => rfl
        | some o => exact absurd nD (x1.r.trk (by rw [h]; exact fun z => nomatch z))
      have y := x12.put GD D2 hD DL
      exact q _ _ _ y ⟨D, acc, rfl, upd_same, allP_mo (Same.new (Same.refl F2) D2) al⟩
/-- [e for x in xs] -/
theorem Ev.lcA {α : Type} {zs : List α} {R R' : α → Pr} {g : TG} {vs : List Nat} [∀ x, Mo (R x)] [∀ x, Mo (R' x)] (hi : EvI p L F n0 wi σ (zs.map R))
    (hg : ∀ z ∈ zs, ∀ x F', Same F F' → R z x F' → ∃ σ2, wipe σ2 vs = wipe σ vs ∧ (∀ G (Q : L2.St → Hp → Prop), At p L F' G → Q σ2 G → g x (wipe σ vs) G Q) ∧ Ev p L F' n te σ2 (R' z))
    (hl : zs.length ≤ 1000000) : Ev p L F (n0 + n * zs.length) (tLc wi g tYes te vs) σ (VL (zs.map R')) := by
  have z := Ev.lc (n1 := 0) (tt := tYes) (keep := fun _ => true) hi (fun z hz x F' s r => by
    obtain ⟨σ2, h1, h2, h3⟩ := hg z hz x F' s r
    exact ⟨σ2, h1, h2, EvT.yes, fun _ => h3⟩) hl
  rw [Nat.zero_add, List.filter_eq_self.mpr (fun _ _ => rfl)] at z
  exact z
theorem gN_go {i : Nat} {x : V} {σ : L2.St} {G : Hp} {Q : L2.St → Hp → Prop} (h : Q (σ.set i (some x)) G) : gName i x σ G Q := h
/-- for a, b in ..: a pair is taken apart -/
theorem gP_go {F : Hp} {i j : Nat} {x : V} {σ : L2.St} {G : Hp} {Q : L2.St → Hp → Prop} {S1 S2 : Pr} (h : VT [S1, S2] x F) (a : At p L F G) (k : ∀ u v, S1 u F → S2 v F → Q ((σ.set i (some u)).set j (some v)) G) : gTup K 2 (gCons (gName i) (gCons (gName j) gNil)) x σ G Q := by
  obtain ⟨c, vs, rfl, hc, u, r, rfl, hu, v, r2, rfl, hv, e⟩ := h
  rw [show r2 = [] from e] at hc
  exact ⟨c, _, rfl, a.sqt hc, rfl, u, _, rfl, v, [], rfl, rfl, k u v hu hv⟩
/-! ### for -/
theorem forZ {xs : List Pr} {g : TG} {tb : TS} {D : Ends} (hi : EvI p L F n0 wi σ xs) (a : At p L F G) (b : Bud p (n0 + n * xs.length) G) (Iv : Nat → L2.St → Hp → Prop)
    (h0 : ∀ F1, Same F F1 → Iv 0 σ F1)
    (hs : ∀ i S x σ1 F1 H1, xs[i]? = some S → S x F1 → Same F F1 → At p L F1 H1 → Rn p (n0 + n * i) G H1 → Bud p n H1 → Iv i σ1 F1 → ∀ N : L2.St → Hp → Prop, (∀ σ' F' H', Nx p L n F1 H1 F' H' → Iv (i + 1) σ' F' → N σ' H') →
      g x σ1 H1 fun σ2 H2 => tb { D with nx := N, ct := N, bk := D.nx } σ2 H2)
    (hm : ∀ i σ1 F1 F2, Same F1 F2 → Iv i σ1 F1 → Iv i σ1 F2)
    (hd : ∀ σ' F' G', Nx p L (n0 + n * xs.length) F G F' G' → Iv xs.length σ' F' → D.nx σ' G') : tFor wi g tb D σ G := by
  unfold tFor
  refine hi G a (b.le (by omega)) _ (fun J F1 G1 x1 wk => ?_)
  have a1 := x1.at_ a
  refine ⟨fun i left σ' H => left = xs.length - i ∧ i ≤ xs.length ∧ ∃ F2, Nx p L (n * i) F1 G1 F2 H ∧ Iv i σ' F2, ⟨xs.length, by simp, Nat.zero_le _, F1, (Nx.refl a1).le (by omega), h0 F1 x1.s⟩, ?_⟩
  rintro i left σ' H ⟨rfl, il, F2, x2, iv⟩
  have a2 := x2.at_ a1
  rcases Nat.lt_or_ge i xs.length with lt | ge
  · refine .inr ⟨wk.goes i H F2 _ lt x2.s a2 x2.r, fun σ' H' => ∃ F2, i + 1 ≤ xs.length ∧ Nx p L (n * (i + 1)) F1 G1 F2 H' ∧ Iv (i + 1) σ' F2, fun σ' H' ⟨F2, h1, h2, h3⟩ => ⟨_, by omega, rfl, h1, F2, h2, h3⟩, fun x H' y => ?_⟩
    obtain ⟨F3, S0, x3, eS, hx⟩ := wk.yields i H x H' F2 _ lt x2.s a2 x2.r y
    have a3 := x3.at_ a2
    have x23 := x2.trans x3
    have bi : Bud p n H' := by
      have b1 : Bud p (n * xs.length) G1 := b.step x1.r
      have e : n * xs.length = n * i + 0 + n * (xs.length - i) := by rw [Nat.add_zero, ← Nat.mul_add]; congr 1; omega
      rw [e] at b1
      exact (b1.step x23.r).le (by have := Nat.mul_le_mul_left n (show 1 ≤ xs.length - i by omega); omega)
    refine hs i S0 x σ' F3 H' eS hx ((x1.s.trans x2.s).trans x3.s) a3 ((x1.trans x23).r.le (by omega)) bi (hm i σ' F2 F3 x3.s iv) _ fun σ3 F4 H4 x4 iv4 => ⟨F4, lt, (x23.trans x4).le (by rw [Nat.mul_add]; omega), iv4⟩
  · have e : i = xs.length := by omega
    subst e
    exact .inl ⟨wk.stops H F2 _ x2.s a2 x2.r, hd σ' F2 H (x1.trans x2) iv⟩
/-! ### locked dicts -/
theorem At.lock (a : At p L F G) {d : Addr} {kvs : List (Key × V)} (h : F d = some (.dK kvs)) (od : Obj) : At p (d :: L) F (L2.upd G d (.frz od (.dK kvs))) where
  fits := fun b o e => by
    by_cases c : b = d
    · subst c
      rw [h] at e
      cases e
      exact .inr ⟨List.mem_cons_self, od, upd_same⟩
    · rcases a.fits b o e with ⟨z, y⟩ | ⟨z, ob, y⟩
      · exact .inl ⟨fun m => (List.mem_cons.mp m).elim c z, by rw [upd_ne c]; exact y⟩
      · exact .inr ⟨List.mem_cons_of_mem _ z, ob, by rw [upd_ne c]; exact y⟩
  out := a.out
  trk := fun q e => by
    by_cases c : q = d
    · rw [c, upd_same]; exact fun z => nomatch z
    · rw [upd_ne c]; exact a.trk q e
  lk := fun b m => by
    rcases List.mem_cons.mp m with e | m
    · subst e
      exact ⟨a.ne h, od, kvs, upd_same⟩
    · obtain ⟨h1, ob, kv, e⟩ := a.lk b m
      by_cases c : b = d
      · subst c
        exact ⟨h1, od, kvs, upd_same⟩
      · exact ⟨h1, ob, kv, by rw [upd_ne c]; exact e⟩
theorem Bud.lock {d : Addr} {kvs : List (Key × V)} {u : HO} (b : Bud p n G) (h : G d = some (.dK kvs)) : Bud p n (L2.upd G d u) := match p, b with
  | none, _ => trivial
  | some q, b => b.elim .inl fun ⟨k0, c, P, l⟩ => .inr ⟨k0, c, P.mut (fun z => by
      obtain ⟨_, _, _, pn, _⟩ := P
      rw [z, pn.at_] at h; cases h) (fun z => by
      obtain ⟨_, _, _, pn, _⟩ := P
      rw [z, pn.cel] at h; cases h), l⟩
theorem Rn.lock {d : Addr} {od : Obj} {kvs : List (Key × V)} {J : Hp} (a : At p L F G) (hF : F d = some (.dK kvs)) (h : G d = some (.dK kvs)) (r : Rn p n (L2.upd G d (.frz od (.dK kvs))) J) : J d = some (.frz od (.dK kvs)) ∧ Rn p n G (L2.upd J d (.dK kvs)) := by
  have pd := a.ne hF
  have e1 : J d = some (.frz od (.dK kvs)) := r.keep pd upd_same
  refine ⟨e1, ?_⟩
  cases p with
  | none =>
    have r : Same (L2.upd G d (.frz od (.dK kvs))) J := r
    exact fun b o e => by
      by_cases c : b = d
      · subst c; rw [h] at e; cases e; exact upd_same
      · rw [upd_ne c]; exact r b o (by rw [upd_ne c]; exact e)
  | some q =>
    obtain ⟨r1, r2, r3⟩ := (r : Kp q _ J ∧ _ ∧ _)
    have qd : q ≠ d := fun z => pd (by rw [z])
    refine ⟨fun b o n e => ?_, fun z => by rw [upd_ne qd]; exact r2 (by rw [upd_ne qd]; exact z), fun k0 c P => ?_⟩
    · by_cases c : b = d
      · subst c; rw [h] at e; cases e; exact upd_same
      · rw [upd_ne c]; exact r1 b o n (by rw [upd_ne c]; exact e)
    · have dk : d ≠ k0 := fun z => by
        obtain ⟨_, _, _, pn, _⟩ := P
        rw [z, pn.cel] at h; cases h
      exact (r3 k0 c (P.mut (Ne.symm qd) dk)).mut (Ne.symm qd) dk
theorem Nx.unlock {d : Addr} {od : Obj} {kvs : List (Key × V)} {F' J : Hp} (a : At p L F G) (nl : d ∉ L) (hF : F d = some (.dK kvs)) (x : Nx p (d :: L) n F (L2.upd G d (.frz od (.dK kvs))) F' J) : J d = some (.frz od (.dK kvs)) ∧ Nx p L n F G F' (L2.upd J d (.dK kvs)) := by
  have h : G d = some (.dK kvs) := by
    rcases a.fits d _ hF with ⟨_, y⟩ | ⟨z, _⟩
    · exact y
    · exact absurd z nl
  obtain ⟨e1, r⟩ := Rn.lock a hF h x.r
  refine ⟨e1, r, x.s, fun b o e => ?_, fun b e z => x.w b e ?_⟩
  · by_cases c : b = d
    · subst c
      rw [x.s _ _ hF] at e
      cases e
      exact .inl ⟨nl, upd_same⟩
    · rcases x.f b o e with ⟨z, y⟩ | ⟨z, ob, y⟩
      · exact .inl ⟨fun m => z (List.mem_cons_of_mem _ m), by rw [upd_ne c]; exact y⟩
      · exact .inr ⟨(List.mem_cons.mp z).elim (fun e => absurd e c) id, ob, by rw [upd_ne c]; exact y⟩
  · by_cases c : b = d
    · rw [c, upd_same]; exact fun z => nomatch z
    · rw [upd_ne c]; exact z
theorem At.raw (a : At p L F G) {d : Addr} {kvs : List (Key × V)} (nl : d ∉ L) (hF : F d = some (.dK kvs)) : G d = some (.dK kvs) := by
  rcases a.fits d _ hF with ⟨_, y⟩ | ⟨z, _⟩
  · exact y
  · exact absurd z nl
/-- an expression while it walks over a dict -/
theorem Ev.lock {d : Addr} {kvs : List (Key × V)} (hF : F d = some (.dK kvs)) (nl : d ∉ L) (h : Ev p (d :: L) F n te σ S) : Ev p L F n (tLockE te) σ S := fun G a b Q q => by
  have hd := a.raw nl hF
  refine ⟨d, .dK kvs, hd, trivial, fun od => h _ (a.lock hF od) (b.lock hd) _ fun v F' G' x sv => ?_⟩
  obtain ⟨e1, y⟩ := Nx.unlock a nl hF x
  exact ⟨e1, q v F' _ y sv⟩
/-- name = an expression that walks over a dict -/
theorem lock_asg {i : Nat} {D : Ends} (h : tLockE te σ G fun v H => D.nx (σ.set i (some v)) H) : tLock (tAsg te (gName i)) D σ G := by
  obtain ⟨d, u, h1, h2, h3⟩ := h
  exact ⟨d, u, h1, h2, h3⟩
/-- the keys of a locked dict -/
theorem EvI.keys {ps : List (Key × Pr)} [MoK ps] {d : Addr} {kvs : List (Key × V)} (h : Ev p (d :: L) F n te σ (VR d)) (hF : F d = some (.dK kvs)) (al : AllK ps kvs F) : EvI p (d :: L) F n (iKeys te) σ (ps.map fun e => VKy e.1) := fun G a b R q => by
  refine h G a b _ fun v F1 G1 x1 e => ?_
  have e : v = .ref d := e
  subst e
  have a1 := x1.at_ a
  have hF1 := x1.s _ _ hF
  have pd := a1.ne hF1
  obtain ⟨od, e1⟩ : ∃ od, G1 d = some (.frz od (.dK kvs)) := by
    rcases a1.fits d _ hF1 with ⟨y, _⟩ | ⟨_, y⟩
    · exact absurd List.mem_cons_self y
    · exact y
  have len : kvs.length = (ps.map fun e => VKy e.1).length := by rw [al.len, List.length_map]
  refine ⟨d, od, rfl, .inl ⟨kvs, e1, q _ F1 G1 x1 ⟨fun i H F' k hi s z r => ⟨r.keep pd e1, by rw [len]; exact hi⟩, fun H F' k s z r => ⟨r.keep pd e1, by rw [len]; exact Nat.le_refl _⟩, fun i H x H' F' k hi s z r y => ?_⟩⟩⟩
  obtain ⟨rfl, k', v', y1, rfl⟩ := y
  have hi' : i < ps.length := by simpa using hi
  obtain ⟨w, h1, h2⟩ := al.at_ (i := i) (k := ps[i].1) (S := ps[i].2) (List.getElem?_eq_getElem hi')
  rw [y1] at h1
  cases h1
  exact ⟨F', VKy ps[i].1, Nx.refl z, by rw [List.getElem?_map, List.getElem?_eq_getElem hi']; rfl, rfl⟩
/-- the pairs of a locked dict -/
theorem EvI.items {ps : List (Key × Pr)} [MoK ps] {d : Addr} {kvs : List (Key × V)} (h : Ev p (d :: L) F n te σ (VR d)) (hF : F d = some (.dK kvs)) (al : AllK ps kvs F) : EvI p (d :: L) F n (iItems te) σ (ps.map fun e => VT [VKy e.1, e.2]) := fun G a b R q => by
  refine h G a b _ fun v F1 G1 x1 e => ?_
  have e : v = .ref d := e
  subst e
  have a1 := x1.at_ a
  have hF1 := x1.s _ _ hF
  have pd := a1.ne hF1
  obtain ⟨od, e1⟩ : ∃ od, G1 d = some (.frz od (.dK kvs)) := by
    rcases a1.fits d _ hF1 with ⟨y, _⟩ | ⟨_, y⟩
    · exact absurd List.mem_cons_self y
    · exact y
  have len : kvs.length = (ps.map fun e => VT [VKy e.1, e.2]).length := by rw [al.len, List.length_map]
  refine ⟨d, od, kvs, rfl, e1, q _ F1 G1 x1 ⟨fun i H F' k hi s z r => ⟨r.keep pd e1, by rw [len]; exact hi⟩, fun H F' k s z r => ⟨r.keep pd e1, by rw [len]; exact Nat.le_refl _⟩, fun i H x H' F' k hi s z r y => ?_⟩⟩
  obtain ⟨T, k', v', y1, rfl, nT, rfl⟩ := y
  have hi' : i < ps.length := by simpa using hi
  obtain ⟨w, h1, h2⟩ := (MoK.mo (x1.s.trans s) al).at_ (i := i) (k := ps[i].1) (S := ps[i].2) (List.getElem?_eq_getElem hi')
  rw [y1] at h1
  cases h1
  have x2 := Nx.new z nT (.tup [kV ps[i].1, v'])
  have mo2 : AllK ps kvs (L2.upd F' T (.tup [kV ps[i].1, v'])) := MoK.mo ((x1.s.trans s).trans x2.s) al
  obtain ⟨w2, h3, h4⟩ := mo2.at_ (i := i) (k := ps[i].1) (S := ps[i].2) (List.getElem?_eq_getElem hi')
  rw [y1] at h3
  cases h3
  exact ⟨_, VT [VKy ps[i].1, ps[i].2], x2, by rw [List.getElem?_map, List.getElem?_eq_getElem hi']; rfl, T, _, rfl, upd_same, _, _, rfl, rfl, _, _, rfl, h4, rfl⟩
end
end HX

set_option Elab.async false
set_option linter.all false
set_option maxRecDepth 100000
set_option maxHeartbeats 2000000
namespace HX
open PySem PySem.Spec PyProof.Rows L2

/-! ### repr of a list: the list itself may stand anywhere, what is in it not at sys.modules -/
theorem shows_list {P : Program} {w : World} {hp : Heap} {b : Addr} {ob : Obj} {its : Array Value} {k : Nat} {ds : List PyData} {as : List Addr} (g1 : hp.get? b = some ob) (g2 : ob.cls = .type "list") (g3 : ob.data = .seq its k) (g4 : ReadsAll hp its.toList ds as)
    (sh : (PyData.list ds).showable = true) (ns : sysModules ∉ as) (sz : (PyData.list ds).shown.length ≤ sizeLine) : ShowsBy P w hp b (.list ds) "list" "list.__repr__" := by
  have sz2 : (listText (PyData.shownAll ds)).length ≤ sizeLine := by simpa only [PyData.shown] using sz
  have sh2 : PyData.showableAll ds = true := by simpa [PyData.showable] using sh
  obtain ⟨cs, c1, c2⟩ := ReprAllK.of_readsAll (prog := P) (w := w) g4 sh2 (fun _ => ns) (fun t ht => Nat.le_trans (listText_mem_le ht) sz2)
  have out : b ∉ cs := not_mem_of_deeper (Reads.list g1 g2 g3 g4) (by simp only [PyData.depth]; omega) c1
  exact {
    slotRepr := F.slot_list_repr.toG
    slotStr := F.slot_list_str
    slotFmt := F.slot_list_format
    typeIs := fun s kp => ⟨ob, kp _ _ g1, g2⟩
    call := fun A E s Q hg hu kp hQ => by
      simp only [PyData.depth] at hu
      simp only [PyData.shown] at hQ
      obtain ⟨li⟩ := its
      cases li with
      | cons y r => exact call_list_reprK g1 g2 g3 out (by simpa using c2.length_eq) (fun i z e => c2.item i z (by simpa using e)) hg (fun z _ => Clear.nil z) hu kp hQ sz2
      | nil =>
        have g5 : ReadsAll hp [] ds as := g4
        cases g5
        simp only [PyData.shownAll, listText_nil] at hQ
        exact call_list_repr_empty ⟨ob, kp _ _ g1, g2⟩ (kp _ _ g1) g3 (hQ s.heap _ _ fun _ _ e => e) }
/-- repr of a list of data, at any address -/
def rReprL : List V → Hp → VK → Prop := fun xs H Q => ∃ (a : Addr) (vs : List V) (ds : List PyData), xs = [.ref a] ∧ H a = some (.lst vs) ∧ Das H vs ds ∧ OkD (.list ds) ∧ Q (.str (PyData.list ds).shown) H
theorem call_reprL {X : Cx} (gd : X.A.guards = some []) (hu : X.A.units + 64 < cLine) : CallR X (.builtin "repr") rReprL := by
  intro pins s σ H xs us Q I r h
  obtain ⟨a, vs, ds, rfl, ha, hd, ok, q⟩ := h
  obtain ⟨u, rfl, ru⟩ := vals1 r
  cases ru
  obtain ⟨its, rv, ⟨o, n, ho, hc, _, hda⟩, _⟩ := I.list (SqL.of ha)
  obtain ⟨as, hr, ns⟩ := Das.reads I hd rv
  have S := shows_list (P := X.prog) (w := X.w) ho hc hda (by simpa using hr) ok.sh ns ok.len
  have dp := ok.dp
  exact call_repr_slot (by omega) (S.typeIs s fun _ _ e => e) S.slotRepr (S.call X.A.in1 X.xe s _ gd (by show X.A.units + 1 + (PyData.list ds).depth < cLine; omega) (fun _ _ e => e) fun h' t tk k => ⟨_, _, rfl, .str (PyData.list ds).shown, H, I.kept k, ⟨_, rfl⟩, q⟩)
end HX

set_option Elab.async false
set_option linter.all false
set_option maxRecDepth 100000
set_option maxHeartbeats 2000000
/-! Z4: draws, promises by facts, comparisons of data, repr -/
namespace HX
open PySem PySem.Spec PyProof.Rows L2
section
variable {p : Option Addr} {q : Addr} {n n0 n1 m l : Nat} {F F1 G H H' : Hp} {L : List Addr} {te t1 t2 t3 : TE} {ta : TA} {tt : TT} {wi : TI} {σ : L2.St} {S S' S1 S2 : Pr} {Ss Ts : List Pr} {K : PySem.W.Frag} {E : XK} {ds : List V}
theorem rn_of {k0 : Addr} {c0 g : Int} {ns : List Int} (P : Pn H q k0 ns c0 g) (k : Kp q H H') (P' : Pe H' q k0 (c0 + n)) : Rn (some q) n H H' := ⟨k, (fun _ => by
    obtain ⟨o, e⟩ := P'.atP
    rw [e]
    exact fun z => nomatch z), fun k1 c ⟨ns1, c1, g1, P1, le⟩ => by
    have e := P.at_.symm.trans P1.at_
    simp only [Option.some.injEq, HO.lst.injEq, List.cons.injEq, V.ref.injEq, V.int.injEq] at e
    obtain ⟨rfl, rfl, _⟩ := e
    exact P'.mono (by omega)⟩
theorem Bud.pn (b : Bud (some q) n G) (h0 : 0 < n := by decide) : ∃ k0 ns c0 g, Pn G q k0 ns c0 g ∧ c0 + n ≤ 999000 := by
  obtain ⟨k0, c, ⟨ns, c0, g, P, le⟩, l⟩ := b.resolve_left (by omega)
  exact ⟨k0, ns, c0, g, P, by omega⟩
/-- a step of an older promise: all but the pen stays -/
theorem Nx.kp (a : At (some q) L F G) {k0 : Addr} {c0 g : Int} {ns : List Int} (P : Pn G q k0 ns c0 g) (k : Kp q G H') (P' : Pe H' q k0 (c0 + n)) : Nx (some q) L n F G F H' := Nx.of a (rn_of P k P')
theorem two_all {vs : List V} (h : AllP [S1, S2] vs F) : ∃ u v, vs = [u, v] ∧ S1 u F ∧ S2 v F := by
  obtain ⟨u, r, e, s, v, r2, e2, s2, h⟩ := h
  exact ⟨u, v, by rw [e, e2, show r2 = [] from h], s, s2⟩
/-- a draw -/
theorem Ev.draw {many : Int} (h : EvA (some q) L F n ta σ [VR q, VI many]) (h0 : 0 < many) (h1 : many.natAbs < 2 ^ 250) : Ev (some q) L F (n + 1) (tCall spDraw [] E ta) σ (ExP (fun r : Int => 0 ≤ r ∧ r < many) VI) :=
  Ev.call h fun vs F' G s a b al Q k => by
    obtain ⟨u, v, rfl, e1, e2⟩ := two_all al
    obtain ⟨k0, ns, c0, g, P, le⟩ := b.pn
    rw [show u = .ref q from e1, show v = .int many from e2]
    exact ⟨q, k0, c0, many, rfl, ⟨ns, c0, g, P, by omega⟩, h0, h1, by omega, fun r H' r0 r1 kp P' => k _ _ _ (Nx.kp a P kp P') ⟨r, ⟨r0, r1⟩, rfl⟩⟩
theorem AllP.mem : ∀ {Ss : List Pr} {vs : List V} {v : V}, AllP Ss vs F → v ∈ vs → ∃ S ∈ Ss, S v F
  | [], _, _, h, m => by rw [show _ = [] from h] at m; cases m
  | S :: Ss, _, v, ⟨u, r, e, s, h⟩, m => by
    rw [e] at m
    rcases List.mem_cons.mp m with rfl | m
    · exact ⟨S, List.mem_cons_self, s⟩
    · obtain ⟨S', h1, h2⟩ := h.mem m
      exact ⟨S', List.mem_cons_of_mem _ h1, h2⟩
/-- one of a list's items -/
theorem Ev.pickL [MoL Ss] (h : EvA (some q) L F n ta σ [VR q, VL Ss]) (h0 : 0 < Ss.length) (h1 : Ss.length ≤ 1000000) : Ev (some q) L F (n + 1) (tCall (spPick K) [] E ta) σ (fun v F => ∃ S ∈ Ss, S v F) :=
  Ev.call h fun vs F' G s a b al Q k => by
    obtain ⟨u, v, rfl, e1, c, ws, rfl, hc, al⟩ := two_all al
    obtain ⟨k0, ns, c0, g, P, le⟩ := b.pn
    rw [show u = .ref q from e1]
    have cq : c ≠ q := fun z => a.ne hc (by rw [z])
    have len := al.len
    exact ⟨q, k0, c0, .ref c, rfl, ⟨ns, c0, g, P, by omega⟩, by omega, .inr ⟨c, ws, rfl, cq, .inl (a.sql hc), by omega, by omega, fun v H' hv kp P' => k _ _ _ (Nx.kp a P kp P') (al.mem hv)⟩⟩
/-! ### promises by facts -/
/-- a def without a pen -/
def spZ {α : Type} (lk : List Addr → Prop) (C : α → Prop) (Pre : α → List Pr) (Post : α → Pr) : Sp := fun vs H Q _ => ∃ (x : α) (p : Option Addr) (L : List Addr) (F : Hp), C x ∧ lk L ∧ At p L F H ∧ AllP (Pre x) vs F ∧ ∀ v F' G, Nx p L 0 F H F' G → Post x v F' → Q v G
/-- a def with a pen -/
def spZp {α : Type} (n : Nat) (lk : List Addr → Prop) (C : α → Prop) (Pre : α → List Pr) (Post : α → Pr) : Sp := fun vs H Q _ => ∃ (x : α) (q : Addr) (L : List Addr) (F : Hp) (ws : List V), vs = .ref q :: ws ∧ C x ∧ lk L ∧ At (some q) L F H ∧ Bud (some q) n H ∧ AllP (Pre x) ws F ∧
  ∀ v F' G, Nx (some q) L n F H F' G → Post x v F' → Q v G
theorem Ev.callZ {α : Type} {lk : List Addr → Prop} {C : α → Prop} {Pre : α → List Pr} {Post : α → Pr} (x : α) (h : EvA p L F n ta σ (Pre x)) (hC : C x) (hl : lk L) : Ev p L F n (tCall (spZ lk C Pre Post) [] E ta) σ (Post x) :=
  Ev.call (l := 0) h fun vs F' G s a b al Q k => ⟨x, p, L, F', hC, hl, a, by rw [List.append_nil]; exact al, fun v F'' G' y z => k v F'' G' y z⟩
theorem Ev.callZp {α : Type} {lk : List Addr → Prop} {C : α → Prop} {Pre : α → List Pr} {Post : α → Pr} (x : α) (h : EvA (some q) L F n ta σ (VR q :: Pre x)) (hC : C x) (hl : lk L) : Ev (some q) L F (n + m) (tCall (spZp m lk C Pre Post) [] E ta) σ (Post x) :=
  Ev.call h fun vs F' G s a b ⟨u, r, e, e1, al⟩ Q k => ⟨x, q, L, F', r, by rw [e, List.append_nil, show u = .ref q from e1], hC, hl, a, b, al, fun v F'' G' y z => k v F'' G' y z⟩
/-! ### data, for == and repr -/
class ToP (S : Pr) (d : outParam PyData) : Prop where
  to : ∀ {K : PySem.W.Frag} {p : Option Addr} {L : List Addr} {F G : Hp} {v : V}, At p L F G → S v F → Dp K G v d
class ToPs (Ss : List Pr) (ds : outParam (List PyData)) : Prop where
  to : ∀ {K : PySem.W.Frag} {p : Option Addr} {L : List Addr} {F G : Hp} {vs : List V}, At p L F G → AllP Ss vs F → DpAll K G vs ds
class ToD (S : Pr) (d : outParam PyData) : Prop where
  to : ∀ {F : Hp} {v : V}, S v F → Da F v d
class ToDs (Ss : List Pr) (ds : outParam (List PyData)) : Prop where
  to : ∀ {F : Hp} {vs : List V}, AllP Ss vs F → Das F vs ds
class RefP (S : Pr) : Prop where
  to : ∀ {F : Hp} {v : V}, S v F → ∃ a, v = .ref a
instance {i : Int} : ToP (VI i) (.int i) := ⟨fun _ h => by rw [show _ = V.int i from h]; exact .int i⟩
instance {b : Bool} : ToP (VB b) (.bool b) := ⟨fun _ h => by rw [show _ = V.bl b from h]; exact .bl b⟩
instance {z : Str} : ToP (VS z) (.str z) := ⟨fun _ h => by rw [show _ = V.str z from h]; exact .str z⟩
instance : ToP VN .none := ⟨fun _ h => by rw [show _ = V.non from h]; exact .non⟩
instance : ToPs [] [] := ⟨fun _ h => by rw [show _ = [] from h]; exact .nil⟩
instance {d : PyData} {ds : List PyData} [ToP S d] [ToPs Ss ds] : ToPs (S :: Ss) (d :: ds) := ⟨fun a ⟨v, r, e, h1, h2⟩ => by rw [e]; exact .cons (ToP.to a h1) (ToPs.to a h2)⟩
instance {α : Type} {R : α → Pr} {f : α → PyData} {xs : List α} [h : ∀ x, ToP (R x) (f x)] : ToPs (xs.map R) (xs.map f) := by
  induction xs with
  | nil => exact inferInstanceAs (ToPs [] [])
  | cons x xs ih => exact inferInstanceAs (ToPs (R x :: xs.map R) (f x :: xs.map f))
instance {ds : List PyData} [ToPs Ss ds] : ToP (VT Ss) (.tuple ds) := ⟨fun a ⟨c, vs, e, h, al⟩ => by rw [e]; exact .tup (a.sqt h) (ToPs.to a al)⟩
instance {ds : List PyData} [ToPs Ss ds] : ToP (VL Ss) (.list ds) := ⟨fun a ⟨c, vs, e, h, al⟩ => by rw [e]; exact .lst (a.sql h) (ToPs.to a al)⟩
instance : RefP (VT Ss) := ⟨fun ⟨c, _, e, _⟩ => ⟨c, e⟩⟩
instance : RefP (VL Ss) := ⟨fun ⟨c, _, e, _⟩ => ⟨c, e⟩⟩
instance {i : Int} : ToD (VI i) (.int i) := ⟨fun h => by rw [show _ = V.int i from h]; exact .int i⟩
instance {b : Bool} : ToD (VB b) (.bool b) := ⟨fun h => by rw [show _ = V.bl b from h]; exact .bl b⟩
instance {z : Str} : ToD (VS z) (.str z) := ⟨fun h => by rw [show _ = V.str z from h]; exact .str z⟩
instance : ToD VN .none := ⟨fun h => by rw [show _ = V.non from h]; exact .non⟩
instance : ToDs [] [] := ⟨fun h => by rw [show _ = [] from h]; exact .nil⟩
instance {d : PyData} {ds : List PyData} [ToD S d] [ToDs Ss ds] : ToDs (S :: Ss) (d :: ds) := ⟨fun ⟨v, r, e, h1, h2⟩ => by rw [e]; exact .cons (ToD.to h1) (ToDs.to h2)⟩
instance {α : Type} {R : α → Pr} {f : α → PyData} {xs : List α} [h : ∀ x, ToD (R x) (f x)] : ToDs (xs.map R) (xs.map f) := by
  induction xs with
  | nil => exact inferInstanceAs (ToDs [] [])
  | cons x xs ih => exact inferInstanceAs (ToDs (R x :: xs.map R) (f x :: xs.map f))
instance {ds : List PyData} [ToDs Ss ds] : ToD (VT Ss) (.tuple ds) := ⟨fun ⟨c, vs, e, h, al⟩ => by rw [e]; exact .tup h (ToDs.to al)⟩
/-- == of lists, tuples -/
theorem Ev.eqR {d e : PyData} {neg : Bool} [Mo S1] [Mo S2] [ToP S1 d] [ToP S2 e] [RefP S1] [RefP S2] (h1 : Ev p L F n t1 σ S1) (h2 : Ev p L F m t2 σ S2) (s1 : SeqAt.shaped d = true) (s2 : SeqAt.shaped e = true) : Ev p L F (n + m) (tOp (rEq2 K neg) t1 t2) σ (VB (xor neg (PyData.eqv d e))) :=
  Ev.op0 h1 h2 fun v u F' G s a e1 e2 Q k => by
    obtain ⟨x, rfl⟩ := RefP.to e1
    obtain ⟨y, rfl⟩ := RefP.to e2
    exact ⟨d, e, ToP.to a e1, ToP.to a e2, s1, s2, k _ rfl⟩
theorem Ev.eqI {i j : Int} {neg : Bool} (h1 : Ev p L F n t1 σ (VI i)) (h2 : Ev p L F m t2 σ (VI j)) : Ev p L F (n + m) (tOp (rEq2 K neg) t1 t2) σ (VB (xor neg (decide (i = j)))) :=
  Ev.op0 h1 h2 fun v u F' G s a e1 e2 Q k => by
    rw [show v = .int i from e1, show u = .int j from e2]
    exact k _ rfl
theorem Ev.eqS {i j : Str} {neg : Bool} (h1 : Ev p L F n t1 σ (VS i)) (h2 : Ev p L F m t2 σ (VS j)) : Ev p L F (n + m) (tOp (rEq2 K neg) t1 t2) σ (VB (xor neg (decide (i = j)))) :=
  Ev.op0 h1 h2 fun v u F' G s a e1 e2 Q k => by
    rw [show v = .str i from e1, show u = .str j from e2]
    exact k _ rfl
theorem Ev.eqB {i j : Bool} {neg : Bool} (h1 : Ev p L F n t1 σ (VB i)) (h2 : Ev p L F m t2 σ (VB j)) : Ev p L F (n + m) (tOp (rEq2 K neg) t1 t2) σ (VB (xor neg (decide (i = j)))) :=
  Ev.op0 h1 h2 fun v u F' G s a e1 e2 Q k => by
    rw [show v = .bl i from e1, show u = .bl j from e2]
    exact k _ rfl
/-- a < b and the like, of ints -/
theorem Ev.ordI {i j : Int} {f : Int → Int → Bool} {g : Str → Str → Bool} (h1 : Ev p L F n t1 σ (VI i)) (h2 : Ev p L F m t2 σ (VI j)) : Ev p L F (n + m) (tOp (rOrd2 f g) t1 t2) σ (VB (f i j)) :=
  Ev.op0 h1 h2 fun v u F' G s a e1 e2 Q k => by
    rw [show v = .int i from e1, show u = .int j from e2]
    exact k _ rfl
theorem Ev.i1 {i j : Int} {g : Int → Int → V} (h1 : Ev p L F n t1 σ (VI i)) (h2 : Ev p L F m t2 σ (VI j)) : Ev p L F (n + m) (tOp (rI1 g) t1 t2) σ (fun v _ => v = g i j) :=
  Ev.op0 h1 h2 fun v u F' G s a e1 e2 Q k => by
    rw [show v = .int i from e1, show u = .int j from e2]
    exact k _ rfl
theorem Ev.addI {i j : Int} (h1 : Ev p L F n t1 σ (VI i)) (h2 : Ev p L F m t2 σ (VI j)) : Ev p L F (n + m) (tOp rAdd2 t1 t2) σ (VI (i + j)) :=
  Ev.op0 h1 h2 fun v u F' G s a e1 e2 Q k => by
    rw [show v = .int i from e1, show u = .int j from e2]
    exact k _ rfl
theorem Ev.neg {i : Int} (h1 : Ev p L F n t1 σ (VI i)) : Ev p L F n (tUn (rU fun i => .int (-i)) t1) σ (VI (-i)) :=
  Ev.un (l := 0) h1 fun v F' G s a b e Q k => by
    rw [show v = .int i from e]
    exact ⟨i, rfl, k _ _ _ (Nx.refl a) rfl⟩
theorem das_up (f : Same F G) {vs : List V} {d : List PyData} (h : Das F vs d) : Das G vs d := Das.mo f h
theorem At.same0 (a : At p [] F G) : Same F G := fun b o e => by
  rcases a.fits b o e with ⟨_, y⟩ | ⟨z, _⟩
  · exact y
  · cases z
/-- repr of a list -/
theorem Ev.reprL {ds : List PyData} [ToDs Ss ds] (h : EvA p [] F n ta σ [VL Ss]) (ok : OkD (.list ds)) : Ev p [] F n (tCB rReprL ta) σ (VS (PyData.list ds).shown) :=
  Ev.cb (l := 0) h fun vs F' G s a b al Q k => by
    obtain ⟨v, rfl, c, ws, rfl, hc, al⟩ := one_all al
    exact ⟨c, ws, ds, rfl, a.lst hc, Das.mo a.same0 (ToDs.to al), ok, k _ _ _ (Nx.refl a) rfl⟩
/-- repr of a tuple -/
theorem Ev.reprT {ds : List PyData} [ToDs Ss ds] (h : EvA p [] F n ta σ [VT Ss]) (ok : OkD (.tuple ds)) : Ev p [] F n (tCB rRepr ta) σ (VS (PyData.tuple ds).shown) :=
  Ev.cb (l := 0) h fun vs F' G s a b al Q k => by
    obtain ⟨v, rfl, c, ws, rfl, hc, al⟩ := one_all al
    exact ⟨c, .tuple ds, rfl, .tup (a.tup hc) (Das.mo a.same0 (ToDs.to al)), ok, k _ _ _ (Nx.refl a) rfl⟩
end
end HX

set_option Elab.async false
set_option linter.all false
set_option maxRecDepth 100000
set_option maxHeartbeats 2000000
namespace HX
open PySem PySem.Spec PyProof.Rows L2

/-! ### len(x), u in x, x[u] of own instances -/
def rLenO (C : Addr) (sp : Sp) (E : XK) : List V → Hp → VK → Prop := fun xs H Q => ∃ a, xs = [.ref a] ∧ IsI C H a ∧ sp [.ref a] H (fun v G => ∃ n : Int, v = .int n ∧ 0 ≤ n ∧ n < 2 ^ 63 ∧ Q (.int n) G) E
def rInO (C : Addr) (neg : Bool) (sp : Sp) (E : XK) : L2.R2 := fun x y H Q => ∃ a, y = .ref a ∧ IsI C H a ∧ sp [.ref a, x] H (fun v G => ∃ c, v = .bl c ∧ Q (.bl (xor neg c)) G) E
def rIxO (C : Addr) (sp : Sp) (E : XK) : L2.R2 := fun x y H Q => ∃ a, x = .ref a ∧ IsI C H a ∧ sp [.ref a, y] H Q E
section
variable {X : Cx} {C f : Addr} {fd : FuncData} {ps : List Str} {sp : Sp} {CY : CXT} {k : Nat} {E : XK}
theorem call_lenO (hs : PySem.W.findIn X.K (.ref C) "__len__" = some (some (.ref f))) (hf : PySem.W.isFn X.K (.ref f) = true) (Fi : FnOk X.prog X.w X.K X.mg X.base CY k f fd ps sp) (b : Binds X.K fd ps []) (hr : Room (k + 1) X.A) (hx : Passes CY X E) : CallR X (.builtin "len") (rLenO C sp E) := by
  intro pins s σ H xs us Q I r q
  obtain ⟨a, rfl, i1, q⟩ := q
  obtain ⟨u, rfl, ru⟩ := vals1 r
  cases ru
  obtain ⟨dx, od, J, ho⟩ := inst_at I i1
  obtain ⟨m, F⟩ := I.fr
  refine PySem.W.len_K F I.ok.mod.kin J hs hf (wpAny_mono (run_at Fi b hr.in1 I.env0.in1 hx I (show Vals [V.ref a] [Value.ref a] from .cons rfl .nil) q) (fun u s2 h => ?_) fun _ _ z => z)
  obtain ⟨v, G, J2, rv, n, rfl, n0, n1, qz⟩ := h
  obtain ⟨t, rfl⟩ := (show ∃ t, u = Value.int n t from rv)
  exact ⟨⟨n0, n1⟩, .int n, G, J2.tok _, ⟨_, rfl⟩, qz⟩
theorem op_inO (hs : PySem.W.findIn X.K (.ref C) "__contains__" = some (some (.ref f))) (hf : PySem.W.isFn X.K (.ref f) = true) (Fi : FnOk X.prog X.w X.K X.mg X.base CY k f fd ps sp) (b : Binds X.K fd ps []) (hr : Room k X.A) (hx : Passes CY X E) : OpR X (compareOp .In) (rInO C false sp E) := by
  intro pins s σ H x y v u Q I rx ry q
  obtain ⟨a, rfl, i1, q⟩ := q
  cases ry
  obtain ⟨dx, od, J, ho⟩ := inst_at I i1
  obtain ⟨m, F⟩ := I.fr
  refine PySem.W.in_K F I.ok.mod.kin J hs hf (wpAny_mono (run_fn Fi hr b .nil hx I (show Vals [V.ref a, x] [Value.ref a, v] from .cons rfl (.cons rx .nil)) (by rw [List.append_nil]; exact q)) (fun u s2 h => ?_) fun _ _ z => z)
  obtain ⟨v, G, J2, rv, c, rfl, qz⟩ := h
  cases (show u = Value.bool c from rv)
  rw [Bool.false_xor] at qz
  exact wpAny_pure ⟨.bl c, G, J2, rfl, qz⟩
theorem op_notInO (hs : PySem.W.findIn X.K (.ref C) "__contains__" = some (some (.ref f))) (hf : PySem.W.isFn X.K (.ref f) = true) (Fi : FnOk X.prog X.w X.K X.mg X.base CY k f fd ps sp) (b : Binds X.K fd ps []) (hr : Room k X.A) (hx : Passes CY X E) : OpR X (compareOp .NotIn) (rInO C true sp E) := by
  intro pins s σ H x y v u Q I rx ry q
  obtain ⟨a, rfl, i1, q⟩ := q
  cases ry
  obtain ⟨dx, od, J, ho⟩ := inst_at I i1
  obtain ⟨m, F⟩ := I.fr
  refine PySem.W.notIn_K F I.ok.mod.kin J hs hf (wpAny_mono (run_fn Fi hr b .nil hx I (show Vals [V.ref a, x] [Value.ref a, v] from .cons rfl (.cons rx .nil)) (by rw [List.append_nil]; exact q)) (fun u s2 h => ?_) fun _ _ z => z)
  obtain ⟨v, G, J2, rv, c, rfl, qz⟩ := h
  cases (show u = Value.bool c from rv)
  rw [Bool.true_xor] at qz
  exact wpAny_pure ⟨.bl (!c), G, J2, rfl, qz⟩
theorem pe_ixO {a b : Expr} {ta tb : TE} {pos : Pos} (hs : PySem.W.findIn X.K (.ref C) "__getitem__" = some (some (.ref f))) (hf : PySem.W.isFn X.K (.ref f) = true) (hn : PySem.W.fnIn X.K f = true) (Fi : FnOk X.prog X.w X.K X.mg X.base CY k f fd ps sp) (bd : Binds X.K fd ps []) (hr : Room (k + 1) X.A) (hx : Passes CY X E) (ha : PE X a ta) (hb : PE X b tb)
    (hsl : ∀ (o : Addr) (i : Value), subscripted b true (.ref o) i = runValue (.builtin "lifetime.subscript" ⟨[.ref o, i], []⟩) := by intro _ _; with_unfolding_all rfl) : PE X (.Subscript a b pos) (tOp (rIxO C sp E) ta tb) := by
  refine ⟨fun pins s σ H Q I h => ?_⟩
  refine Subscript_ (binT ha hb I h fun v u s2 x y H2 I2 rx ry q => ?_)
  obtain ⟨o, rfl, i1, q⟩ := q
  cases rx
  obtain ⟨dx, od, J, ho⟩ := inst_at I2 i1
  obtain ⟨m, F⟩ := I2.fr
  exact PySem.W.sub_K F I2.ok.mod.kin J hs hn hf (run_at Fi bd hr.in1 I2.env0.in1 hx I2 (show Vals [V.ref o, y] [Value.ref o, u] from .cons rfl (.cons ry .nil)) q) (hsl o u)
end
end HX

set_option Elab.async false
set_option linter.all false
set_option maxRecDepth 100000
set_option maxHeartbeats 2000000
/-! A48: C(e, ..), C's own __init__ may raise, within a try -/
namespace HX
open PySem PySem.W PySem.Spec PyProof.Rows L2
section
variable {X : Cx} {k : Nat} {C f : Addr} {sp : Sp} {W : WX} {x : Str} {e : Expr} {es : List Expr} {p pos : Pos} {t : TA} {fd : FuncData} {ps : List Str} {dvs : List V} {ds : List Value}
def tMakeX (C : Addr) (sp : Sp) (dvs : List V) (W : WX) (t : TA) : TE := fun σ H Q => t σ H fun vs H1 => ∀ y dx, H1 y = none → H1 dx = none → dx ≠ y →
  sp (.ref y :: (vs ++ dvs)) (L2.upd (L2.upd H1 dx (.own y)) y (.ins C dx [])) (fun v H2 => v = .non ∧ Q (.ref y) H2) (WE W σ)
theorem pe_makeX (M : Mk X.K C f) (F : FnOk X.prog X.w X.K X.mg X.base (CX X.prog X.w) k f fd ps sp) (hr : Room (k + 1) X.A) (hg : Gl X x) (hm : X.mg x = some (.ref C)) (hb : Binds X.K fd ps ds) (hd : Vals dvs ds) (tk : Takes X W)
    (ha : PA X (e :: es) t) (hdb : (x == ("__debug__" : Str)) = false := by decide) (he : starEach (e :: es) X.env = (false, eval e X.env) :: starEach es X.env := by rfl) (hpl : (backTo pos (starEach es X.env)).any (·.1) = false := by rfl) :
    PE X (.Call (.Name x p) (e :: es) [] pos) (tMakeX C sp dvs W t) := by
  refine ⟨fun pins s σ H Q I h => wpAny_Call_Name_kw (ld_glob I hg hm ?_ hdb)⟩
  refine PySem.W.callWith_K (h₀ := X.base) I.ok.mod.kin M.kp (thn (ha.run pos pins s σ H _ I h) fun us s1 ⟨vs, H1, I1, r, q⟩ => ⟨I1.kIn, ?_⟩) he hpl
  have hq := q (s1.heap.objs.size + 1) s1.heap.objs.size (I1.hok.fresh (Nat.le_succ _)) (I1.hok.fresh (Nat.le_refl _)) (Nat.ne_of_lt (Nat.lt_succ_self _))
  have J := Inv.made (C := C) I1
  have rr : Vals (V.ref (s1.heap.objs.size + 1) :: (vs ++ dvs)) (Value.ref (s1.heap.objs.size + 1) :: (us ++ ds)) := .cons rfl (r.append hd)
  have ln : (Value.ref (s1.heap.objs.size + 1) :: us ++ ds).length = ps.length := by
    have z := rr.length
    rw [F.len _ _ _ _ hq] at z
    exact z.symm
  have run := F.run _ X.stack _ _ ⟨Value.ref (s1.heap.objs.size + 1) :: us, []⟩ (Value.ref (s1.heap.objs.size + 1) :: (us ++ ds)) _ _ (WE W σ) (hr.make C us []) (J.env0.make C us []) (hb _ (Value.ref (s1.heap.objs.size + 1) :: us) J.kIn ln) rr hq
  refine wpAny_call (make_map (f := f) I1.kIn M.makes M.init (beq_iff_eq.mp M.fn) (codeAny_mono run fun rs s' hq' => ?_))
  match rs, hq' with
  | .error u, z => exact passAt tk σ _ _ _ _ _ J z
  | .ok (.ret u), z =>
    obtain ⟨v, H', I3, rv, ev, q3⟩ := J.after z
    subst ev
    exact ⟨rv, ⟨V.ref (s1.heap.objs.size + 1), H', I3, rfl, q3⟩⟩
  | .ok .next, z => exact False.elim z
  | .ok .brk, z => exact False.elim z
  | .ok .cont, z => exact False.elim z
end
end HX

set_option Elab.async false
set_option linter.all false
set_option maxRecDepth 100000
set_option maxHeartbeats 2000000
/-! Z5: instances by facts: fields, kinds, making; comprehensions of dicts; all, any -/
namespace HX
open PySem PySem.Spec PyProof.Rows L2
section
variable {p : Option Addr} {q : Addr} {n n0 n1 m l : Nat} {F F1 G H H' : Hp} {L : List Addr} {te t1 t2 t3 : TE} {ta : TA} {tt : TT} {wi : TI} {σ : L2.St} {S S' S1 S2 : Pr} {Ss Ts : List Pr} {K : PySem.W.Frag} {E : XK} {ds : List V} {C : Addr}
def VC (c : V) : Pr := fun v _ => v = c
instance {c : V} : Mo (VC c) := ⟨fun _ h => h⟩
/-- fields by their names -/
def AllF : List (Str × Pr) → List (Str × V) → Hp → Prop
  | [], fs, _ => fs = []
  | (k, S) :: r, fs, F => ∃ v t, fs = (k, v) :: t ∧ S v F ∧ AllF r t F
class MoF (ps : List (Str × Pr)) : Prop where
  mo : ∀ {fs : List (Str × V)} {F F' : Hp}, Same F F' → AllF ps fs F → AllF ps fs F'
instance : MoF [] := ⟨fun _ h => h⟩
instance {k : Str} {S : Pr} {r : List (Str × Pr)} [Mo S] [MoF r] : MoF ((k, S) :: r) := ⟨fun s ⟨v, t, e, a, b⟩ => ⟨v, t, e, Mo.mo s a, MoF.mo s b⟩⟩
theorem AllF.look : ∀ {ps : List (Str × Pr)} {fs : List (Str × V)} {k : Str} {S : Pr}, AllF ps fs F → ps.lookup k = some S → ∃ v, fs.lookup k = some v ∧ S v F
  | (k', S') :: r, _, k, S, ⟨v, t, e, a, b⟩, h => by
    rw [e]
    simp only [List.lookup] at h ⊢
    split at h
    · cases h
      exact ⟨v, rfl, a⟩
    · exact b.look h
theorem AllF.none : ∀ {ps : List (Str × Pr)} {fs : List (Str × V)} {k : Str}, AllF ps fs F → ps.lookup k = none → fs.lookup k = none
  | [], _, _, h, _ => by rw [show _ = [] from h]; rfl
  | (k', S') :: r, _, k, ⟨v, t, e, a, b⟩, h => by
    rw [e]
    simp only [List.lookup] at h ⊢
    split at h
    · cases h
    · exact b.none h
/-- an instance of the class at C with such fields -/
def VO (C : Addr) (ps : List (Str × Pr)) : Pr := fun v F => ∃ a dx fs, v = .ref a ∧ F a = some (.ins C dx fs) ∧ AllF ps fs F
instance {ps : List (Str × Pr)} [MoF ps] : Mo (VO C ps) := ⟨fun s ⟨a, dx, fs, e, h, r⟩ => ⟨a, dx, fs, e, s _ _ h, MoF.mo s r⟩⟩
instance {ps : List (Str × Pr)} : RefP (VO C ps) := ⟨fun ⟨a, _, _, e, _⟩ => ⟨a, e⟩⟩
/-- o.f -/
theorem Ev.fld {ps : List (Str × Pr)} {f : Str} (h : Ev p L F n te σ (VO C ps)) (cl : Cls K C) (nt : NoAttr K C f) (hf : ps.lookup f = some S) : Ev p L F n (tFld K te f) σ S := fun G a b Q k =>
  h G a b _ fun v F1 G1 x1 ⟨o, dx, fs, e, ho, al⟩ => by
    obtain ⟨w, h1, h2⟩ := al.look hf
    exact ⟨o, C, dx, fs, w, e, (x1.at_ a).dkL ho, cl, nt, h1, k w F1 G1 x1 h2⟩
/-- o.f, a constant of the class -/
theorem Ev.con {ps : List (Str × Pr)} {f : Str} {c : V} {u : Value} (h : Ev p L F n te σ (VO C ps)) (cl : Cls K C) (nt : Con K C f c u) (hf : ps.lookup f = none) : Ev p L F n (tCon K te f) σ (VC c) := fun G a b Q k =>
  h G a b _ fun v F1 G1 x1 ⟨o, dx, fs, e, ho, al⟩ => ⟨o, C, dx, fs, c, u, e, (x1.at_ a).dkL ho, cl, nt, al.none hf, k c F1 G1 x1 rfl⟩
/-- o.f, a property -/
theorem Ev.prop {ps : List (Str × Pr)} {sp : Sp} (h : Ev p L F n te σ (VO C ps)) (hr : ∀ v F' G, Same F F' → At p L F' G → VO C ps v F' → ∀ Q : VK, (∀ z F'' G', Nx p L 0 F' G F'' G' → S z F'' → Q z G') → sp [v] G Q E) : Ev p L F n (tProp C sp [] E te) σ S := fun G a b Q k =>
  h G a b _ fun v F1 G1 x1 sv => by
    obtain ⟨o, dx, fs, rfl, ho, al⟩ := sv
    exact ⟨o, dx, fs, rfl, (x1.at_ a).dkL ho, hr _ F1 G1 x1.s (x1.at_ a) ⟨o, dx, fs, rfl, ho, al⟩ _ fun z F2 G2 x2 s2 => k z F2 G2 (x1.trans x2) s2⟩
/-- o.m(..) -/
theorem Ev.meth {ps : List (Str × Pr)} {sp : Sp} {mm : Str} [MoF ps] [MoL Ss] (h : Ev p L F n te σ (VO C ps)) (h2 : EvA p L F m ta σ Ss) (hn : ps.lookup mm = none)
    (hr : ∀ v vs F' G, Same F F' → At p L F' G → Bud p l G → VO C ps v F' → AllP Ss vs F' → ∀ Q : VK, (∀ z F'' G', Nx p L l F' G F'' G' → S z F'' → Q z G') → sp (v :: (vs ++ [])) G Q E) : Ev p L F (n + m + l) (tMeth C mm sp [] E te ta) σ S := fun G a b Q k =>
  h G a (b.le (by omega)) _ fun v F1 G1 x1 sv => by
    have sv' := sv
    obtain ⟨o, dx, fs, rfl, ho, al⟩ := sv
    exact ⟨o, dx, fs, rfl, (x1.at_ a).dkL ho, al.none hn, (h2.up x1.s) G1 (x1.at_ a) (Bud.step (n := n) (b.le (m := n + m + l) (n := n + m) (by omega)) x1.r) _ fun vs F2 G2 x2 s2 => hr _ vs F2 G2 (x1.s.trans x2.s) (x2.at_ (x1.at_ a)) (Bud.step b (x1.trans x2).r) (Mo.mo x2.s sv') s2 _ fun z F3 G3 x3 s3 => k z F3 G3 ((x1.trans x2).trans x3) s3⟩
/-- isinstance(v, c) -/
theorem Ev.isi {c : V} {cv t : Value} {b : Bool} (h : EvA p L F n ta σ [S, VC c]) (hty : ∀ v F' G, Same F F' → At p L F' G → S v F' → TyOf K G v t) (hc : ∀ u, RelV c u → u = cv) (hk : PySem.W.kitOne K t cv = some b) : Ev p L F n (tCB (rIsi2 K) ta) σ (VB b) :=
  Ev.cb (l := 0) h fun vs F' G s a _ al Q k => by
    obtain ⟨u, v, rfl, e1, e2⟩ := two_all al
    rw [show v = c from e2]
    exact ⟨u, c, t, cv, b, rfl, hty u F' G s a e1, hc, hk, k _ _ _ (Nx.refl a) rfl⟩
theorem ty_dk {ps : List (Key × Pr)} {v : V} (a : At p [] F G) (h : VD ps v F) : TyOf K G v (.type "dict") := by
  obtain ⟨d, kvs, rfl, hd, _⟩ := h
  exact .dK (a.raw (by simp) hd)
/-- all([..]) of told Bools -/
theorem vb_all : ∀ {bs : List Bool} {vs : List V} {F : Hp}, AllP (bs.map VB) vs F → vs = bs.map V.bl
  | [], _, _, h => h
  | b :: bs, _, _, ⟨v, r, e, hv, h⟩ => by rw [e, show v = .bl b from hv, vb_all h]; rfl
theorem Ev.all {bs : List Bool} (h : EvA p L F n ta σ [VL (bs.map VB)]) : Ev p L F n (tCB (rAll K) ta) σ (VB (bs.all id)) :=
  Ev.cb (l := 0) h fun vs F' G s a _ al Q k => by
    obtain ⟨v, rfl, c, ws, rfl, hc, al⟩ := one_all al
    exact ⟨c, bs, rfl, by rw [← vb_all al]; exact a.sql hc, k _ _ _ (Nx.refl a) rfl⟩
theorem Ev.any {bs : List Bool} (h : EvA p L F n ta σ [VL (bs.map VB)]) : Ev p L F n (tCB (rAny K) ta) σ (VB (bs.any id)) :=
  Ev.cb (l := 0) h fun vs F' G s a _ al Q k => by
    obtain ⟨v, rfl, c, ws, rfl, hc, al⟩ := one_all al
    exact ⟨c, bs, rfl, by rw [← vb_all al]; exact a.sql hc, k _ _ _ (Nx.refl a) rfl⟩
/-- C.f, a constant of the class -/
theorem Ev.cval {mc u : Value} {f : Str} {c : V} (h : Ev p L F n te σ (VR C)) (rL : ClX.CRead K C mc) (cM : ClX.CVal K C mc f c u) : Ev p L F n (ClX.tCVal K te f) σ (VC c) := fun G a b Q k =>
  h G a b _ fun v F1 G1 x1 e => ⟨C, mc, c, u, e, rL, cM, k c F1 G1 x1 rfl⟩
/-- the values of a locked dict -/
theorem EvI.vals {ps : List (Key × Pr)} [MoK ps] {d : Addr} {kvs : List (Key × V)} (h : Ev p (d :: L) F n te σ (VR d)) (hF : F d = some (.dK kvs)) (al : AllK ps kvs F) : EvI p (d :: L) F n (iVals te) σ (ps.map fun e => e.2) := fun G a b R q => by
  refine h G a b _ fun v F1 G1 x1 e => ?_
  have e : v = .ref d := e
  subst e
  have a1 := x1.at_ a
  have hF1 := x1.s _ _ hF
  have pd := a1.ne hF1
  obtain ⟨od, e1⟩ : ∃ od, G1 d = some (.frz od (.dK kvs)) := by
    rcases a1.fits d _ hF1 with ⟨y, _⟩ | ⟨_, y⟩
    · exact absurd List.mem_cons_self y
    · exact y
  have len : kvs.length = (ps.map fun e => e.2).length := by rw [al.len, List.length_map]
  refine ⟨d, od, kvs, rfl, e1, q _ F1 G1 x1 ⟨fun i H F' k hi s z r => ⟨r.keep pd e1, by rw [len]; exact hi⟩, fun H F' k s z r => ⟨r.keep pd e1, by rw [len]; exact Nat.le_refl _⟩, fun i H x H' F' k hi s z r y => ?_⟩⟩
  obtain ⟨rfl, k', y1⟩ := y
  have hi' : i < ps.length := by simpa using hi
  obtain ⟨w, h1, h2⟩ := (MoK.mo (x1.s.trans s) al).at_ (i := i) (k := ps[i].1) (S := ps[i].2) (List.getElem?_eq_getElem hi')
  rw [y1] at h1
  cases h1
  exact ⟨F', ps[i].2, Nx.refl z, by rw [List.getElem?_map, List.getElem?_eq_getElem hi']; rfl, h2⟩
theorem AllK.snoc : ∀ {ps : List (Key × Pr)} {kvs : List (Key × V)} {F : Hp} {S : Pr} {k : Key} {v : V}, AllK ps kvs F → S v F → AllK (ps ++ [(k, S)]) (kvs ++ [(k, v)]) F
  | [], _, _, _, k, v, h, s => by rw [show _ = [] from h]; exact ⟨v, [], rfl, s, rfl⟩
  | (_, _) :: _, _, _, _, k, v, ⟨u, r, e, a, b⟩, s => ⟨u, r ++ [(k, v)], by rw [e]; rfl, a, b.snoc s⟩
/-- {k: e for x in xs if t}, the keys apart -/
def New (F0 : Hp) (S : Pr) : Pr := fun v F => S v F ∧ ∀ a, v = .ref a → F0 a = none
instance {F0 : Hp} [Mo S] : Mo (New F0 S) := ⟨fun s h => ⟨Mo.mo s h.1, h.2⟩⟩
theorem Ev.dcN {α : Type} {zs : List α} {R R' : α → Pr} {ky : α → Key} {keep : α → Bool} {g : TG} {vs : List Nat} {tk tv : TE} {nk : Nat} [∀ x, Mo (R x)] [∀ x, Mo (R' x)] (hi : EvI p L F n0 wi σ (zs.map R))
    (hg : ∀ z ∈ zs, ∀ x F', Same F F' → R z x F' → ∃ σ2, wipe σ2 vs = wipe σ vs ∧ (∀ G (Q : L2.St → Hp → Prop), At p L F' G → Q σ2 G → g x (wipe σ vs) G Q) ∧ EvT p L F' n1 tt σ2 (· = keep z) ∧ (keep z = true → Ev p L F' nk tk σ2 (VKy (ky z)) ∧ Ev p L F' n tv σ2 (R' z)))
    (nd : (zs.map ky).Nodup) (hl : zs.length ≤ 1000000) : Ev p L F (n0 + (n1 + (nk + n)) * zs.length) (tDc wi g tt tk tv vs) σ (New F (VD ((zs.filter keep).map fun z => (ky z, R' z)))) := fun G a b Q q => by
  unfold tDc
  refine hi G a (b.le (by omega)) _ (fun J F1 G1 x1 wk D nD => ?_)
  have a1 := x1.at_ a
  have D1 := a1.nf nD
  have DL := a1.nl nD
  have Dp := a1.np nD
  generalize hN : n1 + (nk + n) = N at b ⊢ q
  have b1 : Bud p (N * zs.length) G1 := b.step x1.r
  refine ⟨fun i left H => left = zs.length - i ∧ i ≤ zs.length ∧ ∃ F2 acc, H D = some (.dK acc) ∧ F2 D = none ∧ Nx p L (N * i) F1 G1 F2 H ∧ AllK (((zs.take i).filter keep).map fun z => (ky z, R' z)) acc F2, ⟨zs.length, by simp, Nat.zero_le _, F1, [], upd_same, D1, ?_, rfl⟩, ?_⟩
  · exact ⟨(Rn.refl.mut nD).le (by omega), Same.refl F1, fun c u e => by
      rcases a1.fits c u e with ⟨z, y⟩ | ⟨z, ob, y⟩
      · exact .inl ⟨z, by rw [upd_ne (ne_of_none y nD)]; exact y⟩
      · exact .inr ⟨z, ob, by rw [upd_ne (ne_of_none y nD)]; exact y⟩, fun _ e _ => e⟩
  · rintro i left H ⟨rfl, il, F2, acc, hD, D2, x2, al⟩
    have a2 := x2.at_ a1
    have F12 := x2.s
    rcases Nat.lt_or_ge i zs.length with lt | ge
    · refine .inr ⟨wk.goes i H F2 _ (by simpa using lt) F12 a2 x2.r, fun H' => i + 1 ≤ zs.length ∧ ∃ F2 acc, H' D = some (.dK acc) ∧ F2 D = none ∧ Nx p L (N * (i + 1)) F1 G1 F2 H' ∧ AllK (((zs.take (i + 1)).filter keep).map fun z => (ky z, R' z)) acc F2, fun H' ⟨h1, h2⟩ => ⟨_, by omega, rfl, h1, h2⟩, fun x H' y => ?_⟩
      obtain ⟨F3, S0, x3, eS, hx⟩ := wk.yields i H x H' F2 _ (by simpa using lt) F12 a2 x2.r y
      have ez : zs[i]? = some zs[i] := List.getElem?_eq_getElem lt
      rw [List.getElem?_map, ez] at eS
      cases eS
      have zm : zs[i] ∈ zs := List.getElem_mem lt
      have a3 := x3.at_ a2
      have D3 : F3 D = none := x3.w D D2 (by rw [hD]; exact fun z => nomatch z)
      obtain ⟨σ2, w2, g2, ht, he⟩ := hg _ zm x F3 ((x1.s.trans F12).trans x3.s) hx
      refine g2 H' _ a3 ⟨w2, ?_⟩
      have hD3 : H' D = some (.dK acc) := x3.r.keep Dp hD
      have bi : Bud p N H := by
        have e : N * zs.length = N * i + N * (zs.length - i) := by rw [← Nat.mul_add]; congr 1; omega
        rw [e] at b1
        exact (b1.step x2.r).le (by have := Nat.mul_le_mul_left N (show 1 ≤ zs.length - i by omega); omega)
      have b3 : Bud p N H' := Bud.step (n := 0) (by rw [Nat.zero_add]; exact bi) x3.r
      refine ht H' a3 (b3.le (by omega)) _ fun bo F4 G4 x4 eb => ?_
      have a4 := x4.at_ a3
      have D4 : F4 D = none := x4.w D D3 (by rw [hD3]; exact fun z => nomatch z)
      have hD4 : G4 D = some (.dK acc) := x4.r.keep Dp hD3
      have tk' : zs.take (i + 1) = zs.take i ++ [zs[i]] := by rw [List.take_add_one, ez]; rfl
      subst eb
      have x24 : Nx p L (N * i + n1) F1 G1 F4 G4 := ((x2.trans x3).trans x4).le (by omega)
      cases hk : keep zs[i] with
      | false =>
        rw [if_neg (by decide)]
        refine ⟨lt, F4, acc, hD4, D4, x24.le (by rw [Nat.mul_add]; omega), ?_⟩
        have ef : (zs.take (i + 1)).filter keep = (zs.take i).filter keep := by rw [tk', List.filter_append, List.filter_cons, hk]; simp
        rw [ef]
        exact MoK.mo (x3.s.trans x4.s) al
      | true =>
        rw [if_pos rfl]
        obtain ⟨hk1, hk2⟩ := he hk
        refine (hk1.up x4.s) G4 a4 (Bud.step (n := n1) (b3.le (by omega)) x4.r) _ fun kv F5 G5 x5 ekv => ?_
        have a5 := x5.at_ a4
        have hD5 : G5 D = some (.dK acc) := x5.r.keep Dp hD4
        have D5 : F5 D = none := x5.w D D4 (by rw [hD4]; exact fun z => nomatch z)
        refine (hk2.up (x4.s.trans x5.s)) G5 a5 (Bud.step (n := n1 + nk) (b3.le (by omega)) (x4.trans x5).r) _ fun v F6 G6 x6 hv => ?_
        have hD6 : G6 D = some (.dK acc) := x6.r.keep Dp hD5
        have D6 : F6 D = none := x6.w D D5 (by rw [hD5]; exact fun z => nomatch z)
        have x26 := (x24.trans x5).trans x6
        have al6 := MoK.mo (((x3.s.trans x4.s).trans x5.s).trans x6.s) al
        have len := al6.len
        have ef : (zs.take (i + 1)).filter keep = (zs.take i).filter keep ++ [zs[i]] := by rw [tk', List.filter_append, List.filter_cons, hk]; simp
        have lf := List.length_filter_le keep (zs.take i)
        rw [List.length_take] at lf
        rw [List.length_map] at len
        have out : ∀ e ∈ acc, e.1 ≠ ky zs[i] := fun e he z => by
          have m1 : ky zs[i] ∈ ((zs.take i).filter keep).map ky := by
            have := al6.keys
            rw [List.map_map] at this
            have m2 : e.1 ∈ acc.map (·.1) := List.mem_map.mpr ⟨e, he, rfl⟩
            rw [this, z] at m2
            exact m2
          have m3 : ky zs[i] ∈ (zs.take i).map ky := (List.filter_sublist.map ky).subset m1
          have sp : zs.map ky = (zs.take i).map ky ++ ky zs[i] :: (zs.drop (i + 1)).map ky := by
            have := congrArg (List.map ky) (List.take_append_drop i zs).symm
            rw [List.drop_eq_getElem_cons lt, List.map_append, List.map_cons] at this
            exact this
          rw [sp] at nd
          exact (List.nodup_append.mp nd).2.2 _ m3 _ List.mem_cons_self rfl
        refine ⟨acc, ky zs[i], ekv, hD6, by rw [sizeLine_eq]; omega, lt, F6, acc ++ [(ky zs[i], v)], by rw [upd_same, putK_out out], D6, ?_, ?_⟩
        · refine ⟨(x26.r.mut nD).le (by rw [Nat.mul_add]; omega), x26.s, fun c u e => ?_, x26.w⟩
          have cD : c ≠ D := fun z => by rw [z, D6] at e; cases e
          rcases x26.f c u e with ⟨z, y⟩ | ⟨z, ob, y⟩
          · exact .inl ⟨z, by rw [upd_ne cD]; exact y⟩
          · exact .inr ⟨z, ob, by rw [upd_ne cD]; exact y⟩
        · rw [ef, List.map_append]
          exact al6.snoc hv
    · have e : i = zs.length := by omega
      subst e
      rw [List.take_length] at al
      refine .inl ⟨by simpa using wk.stops H F2 _ F12 a2 x2.r, ?_⟩
      have x12 := x1.trans x2
      have GD : G D = none := by
        cases h : G D with
        | none => rfl
        | some o => exact absurd nD (x1.r.trk (by rw [h]; exact fun z => nomatch z))
      have y := x12.put GD D2 hD DL
      exact q _ _ _ y ⟨⟨D, acc, rfl, upd_same, MoK.mo (Same.new (Same.refl F2) D2) al⟩, fun c e => by cases e; exact a.nf GD⟩
theorem Ev.dc {α : Type} {zs : List α} {R R' : α → Pr} {ky : α → Key} {keep : α → Bool} {g : TG} {vs : List Nat} {tk tv : TE} {nk : Nat} [∀ x, Mo (R x)] [∀ x, Mo (R' x)] (hi : EvI p L F n0 wi σ (zs.map R))
    (hg : ∀ z ∈ zs, ∀ x F', Same F F' → R z x F' → ∃ σ2, wipe σ2 vs = wipe σ vs ∧ (∀ G (Q : L2.St → Hp → Prop), At p L F' G → Q σ2 G → g x (wipe σ vs) G Q) ∧ EvT p L F' n1 tt σ2 (· = keep z) ∧ (keep z = true → Ev p L F' nk tk σ2 (VKy (ky z)) ∧ Ev p L F' n tv σ2 (R' z)))
    (nd : (zs.map ky).Nodup) (hl : zs.length ≤ 1000000) : Ev p L F (n0 + (n1 + (nk + n)) * zs.length) (tDc wi g tt tk tv vs) σ (VD ((zs.filter keep).map fun z => (ky z, R' z))) := (Ev.dcN hi hg nd hl).to fun _ _ _ h => h.1
/-! ### instances made -/
/-- a step, one object put aside -/
theorem Nx.hd {F' G' : Hp} {a : Addr} (x : Nx p L n F G F' G') (hF : F a = none) (ha : G a ≠ none) (np : p ≠ some a) : Nx p L n F (Hd a G) F' (Hd a G') := by
  have hF' := x.w a hF ha
  refine ⟨?_, x.s, fun b o e => ?_, fun b e z => x.w b e fun y => z ?_⟩
  · have r := x.r
    cases p with
    | none => exact fun b o e => Hd.at_ (Hd.un e).1 ((show Same G G' from r) b o (Hd.un e).2)
    | some q =>
      obtain ⟨r1, r2, r3⟩ := (r : Kp q G G' ∧ _ ∧ _)
      have qa : q ≠ a := fun z => np (by rw [z])
      refine ⟨fun b o nb e => Hd.at_ (Hd.un e).1 (r1 b o nb (Hd.un e).2), fun z => ?_, fun k0 c P => ?_⟩
      · unfold Hd at z ⊢
        rw [if_neg qa] at z ⊢
        exact r2 z
      · obtain ⟨ns, c0, g, Pq, le⟩ := P
        obtain ⟨k1, k2⟩ := Hd.un Pq.cel
        obtain ⟨ns', c0', g', Pq', le'⟩ := r3 k0 c ⟨ns, c0, g, ⟨(Hd.un Pq.at_).2, k2, Pq.ne, Pq.c0, Pq.g0⟩, le⟩
        exact ⟨ns', c0', g', ⟨Hd.at_ qa Pq'.at_, Hd.at_ k1 Pq'.cel, Pq'.ne, Pq'.c0, Pq'.g0⟩, le'⟩
  · have ba : b ≠ a := fun z => by rw [z, hF'] at e; cases e
    rcases x.f b o e with ⟨z, y⟩ | ⟨z, ob, y⟩
    · exact .inl ⟨z, Hd.at_ ba y⟩
    · exact .inr ⟨z, ob, Hd.at_ ba y⟩
  · unfold Hd
    split
    · rfl
    · exact y
theorem hd_upd {a : Addr} {o : HO} : Hd a (L2.upd G a o) = Hd a G := by
  funext b
  unfold Hd
  by_cases c : b = a
  · rw [if_pos c, if_pos c]
  · rw [if_neg c, if_neg c, upd_ne c]
/-- C(..), by a promise of its __init__ told with the instance put aside -/
theorem Ev.make {sp : Sp} {W : List (Str × V) → Hp → Prop} (h1 : EvA p L F n ta σ Ss) (mo : ∀ fs F1 F2, Same F1 F2 → W fs F1 → W fs F2)
    (hr : ∀ a dx vs F' G, Same F F' → At p L F' G → Bud p l (Hd a G) → F' a = none → p ≠ some a → G a = some (.ins C dx []) → AllP Ss vs F' → ∀ Q : VK,
      (∀ fs F'' G', Nx p L l F' (Hd a G) F'' (Hd a G') → G' a = some (.ins C dx fs) → W fs F'' → Q .non G') → sp (.ref a :: (vs ++ [])) G Q E) : Ev p L F (n + l) (tMake C sp [] E ta) σ (fun v F => ∃ a dx fs, v = .ref a ∧ F a = some (.ins C dx fs) ∧ W fs F) := fun G a b Q k =>
  h1 G a (b.le (by omega)) _ fun vs F1 G1 x1 s1 x dx nx nd ne => by
    have a1 := x1.at_ a
    have Fx := a1.nf nx
    have Fd := a1.nf nd
    have eh : Hd x (L2.upd (L2.upd G1 dx (.own x)) x (.ins C dx [])) = L2.upd G1 dx (.own x) := by
      rw [hd_upd]
      funext c
      unfold Hd
      split
      · rename_i e
        rw [e, upd_ne (Ne.symm ne)]
        exact nx.symm
      · rfl
    have y1 : Nx p L 0 F1 G1 F1 (L2.upd G1 dx (.own x)) := Nx.same a1 (Same.new (Same.refl G1) nd)
    have nx2 : L2.upd G1 dx (.own x) x = none := by rw [upd_ne (Ne.symm ne)]; exact nx
    have y2 : Nx p L 0 F1 G1 F1 (L2.upd (L2.upd G1 dx (.own x)) x (.ins C dx [])) := Nx.same a1 (Same.upN (Same.new (Same.refl G1) nd) nx)
    have b1 : Bud p l (Hd x (L2.upd (L2.upd G1 dx (.own x)) x (.ins C dx []))) := by
      rw [eh]
      exact Bud.step b (x1.trans y1).r
    refine hr x dx vs F1 _ x1.s (y2.at_ a1) b1 Fx (a1.np nx) upd_same s1 _ fun fs F2 G2 x2 e2 w2 => ⟨rfl, ?_⟩
    rw [eh] at x2
    have z := y1.trans x2
    have F2x : F2 x = none := by
      cases h : F2 x with
      | none => rfl
      | some o =>
        rcases x2.f x o h with ⟨_, y⟩ | ⟨_, ob, y⟩ <;> exact absurd (Hd.un y).1 (fun c => c rfl)
    have z2 : Nx p L (0 + l) F1 G1 F2 G2 := ⟨by
        have r := z.r
        have sb : Same (Hd x G2) G2 := Hd.sub
        have := r.trans (Rn.same (p := p) sb)
        simpa using this, z.s, fun c o e => by
        rcases x2.f c o e with ⟨m, y⟩ | ⟨m, ob, y⟩
        · exact .inl ⟨m, (Hd.un y).2⟩
        · exact .inr ⟨m, ob, (Hd.un y).2⟩, z.w⟩
    have z3 := z2.put nx F2x e2 (a1.nl nx)
    exact k _ _ _ ((x1.trans z3).le (by omega)) ⟨x, dx, fs, rfl, upd_same, mo _ _ _ (Same.new (Same.refl F2) F2x) w2⟩
end
end HX

set_option Elab.async false
set_option linter.all false
set_option maxRecDepth 100000
set_option maxHeartbeats 4000000
namespace HX
open PySem PySem.Spec PyProof.Rows L2
/-! ### set(l) of a list of ints, as a set that sorted takes -/
/-- the set's object as it is made -/
abbrev frSet (w : World) : Obj := { cls := .type "set", dict := none, data := .set #[] 0 (.fresh 0 0 (!w.params.followText "set-order")) }
/-- what the filling leaves -/
def Filled (w : World) (E : Value → Shared → Prop) (s : Shared) (ns : List Int) : Value → Shared → Prop := fun r s2 => r = .none ∧ ∃ (h2 : Heap) (tk c : Nat), s2 = { s with heap := h2, toks := tk } ∧ SetR w h2 s.heap.objs.size (fun j => decide (j ∈ ns)) c ∧ c ≤ ns.length ∧ ∀ b o, s.heap.get? b = some o → h2.get? b = some o
section
variable {P : Program} {w : World} {A : Around} {E : Value → Shared → Prop} {s : Shared}
theorem fill_list {l : Addr} {items : Array Value} (ns : List Int) (hh : A.handled = none) (hl : s.heap.IsList l items) (hit : IntsAre items.toList ns) (hz : items.size = ns.length) (hb : ns.length + 1 < scanBound) :
    codeAny (model P w) A (.call (.builtin "set.__init__") ⟨[.ref s.heap.objs.size, .ref l], []⟩) (wants (Filled w E s ns) E) { s with heap := s.heap.push (frSet w) } := by
  have hS : (s.heap.push (frSet w)).get? s.heap.objs.size = some (frSet w) := Heap.get?_push_size _ rfl
  have hT : Shared.TypeIs { s with heap := s.heap.push (frSet w) } (.ref s.heap.objs.size) "set" := ⟨_, hS, rfl⟩
  refine codeAny_call_builtin F.called_set.init.plain F.entry_set_init (check_set_init_1 hT ?_)
  obtain ⟨⟨oc, od, dt, sl⟩, hol, hcl, nl, hdl⟩ := hl
  simp only at hcl hdl
  subst hcl hdl
  have hol2 : (s.heap.push (frSet w)).get? l = some { cls := .type "list", dict := od, data := .seq items nl, slots := sl } := Heap.get?_push_of_some _ hol
  have x1 := F.sub_list_set
  have x2 := F.sub_list_frozenset
  have x3 : (Value.type "list" == Value.type "dict") = false := by decide
  have hl1 : (s.heap.push (frSet w)).IsList l items := ⟨_, hol2, rfl, nl, rfl⟩
  unfold Builtin.«set.__init__» noKeywords Builtin.Frozenset.updateFrom
  generalize hPI : pyIter = PI
  wp_walk
  subst hPI
  refine wpAny_pyIter_list hl1 (wpAny_bind (wpAny_runValue ?_))
  have lt := Heap.lt_size hol
  have sz : (s.heap.push (frSet w)).objs.size = s.heap.objs.size + 1 := Heap.size_push ..
  have nI : l ≠ (s.heap.push (frSet w)).objs.size := by rw [sz]; exact Nat.ne_of_lt (Nat.lt_succ_of_lt lt)
  have nS : s.heap.objs.size ∉ [(s.heap.push (frSet w)).objs.size, l] := by
    rw [sz]
    simp only [List.mem_cons, List.not_mem_nil, or_false, not_or]
    exact ⟨Nat.ne_of_lt (Nat.lt_succ_self _), Nat.ne_of_gt lt⟩
  have at_ : ∀ (i : Nat) (v : Value), items[i]? = some v → ∃ k t, ns[i]? = some k ∧ v = .int k t := fun i v hv => by
    have hi : i < ns.length := by rw [← hz]; exact (Array.getElem?_eq_some_iff.mp hv).1
    obtain ⟨t, e⟩ := PyProof.Rows.IntsAre.int_at hit i v (by rw [Array.getElem?_toList]; exact hv)
    refine ⟨ns[i], t, List.getElem?_eq_getElem hi, ?_⟩
    rw [e, List.getD_eq_getElem?_getD, List.getElem?_eq_getElem hi]
    rfl
  refine set_update_ints ((Walks.list (by simp [hh]) _ l nI items).toS) s.heap.objs.size nS ns hz hb at_ (items.size - 0) 0 _ (by omega) (Nat.zero_le _) ⟨⟨_, Heap.get?_push_size _ rfl, rfl, rfl⟩, hl1.push _⟩ ⟨0, Nat.le_refl 0, setR_new_at (Heap.get?_push_of_some _ hS)⟩ fun s2 c mv hc hR => ?_
  obtain ⟨h2, g2, d2, tk, os2⟩ := s2
  obtain rfl : g2 = s.gens := mv.gens
  obtain rfl : d2 = s.drawn := mv.drawn
  obtain rfl : os2 = s.os := mv.os
  show wpAny _ _ _ _ _ _
  refine wpAny_pure ?_
  show wpAny _ _ (ret Value.none) _ _ _
  refine wpAny_pure ⟨rfl, h2, tk, c, rfl, hR, by rw [← hz]; exact hc, fun b o e => ?_⟩
  have hb0 := Heap.lt_size e
  refine mv.heap b o ?_ (Heap.get?_push_of_some _ (Heap.get?_push_of_some _ e))
  rw [sz]
  simp only [List.mem_cons, List.not_mem_nil, or_false, not_or]
  exact ⟨Nat.ne_of_lt hb0, Nat.ne_of_lt (Nat.lt_succ_of_lt hb0)⟩
theorem set_listI {l : Addr} {items : Array Value} (ns : List Int) {Q : Value → Shared → Prop} (hh : A.handled = none) (hl : s.heap.IsList l items) (hit : IntsAre items.toList ns) (hb : ns.length + 1 < scanBound)
    (h : ∀ (h2 : Heap) (tk c : Nat), SetR w h2 s.heap.objs.size (fun j => decide (j ∈ ns)) c → c ≤ ns.length → (∀ b o, s.heap.get? b = some o → h2.get? b = some o) → Q (.ref s.heap.objs.size) { s with heap := h2, toks := tk }) :
    wpAny (model P w) A (call (.type "set") [.ref l]) Q E s := by
  have hz : items.size = ns.length := by
    have q := IntsAre.length hit
    rw [Array.length_toList] at q
    exact q
  obtain ⟨c, tl, y1⟩ := F.called_set.mro
  have y2 := F.called_set.made
  have y3 := F.called_set.sub
  refine wpAny_call (codeAny_of_tree ?_)
  show wpAny _ _ (callAny (.type "set") _) _ _ _
  refine wpAny_pure ⟨Code.quiet_builtin _ (by decide +kernel), codeAny_builtin F.entry_type_call ?_⟩
  rw [Around.under_plain (weight_type_call_type "set" [.ref l] []) rfl]
  have y4 := F.called_set.notType
  have y5 := F.called_set.canCreate
  have y6 := F.typeCall_set_1 (.ref l)
  repeat (any_goals (first | assumption | wp_step))
  refine codeAny_mono (code_set_led1 (.ref l) (E := E) (Q₁ := fun obj s1 => obj = .ref s.heap.objs.size ∧ s1 = { s with heap := s.heap.push (frSet w) }) ⟨rfl, rfl⟩) fun r s1 hr => ?_
  match r, hr with
  | .error e, hr => exact hr
  | .ok .next, hr => exact hr.elim
  | .ok .brk, hr => exact hr.elim
  | .ok .cont, hr => exact hr.elim
  | .ok (.ret obj), hr =>
    obtain ⟨rfl, rfl⟩ := hr
    have hT : Shared.TypeIs { s with heap := s.heap.push (frSet w) } (.ref s.heap.objs.size) "set" := ⟨_, Heap.get?_push_size _ rfl, rfl⟩
    have y7 := F.called_set.init.lookup
    have y8 := F.called_set.init.bind (.ref s.heap.objs.size)
    repeat (any_goals (first | assumption | wp_step))
    refine codeAny_mono (fill_list (E := E) ns (by simpa using hh) hl hit hz hb) fun r2 s2 hr2 => ?_
    match r2, hr2 with
    | .error e, hr2 => exact hr2
    | .ok .next, hr2 => exact hr2.elim
    | .ok .brk, hr2 => exact hr2.elim
    | .ok .cont, hr2 => exact hr2.elim
    | .ok (.ret v), hr2 =>
      obtain ⟨rfl, h2, tk, c2, rfl, z1, z2, z3⟩ := hr2
      repeat (any_goals (first | assumption | wp_step))
      exact h _ _ _ z1 z2 z3
end
/-- set(l) -/
def rSetL (K : PySem.W.Frag) (w : World) : List V → Hp → VK → Prop := fun xs H Q => ∃ (l : Addr) (ns : List Int), xs = [.ref l] ∧ SqL K H l (ns.map V.int) ∧ ns.length ≤ 60 ∧ ∀ (p : Addr) (c : Nat), c ≤ ns.length → H p = none → Q (.ref p) (upd H p (SetO w p (fun j => decide (j ∈ ns)) c))
theorem cr_setL {X : Cx} (hc : X.calm = true) : CallR X (.type "set") (rSetL X.K X.w) := by
  intro pins s σ H xs us Q I r h
  obtain ⟨l, ns, rfl, hq, hl, q⟩ := h
  obtain rfl := Vals.ref1 r
  obtain ⟨its, rv, pl, hz⟩ := I.list hq
  refine set_listI ns (I.ok.hd hc) pl.isList (by simpa using ints_of_vals rv) (by unfold scanBound; omega) fun h2 tk c hR hcn k => ?_
  have nw : H s.heap.objs.size = none := I.hok.fresh (Nat.le_refl _)
  exact ⟨.ref s.heap.objs.size, _, I.laid (t' := tk) k (Nat.le_refl _) (setO_new hR), rfl, q _ c hcn nw⟩
/-- sorted lists of ints without doubles are told by their members -/
theorem sorted_oneI : ∀ {l m : List Int}, l.Pairwise (· < ·) → m.Pairwise (· < ·) → (∀ k, k ∈ l ↔ k ∈ m) → l = m
  | [], [], _, _, _ => rfl
  | [], b :: m, _, _, h => absurd ((h b).mpr (.head _)) List.not_mem_nil
  | a :: l, [], _, _, h => absurd ((h a).mp (.head _)) List.not_mem_nil
  | a :: l, b :: m, h1, h2, h => by
    obtain ⟨h1a, h1b⟩ := List.pairwise_cons.mp h1
    obtain ⟨h2a, h2b⟩ := List.pairwise_cons.mp h2
    have e : a = b := by
      rcases List.mem_cons.mp ((h a).mp (.head _)) with e | e
      · exact e
      · rcases List.mem_cons.mp ((h b).mpr (.head _)) with e' | e'
        · exact e'.symm
        · have x1 := h1a b e'
          have x2 := h2a a e
          omega
    subst e
    rw [sorted_oneI h1b h2b fun k => ⟨fun hk => ?_, fun hk => ?_⟩]
    · rcases List.mem_cons.mp ((h k).mp (.tail _ hk)) with e | e
      · have := h1a k hk
        omega
      · exact e
    · rcases List.mem_cons.mp ((h k).mpr (.tail _ hk)) with e | e
      · have := h2a k hk
        omega
      · exact e
end HX

set_option Elab.async false
set_option linter.all false
set_option maxRecDepth 100000
set_option maxHeartbeats 2000000
/-! Z6: names, sums by names, days, sets by facts -/
namespace HX
open PySem PySem.Spec PyProof.Rows L2 NumText
def Nm (l : List Nat) : Prop := 1 ≤ l.length ∧ l.length ≤ 8 ∧ ∀ c ∈ l, c ∈ abc
instance (l : List Nat) : Decidable (Nm l) := by unfold Nm; infer_instance
theorem perm_lift {α β : Type} (f : α → β) {zs ys : List β} (h : zs.Perm ys) : ∀ ps : List α, zs = ps.map f → ∃ qs : List α, qs.Perm ps ∧ ys = qs.map f := by
  induction h with
  | nil => exact fun ps e => ⟨ps, .refl _, e⟩
  | cons x _ ih =>
    intro ps e
    cases ps with
    | nil => cases e
    | cons p r =>
      rw [List.map_cons] at e
      obtain ⟨e1, e2⟩ := List.cons.inj e
      obtain ⟨qs, a, b⟩ := ih r e2
      exact ⟨p :: qs, a.cons p, by rw [List.map_cons, b, e1]⟩
  | swap x y l =>
    intro ps e
    match ps, e with
    | p :: q :: r, e =>
      rw [List.map_cons, List.map_cons] at e
      obtain ⟨e1, e2⟩ := List.cons.inj e
      obtain ⟨e3, e4⟩ := List.cons.inj e2
      exact ⟨q :: p :: r, .swap p q r, by rw [List.map_cons, List.map_cons, e1, e3, e4]⟩
  | trans _ _ ih1 ih2 =>
    intro ps e
    obtain ⟨qs, a, b⟩ := ih1 ps e
    obtain ⟨rs, c, d⟩ := ih2 qs b
    exact ⟨rs, c.trans a, d⟩
theorem nm_name {l : List Nat} (h : Nm l) : nameS (ofL l) = true := by
  obtain ⟨h1, h2, h3⟩ := h
  unfold nameS
  rw [ofL_len, ofL_cps]
  simp only [Bool.and_eq_true, decide_eq_true_eq, List.all_eq_true]
  exact ⟨h1, h2, h3⟩
/-- parts by names -/
structure PsOk (ps : List (List Nat × Int)) : Prop where
  nd : (ps.map (·.1)).Nodup
  l64 : ps.length < 64
  all : ∀ p ∈ ps, Nm p.1 ∧ -9 ≤ p.2 ∧ p.2 ≤ 9 ∧ p.2 ≠ 0
theorem PsOk.perm {ps qs : List (List Nat × Int)} (h : PsOk ps) (q : qs.Perm ps) : PsOk qs := ⟨(q.map _).nodup_iff.mpr h.nd, by rw [q.length_eq]; exact h.l64, fun p hp => h.all p (q.mem_iff.mp hp)⟩
/-- texts ascend -/
def Asc (ps : List (List Nat × Int)) : Prop := sortedS (ps.map fun p => ofL p.1) = true
def kyN (p : List Nat × Int) : Key := .inr (ofL p.1)
def pD (ps : List (List Nat × Int)) : List (Key × Pr) := ps.map fun p => (kyN p, VI p.2)
/-- a dict of parts -/
abbrev VP (ps : List (List Nat × Int)) : Pr := VD (pD ps)
instance {ps : List (List Nat × Int)} : MoK (pD ps) := inferInstanceAs (MoK (ps.map fun p => (kyN p, VI p.2)))
theorem kyN_nd {ps : List (List Nat × Int)} (nd : (ps.map (·.1)).Nodup) : (ps.map kyN).Nodup := by
  have e : ps.map kyN = (ps.map (·.1)).map fun l => (.inr (ofL l) : Key) := by rw [List.map_map]; rfl
  rw [e]
  exact nd.map (f := fun l => (Sum.inr (ofL l) : Key)) fun a b h e => h (ofL_inj (Sum.inr.inj e))
theorem pD_val {ps : List (List Nat × Int)} {p : List Nat × Int} (nd : (ps.map (·.1)).Nodup) (h : p ∈ ps) : valP (pD ps) (kyN p) = some (VI p.2) := by
  induction ps with
  | nil => cases h
  | cons a r ih =>
    rw [List.map_cons, List.nodup_cons] at nd
    unfold valP pD
    rw [List.map_cons, List.find?_cons]
    by_cases c : a.1 = p.1
    · have e : kyN a = kyN p := by unfold kyN; rw [c]
      rcases List.mem_cons.mp h with rfl | h
      · simp only [e, decide_true]
        rfl
      · exact absurd (List.mem_map.mpr ⟨p, h, c.symm⟩) nd.1
    · have e : kyN a ≠ kyN p := fun z => c (ofL_inj (Sum.inr.inj z))
      simp only [e, decide_false]
      rcases List.mem_cons.mp h with rfl | h
      · exact absurd rfl c
      · exact ih nd.2 h
theorem pD_none {ps : List (List Nat × Int)} {k : Key} (h : ∀ p ∈ ps, kyN p ≠ k) : valP (pD ps) k = none := by
  induction ps with
  | nil => rfl
  | cons a r ih =>
    unfold valP pD
    rw [List.map_cons, List.find?_cons]
    simp only [h a List.mem_cons_self, decide_false]
    exact ih fun p hp => h p (List.mem_cons_of_mem _ hp)
/-! ### sets of ints, days -/
section
variable {p : Option Addr} {n m l : Nat} {F F1 G : Hp} {L : List Addr} {te : TE} {ta : TA} {σ : L2.St} {S : Pr} {Ss : List Pr} {K : PySem.W.Frag} {w : World}
theorem At.raw1 (a : At p L F G) {b : Addr} {o : HO} (e : F b = some o) (h : ∀ kvs, o ≠ .dK kvs) : G b = some o := by
  rcases a.fits b _ e with ⟨_, h'⟩ | ⟨z, ob, h'⟩
  · exact h'
  · obtain ⟨_, ob2, kvs, y⟩ := a.lk b z
    rw [h'] at y
    cases y
    exact absurd rfl (h kvs)
def VSt (w : World) (T : Int → Bool) (n : Nat) : Pr := fun v F => ∃ a, v = .ref a ∧ F a = some (SetO w a T n)
instance {T : Int → Bool} : Mo (VSt w T n) := ⟨fun s ⟨a, e, h⟩ => ⟨a, e, s _ _ h⟩⟩
theorem vi_all : ∀ {ns : List Int} {vs : List V} {F : Hp}, AllP (ns.map VI) vs F → vs = ns.map V.int
  | [], _, _, h => h
  | b :: bs, _, _, ⟨v, r, e, hv, h⟩ => by rw [e, show v = .int b from hv, vi_all h]; rfl
theorem all_vi (F : Hp) : ∀ ns : List Int, AllP (ns.map VI) (ns.map V.int) F
  | [] => rfl
  | n :: ns => ⟨_, _, rfl, rfl, all_vi F ns⟩
theorem vs_all : ∀ {ns : List Str} {vs : List V} {F : Hp}, AllP (ns.map VS) vs F → vs = ns.map V.str
  | [], _, _, h => h
  | b :: bs, _, _, ⟨v, r, e, hv, h⟩ => by rw [e, show v = .str b from hv, vs_all h]; rfl
/-- set(l) -/
theorem Ev.setL {ns : List Int} (h : EvA p L F n ta σ [VL (ns.map VI)]) (hl : ns.length ≤ 60) : Ev p L F n (tCB (rSetL K w) ta) σ (ExP (fun c : Nat => c ≤ ns.length) fun c => VSt w (fun j => decide (j ∈ ns)) c) := fun G a b Q q =>
  h G a b _ fun vs F1 G1 x1 s1 => by
    obtain ⟨v, rfl, c, ws, rfl, hc, al⟩ := one_all s1
    have a1 := x1.at_ a
    refine ⟨c, ns, rfl, by rw [← vi_all al]; exact a1.sql hc, hl, fun t c hc2 nt => ?_⟩
    have y := Nx.new a1 nt (SetO w t (fun j => decide (j ∈ ns)) c)
    exact q _ _ _ (x1.trans y) ⟨c, hc2, t, rfl, upd_same⟩
/-- the days of a list, ascending, each once -/
def Srt (ns l : List Int) : Prop := l.Pairwise (· < ·) ∧ ∀ k, k ∈ l ↔ k ∈ ns
theorem Ev.sortedSet {ns : List Int} (h : EvA p L F n ta σ [ExP (fun c : Nat => c ≤ ns.length) fun c => VSt w (fun j => decide (j ∈ ns)) c]) (hl : ns.length < 64) : Ev p L F n (tCB (rSortedSet w) ta) σ (ExP (fun l : List Int => Srt ns l) fun l => VL (l.map VI)) := fun G a b Q q =>
  h G a b _ fun vs F1 G1 x1 s1 => by
    obtain ⟨v, rfl, c, hc, d, rfl, hd⟩ := one_all s1
    have a1 := x1.at_ a
    refine ⟨d, _, c, rfl, a1.raw1 hd (fun kvs z => by cases z), by omega, fun l t hp hm hl2 nt => ?_⟩
    have y := Nx.new a1 nt (.lst (l.map V.int))
    exact q _ _ _ (x1.trans y) ⟨l, ⟨hp, fun k => by rw [hm k, decide_eq_true_eq]⟩, t, _, rfl, upd_same, all_vi _ l⟩
/-- tuple(l), of a list told by some x -/
theorem Ev.tupX {α : Type} {P : α → Prop} {R : α → List Pr} [∀ x, MoL (R x)] (h : EvA p L F n ta σ [ExP P fun x => VL (R x)]) : Ev p L F n (tCB (fun xs H Q => ∃ p ys, xs = [.ref p] ∧ ((SqL K H p ys ∧ ∀ l, H l = none → Q (.ref l) (L2.upd H l (.tup ys))) ∨ (SqT K H p ys ∧ Q (.ref p) H))) ta) σ (ExP P fun x => VT (R x)) := fun G a b Q q =>
  h G a b _ fun vs F1 G1 x1 s1 => by
    obtain ⟨v, rfl, x, hx, c, ws, rfl, hc, al⟩ := one_all s1
    have a1 := x1.at_ a
    exact ⟨c, ws, rfl, .inl ⟨a1.sql hc, fun t nt => by
      have y := Nx.new a1 nt (.tup ws)
      exact q _ _ _ (x1.trans y) ⟨x, hx, t, ws, rfl, upd_same, MoL.mo y.s al⟩⟩⟩
/-- the int of an int -/
theorem Ev.intI {i : Int} (h : EvA p L F n ta σ [VI i]) : Ev p L F n (tCB rInt2 ta) σ (VI i) :=
  Ev.cb (l := 0) h fun vs F' G s a _ al Q k => by
    obtain ⟨v, rfl, e⟩ := one_all al
    rw [show v = .int i from e]
    exact k _ _ _ (Nx.refl a) rfl
theorem Ev.strS {z : Str} (h : EvA p L F n ta σ [VS z]) : Ev p L F n (tCB (fun xs H Q => ∃ a, xs = [.str a] ∧ Q (.str a) H) ta) σ (VS z) :=
  Ev.cb (l := 0) h fun vs F' G s a _ al Q k => by
    obtain ⟨v, rfl, e⟩ := one_all al
    rw [show v = .str z from e]
    exact ⟨z, rfl, k _ _ _ (Nx.refl a) rfl⟩
/-- an older promise that raises nothing and leaves the heap as it is -/
theorem Ev.old {sp : Sp} {ds : List V} {E : XK} (h : EvA p L F n ta σ Ss) (hr : ∀ vs F' G, Same F F' → At p L F' G → AllP Ss vs F' → ∀ Q : VK, (∀ z, S z F' → Q z G) → sp (vs ++ ds) G Q E) : Ev p L F n (tCall sp ds E ta) σ S :=
  Ev.call (l := 0) h fun vs F' G s a _ al Q k => hr vs F' G s a al Q fun z sz => k z F' G (Nx.refl a) sz
/-- .. that may lay objects -/
theorem Ev.oldS {sp : Sp} {ds : List V} {E : XK} (h : EvA p L F n ta σ Ss) (hr : ∀ vs F' G, Same F F' → At p L F' G → AllP Ss vs F' → ∀ Q : VK, (∀ z G', Same G G' → S z F' → Q z G') → sp (vs ++ ds) G Q E) : Ev p L F n (tCall sp ds E ta) σ S :=
  Ev.call (l := 0) h fun vs F' G s a _ al Q k => hr vs F' G s a al Q fun z G' sg sz => k z F' G' (Nx.same a sg) sz
end
end HX

set_option Elab.async false
set_option linter.all false
set_option maxRecDepth 100000
set_option maxHeartbeats 4000000
/-! A50: super().__init__(..): defs of a class that hold the cell of their class -/
namespace HX
open PySem PySem.W PySem.Spec PyProof.Rows L2 NdefX
/-- statements as they run in the body body0 of the running def itself -/
structure PAs (X : Cx) (body0 body : List Stmt) (t : TS) : Prop where
  run : ∀ (pins : List (Addr × Obj)) (s : Shared) (σ : L2.St) (H : Hp) (D : Ends), Inv X pins σ H s → t D σ H → _root_.PySem.wpAt (model X.prog X.w) X.A (.func body0 X.env) (execs body X.env) (SP X pins D) X.xe s
section
variable {X : Cx} {body0 body rest : List Stmt} {st : Stmt} {t t1 t2 : TS}
theorem pas_of (h : PSs X body t) : PAs X body0 body t := ⟨fun pins s σ H D I q => wpAt_of_wpAny (h.run pins s σ H D I q)⟩
theorem pas_cons (h : PS X st t1) (r : PAs X body0 rest t2) : PAs X body0 (st :: rest) (tSeq t1 t2) := by
  refine ⟨fun pins s σ H D I q => ks_wpAt_execs_cons (wpAt_of_wpAny (wpAny_mono (h.run pins s σ H _ I q) (fun f s1 z => ?_) fun _ _ z => z))⟩
  cases f with
  | next =>
    obtain ⟨σ1, H1, I1, q1⟩ := z
    exact r.run pins s1 σ1 H1 D I1 q1
  | brk => exact z
  | cont => exact z
  | ret v => exact z
end
/-- what the running def's own frame says of it: its first parameter in slot i, its class in slot j -/
structure SupE (X : Cx) (i j : Nat) : Prop where
  ex : ∃ (f : Addr) (oc : Value) (od : Option Addr) (fd : FuncData) (osl : Array (Option Value)) (ar : Arg) (cda : Addr) (ccl : Value) (cdd : Option Addr) (vs : Array Value) (ccs : Array (Option Value)) (file : Str) (tf : Tok),
    X.env.func = some f ∧ X.K.lookup f = some ⟨oc, od, .func fd, osl⟩ ∧ (fd.params.posonlyargs ++ fd.params.args).head? = some ar ∧ X.env.code = .ref cda ∧ X.K.lookup cda = some ⟨ccl, cdd, .fields vs, ccs⟩ ∧ vs[2]? = some (.str file tf) ∧
      ((X.prog.main.file : Str) == file) = true ∧ X.N[i]? = some ar.arg ∧ X.env.scope.names.lookup ar.arg = some .local
  cN : X.N[j]? = some "__class__"
  ks : X.env.scope.names.lookup ("super" : Str) = some .globalImplicit
  kc : X.env.scope.names.lookup ("__class__" : Str) = some .free
  top : (X.prog.main.scope.names.lookup ("super" : Str)).isSome = false
  hs : X.mg "super" = none
/-- the method behind D in the order of C -/
structure SupM (K : PySem.W.Frag) (C D f2 : Addr) (name : Str) : Prop where
  sub : PySem.W.mroIn K C (.ref D) = some true
  at_ : ks_superIn K C D name = some (some (.ref f2))
section
variable {X : Cx} {body0 rest : List Stmt} {t2 : TS} {t : TA} {W : WX} {e : Expr} {es : List Expr} {D f2 : Addr} {k i j : Nat} {sp : Sp} {p0 p1 p2 p3 p4 : Pos} {pl : Sem Bool} {nm : Str}
/-- super().m(..) behind D, the value is dropped -/
def sSup (K : PySem.W.Frag) (D f2 : Addr) (nm : Str) (i j : Nat) (sp : Sp) (W : WX) (t : TA) (t2 : TS) : TS := fun Dn σ H => ∃ (x C dx : Addr) (fs : List (Str × V)), σ[i]? = some (some (.ref x)) ∧ σ[j]? = some (some (.ref D)) ∧ H x = some (.ins C dx fs) ∧ SupM K C D f2 nm ∧
  t σ H fun vs H2 => sp (.ref x :: vs) H2 (fun _ G => t2 Dn σ G) (WE W σ)
theorem pas_super (SE : SupE X i j) (hD : ∃ cd, PySem.W.clsIn X.K D = some cd) (op : PySem.W.nsIn X.K cStatics "thirdparty.any" = some none) (F : FnR X.prog X.w X.K X.mg X.base (CX X.prog X.w) k f2 sp) (ft : PySem.W.typeIn X.K (.ref f2) = some (.type "function")) (fi : PySem.W.fnIn X.K f2 = true) (hr : Room k X.A) (tk : Takes X W) (ha : PA X (e :: es) t)
    (r : PAs X body0 rest t2) (hn : (nm == ("__class__" : Str)) = false := by decide) (hst : starEach (e :: es) X.env = (false, eval e X.env) :: starEach es X.env := by rfl) (hpl : (backTo p3 (starEach es X.env)).any (·.1) = false := by rfl)
    (he : eval (.Call (.Attribute (.Call (.Name "super" p0) [] [] p1) nm p2) (e :: es) [] p3) X.env = (do
      let ov ← attributeBase (.Call (.Name "super" p0) [] [] p1) nm X.env (eval (.Call (.Name "super" p0) [] [] p1) X.env)
      standAt p2.atName
      let (f, first) ← holding [ov] (getMethod ov nm pl)
      callWith p3 f first (backTo p3 (starEach (e :: es) X.env)) []) := by rfl) (hi : interactive X.env = false := by rfl)
    (hs : swapsWith (.Call (.Attribute (.Call (.Name "super" p0) [] [] p1) nm p2) (e :: es) [] p3) none p4.line X.env = pure false := by rfl) :
    PAs X body0 (.Expr (.Call (.Attribute (.Call (.Name "super" p0) [] [] p1) nm p2) (e :: es) [] p3) p4 :: rest) (sSup X.K D f2 nm i j sp W t t2) := by
  refine ⟨fun pins s σ H Dn I q => ks_wpAt_execs_cons (ks_wpAt_Expr_any (ks_wpAt_MethodCall ?_ he) hi hs)⟩
  obtain ⟨x, C, dx, fs, hx, hd, ei, sm, q⟩ := q
  obtain ⟨f, oc, od, fd, osl, ar, cda, ccl, cdd, vs, ccs, file, tf, e1, e2, e3, e4, e5, e6, e7, e8, e9⟩ := SE.ex
  obtain ⟨cd, hcd⟩ := hD
  have kin := I.kIn
  obtain ⟨oD, hD1, hD2⟩ : ∃ oD, s.heap.get? D = some oD ∧ oD.data = .cls cd := by
    unfold PySem.W.clsIn at hcd
    split at hcd
    · rename_i c d cd' sl ho
      cases hcd
      exact ⟨_, kin _ _ ho, rfl⟩
    · cases hcd
  obtain ⟨m, hnm, hl⟩ := I.loc
  obtain ⟨u1, r1, l1⟩ := hl i ar.arg _ e8 hx (.inl e9)
  obtain rfl : u1 = Value.ref x := r1
  obtain ⟨u2, r2, l2⟩ := hl j "__class__" _ SE.cN hd (.inr (.inr SE.kc))
  obtain rfl : u2 = Value.ref D := r2
  have m1 : m ar.arg = some (.ref x) := by
    rcases l1 with ⟨_, h⟩ | ⟨h, _⟩
    · exact h
    · have e9' : X.env.kindOf ar.arg = some .local := e9
      rw [e9'] at h
      rcases h with h | h <;> cases h
  obtain ⟨c2, hc2, hcell⟩ : ∃ c, X.env.cells.lookup ("__class__" : Str) = some c ∧ s.heap.IsCell c (some (.ref D)) := by
    rcases l2 with ⟨h, _⟩ | ⟨_, h⟩
    · have kc' : X.env.kindOf "__class__" = some .free := SE.kc
      rw [kc'] at h
      cases h
    · exact h
  obtain ⟨mb, b1, b2⟩ := I.mod.blt
  refine ks_wpAt_super_base SE.ks SE.kc hn e1 (kin _ _ e2) rfl e3 e4 (kin _ _ e5) rfl e6 e7 SE.top ?_
  refine ks_loadName_global I.ok.kind SE.ks (Calls.loadGlobal_builtin (by rw [I.ok.glob]; exact I.mod.glob.keeps I.bk) SE.hs (by rw [I.ok.blt]; exact b1.keeps I.bk) ((b2 "super" (by decide)).trans (by decide +kernel)) ⟨rfl, ?_⟩)
  refine wpAny_loadName_free I.ok.kind SE.kc hc2 hcell ?_
  refine wpAny_loadName_local I.ok.kind e9 hnm m1 ?_
  obtain ⟨hh, g, d, tt, os⟩ := s
  refine ks_wpAny_isType_cls hD1 hD2 ⟨rfl, ?_⟩
  obtain ⟨dx', od', J, ho⟩ := inst_at I ⟨dx, fs, ei⟩
  refine ks_wpAny_call_super hD1 hD2 ho rfl (fun c z => nomatch z) (looks_mroIn kin sm.sub) (fun h' eo kp => ?_)
  have I1 := ClX.pin_new (t' := tt) I kp (Nat.le_refl _) eo (fun v z => nomatch z)
  have kin1 := I1.kIn
  obtain ⟨cc, hcc⟩ : ∃ cc, PySem.W.clsIn X.K C = some cc := by
    have z := sm.at_
    unfold ks_superIn at z
    cases hc : PySem.W.clsIn X.K C with
    | none => rw [hc] at z; cases z
    | some cc => exact ⟨cc, rfl⟩
  have hal : PySem.W.alongIn X.K nm ((cc.mro.dropWhile (· != .ref D)).drop 1) = some (some (.ref f2)) := by
    have z := sm.at_
    unfold ks_superIn at z
    rw [hcc] at z
    exact z
  obtain ⟨of, hof, hofc⟩ : ∃ of, h'.get? f2 = some of ∧ of.cls = .type "function" := by
    have ht' : (X.K.lookup f2).map (·.cls) = some (.type "function") := ft
    cases z : X.K.lookup f2 with
    | none => rw [z] at ht'; cases ht'
    | some of => rw [z] at ht'; exact ⟨of, kin1 _ _ z, Option.some.inj ht'⟩
  obtain ⟨dy, oy, J1, ho1⟩ := inst_at I1 ⟨dx, fs, ei⟩
  refine ks_wpAny_getMethod_super eo (looks_opaque kin1 op) (l₀ := cc.mro) (fun A Q E s k q => wpAny_bind ((looks_clsIn kin1 hcc) A _ E s k (wpAny_pure q))) rfl kin1 hal hof hofc (ks_ne kin1 J1 hcc) hn ?_
  have I2 := ClX.met_new (g := f2) (C := x) I1
  refine ClX.callwith_cm I2 (ClX.base_none I1 (Nat.le_refl _)) fi (thn (ha.run p3 _ _ σ H _ I2 q) fun us s3 ⟨vs, H2, I3, rv, q2⟩ => ⟨⟨ClX.pin_at I3, I3.kIn⟩, ?_⟩) hst hpl
  have run := F X.A X.stack s3 H2 (.ref x :: us) (.ref x :: vs) (fun _ G => t2 Dn σ G) (WE W σ) hr I3.env0 (.cons rfl rv) q2
  have z : wpAny (model X.prog X.w) X.A (call (.ref h'.objs.size) us) (EP X ((h'.objs.size, PySem.W.methodObj (.ref f2) (.ref x)) :: (hh.objs.size, ks_superObj D x C) :: pins) σ (fun _ G => t2 Dn σ G)) X.xe s3 := by
    refine wpAny_call (PySem.W.method_call (ClX.pin_at I3) (codeAny_mono run fun r s' q => ?_))
    match r, q with
    | .error e, q => exact passAt tk σ _ _ _ _ _ I3 q
    | .ok (.ret u), q => exact I3.after q
    | .ok .next, q => exact False.elim q
    | .ok .brk, q => exact False.elim q
    | .ok .cont, q => exact False.elim q
  refine thn z fun u s4 y => ?_
  obtain ⟨v, H', I4, rv4, q4⟩ := ClX.unpinE (ClX.unpinE y)
  exact r.run pins s4 σ H' Dn I4 q4
end
end HX

set_option Elab.async false
set_option linter.all false
set_option maxRecDepth 100000
set_option maxHeartbeats 4000000
/-! A53: defs that hold the cell of their class (super() in their body), by their bodies -/
namespace HX
open PySem PySem.W PySem.Spec PyProof.Rows L2 NdefX
abbrev nfS (x qual : Str) (params : Arguments) (body : List Stmt) (scope : Scope) (cc c : Addr) : NF := ⟨x, qual, params, body, scope, [("__class__", cc)], c⟩
/-- a def that stands in K, its closure the one cell of the class at D -/
structure FunS (P : Program) (K : PySem.W.Frag) (x qual : Str) (params : Arguments) (body : List Stmt) (scope : Scope) (f D : Addr) (fd : FuncData) (cc c : Addr) : Prop where
  ex : ∃ (oc : Value) (od : Option Addr) (dV kV doc pm : Value) (an : Option Addr) (ct : Value) (osl : Array (Option Value)) (oC : Obj) (vs : Array Value) (ccl : Value) (cdd : Option Addr) (ccs : Array (Option Value)) (file : Str) (tf : Tok),
    fd = PySem.W.fnX x qual params body scope [("__class__", cc)] dV kV doc pm an (.ref c) ct ∧ K.lookup f = some ⟨oc, od, .func fd, osl⟩ ∧ PySem.W.codeIn K (.ref c) qual = true ∧ K.lookup cc = some oC ∧ oC.data = .cell (some (.ref D)) ∧
      K.lookup c = some ⟨ccl, cdd, .fields vs, ccs⟩ ∧ vs[2]? = some (.str file tf) ∧ ((P.main.file : Str) == file) = true
  kp : PySem.W.keepIn K (.ref f) = true
  ft : PySem.W.typeIn K (.ref f) = some (.type "function")
  fi : PySem.W.fnIn K f = true
section
variable {CX : CXT} {P : Program} {w : World} {K : PySem.W.Frag} {mg : Str → Option Value} {base : Heap} {k : Nat} {f D : Addr} {x qual : Str} {params : Arguments} {body : List Stmt} {scope : Scope} {fd : FuncData} {cc c : Addr} {N ps : List Str} {sp : Sp}
theorem runS {A : Around} {outer : List Env} {s : Shared} {H : Hp} {args : Args} {Q : VK} {E : XK} {G : List V → Hp → Prop} (FS : FunS P K x qual params body scope f D fd cc c) (S : NScope N ps ["__class__"] scope) (hr : Room (k + 1) A) (e0 : Env0 P w K mg base A outer s H)
    (hb : StX.Bnd CX P w K mg base fd args ps A outer s H E G)
    (hbody : ∀ (s2 : Shared) (H2 : Hp) (vs : List V), G vs H2 → Room k (A.deeper (envF (nfS x qual params body scope cc c) f s2.heap.objs.size)) →
      ∃ t, PAs (ncx CX P w K mg base N (nfS x qual params body scope cc c) f A outer s2 H2 E) body body t ∧ t { nx := fun _ H' => Q .non H', rt := Q } (startF N vs [some (.ref D)]) H2) : codeAny (model P w) A (.call (.ref f) args) (CR CX outer P w H s Q E) s := by
  obtain ⟨oc, od, dV, kV, doc, pm, an, ct, osl, oC, vsc, ccl, cdd, ccs, file, tf, rfl, lk, hcd, lc, hC, _, _, _⟩ := FS.ex
  have KX : K.In s.heap := e0.mod.kin.keeps fun b o e => (e0.bs b o e).1
  refine codeAny_call_function hr.depth (KX _ _ lk) rfl S.co S.gen rfl (PySem.W.codeRec_of KX hcd) ?_
  refine hb _ _ _ fun s2 H2 vs us e2 un ho hx r hl g => ?_
  have lim : s2.heap.NoLimit := e0.mod.nolimit.keeps fun b o e => (e2.bs b o e).1
  obtain ⟨bc1, bc2⟩ := e2.bs cc oC (e2.mod.kin _ _ lc)
  have C : CellsAt [("__class__", cc)] ["__class__"] [some (.ref D)] s2.heap H2 := by
    refine ⟨rfl, fun y c0 e => ?_, fun a b c0 e1 e2 => ?_, fun i y e => ?_⟩
    · obtain rfl : c0 = cc := by
        simp only [List.lookup] at e
        split at e
        · exact (Option.some.inj e).symm
        · cases e
      exact ⟨bc2, _, oC, bc1, hC⟩
    · simp only [List.lookup] at e1 e2
      split at e1
      · split at e2
        · rename_i q1 _ q2
          exact (beq_iff_eq.mp q1).trans (beq_iff_eq.mp q2).symm
        · cases e2
      · cases e1
    · match i, e with
      | 0, e =>
        obtain rfl : "__class__" = y := by simpa using e
        exact ⟨cc, by simp [List.lookup], fun v e => by
          obtain rfl : V.ref D = v := by simpa using e
          exact ⟨.ref D, rfl, oC, bc1, hC⟩⟩
      | i + 1, e => simp at e
  refine wpAny_newFunctionEnv S.nocell (fun ⟨n, _⟩ hy => S.par n (List.of_mem_zip hy).1) (fun h₁ hns hsb => ⟨lim.fresh _ hsb, ?_⟩) S.kind
  refine ks_codeAny_funcAt ?_
  have kp : ∀ b o, s2.heap.get? b = some o → h₁.get? b = some o := fun b o e => hsb.extBut b o (Nat.ne_of_lt (Heap.lt_size e)) (Heap.get?_push_of_some _ e)
  obtain ⟨t, ht, hq⟩ := hbody s2 H2 vs g (hr.deeper _)
  have I := inv_startN (CX := CX) (E := E) (f := f) (tk := s2.toks + (ps.zip us).length) (F := nfS x qual params body scope cc c) (N := N) S hr.hd e2 hl r C hns kp
  refine ks_wpAt_mono (ht.run [] _ (startF N vs [some (.ref D)]) H2 _ I hq) (fun fl s' hs => ?_) fun e s' hs => wpAny_mono hs (fun _ s'' z => hx e s'' z) fun e' s'' z => hx e' s'' z
  have fin : ∀ {σ' : L2.St} {H' : Hp} {v : V} {u : Value}, Inv (ncx CX P w K mg base N (nfS x qual params body scope cc c) f A outer s2 H2 E) [] σ' H' s' → L2.RelV v u → Q v H' → CE outer P w H s Q u s' :=
    fun {σ' H' v u} J rv q => ⟨v, H', J.os.trans ho, J.bare, un.trans J.base, J.hok, rv, q⟩
  cases fl with
  | ret u =>
    obtain ⟨v, σ', H', J, rv, q⟩ := hs
    exact fin J rv q
  | next =>
    obtain ⟨σ', H', J, q⟩ := hs
    exact fin (v := V.non) (u := Value.none) J rfl q
  | brk =>
    obtain ⟨_, _, _, q⟩ := hs
    exact False.elim q
  | cont =>
    obtain ⟨_, _, _, q⟩ := hs
    exact False.elim q
/-- parameters by position -/
theorem FunS.ok (FS : FunS P K x qual params body scope f D fd cc c) (S : NScope N ps ["__class__"] scope) (len : ∀ vs H Q E, sp vs H Q E → vs.length = ps.length)
    (hbody : ∀ (A : Around) (outer : List Env) (s : Shared) (H : Hp) (vs : List V) (Q : VK) (E : XK), Room k (A.deeper (envF (nfS x qual params body scope cc c) f s.heap.objs.size)) → sp vs H Q E →
      ∃ t, PAs (ncx CX P w K mg base N (nfS x qual params body scope cc c) f A outer s H E) body body t ∧ t { nx := fun _ H' => Q .non H', rt := Q } (startF N vs [some (.ref D)]) H) : FnOk P w K mg base CX (k + 1) f fd ps sp := by
  refine ⟨len, fun A outer s H args us vs Q E hr e0 hb r hsp => ?_⟩
  refine runS FS S hr e0 (G := fun vs' H2 => vs' = vs ∧ H2 = H) (fun A' Ex Q' h => hb _ _ _ _ (h s H vs us e0 Un.refl rfl (fun _ _ z => z) r (len _ _ _ _ hsp) ⟨rfl, rfl⟩)) fun s2 H2 vs2 ⟨e1, e2⟩ hr2 => ?_
  subst e1 e2
  exact hbody A outer s2 _ _ Q E hr2 hsp
/-- .., *v -/
theorem FunS.star {pv : Str} (FS : FunS P K x qual params body scope f D fd cc c) (S : NScope N (ps ++ [pv]) ["__class__"] scope) (hCX : StX.CXUp CX)
    (hb : ∀ us rest : List Value, us.length = ps.length → bindArgs fd ⟨us ++ rest, []⟩ = (newTuple rest >>= fun t => pure (ps.zip us ++ [(pv, t)])))
    (hbody : ∀ (A : Around) (outer : List Env) (s : Shared) (H : Hp) (vs : List V) (Q : VK) (E : XK), Room k (A.deeper (envF (nfS x qual params body scope cc c) f s.heap.objs.size)) → sp vs H Q E →
      ∃ t, PAs (ncx CX P w K mg base N (nfS x qual params body scope cc c) f A outer s H E) body body t ∧ t { nx := fun _ H' => Q .non H', rt := Q } (startF N vs [some (.ref D)]) H) :
    FnR P w K mg base CX (k + 1) f (fun vs H Q E => ∃ ws rest, vs = ws ++ rest ∧ ws.length = ps.length ∧ rest.length ≤ sizeLine ∧ ∀ p, H p = Option.none → sp (ws ++ [V.ref p]) (upd H p (.tup rest)) Q E) := by
  intro A outer s H us vs Q E hr e0 r hsp
  obtain ⟨ws, rest, ev, hl, hz, hq⟩ := hsp
  subst ev
  obtain ⟨u1, u2, eu, r1, r2⟩ := StX.vals_split r
  subst eu
  have hn : H s.heap.objs.size = Option.none := e0.hok.fresh (Nat.le_refl _)
  have hl1 : u1.length = ps.length := by rw [← r1.length]; exact hl
  have hl2 : u2.length ≤ sizeLine := by rw [← r2.length]; exact hz
  refine runS FS S hr e0 (G := fun xs H2 => ∃ p, H p = Option.none ∧ xs = ws ++ [V.ref p] ∧ H2 = upd H p (.tup rest)) (fun A' Ex Q' h => ?_) fun s2 H2 xs ⟨p, hp, ex, eH⟩ hr' => ?_
  · rw [hb u1 u2 hl1]
    refine wpAny_bind (wpAny_newTuple (wpAny_pure ?_) hl2)
    have new : ObjOk P w (upd H s.heap.objs.size (.tup rest)) (s.heap.push ({ cls := .type "tuple", data := .seq u2.toArray } : Obj)) s.heap.objs.size (.tup rest) := ⟨hz, u2, r2, ⟨_, Heap.get?_push_size _ rfl, rfl, _, rfl⟩⟩
    have un := StX.un_laid (fs := frs outer) (s := s) (o := ({ cls := .type "tuple", data := .seq u2.toArray } : Obj)) (u := .tup rest) hn
    have z := h _ _ (ws ++ [V.ref s.heap.objs.size]) (u1 ++ [Value.ref s.heap.objs.size]) (StX.env0_laid e0 new) un rfl (fun e s' => hCX outer s H _ _ E e s' un (fun b o q => Heap.get?_push_of_some _ q) rfl) (r1.append (.cons rfl .nil))
      (by rw [List.length_append, List.length_append, hl] <;> rfl) ⟨_, hn, rfl, rfl⟩
    rw [List.zip_append hl1.symm] at z
    exact z
  · subst ex eH
    exact hbody A outer s2 _ _ Q E hr' (hq p hp)
/-- what the body of such a def knows of itself -/
theorem FunS.sup {A : Around} {outer : List Env} {s : Shared} {H : Hp} {E : XK} {i j : Nat} {self : Str} (FS : FunS P K x qual params body scope f D fd cc c) (hself : (params.posonlyargs ++ params.args).head?.map (·.arg) = some self) (hN : N[i]? = some self) (hN2 : N[j]? = some "__class__") (hl : scope.names.lookup self = some .local)
    (ks : scope.names.lookup ("super" : Str) = some .globalImplicit) (kc : scope.names.lookup ("__class__" : Str) = some .free) (top : (P.main.scope.names.lookup ("super" : Str)).isSome = false) (hs : mg "super" = none) : SupE (ncx CX P w K mg base N (nfS x qual params body scope cc c) f A outer s H E) i j := by
  obtain ⟨oc, od, dV, kV, doc, pm, an, ct, osl, oC, vsc, ccl, cdd, ccs, file, tf, rfl, lk, hcd, lc, hC, h1, h2, h3⟩ := FS.ex
  cases ha : (params.posonlyargs ++ params.args).head? with
  | none => rw [ha] at hself; cases hself
  | some ar =>
    rw [ha] at hself
    obtain rfl : ar.arg = self := by simpa using hself
    exact ⟨⟨f, oc, od, _, osl, ar, c, ccl, cdd, vsc, ccs, file, tf, rfl, lk, ha, rfl, h1, h2, h3, hN, hl⟩, hN2, ks, kc, top, hs⟩
end
/-- what raises nothing may be called where things may be raised -/
theorem fnR_cx {P : Program} {w : World} {K : PySem.W.Frag} {mg : Str → Option Value} {base : Heap} {k : Nat} {f : Addr} {sp : Sp} {CY : CXT} (F : FnR P w K mg base CX0 k f sp) : FnR P w K mg base CY k f sp := fun A outer s H us vs Q E hr e0 r h =>
  codeAny_mono (F A outer s H us vs Q E hr e0 r h) fun z s' q => by
    match z, q with
    | .error e, q => exact q.elim
    | .ok (.ret u), q => exact q
    | .ok .next, q => exact q
    | .ok .brk, q => exact q
    | .ok .cont, q => exact q
end HX

set_option Elab.async false
set_option linter.all false
set_option maxRecDepth 100000
set_option maxHeartbeats 4000000
namespace LW
open PySem PySem.Spec PyProof.Rows L2 HX NumText
section
variable {P : Program} {w : World} {K : PySem.W.Frag} {mg : Str → Option Value} {base : Heap}

theorem low_c : ∀ c, c < 128 → Unicode.isAlpha c = true → (Unicode.isUpper c || Unicode.isTitle c) = false → c ∈ abc := by decide +kernel
theorem low_r : ∀ c ∈ abc, (decide (c < 128) && (Unicode.isAlpha c && (Unicode.isLower c && !(Unicode.isUpper c || Unicode.isTitle c)))) = true := by decide +kernel
theorem low_all {z : Str} (h1 : 1 ≤ z.length) : (z.cps.toList.all fun c => decide (c ∈ abc)) = (Txt.isascii z && (Txt.isalpha z && Txt.islower z)) := by
  have l0 : z.length = z.cps.toList.length := by simp [Str.length]
  rw [Bool.eq_iff_iff]
  unfold Txt.isascii Txt.isalpha Txt.islower
  simp only [Bool.and_eq_true, List.all_eq_true, decide_eq_true_eq, ← Array.all_toList, ← Array.any_toList, List.any_eq_true, Bool.not_eq_true']
  constructor
  · intro h
    have hr : ∀ c ∈ z.cps.toList, c < 128 ∧ Unicode.isAlpha c = true ∧ Unicode.isLower c = true ∧ (Unicode.isUpper c || Unicode.isTitle c) = false := fun c hc => by
      have e := low_r c (h c hc)
      simp only [Bool.and_eq_true, decide_eq_true_eq, Bool.not_eq_true'] at e
      exact ⟨e.1, e.2.1, e.2.2.1, e.2.2.2⟩
    refine ⟨fun c hc => (hr c hc).1, ⟨by omega, fun c hc => (hr c hc).2.1⟩, ?_, ?_⟩
    · cases hz : z.cps.toList with
      | nil =>
        rw [hz] at l0
        simp at l0
        omega
      | cons a l => exact ⟨a, List.mem_cons_self .., (hr a (by rw [hz]; exact List.mem_cons_self ..)).2.2.1⟩
    · rw [List.any_eq_false]
      intro c hc
      rw [(hr c hc).2.2.2]
      exact Bool.false_ne_true
  · rintro ⟨h1, ⟨_, h2⟩, _, h3⟩ c hc
    rw [List.any_eq_false] at h3
    have h4 := h3 c hc
    exact low_c c (h1 c hc) (h2 c hc) (by simpa using h4)
theorem ok_is_name {f : Addr} {fd : FuncData} (F : Fun K "is_name" "is_name" s_is_name f fd) (T : Txt K mg) : FnOk P w K mg base CX0 1 f fd ["value"] spIsName := by
  refine F.ok sc_is_name (fun vs H Q E h => ?_) (fun cdv A outer s H vs Q E hr h => ?_)
  · obtain ⟨x, d, rfl, _⟩ := h
    rfl
  · obtain ⟨x, d, rfl, hx, hz, k⟩ := h
    refine ⟨_, (pss_cons (s_if (PW.pt (w_or (pt_not (t_val (pe_callB c_isi (by rfl) T.b_isinstance (by decide +kernel) (pa_cons (pc 0) (pa_cons (pe_bltn (v := .ty "str") (u := .type "str") (by rfl) T.b_str (by decide +kernel) rfl) pa_nil))))) (pw_or1 (pt_not (t_chain o_le o_le pe_int (pe_callB c_len (by rfl) T.b_len (by decide +kernel) (pa_cons (pc 0) pa_nil)) (p_gi T.g_MOST_LETTERS)))))) (pss_one (ps_ret pe_bl)) pss_nil)
    (pss_one (ps_ret (e_and (pe_m0 PySem.F.slot_str_isascii PySem.F.type_str_isascii mt_isascii (pc 0)) (e_and (pe_m0 PySem.F.slot_str_isalpha PySem.F.type_str_isalpha mt_isalpha (pc 0)) (pe_one (pe_m0 PySem.F.slot_str_islower PySem.F.type_str_islower mt_islower (pc 0)))))))), ?_⟩
    obtain ⟨t, ty, kt⟩ := hx.isStr (K := K)
    refine ⟨_, _, t, _, _, rfl, ty, (fun u r => r), kt, fun h => ?_, fun h => ?_⟩
    · have h2 : isStrD d = false := by simpa using h
      have e := k H (Same.refl H)
      rw [nameD_not h2] at e
      exact ⟨fun _ => e, fun z => Bool.noConfusion z⟩
    · have h2 : isStrD d = true := by simpa using h
      obtain ⟨z, rfl⟩ := isStr_str h2
      cases hx
      have hz : z.length ≤ 1000000 := hz
      have hz2 := Nat.le_trans hz size_line_big
      have far : nameS z = false → Q (.bl false) H := fun h => by
        have e := k H (Same.refl H)
        rw [show nameD (.str z) = false from h] at e
        exact e
      refine ⟨hz2, fun h1 => ⟨fun h => far ?_, fun h => ?_⟩, fun h1 => ⟨fun _ => far ?_, fun h => Bool.noConfusion h⟩⟩
      · have h3 : ¬ z.length ≤ 8 := by
          intro q
          have q' : (z.length : Int) ≤ 8 := by omega
          rw [decide_eq_true q'] at h
          cases h
        unfold nameS
        rw [decide_eq_false h3]
        simp
      · have h4 : 1 ≤ z.length := by
          have := of_decide_eq_true h1
          omega
        have h3 : z.length ≤ 8 := by
          have q : decide ((z.length : Int) ≤ 8) = true := by simpa using h
          have := of_decide_eq_true q
          omega
        have e := k H (Same.refl H)
        have e7 : nameD (.str z) = (Txt.isascii z && (Txt.isalpha z && Txt.islower z)) := by
          rw [← low_all h4]
          show nameS z = _
          unfold nameS
          rw [decide_eq_true h4, decide_eq_true h3]
          rfl
        rw [e7] at e
        refine ⟨⟨z, rfl⟩, z, rfl, rfl, trivial, ⟨fun h5 => ⟨⟨z, rfl⟩, z, rfl, rfl, trivial, ⟨fun h6 => ⟨⟨z, rfl⟩, z, rfl, rfl, trivial, ?_⟩, fun h6 => ?_⟩⟩, fun h5 => ?_⟩⟩
        · rw [h5, h6] at e
          exact e
        · rw [h5, h6] at e
          exact e
        · rw [h5] at e
          exact e
      · have h3 : ¬ 1 ≤ z.length := by
          intro q
          have q' : (1 : Int) ≤ z.length := by omega
          rw [decide_eq_true q'] at h1
          cases h1
        unfold nameS
        rw [decide_eq_false h3]
        simp

end
end LW

set_option Elab.async false
set_option linter.all false
set_option maxRecDepth 100000
set_option maxHeartbeats 2000000
namespace HX
open PySem PySem.Spec PyProof.Rows L2

/-! ### name = {.. for ..} on one line, the name a local -/
section
variable {X : Cx} {i : Nat} {y : Str} {py : Pos} {kx vx tg iter : Expr} {ifs : List Expr} {scope : Scope} {own : List (Str × Nat)} {pos spos : Pos} {wi : TI} {g : TG} {tt : TT} {tk tv : TE}
/-- of every block that a comprehension of that scope opens in X -/
abbrev InBlk (X : Cx) (scope : Scope) (R : Cx → Prop) : Prop := ∀ (s : Shared) (H : Hp) (C : Addr) (cl : List (Str × Addr)) (fp : List Addr), R (X.blk s H scope (compEnvC scope cl C X.env) fp)
theorem sw_trueD {gs : List Comprehension} {l : Nat} {env : Env} (fk : env.scope.kind = .function) (ly : env.scope.names.lookup y = some .local) (ln : (py.line == pos.line) = true)
    (no : (scope.names.any fun (n, k) => n == y && (k == .local || k == .cell)) = false) : swapsWith (.DictComp kx vx gs scope pos) (some (.Name y py)) l env = pure true := by
  unfold swapsWith
  simp only [show env.kindOf y = some .local from ly, show env.blockKind = .function by unfold Env.blockKind; rw [fk]; rfl, no, Expr.pos, ln]
  rfl
theorem ps_setDc (hc : X.calm = true) (hN : X.N.Nodup) (hy : X.N[i]? = some y) (hyl : X.env.scope.names.lookup y = some .local)
    (sw : swapsWith (.DictComp kx vx [⟨tg, iter, ifs, 0⟩] scope pos) (some (.Name y py)) spos.line X.env = pure true) (pi : PI X tg iter wi) (ok : BlkOk X.N X.env.scope scope own)
    (bg : InBlk X scope fun B => PG B tg g) (bt : InBlk X scope fun B => PTs B ifs tt) (bk : InBlk X scope fun B => PE B kx tk) (bv : InBlk X scope fun B => PE B vx tv)
    (fs : ∀ x, foldedSetIterable iter X.env x = pure x := by intro _; rfl) :
    PS X (.Assign [.Name y py] (.DictComp kx vx [⟨tg, iter, ifs, 0⟩] scope pos) spos) (tAsg (tDc wi g tt tk tv (own.map (·.2))) (gName i)) := by
  refine ⟨fun pins s σ H D I want => ?_⟩
  have want : tDc wi g tt tk tv (own.map (·.2)) σ H (fun v G => gName i v σ G D.nx) := want
  have run := dc_core (pos := pos) (Qf := fun _ s' => SP X pins D .next s') (pos' := firstIterPos [⟨tg, iter, ifs, 0⟩] pos) (use := some (assign (.Name y py) X.env)) hc hN I pi ok bg bt bk bv fs want fun L C s' m G J q hn apart => by
    refine wpAny_assign_Name (store_ok2 (v := V.ref L) J hN hy (.inl hyl) rfl (fun s2 J2 ⟨cell, sb, at_⟩ => ?_) (.inr hyl))
    obtain ⟨a0, a1, a2, a3, a4, a5⟩ := apart
    have ne : C ≠ cell := at_.elim (fun z => by rw [z]; exact a1) fun z e => a4 y cell z e.symm
    exact ⟨m, hn.sameBut sb ne, fun h3 sb3 => ⟨_, G, J2.turned (t' := s2.toks) (fun b o hb e => (sb3.2 b hb).trans e) a0 a1 a3 a4 a5, q⟩⟩
  rw [exec_Assign_Name_used (hs := sw)]
  exact wpAny_bind (wpAny_standAt (wpAny_bind (wpAny_bind (thn run fun _ s' z => wpAny_pure (wpAny_pure z)))))
end
end HX

set_option Elab.async false
set_option linter.all false
set_option maxRecDepth 100000
set_option maxHeartbeats 2000000
/-! ### == of two dicts whose values have an own __eq__ -/
namespace PySem
namespace HXD
open W PySem.Spec PySem.Calls PyProof.Rows PyProof.V
section
variable {prog : Program} {w : World} {K : Type} [DecidableEq K] {knd : KeyKind prog w K} {A : Around} {E : Value → Shared → Prop}
/-- the pairs of one dict, looked for in another one; R tells what == of two values gives -/
inductive Hits (R : Value → Value → Bool → Prop) (kb : List (K × Value)) : List (K × Value) → Bool → Prop
  | nil : Hits R kb [] true
  | miss {k : K} {v : Value} {r : List (K × Value)} : valueAt kb k = none → Hits R kb ((k, v) :: r) false
  | hit {k : K} {v y : Value} {r : List (K × Value)} {e z : Bool} : valueAt kb k = some y → R v y e → Hits R kb r z → Hits R kb ((k, v) :: r) (e && z)
variable {R : Value → Value → Bool → Prop} {J : Shared → Prop} {a b : Addr} {ka kb : List (K × Value)} {oa ob : Obj} {r : Bool}
theorem pairsJ {nm : String} {Q : Bool → Shared → Prop} (la : (a == sysModules) = false) (lb : (b == sysModules) = false) (hJ : ∀ s, J s → s.heap.get? a = some oa ∧ s.heap.get? b = some ob) (da : oa.IsDictOf knd ka) (db : ob.IsDictOf knd kb)
    (turn : ∀ v y e, R v y e → ∀ s, J s → wpAny (model prog w) A (eqBool v y) (fun z s' => z = e ∧ J s') E s) (hits : ka.length = kb.length → Hits R kb ka r) (fin : ∀ s, J s → Q (ka.length == kb.length && r) s) {s : Shared} (j : J s) :
    wpAny (model prog w) A (Builtin.Dict.samePairs nm a b) Q E s := by
  obtain ⟨es, ep, _, hda, hka, hpa, _⟩ := da
  obtain ⟨fs, fp, _, hdb, hkb, hpb, _⟩ := db
  have na : ka.length = es.size := hpa.length.symm.trans Array.length_toList
  have nb : kb.length = fs.size := hpb.length.symm.trans Array.length_toList
  have look : ∀ k, findBy knd.is fs k = valueAt kb k := fun k => (show findBy knd.is fs k = _ by cases fs; simp [findBy]).trans (hpb.find k)
  unfold Builtin.Dict.samePairs Builtin.Dict.showsAll
  rw [if_neg (by rw [la]; exact Bool.false_ne_true : ¬ (a == sysModules) = true), if_neg (by rw [lb]; exact Bool.false_ne_true : ¬ (b == sysModules) = true)]
  refine wpAny_bind (wpAny_pure (wpAny_bind (wpAny_pure (wpAny_bind (wpAny_dictEntries (hJ s j).1 hda ?_)))))
  refine wpAny_bind (wpAny_dictEntries (hJ s j).2 hdb ?_)
  by_cases sz : es.size = fs.size
  · have fin2 : ∀ s2, J s2 → Q r s2 := fun s2 j2 => by
      have := fin s2 j2
      rwa [show (ka.length == kb.length) = true by rw [na, nb, sz]; exact beq_self_eq_true _, Bool.true_and] at this
    have hh := hits (by omega)
    rw [if_neg (by rw [sz]; simp)]
    refine wpAny_bind (wpAny_dictEpoch (hJ s j).1 hda (wpAny_bind ?_))
    (rw [Std.Legacy.Range.forIn_eq_forIn_range']; simp only [Std.Legacy.Range.size, Nat.sub_zero, Nat.add_sub_cancel, Nat.div_one])
    refine wpAny_forIn_list _ (fun rest q s' => J s' ∧ q = (none, ()) ∧ ∃ i, rest = List.range' i (es.size - i) ∧ i ≤ es.size ∧ Hits R kb (ka.drop i) r) _ ?_ ?_ _ _ ⟨j, rfl, 0, by simp, Nat.zero_le _, hh⟩
    · rintro x rest q s1 ⟨j1, rfl, i, e1, le, h1⟩
      have lt : i < es.size := by
        by_cases z : i < es.size
        · exact z
        · rw [show es.size - i = 0 by omega] at e1
          cases e1
      rw [show es.size - i = (es.size - (i + 1)) + 1 by omega, List.range'_succ] at e1
      obtain ⟨rfl, er⟩ := List.cons.inj e1
      have lk : x < ka.length := by omega
      have lt2 : x < es.toList.length := by rw [Array.length_toList]; exact lt
      refine wpAny_bind (wpAny_dictEntries (hJ s1 j1).1 hda ?_)
      rw [Array.getElem?_eq_getElem lt]
      obtain ⟨p1, p2⟩ := hpa.get? (i := x) (e := es[x]) (k := ka[x].1) (v := ka[x].2) (by rw [Array.getElem?_toList]; exact Array.getElem?_eq_getElem lt) (List.getElem?_eq_getElem lk)
      have dr : ka.drop x = (ka[x].1, ka[x].2) :: ka.drop (x + 1) := List.drop_eq_getElem_cons lk
      generalize ka[x].1 = k at p1 dr
      generalize ka[x].2 = v at p2 dr
      obtain ⟨k2, p3, hold⟩ := hka es[x] (Array.getElem_mem lt)
      cases knd.inj _ _ _ p3 p1
      show wpAny _ _ (holding [es[x].key, es[x].val] _ >>= _) _ _ _
      rw [hold]
      refine wpAny_bind (wpAny_holding (wpAny_bind (wpAny_dictFind_of p1 (hJ s1 j1).2 hdb hkb ?_)))
      rw [dr] at h1
      have lk2 := look k
      rw [findBy_of_findIdx?] at lk2
      cases hj : fs.findIdx? fun e => knd.is k e.key with
      | none =>
        rw [hj] at lk2
        have lk2 : none = valueAt kb k := lk2
        refine wpAny_pure ?_
        show wpAny _ _ (if (!false) = true then _ else _) _ _ _
        rw [if_pos (show (!false) = true from by decide)]
        refine wpAny_pure (wpAny_pure ?_)
        cases h1 with
        | miss _ => exact fin2 s1 j1
        | hit e _ _ => rw [← lk2] at e; cases e
      | some n =>
        obtain ⟨hn, _, _⟩ := Array.findIdx?_eq_some_iff_getElem.mp hj
        rw [hj] at lk2
        have lk2 : some fs[n].val = valueAt kb k := by simpa [Array.getElem?_eq_getElem hn] using lk2
        refine wpAny_bind (wpAny_dictEntries (hJ s1 j1).2 hdb ?_)
        rw [Array.getElem?_eq_getElem hn]
        cases h1 with
        | miss e => rw [← lk2] at e; cases e
        | @hit _ _ y _ e z ey hR h2 =>
          rw [← lk2] at ey
          cases ey
          rw [← p2] at hR
          refine wpAny_holding (wpAny_mono (turn _ _ _ hR s1 j1) (fun c s2 hc => ?_) fun _ _ z => z)
          obtain ⟨rfl, j2⟩ := hc
          cases c with
          | false =>
            show wpAny _ _ (if (!false) = true then _ else _) _ _ _
            rw [if_pos (show (!false) = true from by decide)]
            exact wpAny_pure (wpAny_pure (by have := fin2 s2 j2; rwa [Bool.false_and] at this))
          | true =>
            show wpAny _ _ (if (!true) = true then _ else _) _ _ _
            rw [if_neg (by decide)]
            refine wpAny_bind (wpAny_dictEpoch (hJ s2 j2).1 hda ?_)
            rw [if_neg (by simp)]
            rw [Bool.true_and]
            exact wpAny_pure ⟨j2, rfl, x + 1, er, lt, h2⟩
    · rintro q s1 ⟨j1, rfl, i, e1, le, h1⟩
      have ie : i = es.size := by
        by_cases z : i < es.size
        · rw [show es.size - i = (es.size - (i + 1)) + 1 by omega, List.range'_succ] at e1
          cases e1
        · omega
      rw [ie, ← na, List.drop_length] at h1
      cases h1
      exact wpAny_pure (fin2 s1 j1)
  · rw [if_pos (by simpa using sz)]
    refine wpAny_bind (wpAny_rule (wpAny_pure ?_))
    have := fin s j
    rwa [show (ka.length == kb.length) = false by rw [na, nb]; simpa using sz, Bool.false_and] at this
theorem dictsJ {Q : Value → Shared → Prop} (la : (a == sysModules) = false) (lb : (b == sysModules) = false) (hJ : ∀ s, J s → s.heap.get? a = some oa ∧ s.heap.get? b = some ob) (da : oa.IsDictOf knd ka) (db : ob.IsDictOf knd kb) (hu : A.units < cLine)
    (turn : ∀ v y e, R v y e → ∀ s, J s → wpAny (model prog w) A.in1 (eqBool v y) (fun z s' => z = e ∧ J s') E s) (hits : ka.length = kb.length → Hits R kb ka r) (fin : ∀ s, J s → Q (.bool (ka.length == kb.length && r)) s) {s : Shared} (j : J s) :
    wpAny (model prog w) A (compareOp .Eq (.ref a) (.ref b)) Q E s := by
  have ta : s.heap.DictOf knd a ka := Heap.dictOf_iff.mpr ⟨oa, (hJ s j).1, da⟩
  have tb : s.heap.DictOf knd b kb := Heap.dictOf_iff.mpr ⟨ob, (hJ s j).2, db⟩
  refine wpAny_richCompare_same_room (op := .Eq) ta.typeIs tb.typeIs F.slot_dict_eq (wpAny_call_entry F.slot_dict_eq ta.typeIs F.entry_dict_eq ?_ (F.args_dict_eq_2 _ _)) hu
  show wpAny _ _ (Builtin.Dict.dictSlotArgs "__eq__" ⟨[.ref a, .ref b], []⟩ >>= _) _ _ s
  unfold Builtin.Dict.dictSlotArgs
  refine wpAny_bind (wpAny_bind (wpAny_notOrdered_dict ta.typeIs ?_))
  show wpAny _ _ (pure (Value.ref a, Value.ref b)) _ _ s
  refine wpAny_pure (wpAny_bind (wpAny_isInstance (T := "dict") tb.typeIs F.sub_dict_dict ?_))
  simp only [Bool.not_true, Bool.false_eq_true, if_false]
  refine wpAny_bind (wpAny_pure (wpAny_bind (wpAny_pure (wpAny_bind (pairsJ la lb hJ da db turn hits (fun s2 j2 => wpAny_pure ⟨_, rfl, (fun x => nomatch x), ?_⟩) j)))))
  simpa using fin s2 j2
end
end HXD
end PySem
namespace HX
open PySem PySem.Spec PyProof.Rows L2
/-- the values of one dict against those of another; e is what their own __eq__ says -/
inductive DHits (R : Addr → Addr → Bool → Prop) (kb : List (Key × V)) : List (Key × V) → Bool → Prop
  | nil : DHits R kb [] true
  | miss {k : Key} {v : V} {r : List (Key × V)} : valV kb k = none → DHits R kb ((k, v) :: r) false
  | hit {k : Key} {c d : Addr} {r : List (Key × V)} {e z : Bool} : valV kb k = some (.ref d) → R c d e → DHits R kb r z → DHits R kb ((k, .ref c) :: r) (e && z)
/-- what == of two own instances says wherever all but the two dicts stands as in H -/
def EqAtO (C : Addr) (sp : Sp) (E : XK) (H : Hp) (a b : Addr) (c d : Addr) (e : Bool) : Prop := (c = d → e = true) ∧ ∀ G : Hp, (∀ p o, p ≠ a → p ≠ b → H p = some o → G p = some o) → IsI C G c ∧ IsI C G d ∧ sp [.ref c, .ref d] G (fun z G2 => z = .bl e ∧ Same G G2) E
def rEqDO (C : Addr) (sp : Sp) (E : XK) : L2.R2 := fun x y H Q => ∃ (a b : Addr) (ka kb : List (Key × V)) (r : Bool), x = .ref a ∧ y = .ref b ∧ a ≠ b ∧ H a = some (.dK ka) ∧ H b = some (.dK kb) ∧ (ka.length = kb.length → DHits (EqAtO C sp E H a b) kb ka r) ∧ ∀ G, Same H G → Q (.bl (decide (ka.length = kb.length) && r)) G
section
variable {X : Cx} {C f : Addr} {fd : FuncData} {ps : List Str} {sp : Sp} {CY : CXT} {k : Nat} {E : XK}
theorem DHits.low {R : Addr → Addr → Bool → Prop} {kb : List (Key × V)} {vb : List (Key × Value)} (rb : KV kb vb) : ∀ {ka : List (Key × V)} {va : List (Key × Value)} {z : Bool}, DHits R kb ka z → KV ka va → PySem.HXD.Hits (fun v y e => ∃ c d, v = .ref c ∧ y = .ref d ∧ R c d e) vb va z
  | _, _, _, .nil, .nil => .nil
  | _, _, _, .miss (k := k) e, .cons (b := (k2, v2)) ⟨e1, _⟩ _ => by
    cases e1
    exact .miss (RelO.none_of (by rw [← e]; exact rb.val k))
  | _, _, _, .hit (k := k) (c := c) (d := d) e hR t, .cons (b := (k2, v2)) ⟨e1, e2⟩ q => by
    cases e1
    cases e2
    obtain ⟨u, hu, ru⟩ := RelO.some_of (v := .ref d) (o := valueAt vb k) (by rw [← e]; exact rb.val k)
    cases ru
    exact .hit hu ⟨c, d, rfl, rfl, hR⟩ (t.low rb q)
theorem op_eqDO (hs : PySem.W.findIn X.K (.ref C) "__eq__" = some (some (.ref f))) (hf : PySem.W.isFn X.K (.ref f) = true) (Fi : FnOk X.prog X.w X.K X.mg X.base CY k f fd ps sp) (bd : Binds X.K fd ps []) (hr : Room (k + 1) X.A) (hx : Passes CY X E) :
    OpR X (compareOp .Eq) (rEqDO C sp E) := by
  intro pins s σ H x y v u Q I rx ry h
  obtain ⟨a, b, ka, kb, r, rfl, rfl, ab, ea, eb, hits, q⟩ := h
  cases rx
  cases ry
  obtain ⟨oa, I1⟩ := I.lock ea trivial
  obtain ⟨ob, I2⟩ := I1.lock (d := b) (u := .dK kb) (by rw [upd_ne (Ne.symm ab)]; exact eb) trivial
  generalize hL : upd (upd H a (.frz oa (.dK ka))) b (.frz ob (.dK kb)) = L at I2
  have La : L a = some (.frz oa (.dK ka)) := by rw [← hL, upd_ne ab, upd_same]
  have Lb : L b = some (.frz ob (.dK kb)) := by rw [← hL, upd_same]
  obtain ⟨ga, _, na, va, ra, da⟩ := (show ObjOk X.prog X.w L s.heap a (.frz oa (.dK ka)) from I2.hok a _ La)
  obtain ⟨gb, _, nb, vb, rb, db⟩ := (show ObjOk X.prog X.w L s.heap b (.frz ob (.dK kb)) from I2.hok b _ Lb)
  obtain ⟨oa2, g2, da⟩ := Heap.dictOf_iff.mp da
  rw [ga] at g2
  cases g2
  obtain ⟨ob2, g2, db⟩ := Heap.dictOf_iff.mp db
  rw [gb] at g2
  cases g2
  have l1 : ka.length = va.length := ra.length
  have l2 : kb.length = vb.length := rb.length
  refine PySem.HXD.dictsJ (J := fun s' => ∃ G, Inv X pins σ G s' ∧ Same L G) (R := fun v y e => ∃ c d, v = .ref c ∧ y = .ref d ∧ EqAtO C sp E H a b c d e) na nb (fun s' ⟨G, J, sm⟩ => ⟨?_, ?_⟩) da db hr.units0 ?_ (fun e => (hits (by omega)).low rb ra) ?_ ⟨L, I2, Same.refl L⟩
  · exact (show ObjOk X.prog X.w G s'.heap a (.frz oa (.dK ka)) from J.hok a _ (sm _ _ La)).1
  · exact (show ObjOk X.prog X.w G s'.heap b (.frz ob (.dK kb)) from J.hok b _ (sm _ _ Lb)).1
  · rintro v y e ⟨c, d, rfl, rfl, h1, h2⟩ s' ⟨G, J, sm⟩
    by_cases cd : c = d
    · subst cd
      unfold eqBool
      refine wpAny_holding ?_
      refine wpAny_ite_split (fun _ => wpAny_bind (wpAny_rule (wpAny_pure ?_))) (fun hab => absurd (beq_self_eq_true _) hab)
      exact ⟨(h1 rfl).symm, G, J, sm⟩
    · obtain ⟨i1, i2, z⟩ := h2 G fun p o n1 n2 e => sm p o (by rw [← hL, upd_ne n2, upd_ne n1]; exact e)
      obtain ⟨dx, od, Ja, _⟩ := inst_at J i1
      obtain ⟨dy, od2, Jb, _⟩ := inst_at J i2
      refine GQ.eqBool_refG cd (PySem.HXC.cmE hr.in1.units0 J.kIn Ja Jb hs hf (wpAny_mono (run_at Fi bd hr.in1 J.env0.in1 hx J (show Vals [V.ref c, V.ref d] [Value.ref c, Value.ref d] from .cons rfl (.cons rfl .nil)) z) (fun u s2 h => ?_) fun _ _ z => z))
      obtain ⟨v, G2, J2, rv, rfl, sm2⟩ := h
      cases (show u = Value.bool e from rv)
      exact ⟨e, rfl, rfl, G2, J2, sm.trans sm2⟩
  · rintro s' ⟨G, J, sm⟩
    have Gb := sm _ _ Lb
    have J1 := J.unlock Gb (I1.nofrz (d := b) (u := .dK kb) (by rw [upd_ne (Ne.symm ab)]; exact eb) trivial)
    have J0 := J1.unlock (d := a) (od := oa) (u := .dK ka) (by rw [upd_ne ab]; exact sm _ _ La) (I.nofrz ea trivial)
    refine ⟨_, _, J0, ?_, q _ fun p o e => ?_⟩
    · show _ = _
      rw [l1, l2]
      congr 1
    · by_cases pa : p = a
      · rw [pa] at e ⊢
        rw [ea] at e
        cases e
        exact upd_same
      · rw [upd_ne pa]
        by_cases pb : p = b
        · rw [pb] at e ⊢
          rw [eb] at e
          cases e
          exact upd_same
        · rw [upd_ne pb]
          exact sm p o (by rw [← hL, upd_ne pb, upd_ne pa]; exact e)
end
end HX

set_option Elab.async false
set_option linter.all false
set_option maxRecDepth 100000
set_option maxHeartbeats 2000000
/-! ### tuple(d) of a dict -/
namespace PySem
namespace HXD
open W PySem.Spec PySem.Calls PyProof.Rows PyProof.V
section
variable {prog : Program} {w : World} {A : Around} {E : Value → Shared → Prop} {s : Shared} {r : Addr} {n : Nat} {P : Nat → Value → Prop} {OK : Heap → Prop}
theorem new_tupD {Q : Value → Shared → Prop} (S : KdlSrc prog w "dict" r r n P OK) (hh : A.handled = none) (ok : OK s.heap) (hn : n ≤ sizeLine)
    (h : ∀ (h' : Heap) (tk : Nat) (acc : Array Value), (∀ b o, s.heap.get? b = some o → h'.get? b = some o) → ItemsOf P acc n → Q (.ref h'.objs.size) { s with heap := h'.push { cls := .type "tuple", data := .seq acc }, toks := tk }) :
    wpAny (model prog w) A (call (.type "tuple") [.ref r]) Q E s := by
  refine callType_codes (Q₁ := fun obj s₁ => s₁.TypeIs obj "tuple" ∧ Q obj s₁) F.called_tuple (F.typeCall_tuple_1 _) F.entry_object_init (codeAny_of_tree ?_) fun obj s1 z => ⟨z.1, F.args_object_init_2 obj _, object_init_meets F.called_tuple.init.lookup F.called_tuple.made (by decide) prog w A.in1 _ s1 ⟨z.1, rfl, z.2⟩⟩
  show wpAny _ A.in1.in1 (do checkBuiltinCall "tuple.__new__" ⟨[.type "tuple", .ref r], []⟩; again (.builtin "tuple.__new__" ⟨[.type "tuple", .ref r], []⟩)) _ _ s
  refine wpAny_bind (wpAny_of_eq (F.newCall_tuple_1 _) (wpAny_pure ⟨plainId_quiet F.plain_tuple_new _, codeAny_builtin F.entry_tuple_new ?_⟩))
  rw [Around.under_plainId F.plain_tuple_new _]
  have f1 := sub_tuple_self
  have f2 := init_tuple_lookup
  have f3 := madeHere_tuple
  have ty := S.type s ok
  wp_walk using wpAny_typeOf ty, kdu_collect (A := A.in1.in1) S hh ok hn
  intro h' tk acc hk ia
  show wpAny _ _ (Builtin.Tuple.tupleExact acc.toList.toArray >>= fun v => ret v) _ _ _
  unfold Builtin.Tuple.tupleExact
  have ea : acc.toList.toArray = acc := by simp
  refine wpAny_bind (wpAny_newObj_type ?_ (by show acc.toList.toArray.size ≤ sizeLine; rw [ea, ia.1]; exact hn))
  rw [ea]
  exact wpAny_pure ⟨⟨_, Heap.get?_push_size _ rfl, rfl⟩, h h' tk acc hk ia⟩
end
end HXD
end PySem
namespace HX
open PySem PySem.Spec PyProof.Rows L2
section
variable {X : Cx} {C f : Addr} {fd : FuncData} {ps : List Str} {sp : Sp} {CY : CXT} {k : Nat} {E : XK}
def rTupD : List V → Hp → VK → Prop := fun xs H Q => ∃ p kvs, xs = [.ref p] ∧ H p = some (.dK kvs) ∧ ∀ q, H q = none → Q (.ref q) (upd H q (.tup (kvs.map fun kv => kV kv.1)))
theorem call_tuple_dK (hc : X.calm = true) : CallR X (.type "tuple") rTupD := by
  intro pins s σ H xs us Q I r h
  obtain ⟨p, kvs, rfl, hp, q⟩ := h
  obtain ⟨u, rfl, rx⟩ := vals1 r
  obtain rfl : u = Value.ref p := rx
  obtain ⟨z, lo, vs, rk, hd⟩ := (show ObjOk X.prog X.w H s.heap p (.dK kvs) from I.hok p _ hp)
  obtain ⟨ep, dat⟩ := hd.dictAt
  have hl : kvs.length = vs.length := Paired.length rk
  refine PySem.HXD.new_tupD (PySem.W.kdl_dict (knd := mixKind X.prog X.w) (kvs := vs) (ep := ep) lo) (I.ok.hd hc) dat (by omega) fun h' tk acc hk ia => ?_
  have n1 : acc.size = vs.length := ia.1
  have I1 : L2.Inv X pins σ H { s with heap := h' } := I.kept (t' := s.toks) hk
  refine ⟨.ref h'.objs.size, upd H h'.objs.size (.tup (kvs.map fun kv => kV kv.1)), I1.laid (t' := tk) (fun b o e => Heap.get?_push_of_some _ e) (Nat.le_refl _) (show ObjOk X.prog X.w _ _ _ (.tup (kvs.map fun kv => kV kv.1)) from ⟨by rw [List.length_map]; exact z, acc.toList, vals_of_at (by rw [List.length_map]; exact hl.trans (n1.symm.trans Array.length_toList.symm)) fun j x w h1 h2 => ?_, ?_⟩), rfl, q _ (I1.hok.fresh (Nat.le_refl _))⟩
  · obtain ⟨ky, y, hky, hi⟩ := ia.2 j w (by rw [← Array.getElem?_toList]; exact h2)
    have e1 : (kvs.map (·.1))[j]? = some ky := by rw [KV.keys rk, List.getElem?_map, hky]; rfl
    have e2 : (kvs.map fun kv => kV kv.1) = (kvs.map (·.1)).map kV := by rw [List.map_map]; rfl
    rw [e2, List.getElem?_map, e1] at h1
    cases h1
    exact keyIs_rel hi
  · have e3 : acc.toList.toArray = acc := by simp
    rw [e3]
    exact IsTup.new _ _
/-- {x} of an own instance with an own __str__ -/
def tFmtO (C : Addr) (sp : Sp) (E : XK) (te : TE) : TE := fun σ H Q => te σ H fun x G => ∃ a, x = .ref a ∧ IsI C G a ∧ sp [.ref a] G (fun v G2 => ∃ z, v = .str z ∧ Q v G2) E
theorem pe_fmtO {e : Expr} {te : TE} {pos : Pos} (hfm : PySem.W.findIn X.K (.ref C) "__format__" = some (some (.builtin "object.__format__"))) (hm : PySem.W.mroIn X.K C (.type "object") = some true) (hs : PySem.W.findIn X.K (.ref C) "__str__" = some (some (.ref f))) (hf : PySem.W.isFn X.K (.ref f) = true)
    (Fi : FnOk X.prog X.w X.K X.mg X.base CY k f fd ps sp) (b : Binds X.K fd ps []) (hr : Room (k + 1) X.A) (hx : Passes CY X E) (he : PE X e te) : PE X (.FormattedValue e (-1) none pos) (tFmtO C sp E te) := by
  refine ⟨fun pins s σ H Q I h => wpAny_FormattedValue_plain (thn (he.run pins s σ H _ I h) fun v s1 ⟨x, G, I1, r1, a, ex, i1, z⟩ => ?_)⟩
  subst ex
  cases r1
  obtain ⟨dx, od, J, ho⟩ := inst_at I1 i1
  refine PySem.W.kfo_fieldS hr.in1.units0 I1.kIn J hfm hm hs hf (wpAny_mono (run_at Fi b hr.in1 (I1.tok _).env0.in1 hx (I1.tok _) (show Vals [V.ref a] [Value.ref a] from .cons rfl .nil) z) (fun u s2 h => ?_) fun _ _ z => z)
  obtain ⟨v, G2, J2, rv, y, rfl, qz⟩ := h
  obtain ⟨t, rfl⟩ := (show ∃ t, u = Value.str y t from rv)
  exact ⟨.str y, G2, J2, ⟨t, rfl⟩, qz⟩
end
end HX

set_option Elab.async false
set_option linter.all false
set_option maxRecDepth 100000
set_option maxHeartbeats 2000000
namespace HX
open PySem PySem.Spec PyProof.Rows L2
/-! ### a class that a local name holds, made of nothing -/
theorem pe_makeL0 {X : Cx} {CY : CXT} {C f : Addr} {k i : Nat} {fd : FuncData} {ps : List Str} {sp : Sp} {ds : List Value} {dvs : List V} {E : XK} {x : Str} {p pos : Pos} (M : Mk X.K C f) (F : FnOk X.prog X.w X.K X.mg X.base CY k f fd ps sp) (hr : Room (k + 1) X.A) (hb : Binds X.K fd ps ds) (hd : Vals dvs ds) (hx : Passes CY X E)
    (hN : X.N[i]? = some x := by rfl) (hv : Vis X.env.scope x := by first | exact Or.inl rfl | exact Or.inr (Or.inl rfl) | exact Or.inr (Or.inr rfl)) (hdb : (x == ("__debug__" : Str)) = false := by decide) (hcd : (x == ("__classdict__" : Str)) = false := by decide) :
    PE X (.Call (.Name x p) [] [] pos) (tMakeL i C sp dvs E tNil) := by
  refine ⟨fun pins s σ H Q I h => wpAny_Call_Name_kw (thn ((pe_var hN hv hdb hcd).run pins s σ H (fun v G => v = .ref C ∧ G = H) I ⟨_, h.1, rfl, rfl⟩) fun u s0 ⟨v, G, I0, rv, ev, eG⟩ => ?_)⟩
  subst ev
  subst eG
  obtain rfl : u = Value.ref C := rv
  exact PySem.W.callWith_K0 I0.kIn M.kp (run_make (us := []) M F hr hb hd hx I0 .nil h.2)
/-! ### names in order -/
theorem risingS_pw {α : Type} (f : α → List Nat) : ∀ (rs : List α) (p : List Nat), risingS (ofL p) (rs.map fun r => ofL (f r)) = true → (p :: rs.map f).Pairwise (fun a b => ¬ b < a)
  | [], p, _ => List.pairwise_singleton ..
  | r :: rs, p, h => by
    have h : (!ltCps (ofL (f r)).cps.toList (ofL p).cps.toList && risingS (ofL (f r)) (rs.map fun r => ofL (f r))) = true := h
    rw [Bool.and_eq_true, ltCps_eq, ofL_cps, ofL_cps] at h
    have h1 : ¬ f r < p := by simpa using h.1
    have ih := risingS_pw f rs (f r) h.2
    rw [List.map_cons]
    refine List.pairwise_cons.mpr ⟨fun q hq => ?_, ih⟩
    rcases List.mem_cons.mp hq with e | hq
    · rw [e]
      exact h1
    · have h2 := (List.pairwise_cons.mp ih).1 q hq
      exact fun z => h1 (List.lt_of_le_of_lt (List.not_lt.mp h2) z)
theorem sortedS_pw {α : Type} (f : α → List Nat) (rs : List α) (h : sortedS (rs.map fun r => ofL (f r)) = true) : (rs.map f).Pairwise (fun a b => ¬ b < a) := by
  cases rs with
  | nil => exact .nil
  | cons r rs => exact risingS_pw f rs (f r) h
/-- one order alone: two lists with the same pairs, both in the order of their names -/
theorem sorted_one {α : Type} (f : α → List Nat) {rs ps : List α} (pm : rs.Perm ps) (h : sortedS (rs.map fun r => ofL (f r)) = true) (h2 : sortedS (ps.map fun r => ofL (f r)) = true) (nd : (ps.map f).Nodup) : rs = ps := by
  refine List.Perm.eq_of_pairwise (le := fun a b => ¬ f b < f a) (fun a b ha hb h1 h2 => ?_) (List.pairwise_map.mp (sortedS_pw f rs h)) (List.pairwise_map.mp (sortedS_pw f ps h2)) pm
  have e : f a = f b := List.le_antisymm (List.not_lt.mp h1) (List.not_lt.mp h2)
  have hb2 : a ∈ ps := pm.mem_iff.mp ha
  have : ∀ (l : List α), (l.map f).Nodup → a ∈ l → b ∈ l → a = b := fun l => by
    induction l with
    | nil => exact fun _ z => nomatch z
    | cons c l ih =>
      intro n x y
      rw [List.map_cons, List.nodup_cons] at n
      rcases List.mem_cons.mp x with x | x
      · rcases List.mem_cons.mp y with y | y
        · rw [x, y]
        · exact absurd (List.mem_map.mpr ⟨b, y, by rw [← e, x]⟩) n.1
      · rcases List.mem_cons.mp y with y | y
        · exact absurd (List.mem_map.mpr ⟨a, x, by rw [e, y]⟩) n.1
        · exact ih n.2 x y
  exact this ps nd hb2 hb
/-- ascending names are in order -/
theorem asc_sorted {α : Type} (f : α → List Nat) : ∀ (rs : List α), (rs.map f).Pairwise (· < ·) → sortedS (rs.map fun r => ofL (f r)) = true
  | [], _ => rfl
  | r :: rs, h => by
    have go : ∀ (rs : List α) (p : List Nat), (p :: rs.map f).Pairwise (· < ·) → risingS (ofL p) (rs.map fun r => ofL (f r)) = true := fun rs => by
      induction rs with
      | nil => exact fun _ _ => rfl
      | cons r rs ih =>
        intro p h
        rw [List.map_cons] at h
        obtain ⟨h1, h2⟩ := List.pairwise_cons.mp h
        show (!ltCps (ofL (f r)).cps.toList (ofL p).cps.toList && risingS (ofL (f r)) (rs.map fun r => ofL (f r))) = true
        rw [ltCps_eq, ofL_cps, ofL_cps, ih _ h2, Bool.and_true]
        have h3 := h1 (f r) (List.mem_cons_self ..)
        have : ¬ f r < p := List.not_lt.mpr (List.le_of_lt h3)
        simpa using this
    exact go rs (f r) h
theorem asc_nodup {l : List (List Nat)} (h : l.Pairwise (· < ·)) : l.Nodup := h.imp fun h e => by
  rw [e] at h
  exact List.lt_irrefl _ h
end HX

set_option Elab.async false
set_option linter.all false
set_option maxRecDepth 100000
set_option maxHeartbeats 2000000
namespace HX
open PySem PySem.Spec PyProof.Rows L2
/-! ### == of two dicts of data -/
inductive DatHits (K : PySem.W.Frag) (H : Hp) (kb : List (Key × V)) : List (Key × V) → Bool → Prop
  | nil : DatHits K H kb [] true
  | miss {k : Key} {v : V} {r : List (Key × V)} : valV kb k = none → DatHits K H kb ((k, v) :: r) false
  | hit {k : Key} {v y : V} {d e : PyData} {r : List (Key × V)} {z : Bool} : valV kb k = some y → Dp K H v d → Dp K H y e → SeqAt.shaped d = true → SeqAt.shaped e = true → DatHits K H kb r z → DatHits K H kb ((k, v) :: r) (PyData.eqv d e && z)
def rEqDD (K : PySem.W.Frag) (neg : Bool) : L2.R2 := fun x y H Q => ∃ (a b : Addr) (ka kb : List (Key × V)) (r : Bool), x = .ref a ∧ y = .ref b ∧ H a = some (.dK ka) ∧ H b = some (.dK kb) ∧ (ka.length = kb.length → DatHits K H kb ka r) ∧ Q (.bl (xor neg (decide (ka.length = kb.length) && r))) H
section
variable {X : Cx}
theorem DatHits.low {pins : List (Addr × Obj)} {σ : L2.St} {H : Hp} {s : Shared} {A : Around} (I : Inv X pins σ H s) (hu : A.in1.units + 64 < cLine) {kb : List (Key × V)} {vb : List (Key × Value)} (rb : KV kb vb) : ∀ {ka : List (Key × V)} {va : List (Key × Value)} {z : Bool}, DatHits X.K H kb ka z → KV ka va → PySem.W.KeqHits A.in1 s vb va z
  | _, _, _, .nil, .nil => .nil
  | _, _, _, .miss (k := k) e, .cons (b := (k2, v2)) ⟨e1, _⟩ _ => by
    cases e1
    exact .miss (RelO.none_of (by rw [← e]; exact rb.val k))
  | _, _, _, .hit (k := k) (y := y) e hd he sd se t, .cons (b := (k2, v2)) ⟨e1, e2⟩ q => by
    cases e1
    obtain ⟨u, hu2, ru⟩ := RelO.some_of (v := y) (o := valueAt vb k) (by rw [← e]; exact rb.val k)
    obtain ⟨as, r1⟩ := Dp.reads I _ _ _ hd e2
    obtain ⟨bs, r2⟩ := Dp.reads I _ _ _ he ru
    exact .hit hu2 (PySem.W.keq_at r1 r2 sd se hu) (DatHits.low I hu rb t q)
theorem op_eqDD (hr : Room 1 X.A) : OpR X (compareOp .Eq) (rEqDD X.K false) := by
  intro pins s σ H x y v u Q I rx ry h
  obtain ⟨a, b, ka, kb, r, rfl, rfl, ea, eb, hits, q⟩ := h
  obtain rfl : v = Value.ref a := rx
  obtain rfl : u = Value.ref b := ry
  obtain ⟨_, na, va, ra, da⟩ := (show ObjOk X.prog X.w H s.heap a (.dK ka) from I.hok a _ ea)
  obtain ⟨_, nb, vb, rb, db⟩ := (show ObjOk X.prog X.w H s.heap b (.dK kb) from I.hok b _ eb)
  have la : ka.length = va.length := ra.length
  have lb : kb.length = vb.length := rb.length
  refine PySem.W.keq_eq (knd := mixKind X.prog X.w) (r := r) na nb da db hr.units0 (fun e => (hits (by omega)).low I hr.in1.units rb ra) (fin_bl I q ?_)
  rw [Bool.false_xor, la, lb]
  rfl
theorem op_neDD (hr : Room 1 X.A) : OpR X (compareOp .NotEq) (rEqDD X.K true) := by
  intro pins s σ H x y v u Q I rx ry h
  obtain ⟨a, b, ka, kb, r, rfl, rfl, ea, eb, hits, q⟩ := h
  obtain rfl : v = Value.ref a := rx
  obtain rfl : u = Value.ref b := ry
  obtain ⟨_, na, va, ra, da⟩ := (show ObjOk X.prog X.w H s.heap a (.dK ka) from I.hok a _ ea)
  obtain ⟨_, nb, vb, rb, db⟩ := (show ObjOk X.prog X.w H s.heap b (.dK kb) from I.hok b _ eb)
  have la : ka.length = va.length := ra.length
  have lb : kb.length = vb.length := rb.length
  refine PySem.W.keq_ne (knd := mixKind X.prog X.w) (r := r) na nb da db hr.units0 (fun e => (hits (by omega)).low I hr.in1.units rb ra) (fin_bl I q ?_)
  rw [Bool.true_xor, la, lb]
  rfl
end
/-! ### a list of pairs for a dict -/
theorem mergeK_new : ∀ (more acc : List (Key × V)), ((acc ++ more).map (·.1)).Nodup → mergeK acc more = acc ++ more
  | [], acc, _ => by rw [List.append_nil]; rfl
  | (k, v) :: r, acc, nd => by
    have no : valV acc k = none := by
      cases e : valV acc k with
      | none => rfl
      | some y =>
        have : k ∈ acc.map (·.1) := valV_in e
        rw [List.map_append, List.map_cons] at nd
        exact absurd rfl ((List.nodup_append.mp nd).2.2 _ this _ (List.mem_cons_self ..))
    show mergeK (putK acc k v) r = _
    rw [putK_new _ no, mergeK_new r _ (by rw [List.append_assoc]; exact nd), List.append_assoc]
    rfl
/-- tuples (name, (top, bottom)) at ps -/
inductive PrP (H : Hp) : List Addr → List (Key × V) → List (List Nat × Int × Int) → Prop
  | nil : PrP H [] [] []
  | cons {p q : Addr} {n : List Nat} {t b : Int} {ps : List Addr} {kvs : List (Key × V)} {rs : List (List Nat × Int × Int)} : H p = some (.tup [.str (ofL n), .ref q]) → H q = some (.tup [.int t, .int b]) → PrP H ps kvs rs → PrP H (p :: ps) ((.inr (ofL n), .ref q) :: kvs) ((n, t, b) :: rs)
theorem PrP.mo {H G : Hp} (s : ∀ q xs, H q = some (.tup xs) → G q = some (.tup xs)) : ∀ {ps kvs rs}, PrP H ps kvs rs → PrP G ps kvs rs
  | _, _, _, .nil => .nil
  | _, _, _, .cons e1 e2 r => .cons (s _ _ e1) (s _ _ e2) (r.mo s)
theorem PrP.snoc {H : Hp} {p q : Addr} {n : List Nat} {t b : Int} (e1 : H p = some (.tup [.str (ofL n), .ref q])) (e2 : H q = some (.tup [.int t, .int b])) : ∀ {ps kvs rs}, PrP H ps kvs rs → PrP H (ps ++ [p]) (kvs ++ [(.inr (ofL n), .ref q)]) (rs ++ [(n, t, b)])
  | _, _, _, .nil => .cons e1 e2 .nil
  | _, _, _, .cons a b r => .cons a b (r.snoc e1 e2)
theorem PrP.len {H : Hp} : ∀ {ps kvs rs}, PrP H ps kvs rs → ps.length = rs.length
  | _, _, _, .nil => rfl
  | _, _, _, .cons _ _ r => by rw [List.length_cons, List.length_cons, r.len]
theorem PrP.kps {H : Hp} : ∀ {ps kvs rs}, PrP H ps kvs rs → KPs H kvs rs
  | _, _, _, .nil => .nil
  | _, _, _, .cons _ e2 r => .cons e2 r.kps
theorem PrP.pairs {K : PySem.W.Frag} {H : Hp} : ∀ {ps kvs rs}, PrP H ps kvs rs → Paired (fun p kv => SqT K H p [kV kv.1, kv.2]) ps kvs
  | _, _, _, .nil => .nil
  | _, _, _, .cons e1 _ r => .cons (SqT.of e1) r.pairs
theorem KPs.keys {H : Hp} : ∀ {kvs ps}, KPs H kvs ps → kvs.map (·.1) = (ps.map (·.1)).map fun k => (Sum.inr (ofL k) : Key)
  | _, _, .nil => rfl
  | _, _, .cons _ r => by rw [List.map_cons, List.map_cons, List.map_cons, r.keys]
theorem KPs.merge {H : Hp} {kvs : List (Key × V)} {ps : List (List Nat × Int × Int)} (h : KPs H kvs ps) (nd : (ps.map (·.1)).Nodup) : mergeK [] kvs = kvs := by
  refine mergeK_new kvs [] ?_
  rw [List.nil_append, h.keys]
  exact (List.nodup_iff_pairwise_ne.mpr ((List.pairwise_map.mpr ((List.nodup_iff_pairwise_ne.mp nd).imp fun h e => h (ofL_inj (Sum.inr.inj e))))))
/-- two dicts of pairs by names -/
theorem KPs.hits {K : PySem.W.Frag} {H : Hp} {kb : List (Key × V)} {ss : List (List Nat × Int × Int)} (hb : KPs H kb ss) (nd : (ss.map (·.1)).Nodup) : ∀ {ka rs}, KPs H ka rs → DatHits K H kb ka (rs.all fun p => decide (p ∈ ss))
  | _, _, .nil => .nil
  | _, _, .cons (q := q) (k := n) (t := t) (b := c) (ps := ps) e r => by
    rw [List.all_cons]
    have ih := hb.hits (K := K) nd r
    by_cases h : ∃ t2 c2, (n, t2, c2) ∈ ss
    · obtain ⟨t2, c2, hm⟩ := h
      obtain ⟨q2, v2, e2⟩ := hb.get nd hm
      have eq : decide ((n, t, c) ∈ ss) = PyData.eqv (.tuple [.int t, .int c]) (.tuple [.int t2, .int c2]) := by
        have e3 : PyData.eqv (.tuple [.int t, .int c]) (.tuple [.int t2, .int c2]) = decide (t = t2 ∧ c = c2) := by
          rw [← SeqAt.same_eq_eqv _ _ (by rfl)]
          simp only [PySem.Spec.same, PySem.Spec.sameAll]
          rw [Bool.eq_iff_iff]
          simp
        rw [e3]
        refine decide_eq_decide.mpr ⟨fun hm2 => ?_, fun ⟨x, y⟩ => by rw [x, y]; exact hm⟩
        obtain ⟨q3, v3, e4⟩ := hb.get nd hm2
        rw [v2] at v3
        cases v3
        rw [e2] at e4
        simp at e4
        exact ⟨e4.1.symm, e4.2.symm⟩
      rw [eq]
      exact .hit v2 (.tup (SqT.of e) (.cons (.int _) (.cons (.int _) .nil))) (.tup (SqT.of e2) (.cons (.int _) (.cons (.int _) .nil))) rfl rfl ih
    · have no : decide ((n, t, c) ∈ ss) = false := decide_eq_false fun z => h ⟨t, c, z⟩
      rw [no, Bool.false_and]
      exact .miss (hb.out fun p hp z => h ⟨p.2.1, p.2.2, by rw [← z]; exact hp⟩)
end HX

set_option Elab.async false
set_option linter.all false
set_option maxRecDepth 100000
set_option maxHeartbeats 2000000
/-! Z7: short forms -/
namespace HX
open PySem PySem.Spec PyProof.Rows L2 NumText
section
variable {p : Option Addr} {q : Addr} {n m l : Nat} {F F1 G H : Hp} {L : List Addr} {te t1 t2 tk tv : TE} {tt : TT} {ta : TA} {wi : TI} {σ : L2.St} {S S1 S2 : Pr} {Ss : List Pr} {K : PySem.W.Frag} {α : Type} {zs : List α} {ky : α → Key} {R R' : α → Pr}
theorem Ev.bt {c d : Bool} (h : Ev p L F n te σ (VB c)) (e : c = d) : Ev p L F n te σ (VB d) := e ▸ h
theorem EvT.bt {c d : Bool} (h : EvT p L F n tt σ (· = c)) (e : c = d) : EvT p L F n tt σ (· = d) := e ▸ h
theorem EvI.keysM [∀ x, Mo (R x)] {d : Addr} {kvs : List (Key × V)} (h : Ev p (d :: L) F n te σ (VR d)) (hF : F d = some (.dK kvs)) (al : AllK (zs.map fun z => (ky z, R z)) kvs F) : EvI p (d :: L) F n (iKeys te) σ (zs.map fun z => VKy (ky z)) := by
  have := EvI.keys h hF al
  rw [List.map_map] at this
  exact this
theorem EvI.itemsM [∀ x, Mo (R x)] {d : Addr} {kvs : List (Key × V)} (h : Ev p (d :: L) F n te σ (VR d)) (hF : F d = some (.dK kvs)) (al : AllK (zs.map fun z => (ky z, R z)) kvs F) : EvI p (d :: L) F n (iItems te) σ (zs.map fun z => VT [VKy (ky z), R z]) := by
  have := EvI.items h hF al
  rw [List.map_map] at this
  exact this
theorem EvI.valsM [∀ x, Mo (R x)] {d : Addr} {kvs : List (Key × V)} (h : Ev p (d :: L) F n te σ (VR d)) (hF : F d = some (.dK kvs)) (al : AllK (zs.map fun z => (ky z, R z)) kvs F) : EvI p (d :: L) F n (iVals te) σ (zs.map fun z => R z) := by
  have := EvI.vals h hF al
  rw [List.map_map] at this
  exact this
/-- [e for x in xs], nothing drawn -/
theorem Ev.lc0 {g : TG} {vs : List Nat} [∀ x, Mo (R x)] [∀ x, Mo (R' x)] (hi : EvI p L F 0 wi σ (zs.map R))
    (hg : ∀ z ∈ zs, ∀ x F', Same F F' → R z x F' → ∃ σ2, wipe σ2 vs = wipe σ vs ∧ (∀ G (Q : L2.St → Hp → Prop), At p L F' G → Q σ2 G → g x (wipe σ vs) G Q) ∧ Ev p L F' 0 te σ2 (R' z))
    (hl : zs.length ≤ 1000000) : Ev p L F 0 (tLc wi g tYes te vs) σ (VL (zs.map R')) := (Ev.lcA hi hg hl).le (by simp)
theorem Ev.lcf0 {keep : α → Bool} {g : TG} {vs : List Nat} [∀ x, Mo (R x)] [∀ x, Mo (R' x)] (hi : EvI p L F 0 wi σ (zs.map R))
    (hg : ∀ z ∈ zs, ∀ x F', Same F F' → R z x F' → ∃ σ2, wipe σ2 vs = wipe σ vs ∧ (∀ G (Q : L2.St → Hp → Prop), At p L F' G → Q σ2 G → g x (wipe σ vs) G Q) ∧ EvT p L F' 0 tt σ2 (· = keep z) ∧ (keep z = true → Ev p L F' 0 te σ2 (R' z)))
    (hl : zs.length ≤ 1000000) : Ev p L F 0 (tLc wi g tt te vs) σ (VL ((zs.filter keep).map R')) := (Ev.lc hi hg hl).le (by simp)
/-- {k: e for x in xs}, nothing drawn -/
theorem Ev.dc0 {ky' : α → Key} {g : TG} {vs : List Nat} [∀ x, Mo (R x)] [∀ x, Mo (R' x)] (hi : EvI p L F 0 wi σ (zs.map R))
    (hg : ∀ z ∈ zs, ∀ x F', Same F F' → R z x F' → ∃ σ2, wipe σ2 vs = wipe σ vs ∧ (∀ G (Q : L2.St → Hp → Prop), At p L F' G → Q σ2 G → g x (wipe σ vs) G Q) ∧ Ev p L F' 0 tk σ2 (VKy (ky' z)) ∧ Ev p L F' 0 tv σ2 (R' z))
    (nd : (zs.map ky').Nodup) (hl : zs.length ≤ 1000000) : Ev p L F 0 (tDc wi g tYes tk tv vs) σ (VD (zs.map fun z => (ky' z, R' z))) := by
  have z := Ev.dc (n1 := 0) (tt := tYes) (keep := fun _ => true) hi (fun z hz x F' s r => by
    obtain ⟨σ2, h1, h2, h3, h4⟩ := hg z hz x F' s r
    exact ⟨σ2, h1, h2, EvT.yes, fun _ => ⟨h3, h4⟩⟩) nd hl
  rw [List.filter_eq_self.mpr (fun _ _ => rfl)] at z
  exact z.le (by simp)
theorem Ev.dcN0 {ky' : α → Key} {g : TG} {vs : List Nat} [∀ x, Mo (R x)] [∀ x, Mo (R' x)] (hi : EvI p L F 0 wi σ (zs.map R))
    (hg : ∀ z ∈ zs, ∀ x F', Same F F' → R z x F' → ∃ σ2, wipe σ2 vs = wipe σ vs ∧ (∀ G (Q : L2.St → Hp → Prop), At p L F' G → Q σ2 G → g x (wipe σ vs) G Q) ∧ Ev p L F' 0 tk σ2 (VKy (ky' z)) ∧ Ev p L F' 0 tv σ2 (R' z))
    (nd : (zs.map ky').Nodup) (hl : zs.length ≤ 1000000) : Ev p L F 0 (tDc wi g tYes tk tv vs) σ (New F (VD (zs.map fun z => (ky' z, R' z)))) := by
  have z := Ev.dcN (n1 := 0) (tt := tYes) (keep := fun _ => true) hi (fun z hz x F' s r => by
    obtain ⟨σ2, h1, h2, h3, h4⟩ := hg z hz x F' s r
    exact ⟨σ2, h1, h2, EvT.yes, fun _ => ⟨h3, h4⟩⟩) nd hl
  rw [List.filter_eq_self.mpr (fun _ _ => rfl)] at z
  exact z.le (by simp)
/-- statements -/
theorem EvT.go {tt : TT} {u v : TS} {D : Ends} {c : Bool} (h : EvT p L F n tt σ (· = c)) (a : At p L F G) (b : Bud p n G) (h1 : c = true → ∀ F' G', Nx p L n F G F' G' → u D σ G') (h2 : c = false → ∀ F' G', Nx p L n F G F' G' → v D σ G') : cIfS tt u v D σ G :=
  h G a b _ fun bo F' G' x e => by
    subst e
    exact ⟨fun z => h1 z F' G' x, fun z => h2 z F' G' x⟩
/-- what is told of some x, at a place that is looked at first -/
theorem Ev.exI {β : Type} {P : β → Prop} {R : β → Pr} {te : TE} {ctx : TE → TE} (h : Ev p L F n te σ (ExP P R)) (k : ∀ x v F', P x → Same F F' → R x v F' → Ev p L F' m (ctx (tC v)) σ S) (hctx : ∀ G (Q : VK), te σ G (fun x H1 => ctx (tC x) σ H1 Q) → ctx te σ G Q) : Ev p L F (n + m) (ctx te) σ S := fun G a b Q q =>
  hctx G Q (h G a (b.le (by omega)) _ fun v F1 G1 x1 ⟨x, hx, hv⟩ => k x v F1 hx x1.s hv G1 (x1.at_ a) (Bud.step b x1.r) _ fun u F2 G2 x2 s2 => q u F2 G2 (x1.trans x2) s2)
theorem Ev.toX {β : Type} {P : β → Prop} {R : β → Pr} (x : β) (hx : P x) (h : Ev p L F n te σ (R x)) : Ev p L F n te σ (ExP P R) := h.to fun v F' _ hv => ⟨x, hx, hv⟩
theorem Ev.isN {neg : Bool} (h : Ev p L F n te σ VN) : Ev p L F n (tOp (rIs2 neg) te (tC .non)) σ (VB (xor neg true)) := Ev.op0 (m := 0) h (Ev.c (S := VN) rfl) fun v u F' G s a e1 e2 Q k => by
  rw [show v = .non from e1, show u = .non from e2]
  exact k _ rfl
/-- self.f = e, self put aside -/
theorem store_self {C a dx : Addr} {fs : List (Str × V)} {f : Str} {tv : TE} {i : Nat} {D : Ends} (h : Ev p L F n tv σ S) (at_ : At p L F G) (b : Bud p n G) (hs : σ[i]? = some (some (.ref a))) (ha : G a = some (.ins C dx fs)) (np : p ≠ some a) (cl : Cls K C) (nt : NoAttr K C f) (hl : fs.length < 1000)
    (k : ∀ v F' G', Nx p L n F G F' G' → S v F' → G' a = some (.ins C dx fs) → D.nx σ (L2.upd G' a (.ins C dx (putF f v fs)))) : sFld K (cV i) tv f D σ G :=
  h G at_ b _ fun v F1 G1 x1 sv => by
    have e := x1.r.keep np ha
    show (match σ[i]? with | some (some v) => _ | _ => False)
    rw [hs]
    exact ⟨a, C, dx, fs, rfl, e, cl, nt, hl, k v F1 G1 x1 sv e⟩
theorem goSet {te : TE} {i : Nat} {u : TS} {D : Ends} (h : Ev p L F n te σ S) (a : At p L F G) (b : Bud p n G) (k : ∀ v F' G', Nx p L n F G F' G' → S v F' → u D (σ.set i (some v)) G') : tSeq (tAsg te (gName i)) u D σ G := h G a b _ k
theorem goRet {te : TE} {D : Ends} (h : Ev p L F n te σ S) (a : At p L F G) (b : Bud p n G) (k : ∀ v F' G', Nx p L n F G F' G' → S v F' → D.rt v G') : tRet te D σ G := h G a b _ k
theorem goDrop {te : TE} {u : TS} {D : Ends} (h : Ev p L F n te σ S) (a : At p L F G) (b : Bud p n G) (k : ∀ v F' G', Nx p L n F G F' G' → S v F' → u D σ G') : tSeq (tDrop te) u D σ G := h G a b _ k
theorem goIf {tt : TT} {u v r : TS} {D : Ends} {c : Bool} (h : EvT p L F n tt σ (· = c)) (a : At p L F G) (b : Bud p n G) (h1 : c = true → ∀ F' G', Nx p L n F G F' G' → u { D with nx := r D } σ G') (h2 : c = false → ∀ F' G', Nx p L n F G F' G' → v { D with nx := r D } σ G') : tSeq (cIfS tt u v) r D σ G := EvT.go h a b h1 h2
theorem goIfR {tt : TT} {u r : TS} {D : Ends} {c : Bool} (h : EvT p L F n tt σ (· = c)) (a : At p L F G) (b : Bud p n G) (h1 : c = true → ∀ F' G', Nx p L n F G F' G' → u { D with nx := r D } σ G') (h2 : c = false → ∀ F' G', Nx p L n F G F' G' → r D σ G') : tSeq (cIfS tt u tNext) r D σ G := EvT.go h a b h1 h2
/-- if ..: return .., the way on -/
theorem goOn {tt : TT} {u r : TS} {D : Ends} (h : EvT p L F n tt σ (· = false)) (a : At p L F G) (b : Bud p n G) (k : ∀ F' G', Nx p L n F G F' G' → r D σ G') : tSeq (cIfS tt u tNext) r D σ G := EvT.go h a b (fun e => nomatch e) fun _ F' G' x => k F' G' x
theorem goPar {t1 t2 : TE} {i j : Nat} {u : TS} {D : Ends} (h : EvA p L F n (tCons t1 (tCons t2 tNil)) σ [S1, S2]) (a : At p L F G) (b : Bud p n G) (k : ∀ v w F' G', Nx p L n F G F' G' → S1 v F' → S2 w F' → u D ((σ.set i (some v)).set j (some w)) G') : tSeq (tPar i j (tCons t1 (tCons t2 tNil))) u D σ G :=
  show (tCons t1 (tCons t2 tNil)) σ G (fun vs H1 => ∃ v w, vs = [v, w] ∧ u D ((σ.set i (some v)).set j (some w)) H1) from h G a b _ fun vs F1 G1 x1 al => by
    obtain ⟨v, w, rfl, e1, e2⟩ := two_all al
    exact ⟨v, w, rfl, k v w F1 G1 x1 e1 e2⟩
/-- k in d -/
theorem Ev.din {ps : List (Key × Pr)} {k : Key} {t1 t2 : TE} [MoK ps] (h1 : Ev p L F n t1 σ (VKy k)) (h2 : Ev p L F m t2 σ (VD ps)) : Ev p L F (n + m) (tDIn t1 t2) σ (VB (valP ps k).isSome) := fun G a b Q q =>
  h1 G a (b.le (by omega)) _ fun v F1 G1 x1 s1 => (h2.up x1.s) G1 (x1.at_ a) (Bud.step b x1.r) _ fun u F2 G2 x2 ⟨d, kvs, e, hd, al⟩ => by
    have a2 := x2.at_ (x1.at_ a)
    rw [show v = kV k from s1]
    refine ⟨d, _, e, a2.dget hd, q _ F2 G2 (x1.trans x2) ?_⟩
    rcases al.val k with ⟨y1, y2⟩ | ⟨_, _, y1, y2, _⟩ <;> rw [y1, y2] <;> rfl
/-- len(d), tuple(d) of a dict that is not locked -/
theorem Ev.lenD {ps : List (Key × Pr)} {ta : TA} [MoK ps] (h : EvA p [] F n ta σ [VD ps]) : Ev p [] F n (tCB (fun xs H Q => ∃ a kvs, xs = [V.ref a] ∧ H a = some (.dK kvs) ∧ Q (.int kvs.length) H) ta) σ (VI ps.length) :=
  Ev.cb (l := 0) h fun vs F' G s a _ al Q k => by
    obtain ⟨v, rfl, d, kvs, rfl, hd, al⟩ := one_all al
    exact ⟨d, kvs, rfl, a.raw (by simp) hd, k _ _ _ (Nx.refl a) (by rw [al.len]; rfl)⟩
theorem Ev.tupD {ps : List (Key × Pr)} {ta : TA} [MoK ps] (h : EvA p [] F n ta σ [VD ps]) : Ev p [] F n (tCB rTupD ta) σ (VT (ps.map fun e => VKy e.1)) := fun G a b Q q =>
  h G a b _ fun vs F1 G1 x1 s1 => by
    obtain ⟨v, rfl, d, kvs, rfl, hd, al⟩ := one_all s1
    have a1 := x1.at_ a
    exact ⟨d, kvs, rfl, a1.raw (by simp) hd, fun t nt => by
      have y := Nx.new a1 nt (.tup (kvs.map fun kv => kV kv.1))
      exact q _ _ _ (x1.trans y) ⟨t, _, rfl, upd_same, al.keyP⟩⟩
/-- data hits -/
theorem dat_hits {K : PySem.W.Frag} {H : Hp} {kb : List (Key × V)} {β : Type} {ky : β → Key} {f : β → V} {g : β → Option V} {c : β → Bool} : ∀ {zs : List β}, (∀ z ∈ zs, valV kb (ky z) = g z ∧ ((g z = none ∧ c z = false) ∨ ∃ y d e, g z = some y ∧ Dp K H (f z) d ∧ Dp K H y e ∧ SeqAt.shaped d = true ∧ SeqAt.shaped e = true ∧ PyData.eqv d e = c z)) →
    DatHits K H kb (zs.map fun z => (ky z, f z)) (zs.all c)
  | [], _ => .nil
  | z :: zs, h => by
    obtain ⟨h1, h2⟩ := h z List.mem_cons_self
    rw [List.map_cons, List.all_cons]
    rcases h2 with ⟨e1, e2⟩ | ⟨y, d, e, e1, hd, he, sd, se, e2⟩
    · rw [e2, Bool.false_and]
      exact .miss (h1.trans e1)
    · rw [← e2]
      exact .hit (h1.trans e1) hd he sd se (dat_hits fun x hx => h x (List.mem_cons_of_mem _ hx))
/-- what stands in the fields of an instance that is put aside -/
theorem Nx.self {a : Addr} {F' G' : Hp} {o : HO} (x : Nx p L n F G F' G') (hF : F a = none) (ha : G a ≠ none) (np : p ≠ some a) : Nx p L n F (Hd a G) F' (Hd a (L2.upd G' a o)) := by
  rw [hd_upd]
  exact x.hd hF ha np
end
end HX

set_option Elab.async false
set_option linter.all false
set_option maxRecDepth 100000
set_option maxHeartbeats 4000000
namespace LW
open PySem PySem.Spec PyProof.Rows L2 HX NumText
section
variable {P : Program} {w : World} {K : PySem.W.Frag} {mg : Str → Option Value} {base : Heap}

def spIntI : Sp := fun vs H Q _ => ∃ i : Int, vs = [.int i] ∧ Q (.bl true) H
theorem ok_isint {f : Addr} {fd : FuncData} (F : Fun K "is_int" "is_int" s_is_int f fd) (T : Txt K mg) : FnOk P w K mg base CX0 1 f fd ["value"] spIntI := by
  refine F.ok sc_is_int (fun vs H Q E h => ?_) (fun cdv A' outer s H vs Q E hr h => ?_)
  · obtain ⟨i, rfl, _⟩ := h
    rfl
  · obtain ⟨i, rfl, k⟩ := h
    refine ⟨_, (pss_one (ps_ret (e_and (pe_callB c_isi (by rfl) T.b_isinstance (by decide +kernel) (pa_cons (pc 0) (pa_cons (pe_bltn (v := .ty "int") (u := .type "int") (by rfl) T.b_int (by decide +kernel) rfl) pa_nil))) (pe_one (e_not (pe_callB c_isi (by rfl) T.b_isinstance (by decide +kernel) (pa_cons (pc 0) (pa_cons (pe_bltn (v := .ty "bool") (u := .type "bool") (by rfl) T.b_bool (by decide +kernel) rfl) pa_nil)))))))), ?_⟩
    exact ⟨_, _, _, _, true, rfl, .int i, (fun u r => r), kit_ty (by show kitB _ _ = some true; decide +kernel), ⟨fun _ => ⟨_, _, _, _, false, rfl, .int i, (fun u r => r), kit_ty (by show kitB _ _ = some false; decide +kernel), k⟩, fun h => absurd h (by decide)⟩⟩
def spWithI : Sp := fun vs H Q _ => ∃ i a b : Int, vs = [.int i, .int a, .int b] ∧ Q (.bl (decide (a ≤ i) && decide (i ≤ b))) H
theorem ok_within {f : Addr} {fd : FuncData} (F : Fun K "is_int_within" "is_int_within" s_is_int_within f fd) (T : Txt K mg) (cI : CalO P w K mg base "is_int" 1 ["value"] spIntI (fun _ => True)) : FnOk P w K mg base CX0 2 f fd ["value", "least", "most"] spWithI := by
  refine F.ok sc_is_int_within (fun vs H Q E h => ?_) (fun cdv A' outer s H vs Q E hr h => ?_)
  · obtain ⟨i, a, b, rfl, _⟩ := h
    rfl
  · obtain ⟨i, a, b, rfl, k⟩ := h
    refine ⟨_, (pss_one (ps_ret (e_and (pe_cO cI (hr.mono (by decide)) (pa_cons (pc 0) pa_nil)) (pe_one (e_chain o_le o_le (pc 1) (pc 0) (pc 2)))))), ?_⟩
    refine ⟨i, rfl, ⟨fun _ => ⟨fun c1 => ?_, fun c1 => ?_⟩, fun h => nomatch (show true = false from h)⟩⟩
    · rw [show decide (a ≤ i) = true from c1] at k
      exact k
    · rw [show decide (a ≤ i) = false from c1] at k
      exact k
section
variable {p : Option Addr} {n m : Nat} {F : Hp} {Lk : List Addr} {ta : TA} {σ : L2.St}
theorem ev_within {i a b : Int} {E : XK} (h : EvA p Lk F n ta σ [VC (.int i), VC (.int a), VC (.int b)]) : Ev p Lk F n (tCall spWithI [] E ta) σ (VB (decide (a ≤ i) && decide (i ≤ b))) :=
  Ev.old h fun vs F' G _ _ al Q k => by
    obtain ⟨u, r, rfl, e1, v, r2, rfl, e2, x, r3, rfl, e3, e⟩ := al
    exact ⟨i, a, b, by rw [show u = _ from e1, show v = _ from e2, show x = _ from e3, show r3 = [] from e]; rfl, k _ rfl⟩
theorem ev_isname {l : List Nat} {E : XK} (h : EvA p Lk F n ta σ [VS (ofL l)]) (hl : Nm l) : Ev p Lk F n (tCall spIsName [] E ta) σ (VB true) :=
  Ev.oldS h fun vs F' G _ _ al Q k => by
    obtain ⟨v, rfl, e⟩ := one_all al
    rw [show v = _ from e]
    refine ⟨_, .str (ofL l), rfl, .str _, by show (ofL l).length ≤ _; rw [ofL_len]; have := hl.2.1; omega, fun H' s => ?_⟩
    exact k _ H' s (by show V.bl (nameS (ofL l)) = _; rw [nm_name hl])
end

def teW (K : PySem.W.Frag) (Ln : Addr) : TE := cAndV (tCall spWithI [] E0 (tCons (cV 2) (tCons (tUn (rU fun i => .int (-i)) (ClX.tCVal K (tC (.ref Ln)) "MOST")) (tCons (ClX.tCVal K (tC (.ref Ln)) "MOST") tNil)))) (tOp (rEq2 K true) (cV 2) (tC (.int 0)))
theorem ok_wrong {f Ln : Addr} {fd : FuncData} (F : Fun K "wrong_part" "wrong_part" s_wrong_part f fd) (T : Txt K mg) (U_g_Linear : mg "Linear" = some (.ref Ln)) (rL : ClX.CRead K Ln (.type "type")) (cM : ∃ t, ClX.CVal K Ln (.type "type") "MOST" (.int 9) (.int 9 t)) (cN : CalO P w K mg base "is_name" 1 ["value"] spIsName (fun _ => True)) (cW : CalO P w K mg base "is_int_within" 2 ["value", "least", "most"] spWithI (fun _ => True)) : FnOk P w K mg base CX0 4 f fd ["parts"] (spZ (fun Lk => Lk = []) PsOk (fun ps => [VP ps]) fun _ => VN) := by
  obtain ⟨tM, cM⟩ := cM
  refine F.ok sc_wrong_part (fun vs H Q E h => ?_) (fun cdv A' outer s H vs Q E hr h => ?_)
  · obtain ⟨ps, p, Lk, F, _, _, _, al, _⟩ := h
    exact al.len
  · obtain ⟨ps, p, _, F, ok, rfl, a, al, k⟩ := h
    obtain ⟨v, rfl, sv⟩ := one_all al
    refine ⟨_, (pss_cons (s_if (pt_not (t_val (pe_callB c_isi (by rfl) T.b_isinstance (by decide +kernel) (pa_cons (pc 0) (pa_cons (pe_bltn (v := .ty "dict") (u := .type "dict") (by rfl) T.b_dict (by decide +kernel) rfl) pa_nil))))) (pss_one (ps_ret pe_str)) pss_nil)
    (pss_cons (s_if (pt_not (t_val (pe_callB (cr_all rfl) (by rfl) T.b_all (by decide +kernel) (pa_cons (pe_lock (pe_lc (own := [("account", 1)]) (g := gName 1) (tt := tYes) rfl sc_wrong_part.nd (pi_keys (pc 0)) (blkOk_by (own := [("account", 1)]) (N := n_wrong_part) (sc := defScope s_wrong_part) (by decide +kernel)) (fun _ _ _ _ _ => pg_name (i := 1) sc_wrong_part.nd rfl (Or.inl rfl)) (fun _ _ _ _ _ => pts_nil) (fun _ _ _ _ _ => (pe_cO cN (hr.mono (by decide)) (pa_cons (pc 1) pa_nil))))) pa_nil)))) (pss_one (ps_ret pe_str)) pss_nil)
    (pss_cons (s_if (pt_not (t_val (pe_callB (cr_all rfl) (by rfl) T.b_all (by decide +kernel) (pa_cons (pe_lock (pe_lc (own := [("part", 2)]) (g := gName 2) (tt := tYes) (te := teW K Ln) rfl sc_wrong_part.nd (pi_values (pc 0)) (blkOk_by (own := [("part", 2)]) (N := n_wrong_part) (sc := defScope s_wrong_part) (by decide +kernel)) (fun _ _ _ _ _ => pg_name (i := 2) sc_wrong_part.nd rfl (Or.inl rfl)) (fun _ _ _ _ _ => pts_nil) (fun _ _ _ _ _ => by exact (e_and (pe_cO cW (hr.mono (by decide)) (pa_cons (pc 2) (pa_cons (pe_un un_neg (ClX.pe_cval (p_gc U_g_Linear))) (pa_cons (ClX.pe_cval (p_gc U_g_Linear)) pa_nil)))) (pe_one (p_cmp (o_ne hr.units) (pc 2) pe_int)))))) pa_nil)))) (pss_one (ps_ret pe_str)) pss_nil)
    (pss_one (ps_ret pe_non))))), ?_⟩
    refine EvT.go (EvT.not (EvT.b (Ev.isi (b := true) (EvA.cons (Ev.var rfl sv) (EvA.cons (Ev.c rfl) EvA.nil)) (fun v F' G _ a h => ty_dk a h) (fun u r => r) (kit_ty (by show kitB _ _ = some true; decide +kernel))))) a Bud.zero (fun e => nomatch e) fun _ F1 G1 x1 => ?_
    have a1 := x1.at_ a
    replace sv := Mo.mo x1.s sv
    have l64 := ok.l64
    have t2 : Ev p [] F1 0 (tCB (rAll K) (tCons (tLockE (tLc (iKeys (cV 0)) (gName 1) tYes (tCall spIsName [] E0 (tCons (cV 1) tNil)) [1])) tNil)) [some v, none, none] (VB true) := by
      obtain ⟨d, kvs, rfl, hd, al⟩ := sv
      refine (Ev.all (bs := ps.map fun _ => true) (EvA.cons (Ev.lock hd (by simp) ?_) EvA.nil)).bt (by simp)
      rw [List.map_map]
      exact Ev.lc0 (R' := fun _ => VB true) (EvI.keysM (zs := ps) (Ev.var rfl rfl) hd al) (fun z hz x F' s hx => ⟨[_, some x, none], rfl, fun G Q _ h => h, ev_isname (EvA.cons (Ev.var rfl hx) EvA.nil) (ok.all z hz).1⟩) (by omega)
    refine EvT.go (EvT.not (EvT.b t2)) a1 Bud.zero (fun e => nomatch e) fun _ F2 G2 x2 => ?_
    have a2 := x2.at_ a1
    replace sv := Mo.mo x2.s sv
    have t3 : Ev p [] F2 0 (tCB (rAll K) (tCons (tLockE (tLc (iVals (cV 0)) (gName 2) tYes (teW K Ln) [2])) tNil)) [some v, none, none] (VB true) := by
      obtain ⟨d, kvs, rfl, hd, al⟩ := sv
      refine (Ev.all (bs := ps.map fun _ => true) (EvA.cons (Ev.lock hd (by simp) ?_) EvA.nil)).bt (by simp)
      rw [List.map_map]
      refine Ev.lc0 (R' := fun _ => VB true) (EvI.valsM (zs := ps) (Ev.var rfl rfl) hd al) (fun z hz x F' s hx => ⟨[_, none, some x], rfl, fun G Q _ h => h, ?_⟩) (by omega)
      obtain ⟨_, h1, h2, h3⟩ := ok.all z hz
      refine (Ev.and (ev_within (i := z.2) (a := -9) (b := 9) (EvA.cons (Ev.var rfl hx) (EvA.cons (Ev.neg (i := 9) (Ev.cval (Ev.c rfl) rL cM)) (EvA.cons (Ev.cval (Ev.c rfl) rL cM) EvA.nil)))) fun _ => Ev.eqI (Ev.var rfl hx) (Ev.c rfl)).bt (by simp [h1, h2, h3])
    refine EvT.go (EvT.not (EvT.b t3)) a2 Bud.zero (fun e => nomatch e) fun _ F3 G3 x3 => ?_
    exact k _ _ _ ((x1.trans x2).trans x3) rfl

end
end LW

set_option Elab.async false
set_option linter.all false
set_option maxRecDepth 100000
set_option maxHeartbeats 2000000
/-! Z8: instances with parts and days -/
namespace HX
open PySem PySem.Spec PyProof.Rows L2 NumText
section
variable {K : PySem.W.Frag}
/-- an __init__ of an instance that is put aside: what it is told, what its fields are then -/
def spIni {α : Type} (CC : Addr → Prop) (Cd : α → Prop) (Pre : α → List Pr) (fs0 : List (Str × V)) (Post : α → List (Str × V) → Hp → Prop) : Sp := fun vs H Q _ => ∃ (x : α) (p : Option Addr) (F : Hp) (a C dx : Addr) (ws : List V), vs = .ref a :: ws ∧ Cd x ∧ At p [] F H ∧ F a = none ∧ p ≠ some a ∧ H a = some (.ins C dx fs0) ∧ CC C ∧ AllP (Pre x) ws F ∧
  ∀ fs F' G, Nx p [] 0 F (Hd a H) F' (Hd a G) → G a = some (.ins C dx fs) → Post x fs F' → Q .non G
def PoL (ps : List (List Nat × Int)) (fs : List (Str × V)) (F : Hp) : Prop := ∃ qs, qs.Perm ps ∧ Asc qs ∧ AllF [("_parts", VP qs)] fs F
theorem PoL.mo {ps : List (List Nat × Int)} {fs : List (Str × V)} {F G : Hp} (s : Same F G) : PoL ps fs F → PoL ps fs G := fun ⟨qs, a, b, c⟩ => ⟨qs, a, b, MoF.mo s c⟩
/-- an instance of the class at C with such parts -/
def VLc (C : Addr) (qs : List (List Nat × Int)) : Pr := fun v F => ∃ a dx fs u, v = .ref a ∧ F a = some (.ins C dx fs) ∧ fs.lookup ("_parts" : Str) = some u ∧ VP qs u F
instance {C : Addr} {qs : List (List Nat × Int)} : Mo (VLc C qs) := ⟨fun s ⟨a, dx, fs, u, e, h, l, r⟩ => ⟨a, dx, fs, u, e, s _ _ h, l, Mo.mo s r⟩⟩
instance {C : Addr} {qs : List (List Nat × Int)} : RefP (VLc C qs) := ⟨fun ⟨a, _, _, _, e, _⟩ => ⟨a, e⟩⟩
structure LnF (K : PySem.W.Frag) (C : Addr) : Prop where
  cl : Cls K C
  nP : NoAttr K C "_parts"
section
variable {p : Option Addr} {n : Nat} {F : Hp} {Lk : List Addr} {te : TE} {σ : L2.St} {C : Addr} {qs : List (List Nat × Int)}
theorem ev_parts (h : Ev p Lk F n te σ (VLc C qs)) (l : LnF K C) : Ev p Lk F n (tFld K te "_parts") σ (VP qs) := fun G a b Q k =>
  h G a b _ fun v F1 G1 x1 ⟨o, dx, fs, u, e, ho, hl, hu⟩ => ⟨o, C, dx, fs, u, e, (x1.at_ a).dkL ho, l.cl, l.nP, hl, k u F1 G1 x1 hu⟩
end
/-- a text, or what is none -/
def VNs : Pr := fun v F => v = .non ∨ (∃ i, v = .int i) ∨ (∃ b, v = .bl b) ∨ (∃ a xs, v = .ref a ∧ F a = some (.lst xs)) ∨ (∃ a xs, v = .ref a ∧ F a = some (.tup xs)) ∨ ∃ a kvs, v = .ref a ∧ F a = some (.dK kvs)
instance : Mo VNs := ⟨fun s h => by
  rcases h with h | h | h | ⟨a, xs, e, h⟩ | ⟨a, xs, e, h⟩ | ⟨a, xs, e, h⟩
  · exact .inl h
  · exact .inr (.inl h)
  · exact .inr (.inr (.inl h))
  · exact .inr (.inr (.inr (.inl ⟨a, xs, e, s _ _ h⟩)))
  · exact .inr (.inr (.inr (.inr (.inl ⟨a, xs, e, s _ _ h⟩))))
  · exact .inr (.inr (.inr (.inr (.inr ⟨a, xs, e, s _ _ h⟩))))⟩
theorem VNs.ty {p : Option Addr} {F G : Hp} {v : V} (a : At p [] F G) (h : VNs v F) : ∃ t : String, TyOf K G v (.type t) ∧ t ∈ ["NoneType", "int", "bool", "list", "tuple", "dict"] := by
  rcases h with rfl | ⟨i, rfl⟩ | ⟨b, rfl⟩ | ⟨o, xs, rfl, e⟩ | ⟨o, xs, rfl, e⟩ | ⟨o, xs, rfl, e⟩
  · exact ⟨_, .non, by simp⟩
  · exact ⟨_, .int i, by simp⟩
  · exact ⟨_, .bl b, by simp⟩
  · exact ⟨_, .lst (a.lst e), by simp⟩
  · exact ⟨_, .tup (a.tup e), by simp⟩
  · exact ⟨_, .dK (a.raw (by simp) e), by simp⟩
theorem kit_str : ∀ t ∈ ["NoneType", "int", "bool", "list", "tuple", "dict"], PySem.W.kitOne K (.type t) (.type "str") = some false := fun t h => by
  simp only [List.mem_cons, List.not_mem_nil, or_false] at h
  rcases h with rfl | rfl | rfl | rfl | rfl | rfl <;> exact kit_ty (by show kitB _ _ = some false; decide +kernel)
def VQ : Option Str → Pr
  | some z => VS z
  | none => VNs
instance {o : Option Str} : Mo (VQ o) := by cases o <;> unfold VQ <;> infer_instance
def hasK (qs : List (List Nat × Int)) : Option Str → Bool
  | some z => (valP (pD qs) (.inr z)).isSome
  | none => false
def getK (qs : List (List Nat × Int)) : Option Str → Int
  | some z => ((qs.find? fun p => decide (kyN p = .inr z)).map (·.2)).getD 0
  | none => 0
theorem valP_get {qs : List (List Nat × Int)} {k : Key} : valP (pD qs) k = (qs.find? fun p => decide (kyN p = k)).map fun p => VI p.2 := by
  unfold valP pD
  induction qs with
  | nil => rfl
  | cons a r ih =>
    rw [List.map_cons, List.find?_cons, List.find?_cons]
    by_cases c : kyN a = k
    · simp [c]
    · simpa [c] using ih

end
section
variable {p : Option Addr} {n m l : Nat} {F F1 G H : Hp} {L : List Addr} {te t1 t2 : TE} {ta : TA} {σ : L2.St} {S : Pr} {Ss : List Pr} {K : PySem.W.Frag} {C : Addr} {E : XK}
/-- made: what W says of its fields -/
def VMk (C : Addr) (W : List (Str × V) → Hp → Prop) : Pr := fun v F => ∃ a dx fs, v = .ref a ∧ F a = some (.ins C dx fs) ∧ W fs F
theorem Ev.makeI {α : Type} {CC : Addr → Prop} {Cd : α → Prop} {Pre : α → List Pr} {Post : α → List (Str × V) → Hp → Prop} (x : α) (h : EvA p [] F n ta σ (Pre x)) (hC : Cd x) (cc : CC C) (mo : ∀ fs F1 F2, Same F1 F2 → Post x fs F1 → Post x fs F2) :
    Ev p [] F n (tMake C (spIni CC Cd Pre [] Post) [] E ta) σ (VMk C (Post x)) :=
  Ev.make (l := 0) h mo fun a dx vs F' G s at_ _ Fa np ha al Q k => ⟨x, p, F', a, C, dx, vs, by rw [List.append_nil], hC, at_, Fa, np, ha, cc, al, k⟩
/-- C(k = ..) -/
theorem Ev.makeK0 {α : Type} {CC : Addr → Prop} {Cd : α → Prop} {Pre : α → List Pr} {Post : α → List (Str × V) → Hp → Prop} {kk : Nat} {gV : List V → List V → List V} (x : α) (h : EvA p [] F n ta σ (Pre x)) (hg : ∀ z vs, gV [z] vs = z :: vs) (hk : (Pre x).length = kk) (hC : Cd x) (cc : CC C) (mo : ∀ fs F1 F2, Same F1 F2 → Post x fs F1 → Post x fs F2) :
    Ev p [] F n (tMakeK C 0 kk (spIni CC Cd Pre [] Post) gV E tNil ta) σ (VMk C (Post x)) := fun G a b Q q => by
  have z := Ev.makeI (E := E) x h hC cc mo G a b Q q
  show ta σ G fun zs H2 => [].length = 0 ∧ zs.length = kk ∧ ∀ x_1 dx, _
  refine h G a b _ fun vs F1 G1 x1 s1 => ?_
  refine ⟨rfl, by rw [s1.len, hk], ?_⟩
  have zz := Ev.makeI (E := E) (F := F1) (n := 0) (ta := fun _ H Q => Q vs H) (σ := σ) x (fun G a b Q q => q vs F1 G (Nx.refl a) s1) hC cc mo G1 (x1.at_ a) Bud.zero Q fun v F2 G2 x2 sv => q v F2 G2 (x1.trans x2) sv
  intro x' dx nx nd ne
  have := zz x' dx nx nd ne
  rw [List.append_nil] at this
  rw [hg]
  exact this
/-- C(..), C's __init__ by a positional promise -/
theorem Ev.makeR {sp : Sp} {W : List (Str × V) → Hp → Prop} (h1 : EvA p L F n ta σ Ss) (mo : ∀ fs F1 F2, Same F1 F2 → W fs F1 → W fs F2)
    (hr : ∀ a dx vs F' G, Same F F' → At p L F' G → Bud p l (Hd a G) → F' a = none → p ≠ some a → G a = some (.ins C dx []) → AllP Ss vs F' → ∀ Q : VK,
      (∀ fs F'' G', Nx p L l F' (Hd a G) F'' (Hd a G') → G' a = some (.ins C dx fs) → W fs F'' → Q .non G') → sp (.ref a :: vs) G Q E) : Ev p L F (n + l) (StX.tMakeR C sp E ta) σ (VMk C W) := by
  have z := Ev.make (E := E) (C := C) (sp := fun vs H Q E => sp vs H Q E) h1 mo (fun a dx vs F' G s at_ b Fa np ha al Q k => by rw [List.append_nil]; exact hr a dx vs F' G s at_ b Fa np ha al Q k)
  intro G a b Q q
  have := z G a b Q q
  unfold tMake at this
  unfold StX.tMakeR
  simpa using this
/-- facts behind a step, the instance put aside again there -/
theorem At.unhd {a : Addr} {F' G' : Hp} (at0 : At p [] F H) (Fa : F a = none) (np : p ≠ some a) (x : Nx p [] n F (Hd a H) F' (Hd a G')) : At p [] F' G' ∧ F' a = none := by
  refine ⟨⟨fun b o e => ?_, fun q e => ?_, fun q e => ?_, fun b hb => nomatch hb⟩, ?_⟩
  · rcases x.f b o e with ⟨m, y⟩ | ⟨m, ob, y⟩
    · exact .inl ⟨m, (Hd.un y).2⟩
    · exact .inr ⟨m, ob, (Hd.un y).2⟩
  · refine x.w q (at0.out q e) fun z => ?_
    unfold Hd at z
    rw [if_neg (fun c => np (by rw [e, c]))] at z
    exact at0.trk q e z
  · have z : Hd a H q ≠ none := fun z => by
      unfold Hd at z
      rw [if_neg (fun c => np (by rw [e, c]))] at z
      exact at0.trk q e z
    have z2 := x.r.trk z
    intro z3
    apply z2
    unfold Hd
    split
    · rfl
    · exact z3
  · cases h : F' a with
    | none => rfl
    | some o =>
      rcases x.f a o h with ⟨_, y⟩ | ⟨_, ob, y⟩ <;> exact absurd rfl (Hd.un y).1
/-- {k: v} -/
theorem Ev.disp1 {tk tv : TE} {ky : Key} [Mo S] (h1 : Ev p L F n tk σ (VKy ky)) (h2 : Ev p L F m tv σ S) : Ev p L F (n + m) (tDisp [(tk, tv)]) σ (VD [(ky, S)]) := fun G a b Q q d nd => by
  have DL := a.nl nd
  have Dp := a.np nd
  have y0 : Nx p L 0 F G F (L2.upd G d (.dK [])) := Nx.same a (Same.new (Same.refl G) nd)
  have a0 := y0.at_ a
  have F0 := a.nf nd
  have b0 : Bud p (n + m) (L2.upd G d (.dK [])) := Bud.step (n := 0) (by rw [Nat.zero_add]; exact b) y0.r
  refine h1 _ a0 (b0.le (by omega)) _ fun k F1 G1 x1 e1 => (h2.up x1.s) G1 (x1.at_ a0) (b0.step x1.r) _ fun v F2 G2 x2 sv => ?_
  have x02 := x1.trans x2
  have g2 : G2 d = some (.dK []) := x02.r.keep Dp upd_same
  have F2d : F2 d = none := x02.w d F0 (by rw [upd_same]; exact fun z => nomatch z)
  refine ⟨g2, [(ky, v)], by rw [show k = kV ky from e1]; rfl, by simp, ?_⟩
  have r2 : Rn p (n + m) G (L2.upd G2 d (.dK [(ky, v)])) := ((y0.r.trans x02.r).le (by omega)).mut nd
  have f2 : Fits L (L2.upd F2 d (.dK [(ky, v)])) (L2.upd G2 d (.dK [(ky, v)])) := fun c o e => by
    by_cases z : c = d
    · subst z
      rw [upd_same] at e ⊢
      exact .inl ⟨DL, e⟩
    · rw [upd_ne z] at e
      rw [upd_ne z]
      exact x02.f c o e
  exact q _ _ _ ⟨r2, Same.new x02.s F2d, f2, fun c e z => by
    have cd : c ≠ d := fun h => z (by rw [h]; exact nd)
    rw [upd_ne cd]
    exact x02.w c e (by rw [upd_ne cd]; exact z)⟩ ⟨d, _, rfl, upd_same, v, [], rfl, Mo.mo (Same.new (Same.refl F2) F2d) sv, rfl⟩
/-- a tuple's, a list's truth -/
theorem EvT.truT (h : Ev p L F n te σ (VT Ss)) : EvT p L F n (fun σ H Q => te σ H fun x H' => ∃ k, TruV K x H' k ∧ Q k H') σ (· = !Ss.isEmpty) := fun G a b Q q =>
  h G a b _ fun v F1 G1 x1 ⟨c, vs, e, hc, al⟩ => by
    subst e
    refine ⟨_, .inr (.inl ⟨vs, (x1.at_ a).sqt hc, rfl⟩), q _ F1 G1 x1 ?_⟩
    have := al.len
    cases vs <;> cases Ss <;> simp_all
theorem Srt.perm_len {ns l : List Int} (h : Srt ns l) : ns ≠ [] → l ≠ [] := fun hn hl => by
  cases ns with
  | nil => exact hn rfl
  | cons a r =>
    have := (h.2 a).mpr List.mem_cons_self
    rw [hl] at this
    cases this
def DysOk (ns : List Int) : Prop := ns.length ≤ 60 ∧ ∀ n ∈ ns, 0 ≤ n ∧ n ≤ 4
/-- the fields of an item -/
def PoI (x : List (List Nat × Int) × List Int) (fs : List (Str × V)) (F : Hp) : Prop := ∃ qs l, qs.Perm x.1 ∧ Asc qs ∧ Srt x.2 l ∧ AllF [("_parts", VP qs), ("_days", VT (l.map VI))] fs F
theorem PoI.mo {x : List (List Nat × Int) × List Int} {fs : List (Str × V)} {F G : Hp} (s : Same F G) : PoI x fs F → PoI x fs G := fun ⟨qs, l, a, b, c, d⟩ => ⟨qs, l, a, b, c, MoF.mo s d⟩
/-- what a class below Item is, seen by Item.__init__ -/
structure ItF (K : PySem.W.Frag) (It fL C : Addr) : Prop extends LnF K C where
  nD : NoAttr K C "_days"
  sp : SupM K C It fL "__init__"
/-- .. below Check -/
structure CkF (K : PySem.W.Frag) (It fL Ck fI C : Addr) : Prop extends ItF K It fL C where
  sq : SupM K C Ck fI "__init__"
/-- .. Count -/
structure CtF (K : PySem.W.Frag) (It fL Ck fI Ct fK C : Addr) : Prop extends CkF K It fL Ck fI C where
  sr : SupM K C Ct fK "__init__"
abbrev spLini (K : PySem.W.Frag) : Sp := spIni (LnF K) PsOk (fun ps => [VP ps]) [] PoL
abbrev spItem (CC : Addr → Prop) : Sp := spIni CC (fun x : List (List Nat × Int) × List Int => PsOk x.1 ∧ DysOk x.2) (fun x => [VP x.1, VT (x.2.map VI)]) [] PoI
abbrev spCheck (CC : Addr → Prop) : Sp := spIni CC (fun x : List (List Nat × Int) × List Int => PsOk x.1 ∧ DysOk x.2 ∧ x.2 ≠ []) (fun x => [VP x.1, VT (x.2.map VI)]) [] PoI
/-- o.f of a told instance -/
theorem ev_fldR {x dx : Addr} {fs : List (Str × V)} {f : Str} {c : V} (h : Ev p L F n te σ (VR x)) (hx : F x = some (.ins C dx fs)) (cl : Cls K C) (nt : NoAttr K C f) (hl : fs.lookup f = some c) : Ev p L F n (tFld K te f) σ (VC c) := fun G a b Q k =>
  h G a b _ fun v F1 G1 x1 e => ⟨x, C, dx, fs, c, e, (x1.at_ a).dkL (x1.s _ _ hx), cl, nt, hl, k c F1 G1 x1 rfl⟩
theorem allK_pD {ps : List (List Nat × Int)} {kvs : List (Key × V)} {F : Hp} (h : AllK (pD ps) kvs F) : kvs = ps.map fun q => (kyN q, V.int q.2) := by
  induction ps generalizing kvs with
  | nil => exact h
  | cons a r ih =>
    obtain ⟨v, t, e, e1, h⟩ := h
    rw [e, show v = .int a.2 from e1, ih h]
    rfl
/-- the same parts -/
def eqP (qs rs : List (List Nat × Int)) : Bool := decide (qs.length = rs.length) && qs.all fun p => decide (p ∈ rs)
theorem valV_pD {rs : List (List Nat × Int)} {k : Key} : valV (rs.map fun q => (kyN q, V.int q.2)) k = (rs.find? fun p => decide (kyN p = k)).map fun p => V.int p.2 := by
  unfold valV
  induction rs with
  | nil => rfl
  | cons a r ih =>
    rw [List.map_cons, List.find?_cons, List.find?_cons]
    by_cases c : kyN a = k
    · simp [c]
    · simpa [c] using ih
theorem shaped_int (i : Int) : SeqAt.shaped (.int i) = true := by unfold SeqAt.shaped; simp [PyData.canLay0, PyData.depth]
theorem nodup_fst {rs : List (List Nat × Int)} (nd : (rs.map (·.1)).Nodup) {a b : List Nat × Int} (ha : a ∈ rs) (hb : b ∈ rs) (e : a.1 = b.1) : a = b := by
  induction rs with
  | nil => cases ha
  | cons c r ih =>
    rw [List.map_cons, List.nodup_cons] at nd
    rcases List.mem_cons.mp ha with rfl | ha
    · rcases List.mem_cons.mp hb with rfl | hb
      · rfl
      · exact (nd.1 (List.mem_map.mpr ⟨b, hb, e.symm⟩)).elim
    · rcases List.mem_cons.mp hb with rfl | hb
      · exact (nd.1 (List.mem_map.mpr ⟨a, ‹a ∈ r›, e⟩)).elim
      · exact ih nd.2 ‹a ∈ r› ‹b ∈ r›
/-- == of dicts of parts -/
theorem ev_eqDD {neg : Bool} {qs rs : List (List Nat × Int)} (h1 : Ev p [] F n t1 σ (VP qs)) (h2 : Ev p [] F m t2 σ (VP rs)) (nd : (rs.map (·.1)).Nodup) : Ev p [] F (n + m) (tOp (rEqDD K neg) t1 t2) σ (VB (xor neg (eqP qs rs))) :=
  Ev.op0 h1 h2 fun v u F' G s a ⟨d, ka, e1, hd, al1⟩ ⟨d2, kb, e2, hd2, al2⟩ Q k => by
    have ea := allK_pD al1
    have eb := allK_pD al2
    have l1 := al1.len
    have l2 := al2.len
    unfold pD at l1 l2
    rw [List.length_map] at l1 l2
    refine ⟨d, d2, ka, kb, qs.all fun p => decide (p ∈ rs), e1, e2, a.raw (by simp) hd, a.raw (by simp) hd2, fun _ => ?_, k _ (by show V.bl _ = V.bl _; rw [l1, l2]; rfl)⟩
    rw [ea, eb]
    refine dat_hits (g := fun z => (rs.find? fun p => decide (kyN p = kyN z)).map fun p => V.int p.2) fun z hz => ⟨valV_pD, ?_⟩
    cases h : rs.find? fun p => decide (kyN p = kyN z) with
    | none =>
      refine .inl ⟨rfl, decide_eq_false fun hm => ?_⟩
      have := List.find?_eq_none.mp h z hm
      simp at this
    | some r =>
      have hr : kyN r = kyN z := by simpa using List.find?_some h
      have hm := List.mem_of_find?_eq_some h
      refine .inr ⟨.int r.2, .int z.2, .int r.2, rfl, .int _, .int _, shaped_int _, shaped_int _, ?_⟩
      show (z.2 == r.2) = _
      have hn : r.1 = z.1 := ofL_inj (Sum.inr.inj hr)
      by_cases c : z.2 = r.2
      · have : r = z := Prod.ext hn c.symm
        rw [← this]
        simp [hm]
      · have no : z ∉ rs := fun hz2 => by
          exact c (congrArg (·.2) (nodup_fst nd hm hz2 hn)).symm
        simp [c, no]
end
end HX

set_option Elab.async false
set_option linter.all false
set_option maxRecDepth 100000
set_option maxHeartbeats 2000000
/-! A55: tuple(text) -/
namespace HX
open PySem PySem.Spec PyProof.Rows L2
section
variable {X : Cx}
def rTupS : List V → Hp → VK → Prop := fun xs H Q => ∃ z : Str, xs = [.str z] ∧ z.cps.size ≤ 1000 ∧ ∀ q, H q = none → Q (.ref q) (upd H q (.tup (z.cps.toList.map fun c => V.str ⟨#[c]⟩)))
theorem call_tuple_strK (hc : X.calm = true) : CallR X (.type "tuple") rTupS := by
  intro pins s σ H xs us Q I r h
  obtain ⟨z, rfl, hz, q⟩ := h
  obtain ⟨u, rfl, rx⟩ := vals1 r
  obtain ⟨t, rfl⟩ : ∃ t, u = Value.str z t := rx
  have hz2 : z.cps.size ≤ sizeLine := by rw [sizeLine_eq]; omega
  refine call_tuple_str (I.ok.hd hc) z t (fun h' tk acc hk ia => ?_) hz2
  have n1 : acc.size = z.cps.size := ia.1
  have I1 : L2.Inv X pins σ H { s with heap := h' } := I.kept (t' := s.toks) hk
  refine ⟨.ref h'.objs.size, _, I1.laid (t' := tk) (fun b o e => Heap.get?_push_of_some _ e) (Nat.le_refl _) (show ObjOk X.prog X.w _ _ _ (.tup (z.cps.toList.map fun c => V.str ⟨#[c]⟩)) from ⟨by rw [List.length_map, Array.length_toList]; exact hz2, acc.toList, vals_of_at (by rw [List.length_map, Array.length_toList, Array.length_toList]; exact n1.symm) fun j x w h1 h2 => ?_, ?_⟩), rfl, q _ (I1.hok.fresh (Nat.le_refl _))⟩
  · obtain ⟨c, u, hc2, rfl⟩ := ia.2 j w (by rw [← Array.getElem?_toList]; exact h2)
    rw [List.getElem?_map, Array.getElem?_toList, hc2] at h1
    cases h1
    exact ⟨u, rfl⟩
  · have e3 : acc.toList.toArray = acc := by simp
    rw [e3]
    exact IsTup.new _ _
end
end HX

set_option Elab.async false
set_option linter.all false
set_option maxRecDepth 100000
set_option maxHeartbeats 4000000
namespace HX
open PySem PySem.Spec PyProof.Rows L2
/-- a heap without the pen's list, one more list, and the tables of code -/
def noTab : Option HO → Option HO
  | some (.tbl _) => none
  | x => x
def Hz (p q : Addr) (H : Hp) : Hp := fun b => if b = p ∨ b = q then none else noTab (H b)
/-- all but these stays -/
def Kz (p q : Addr) (H G : Hp) : Prop := ∀ b o, b ≠ p → b ≠ q → H b = some o → (∀ ps, o ≠ .tbl ps) → G b = some o
theorem noTab_some {x : Option HO} {o : HO} (h : noTab x = some o) : x = some o ∧ ∀ ps, o ≠ .tbl ps := by
  unfold noTab at h
  split at h
  · cases h
  · rename_i hn
    exact ⟨h, fun ps z => hn ps (by rw [← z]; exact h)⟩
theorem Hz.un {p q b : Addr} {H : Hp} {o : HO} (h : Hz p q H b = some o) : b ≠ p ∧ b ≠ q ∧ H b = some o ∧ ∀ ps, o ≠ .tbl ps := by
  unfold Hz at h
  split at h
  · cases h
  · rename_i hn
    obtain ⟨h1, h2⟩ := noTab_some h
    exact ⟨fun z => hn (.inl z), fun z => hn (.inr z), h1, h2⟩
theorem Hz.at_ {p q b : Addr} {H : Hp} {o : HO} (h1 : b ≠ p) (h2 : b ≠ q) (h : H b = some o) (ht : ∀ ps, o ≠ .tbl ps) : Hz p q H b = some o := by
  unfold Hz
  rw [if_neg (fun z => z.elim h1 h2), h]
  unfold noTab
  split
  · rename_i ps hp
    exact absurd (Option.some.inj hp) (ht ps)
  · rfl
theorem Hz.sub {p q : Addr} {H : Hp} : Same (Hz p q H) H := fun b o h => (Hz.un h).2.2.1
theorem Kz.hz {p q : Addr} {H G : Hp} (k : Kz p q H G) : Same (Hz p q H) (Hz p q G) := fun b o h =>
  let ⟨h1, h2, h3, h4⟩ := Hz.un h
  Hz.at_ h1 h2 (k b o h1 h2 h3 h4) h4
theorem Hz.turn {p q q' : Addr} {H : Hp} (n : H q' = none) : Same (Hz p q H) (Hz p q' H) := fun b o h =>
  let ⟨h1, _, h3, h4⟩ := Hz.un h
  Hz.at_ h1 (ne_of_none h3 n) h3 h4
theorem Kz.kp {p q : Addr} {H G : Hp} (k : Kp p H G) : Kz p q H G := fun b o n _ e _ => k b o n e
theorem Kz.same {p q : Addr} {H G : Hp} (k : Same H G) : Kz p q H G := fun b o _ _ e _ => k b o e
theorem Kz.extN {p q : Addr} {H G : Hp} (k : LamX.ExtN H G) : Kz p q H G := fun b o _ _ e t => k b o e t
theorem Kz.upd {p q : Addr} {H : Hp} {o : HO} : Kz p q H (L2.upd H q o) := fun b u _ n e _ => by rw [upd_ne n]; exact e
theorem Kz.new {p q r : Addr} {H : Hp} {o : HO} (n : H r = none) : Kz p q H (L2.upd H r o) := fun b u _ _ e _ => by rw [upd_ne (ne_of_none e n)]; exact e
theorem Kz.trans {p q : Addr} {H G J : Hp} (a : Kz p q H G) (b : Kz p q G J) : Kz p q H J := fun c o h1 h2 e t => b c o h1 h2 (a c o h1 h2 e t) t
theorem Kz.refl {p q : Addr} {H : Hp} : Kz p q H H := fun _ _ _ _ e _ => e
theorem Tabs.kz {T : List (Addr × Str)} {H G : Hp} {p l : Addr} {c : Int} (t : LamX.Tabs T H) (P : Pe H p l c) (k : Kp p H G) : LamX.Tabs T G := by
  obtain ⟨ns, c0, g, q, _⟩ := P
  exact Tabs.kp t q.at_ (fun _ z => by cases z) (fun _ z => by unfold LamX.CodeO at z; cases z) k
theorem Tabs.put {T : List (Addr × Str)} {H : Hp} {q : Addr} {xs : List V} {o : HO} (t : LamX.Tabs T H) (h : H q = some (.lst xs)) : LamX.Tabs T (L2.upd H q o) := fun x hx => by
  obtain ⟨ps, h1, h2, h3⟩ := t x hx
  refine ⟨ps, by rw [upd_ne (fun z => by rw [z, h] at h1; cases h1)]; exact h1, h2, fun pos cv hc => ?_⟩
  obtain ⟨c, e1, e2⟩ := h3 pos cv hc
  exact ⟨c, e1, by rw [upd_ne (fun z => by rw [z, h] at e2; unfold LamX.CodeO at e2; cases e2)]; exact e2⟩
/-- data that repr can show, by a look -/
theorem okD_by {d : PyData} (e : (d.showable && decide (d.depth ≤ 60) && d.leavesShort 1000 && decide (d.weight ≤ 10000)) = true) : OkD d := by
  simp only [Bool.and_eq_true, decide_eq_true_eq] at e
  exact ⟨e.1.1.1, e.1.1.2, e.1.2, e.2⟩
end HX

set_option Elab.async false
set_option linter.all false
set_option maxRecDepth 100000
set_option maxHeartbeats 2000000
/-! Z9: lists put together, turned, cut; texts walked over; dicts put aside and changed -/
namespace HX
open PySem PySem.Spec PyProof.Rows L2 NumText
section
variable {p : Option Addr} {q : Addr} {n m l : Nat} {F F0 F1 F2 G G0 G1 G2 H : Hp} {L : List Addr} {te t1 t2 t3 tk tv : TE} {tt : TT} {ta : TA} {wi : TI} {σ : L2.St} {S S1 S2 : Pr} {Ss Ts : List Pr} {K : PySem.W.Frag}
/-- list + list -/
theorem Ev.catL [MoL Ss] [MoL Ts] (h1 : Ev p L F n t1 σ (VL Ss)) (h2 : Ev p L F m t2 σ (VL Ts)) (hl : Ss.length + Ts.length ≤ 1000000 := by simp) : Ev p L F (n + m) (tOp rCat t1 t2) σ (VL (Ss ++ Ts)) :=
  Ev.op (l := 0) h1 h2 fun v u F' G s a _ ⟨c, vs, e1, hc, al⟩ ⟨d, us, e2, hd, al2⟩ Q k => by
    refine ⟨c, d, vs, us, e1, e2, a.lst hc, a.lst hd, by rw [al.len, al2.len, sizeLine_eq]; omega, fun t nt => ?_⟩
    have y := Nx.new a nt (.lst (vs ++ us))
    exact k _ _ _ y ⟨t, _, rfl, upd_same, (MoL.mo y.s al).app (MoL.mo y.s al2)⟩
theorem AllP.rev : ∀ {Ss : List Pr} {vs : List V}, AllP Ss vs F → AllP Ss.reverse vs.reverse F
  | [], _, h => by rw [show _ = [] from h]; rfl
  | S :: Ss, _, ⟨v, r, e, a, b⟩ => by rw [e, List.reverse_cons, List.reverse_cons]; exact b.rev.snoc a
theorem AllP.drop : ∀ (k : Nat) {Ss : List Pr} {vs : List V}, AllP Ss vs F → AllP (Ss.drop k) (vs.drop k) F
  | 0, _, _, h => h
  | k + 1, [], _, h => by rw [show _ = [] from h]; rfl
  | k + 1, S :: Ss, _, ⟨v, r, e, a, b⟩ => by rw [e]; exact b.drop k
/-- l[::-1] -/
theorem Ev.revL {α : Type} {zs : List α} {R : α → Pr} [∀ x, Mo (R x)] (h : Ev p L F n te σ (VL (zs.map R))) : Ev p L F n (tRevL K te) σ (VL (zs.reverse.map R)) := fun G a b Q q =>
  h G a b _ fun v F1 G1 x1 ⟨c, vs, e, hc, al⟩ => ⟨c, vs, e, (x1.at_ a).sql hc, fun t nt => by
    have y := Nx.new (x1.at_ a) nt (.lst vs.reverse)
    refine q _ _ _ (x1.trans y) ⟨t, _, rfl, upd_same, ?_⟩
    have := (MoL.mo y.s al).rev
    rwa [← List.map_reverse] at this⟩
/-- l[1:] -/
theorem Ev.cut1 {α : Type} {zs : List α} {R : α → Pr} [∀ x, Mo (R x)] (h : Ev p L F n te σ (VL (zs.map R))) (hl : zs.length ≤ 1000000) : Ev p L F n (tSl (rSlL K) te (tPart (tC (.int 1))) tNoPart) σ (VL ((zs.drop 1).map R)) := fun G a b Q q =>
  h G a b _ fun v F1 G1 x1 ⟨c, vs, e, hc, al⟩ => ⟨1, rfl, c, vs, e, (x1.at_ a).sql hc, fun t nt => by
    have len := al.len
    rw [List.length_map] at len
    have ec : cutV vs (some 1) none = vs.drop 1 := by
      unfold cutV
      cases vs with
      | nil => rfl
      | cons x r =>
        show List.take _ (List.drop (min 1 (r.length + 1)) (x :: r)) = r
        rw [show min 1 (r.length + 1) = 1 by omega]
        exact List.take_of_length_le (by show r.length ≤ r.length + 1 - min 1 (r.length + 1); omega)
    rw [ec]
    have y := Nx.new (x1.at_ a) nt (.lst (vs.drop 1))
    refine q _ _ _ (x1.trans y) ⟨t, _, rfl, upd_same, ?_⟩
    have := (MoL.mo y.s al).drop 1
    rwa [← List.map_drop] at this⟩
theorem pairs_to {α : Type} {ky : α → Key} {R : α → Pr} {F2 H' : Hp} : ∀ {zs : List α} {kvs : List (Key × V)} {ts : List Addr}, AllK (zs.map fun z => (ky z, R z)) kvs F2 → Paired (fun (t : Addr) (q : Key × V) => H' t = some (.tup [kV q.1, q.2])) ts kvs → (∀ t ∈ ts, F2 t = H' t) → AllP (zs.map fun z => VT [VKy (ky z), R z]) (ts.map V.ref) F2
  | [], _, ts, h, pr, _ => by
    rw [show _ = [] from h] at pr
    cases pr
    rfl
  | z :: zs, _, ts, ⟨v, r, e, hv, h⟩, pr, hm => by
    rw [e] at pr
    cases pr with
    | cons h1 h2 => exact ⟨_, _, rfl, ⟨_, _, rfl, (hm _ List.mem_cons_self).trans h1, _, _, rfl, rfl, _, _, rfl, hv, rfl⟩, pairs_to h h2 fun t ht => hm t (List.mem_cons_of_mem _ ht)⟩
/-- list(d.items()) -/
theorem Ev.itemsL {α : Type} {zs : List α} {ky : α → Key} {R : α → Pr} [∀ x, Mo (R x)] (h : Ev p [] F n te σ (VD (zs.map fun z => (ky z, R z)))) : Ev p [] F n (LiI.tListItems te) σ (VL (zs.map fun z => VT [VKy (ky z), R z])) := fun G a b Q q =>
  h G a b _ fun v F1 G1 x1 ⟨d, kvs, e, hd, al⟩ => ⟨d, kvs, e, (x1.at_ a).raw (by simp) hd, fun H' t ts sm nt nts nin ht pr => by
    have a1 := x1.at_ a
    have sf : Same F1 fun b => match F1 b with
      | some o => some o
      | none => if b = t ∨ b ∈ ts then H' b else none := fun b o h => by show (match F1 b with | some o => some o | none => _) = some o; rw [h]
    have off : ∀ b, F1 b = none → (b = t ∨ b ∈ ts) → (match F1 b with
      | some o => some o
      | none => if b = t ∨ b ∈ ts then H' b else none) = H' b := fun b h m => by rw [h]; exact if_pos m
    refine q (.ref t) (fun b => match F1 b with
      | some o => some o
      | none => if b = t ∨ b ∈ ts then H' b else none) H' ⟨by simpa using x1.r.trans (Rn.same (p := p) sm), x1.s.trans sf, fun b o h => ?_, fun b h z => ?_⟩ ?_
    · refine .inl ⟨by simp, ?_⟩
      cases h1 : F1 b with
      | some o1 =>
        have h2 : some o1 = some o := (sf b o1 h1).symm.trans h
        cases h2
        exact sm b _ (a1.same0 b _ h1)
      | none =>
        have h2 : (if b = t ∨ b ∈ ts then H' b else none) = some o := by
          have h3 : (match F1 b with | some o => some o | none => if b = t ∨ b ∈ ts then H' b else none) = some o := h
          rw [h1] at h3
          exact h3
        split at h2
        · exact h2
        · cases h2
    · have h1 := x1.w b h z
      have gb := x1.r.trk z
      show (match F1 b with | some o => some o | none => _) = none
      rw [h1]
      exact if_neg fun c => c.elim (fun c => gb (by rw [c]; exact nt)) fun c => gb (nts b c)
    · exact ⟨t, ts.map V.ref, rfl, (off t (a1.nf nt) (.inl rfl)).trans ht, pairs_to (MoK.mo sf al) pr fun u hu => off u (a1.nf (nts u hu)) (.inr hu)⟩⟩
/-- the signs of a text -/
theorem EvI.str {z : Str} (h : Ev p L F n te σ (VS z)) : EvI p L F n (iStr te) σ (z.cps.toList.map fun c => VS ⟨#[c]⟩) := fun G a b R q =>
  h G a b _ fun v F1 G1 x1 e => ⟨z, e, q _ F1 G1 x1 ⟨fun i H F' k hi s z' _ => (by show i < z.cps.size; simpa using hi), fun H F' k s z' _ => (by show z.cps.size ≤ _; simp), fun i H x H' F' k hi s z' _ y => by
    obtain ⟨rfl, c, hc, rfl⟩ := y
    exact ⟨F', _, Nx.refl z', by rw [List.getElem?_map, Array.getElem?_toList, hc]; rfl, rfl⟩⟩⟩
theorem Ev.tupS {z : Str} (h : EvA p L F n ta σ [VS z]) (hz : z.cps.size ≤ 1000) : Ev p L F n (tCB rTupS ta) σ (VT (z.cps.toList.map fun c => VS ⟨#[c]⟩)) := fun G a b Q q =>
  h G a b _ fun vs F1 G1 x1 s1 => by
    obtain ⟨v, rfl, e⟩ := one_all s1
    refine ⟨z, by rw [show v = .str z from e], hz, fun t nt => ?_⟩
    have y := Nx.new (x1.at_ a) nt (.tup (z.cps.toList.map fun c => V.str ⟨#[c]⟩))
    refine q _ _ _ (x1.trans y) ⟨t, _, rfl, upd_same, ?_⟩
    have : ∀ (cs : List Nat) (F : Hp), AllP (cs.map fun c => VS ⟨#[c]⟩) (cs.map fun c => V.str ⟨#[c]⟩) F := fun cs F => by
      induction cs with
      | nil => exact rfl
      | cons c r ih => exact ⟨_, _, rfl, rfl, ih⟩
    exact this _ _
/-! ### a dict put aside -/
/-- what was put aside is a fact again -/
theorem Nx.shown {d : Addr} {o : HO} (x : Nx p L n F0 G0 F2 (Hd d G2)) (h0 : G0 d = none) (e : G2 d = some o) (nl : d ∉ L) : F2 d = none ∧ Nx p L n F0 G0 F2 G2 := by
  have F2x : F2 d = none := by
    cases h : F2 d with
    | none => rfl
    | some o =>
      rcases x.f d o h with ⟨_, y⟩ | ⟨_, ob, y⟩ <;> exact absurd (Hd.un y).1 (fun c => c rfl)
  refine ⟨F2x, ?_, x.s, fun c o e => ?_, x.w⟩
  · have r := x.r
    have sb : Same (Hd d G2) G2 := Hd.sub
    have := r.trans (Rn.same (p := p) sb)
    simpa using this
  · rcases x.f c o e with ⟨m, y⟩ | ⟨m, ob, y⟩
    · exact .inl ⟨m, (Hd.un y).2⟩
    · exact .inr ⟨m, ob, (Hd.un y).2⟩
/-- a new dict, not a fact -/
theorem Nx.aside (a : At p L F G) {d : Addr} {o : HO} (nd : G d = none) : Nx p L 0 F G F (Hd d (L2.upd G d o)) := by
  have e : Hd d (L2.upd G d o) = G := by
    rw [hd_upd]
    funext c
    unfold Hd
    split
    · rename_i h
      rw [h]
      exact nd.symm
    · rfl
  rw [e]
  exact Nx.refl a
end
end HX

set_option Elab.async false
set_option linter.all false
set_option maxRecDepth 100000
set_option maxHeartbeats 1000000
/-! Z10: a dict (or another object) put aside, changed, a fact again -/
namespace HX
open PySem PySem.Spec PyProof.Rows L2 NumText
section
variable {p : Option Addr} {q d : Addr} {n m k l : Nat} {F F0 F1 F2 F' G G0 G1 G2 G' H : Hp} {L : List Addr} {te t1 t2 t3 tk tv : TE} {tt : TT} {ta : TA} {wi : TI} {σ : L2.St} {S S1 S2 : Pr} {Ss Ts : List Pr} {K : PySem.W.Frag} {o o' : HO}
theorem At.lift (a : At p L F (Hd d G)) : At p L F G := ⟨fun b o e => by
  rcases a.fits b o e with ⟨m, y⟩ | ⟨m, ob, y⟩
  · exact .inl ⟨m, (Hd.un y).2⟩
  · exact .inr ⟨m, ob, (Hd.un y).2⟩, a.out, fun q e z => a.trk q e (by unfold Hd; split; rfl; exact z), fun b hb => ⟨(a.lk b hb).1, let ⟨ob, kvs, e⟩ := (a.lk b hb).2; ⟨ob, kvs, (Hd.un e).2⟩⟩⟩
theorem At.hdF (a : At p L F (Hd d G)) : F d = none := by
  cases h : F d with
  | none => rfl
  | some o => rcases a.fits d o h with ⟨_, y⟩ | ⟨_, ob, y⟩ <;> exact absurd rfl (Hd.un y).1
theorem Bud.lift (b : Bud p n (Hd d G)) : Bud p n G := match p, b with
  | none, _ => trivial
  | some q, b => b.elim .inl fun ⟨k0, c, ⟨ns, c0, g, P, le⟩, l⟩ => .inr ⟨k0, c, ⟨ns, c0, g, ⟨(Hd.un P.at_).2, (Hd.un P.cel).2, P.ne, P.c0, P.g0⟩, le⟩, l⟩
/-- d is no fact, and holds o -/
structure As (p : Option Addr) (L : List Addr) (k : Nat) (F0 G0 : Hp) (d : Addr) (o : HO) (F G : Hp) : Prop where
  a : At p L F0 G0
  x : Nx p L k F0 G0 F (Hd d G)
  e : G d = some o
  h0 : G0 d = none
theorem As.np (A : As p L k F0 G0 d o F G) : p ≠ some d := A.a.np A.h0
theorem As.at_ (A : As p L k F0 G0 d o F G) : At p L F G := (A.x.at_ A.a).lift
theorem As.Fd (A : As p L k F0 G0 d o F G) : F d = none := (A.x.at_ A.a).hdF
theorem As.bud (A : As p L k F0 G0 d o F G) (b : Bud p (k + m) G0) : Bud p m G := (Bud.step b A.x.r).lift
theorem As.step (A : As p L k F0 G0 d o F G) (y : Nx p L m F G F' G') : As p L (k + m) F0 G0 d o F' G' :=
  ⟨A.a, A.x.trans (y.hd A.Fd (by rw [A.e]; exact fun z => nomatch z) A.np), y.r.keep A.np A.e, A.h0⟩
theorem As.put (A : As p L k F0 G0 d o F G) : As p L k F0 G0 d o' F (L2.upd G d o') := ⟨A.a, by rw [hd_upd]; exact A.x, upd_same, A.h0⟩
theorem As.nx (A : As p L k F0 G0 d o F G) : Nx p L k F0 G0 F G := (A.x.shown A.h0 A.e (A.a.nl A.h0)).2
theorem As.fact (A : As p L k F0 G0 d o F G) : Nx p L k F0 G0 (L2.upd F d o) G := A.nx.put A.h0 A.Fd A.e (A.a.nl A.h0)
theorem As.le (A : As p L k F0 G0 d o F G) (h : k ≤ m) : As p L m F0 G0 d o F G := ⟨A.a, A.x.le h, A.e, A.h0⟩
theorem rn_hdR (r : Rn p n G0 G) (h0 : G0 d = none) (np : p ≠ some d) : Rn p n G0 (Hd d G) := by
  have ne : ∀ {b o}, G0 b = some o → b ≠ d := fun e c => by rw [c, h0] at e; cases e
  cases p with
  | none => exact fun b o e => Hd.at_ (ne e) ((show Same G0 G from r) b o e)
  | some q =>
    have qd : q ≠ d := fun z => np (by rw [z])
    obtain ⟨r1, r2, r3⟩ := (r : Kp q G0 G ∧ _ ∧ _)
    refine ⟨fun b o nb e => Hd.at_ (ne e) (r1 b o nb e), fun z => ?_, fun k0 c P => ?_⟩
    · unfold Hd
      rw [if_neg qd]
      exact r2 z
    · obtain ⟨ns, c0, g, Pq, le⟩ := P
      have kd : k0 ≠ d := ne Pq.cel
      obtain ⟨ns', c0', g', Pq', le'⟩ := r3 k0 c ⟨ns, c0, g, Pq, le⟩
      exact ⟨ns', c0', g', ⟨Hd.at_ qd Pq'.at_, Hd.at_ kd Pq'.cel, Pq'.ne, Pq'.c0, Pq'.g0⟩, le'⟩
/-- a fact is forgotten -/
theorem As.of (a : At p L F0 G0) (x : Nx p L k F0 G0 F1 G1) (h0 : G0 d = none) (e : F1 d = some o) (nk : ∀ kvs, o = .dK kvs → d ∉ L) : As p L k F0 G0 d o (Hd d F1) G1 := by
  have a1 := x.at_ a
  have g1 : G1 d = some o := by
    rcases a1.fits d o e with ⟨_, y⟩ | ⟨z, _⟩
    · exact y
    · exact absurd z (a.nl h0)
  refine ⟨a, ⟨rn_hdR x.r h0 (a.np h0), fun b u h => Hd.at_ (fun c => by rw [c, a.nf h0] at h; cases h) (x.s b u h), fun b u h => ?_, fun b h z => ?_⟩, g1, h0⟩
  · obtain ⟨nb, h⟩ := Hd.un h
    rcases a1.fits b u h with ⟨m, y⟩ | ⟨m, ob, y⟩
    · exact .inl ⟨m, Hd.at_ nb y⟩
    · exact .inr ⟨m, ob, Hd.at_ nb y⟩
  · unfold Hd
    split
    · rfl
    · exact x.w b h z
/-- d[k] = v -/
theorem goPut {kvs : List (Key × V)} {ky : Key} {td ty tv : TE} {D : Ends} (A : As p L k F0 G0 d (.dK kvs) F G) (b : Bud p (k + n) G0) (hl : kvs.length ≤ 1000) (hv : Ev p L F n tv σ S) (hd : ∀ G (Q : VK), Q (.ref d) G → td σ G Q) (hk : ∀ F' G (Q : VK), Same F F' → At p L F' G → Q (kV ky) G → ty σ G Q)
    (go : ∀ v F' G', As p L (k + n) F0 G0 d (.dK (putK kvs ky v)) F' G' → Same F F' → S v F' → D.nx σ G') : sDPut td ty tv D σ G :=
  hv G A.at_ (A.bud b) _ fun v F1 G1 x1 s1 => by
    have A1 := A.step x1
    refine hd _ _ (hk F1 _ _ x1.s A1.at_ ⟨d, _, rfl, ?_, go v F1 _ A1.put x1.s s1⟩)
    exact DPut.k A1.e (by rw [sizeLine_eq]; omega)
theorem goIfJ {tt : TT} {u v r : TS} {D : Ends} {c : Bool} (J : L2.St → Hp → Prop) (h : EvT p L F n tt σ (· = c)) (a : At p L F G) (b : Bud p n G) (hr : ∀ σ' G', J σ' G' → r D σ' G')
    (h1 : c = true → ∀ F' G' N, Nx p L n F G F' G' → (∀ σ' G', J σ' G' → N σ' G') → u { D with nx := N } σ G') (h2 : c = false → ∀ F' G' N, Nx p L n F G F' G' → (∀ σ' G', J σ' G' → N σ' G') → v { D with nx := N } σ G') : tSeq (cIfS tt u v) r D σ G :=
  EvT.go h a b (fun e F' G' x => h1 e F' G' _ x hr) fun e F' G' x => h2 e F' G' _ x hr
/-! ### parts that are new -/
theorem New.old (s : Same F0 F) {v : V} (h : New F S v G) : New F0 S v G := ⟨h.1, fun a e => by
  cases z : F0 a with
  | none => rfl
  | some o =>
    have := h.2 a e
    rw [s _ _ z] at this
    cases this⟩
/-- a dict of parts, seen beside the facts F0 -/
def VPs (ps : List (List Nat × Int)) (F0 : Hp) : Pr := fun v F => VP ps v F ∧ Same F0 F
instance {ps : List (List Nat × Int)} {F0 : Hp} : Mo (VPs ps F0) := ⟨fun s h => ⟨Mo.mo s h.1, h.2.trans s⟩⟩
def PoLN (F0 : Hp) (ps : List (List Nat × Int)) (fs : List (Str × V)) (F : Hp) : Prop := ∃ qs, qs.Perm ps ∧ Asc qs ∧ AllF [("_parts", New F0 (VP qs))] fs F
theorem PoLN.mo {ps : List (List Nat × Int)} {fs : List (Str × V)} (s : Same F G) : PoLN F0 ps fs F → PoLN F0 ps fs G := fun ⟨qs, a, b, c⟩ => ⟨qs, a, b, MoF.mo s c⟩
theorem PoLN.weak {ps : List (List Nat × Int)} {fs : List (Str × V)} : PoLN F0 ps fs F → PoL ps fs F := fun ⟨qs, a, b, v, t, e, hv, h⟩ => ⟨qs, a, b, v, t, e, hv.1, h⟩
abbrev spLiniN (K : PySem.W.Frag) : Sp := spIni (LnF K) (fun x : List (List Nat × Int) × Hp => PsOk x.1) (fun x => [VPs x.1 x.2]) [] (fun x => PoLN x.2 x.1)
theorem spLini_N {vs : List V} {H : Hp} {Q : VK} {E : XK} (h : spLini K vs H Q E) : spLiniN K vs H Q E := by
  obtain ⟨ps, p, F, a, C, dx, ws, rfl, ok, at0, Fa, np, ha, cc, al, k⟩ := h
  obtain ⟨v, rfl, sv⟩ := one_all al
  exact ⟨(ps, F), p, F, a, C, dx, _, rfl, ok, at0, Fa, np, ha, cc, ⟨v, [], rfl, ⟨sv, Same.refl F⟩, rfl⟩, fun fs F' G x e po => k fs F' G x e po.weak⟩
end
end HX

set_option Elab.async false
set_option linter.all false
set_option maxRecDepth 100000
set_option maxHeartbeats 4000000
namespace LW
open PySem PySem.Spec PyProof.Rows L2 HX NumText
section
variable {P : Program} {w : World} {K : PySem.W.Frag} {mg : Str → Option Value} {base : Heap}

theorem ok_linit {f : Addr} {fd : FuncData} (F : Fun K "__init__" "Linear.__init__" s_Linear_init f fd) (T : Txt K mg) (cWp : CalO P w K mg base "wrong_part" 4 ["parts"] (spZ (fun Lk => Lk = []) PsOk (fun ps => [VP ps]) fun _ => VN) (fun _ => True)) : FnOk P w K mg base CX0 5 f fd ["self", "parts"] (spLiniN K) := by
  refine F.ok sc_Linear_init (fun vs H Q E h => ?_) (fun cdv A' outer s H vs Q E hr h => ?_)
  · obtain ⟨ps, p, F, a, C, dx, ws, rfl, _, _, _, _, _, _, al, _⟩ := h
    exact congrArg Nat.succ al.len
  · obtain ⟨⟨ps, F0⟩, p, F, a, C, dx, ws, rfl, ok, at0, Fa, np, ha, cc, al, k⟩ := h
    obtain ⟨v, rfl, sv, s0⟩ := one_all al
    have ok : PsOk ps := ok
    have sv : VP ps v F := sv
    have s0 : Same F0 F := s0
    refine ⟨_, (pss_cons (ps_set (i := 2) sc_Linear_init.nd rfl (Or.inl rfl) (pe_cO cWp (hr.mono (by decide)) (pa_cons (pc 1) pa_nil)))
    (pss_cons (s_if (t_cmp o_isnot (pc 2) pe_non) (pss_one ps_dead) pss_nil)
    (pss_one (ps_fld (pc 0) (pe_dc (own := [("account", 3)]) (g := gName 3) (tt := tYes) rfl sc_Linear_init.nd (pi_list (pe_callB cr_sortedS (by rfl) T.b_sorted (by decide +kernel) (pa_cons (pe_lock (pe_lc (own := [("account", 3)]) (g := gName 3) (tt := tYes) rfl sc_Linear_init.nd (pi_keys (pc 1)) (blkOk_by (own := [("account", 3)]) (N := n_Linear_init) (sc := defScope s_Linear_init) (by decide +kernel)) (fun _ _ _ _ _ => pg_name (i := 3) sc_Linear_init.nd rfl (Or.inl rfl)) (fun _ _ _ _ _ => pts_nil) (fun _ _ _ _ _ => (pe_callTy SkE.call_str_str (by rfl) T.b_str (by decide +kernel) (pa_cons (pc 3) pa_nil))))) pa_nil))) (blkOk_by (own := [("account", 3)]) (N := n_Linear_init) (sc := defScope s_Linear_init) (by decide +kernel)) (fun _ _ _ _ _ => pg_name (i := 3) sc_Linear_init.nd rfl (Or.inl rfl)) (fun _ _ _ _ _ => pts_nil) (fun _ _ _ _ _ => (pc 3)) (fun _ _ _ _ _ => (pe_dget (Nat.lt_of_le_of_lt (Nat.add_le_add_left (by decide : 1 ≤ 64) _) hr.units) (pc 1) (pc 3) (by exact fun _ _ => rfl)))) (by rfl))))), ?_⟩
    refine goSet (Ev.callZ ps (EvA.cons (Ev.var rfl sv) EvA.nil) ok rfl) at0 Bud.zero fun v1 F1 G1 x1 s1 => ?_
    have a1 := x1.at_ at0
    replace sv := Mo.mo x1.s sv
    refine goOn (EvT.b (Ev.isN (Ev.var rfl s1))) a1 Bud.zero fun F2 G2 x2 => ?_
    have a2 := x2.at_ a1
    replace sv := Mo.mo x2.s sv
    have l64 := ok.l64
    refine store_self (n := 0) (S := ExP (fun qs : List (List Nat × Int) => qs.Perm ps ∧ Asc qs) fun qs => New F0 (VP qs)) ?_ a2 Bud.zero rfl ((x1.trans x2).r.keep np ha) np cc.cl cc.nP (by decide) fun u F3 G3 x3 su e3 => ?_
    · have sv0 := sv
      obtain ⟨d, kvs, rfl, hd, al⟩ := sv
      refine Ev.exI (n := 0) (m := 0) (P := fun ys : List Str => ys.Perm (ps.map fun p => ofL p.1) ∧ sortedS ys = true) (R := fun ys => VL (ys.map VS)) (ctx := fun t => tDc (iList K t) (gName 3) tYes (cV 3) (tDGet (cV 1) (cV 3)) [3]) ?_ (fun ys u F' hy s hu => ?_) (fun _ _ h => h)
      · refine Ev.sortedS (EvA.cons (Ev.lock hd (by simp) ?_) EvA.nil) (by rw [List.length_map]; omega)
        rw [List.map_map]
        refine Ev.lc0 (R := fun p => VKy (kyN p)) (R' := fun p => VS (ofL p.1)) ?_ (fun z hz x F' s hx => ?_) (by omega)
        · exact EvI.keysM (zs := ps) (Ev.var rfl rfl) hd al
        · exact ⟨[some (.ref a), some (.ref d), some v1, some x], rfl, fun G Q _ h => h, Ev.strS (EvA.cons (Ev.var rfl hx) EvA.nil)⟩
      · obtain ⟨pm, srt⟩ := hy
        obtain ⟨qs, q1, rfl⟩ := perm_lift (fun p : List Nat × Int => ofL p.1) pm.symm ps rfl
        have okq := ok.perm q1
        have l64 := okq.l64
        refine Ev.toX qs ⟨q1, srt⟩ ?_
        rw [List.map_map] at hu
        refine Ev.to (S := New F' (VP qs)) ?_ fun _ _ _ h => h.old ((s0.trans (x1.trans x2).s).trans s)
        exact Ev.dcN0 (zs := qs) (R' := fun p => VI p.2) (ky' := kyN) (EvI.list (Ev.c (S := VL (qs.map fun p : List Nat × Int => VS (ofL p.1))) hu)) (fun z hz x F'' s2 hx => ⟨[some (.ref a), some (.ref d), some v1, some x], rfl, fun G Q _ h => h, Ev.var rfl hx, Ev.dget (ps := pD ps) (k := kyN z) (Ev.var rfl (Mo.mo (s.trans s2) sv0)) (Ev.var rfl hx) (pD_val ok.nd (q1.mem_iff.mp hz))⟩) (kyN_nd okq.nd) (by omega)
    · obtain ⟨qs, ⟨q1, q2⟩, su⟩ := su
      have x13 := (x1.trans x2).trans x3
      exact k _ F3 _ (x13.self Fa (by rw [ha]; exact fun z => nomatch z) np) upd_same ⟨qs, q1, q2, u, [], rfl, su, rfl⟩

end
end LW

set_option Elab.async false
set_option linter.all false
set_option maxRecDepth 100000
set_option maxHeartbeats 4000000
namespace LW
open PySem PySem.Spec PyProof.Rows L2 HX NumText
section
variable {P : Program} {w : World} {K : PySem.W.Frag} {mg : Str → Option Value} {base : Heap}

theorem ok_lacc {f C : Addr} {fd : FuncData} (F : Fun K "accounts" "Linear.accounts" s_Linear_accounts f fd) (T : Txt K mg) (l : LnF K C) : FnOk P w K mg base CX0 1 f fd ["self"] (spZ (fun Lk => Lk = []) (fun _ => True) (fun qs => [VLc C qs]) fun qs => VT (qs.map fun p => VS (ofL p.1))) := by
  refine F.ok sc_Linear_accounts (fun vs H Q E h => ?_) (fun cdv A' outer s H vs Q E hr h => ?_)
  · obtain ⟨qs, p, Lk, F, _, _, _, al, _⟩ := h
    exact al.len
  · obtain ⟨qs, p, _, F, _, rfl, a, al, k⟩ := h
    obtain ⟨v, rfl, sv⟩ := one_all al
    refine ⟨_, (pss_one (ps_ret (pe_callTy (call_tuple_dK rfl) (by rfl) T.b_tuple (by decide +kernel) (pa_cons (pe_fld (pc 0) rfl) pa_nil)))), ?_⟩
    refine goRet (Ev.tupD (ps := pD qs) (EvA.cons (ev_parts (Ev.var rfl sv) l) EvA.nil)) a Bud.zero fun u F1 G1 x1 su => ?_
    unfold pD at su
    rw [List.map_map] at su
    exact k _ _ _ x1 su
theorem ok_lcon {f C : Addr} {fd : FuncData} (F : Fun K "__contains__" "Linear.__contains__" s_Linear_contains f fd) (T : Txt K mg) (l : LnF K C) : FnOk P w K mg base CX0 1 f fd ["self", "account"] (spZ (fun Lk => Lk = []) (fun _ => True) (fun x : List (List Nat × Int) × Option Str => [VLc C x.1, VQ x.2]) fun x => VB (hasK x.1 x.2)) := by
  refine F.ok sc_Linear_contains (fun vs H Q E h => ?_) (fun cdv A' outer s H vs Q E hr h => ?_)
  · obtain ⟨qs, p, Lk, F, _, _, _, al, _⟩ := h
    exact al.len
  · obtain ⟨⟨qs, o⟩, p, _, F, _, rfl, a, al, k⟩ := h
    obtain ⟨v, u, rfl, sv, su⟩ := two_all al
    refine ⟨_, (pss_one (ps_ret (e_and (pe_callB c_isi (by rfl) T.b_isinstance (by decide +kernel) (pa_cons (pc 1) (pa_cons (pe_bltn (v := .ty "str") (u := .type "str") (by rfl) T.b_str (by decide +kernel) rfl) pa_nil))) (pe_one (pe_cmp (pc_din (Nat.lt_of_le_of_lt (Nat.add_le_add_left (by decide : 1 ≤ 64) _) hr.units) (pc 1) (pe_fld (pc 0) rfl))))))), ?_⟩
    cases o with
    | some z =>
      refine goRet (Ev.and (Ev.isi (b := true) (EvA.cons (Ev.var rfl su) (EvA.cons (Ev.c rfl) EvA.nil)) (fun v F' G _ a h => by rw [show v = .str z from h]; exact .str z) (fun u r => r) (kit_ty (by show kitB _ _ = some true; decide +kernel))) fun _ => Ev.din (k := .inr z) (Ev.var rfl su) (ev_parts (Ev.var rfl sv) l)) a Bud.zero fun u F1 G1 x1 su => ?_
      exact k _ _ _ x1 su
    | none =>
      obtain ⟨t, ty, tm⟩ := VNs.ty (K := K) a (show VNs u F from su)
      refine ⟨u, .ty "str", .type t, _, false, rfl, ty, (fun u r => r), kit_str t tm, fun e => (nomatch e), fun _ => k _ F H (Nx.refl a) rfl⟩
theorem ok_lget {f fC C : Addr} {fd fdC : FuncData} (F : Fun K "__getitem__" "Linear.__getitem__" s_Linear_getitem f fd) (T : Txt K mg) (l : LnF K C) (hs : PySem.W.findIn K (.ref C) "__contains__" = some (some (.ref fC))) (hf : PySem.W.isFn K (.ref fC) = true) (bC : Binds K fdC ["self", "account"] []) (FC : FnOk P w K mg base CX0 1 fC fdC ["self", "account"] (spZ (fun Lk => Lk = []) (fun _ => True) (fun x : List (List Nat × Int) × Option Str => [VLc C x.1, VQ x.2]) fun x => VB (hasK x.1 x.2))) : FnOk P w K mg base CX0 2 f fd ["self", "account"] (spZ (fun Lk => Lk = []) (fun _ => True) (fun x : List (List Nat × Int) × Option Str => [VLc C x.1, VQ x.2]) fun x => VI (getK x.1 x.2)) := by
  refine F.ok sc_Linear_getitem (fun vs H Q E h => ?_) (fun cdv A' outer s H vs Q E hr h => ?_)
  · obtain ⟨qs, p, Lk, F, _, _, _, al, _⟩ := h
    exact al.len
  · obtain ⟨⟨qs, o⟩, p, _, F, _, rfl, a, al, k⟩ := h
    obtain ⟨v, u, rfl, sv, su⟩ := two_all al
    refine ⟨_, (pss_cons (s_if (t_cmp (op_notInO hs hf FC bC (hr.mono (by decide)) pass0) (pc 1) (pc 0)) (pss_one (ps_ret pe_int)) pss_nil)
    (pss_one (ps_ret (pe_dget (Nat.lt_of_le_of_lt (Nat.add_le_add_left (by decide : 1 ≤ 64) _) hr.units) (pe_fld (pc 0) rfl) (pc 1) (by exact fun _ _ => rfl))))), ?_⟩
    have sv0 := sv
    obtain ⟨x, dx, fs, u0, rfl, hx, hl, hu⟩ := sv
    have t1 : EvT p [] F 0 (cT (tOp (rInO C true (spZ (fun Lk => Lk = []) (fun _ => True) (fun x : List (List Nat × Int) × Option Str => [VLc C x.1, VQ x.2]) fun x => VB (hasK x.1 x.2)) E0) (cV 1) (cV 0))) [some (.ref x), some u] (· = !hasK qs o) := EvT.b (Ev.op (l := 0) (S1 := VQ o) (S2 := VLc C qs) (Ev.var rfl su) (Ev.var rfl sv0) fun v' u' F' G s a _ e1 e2 Q k => by
      obtain ⟨x', dx', fs', u1, rfl, hx', hl', hu'⟩ := e2
      exact ⟨x', rfl, ⟨dx', fs', a.dkL hx'⟩, (qs, o), p, [], F', trivial, rfl, a, ⟨_, _, rfl, ⟨x', dx', fs', u1, rfl, hx', hl', hu'⟩, _, _, rfl, e1, rfl⟩, fun z F'' G' y sz => ⟨hasK qs o, sz, k _ F'' G' y (by show V.bl _ = V.bl _; rw [Bool.true_xor])⟩⟩)
    refine goIfR t1 a Bud.zero (fun e F1 G1 x1 => ?_) fun e F1 G1 x1 => ?_
    · have e0 : getK qs o = 0 := by
        cases o with
        | none => rfl
        | some z =>
          have e : hasK qs (some z) = false := by simpa using e
          unfold hasK at e
          show ((qs.find? fun p => decide (kyN p = .inr z)).map (·.2)).getD 0 = 0
          simp only [valP_get] at e
          cases h : qs.find? fun p => decide (kyN p = .inr z) with
          | none => rfl
          | some p => rw [h] at e; cases e
      exact k _ F1 G1 x1 (by show V.int 0 = _; rw [e0])
    · have a1 := x1.at_ a
      cases o with
      | none => cases e
      | some z =>
        have e : hasK qs (some z) = true := by simpa using e
        unfold hasK at e
        simp only [valP_get] at e
        cases h : qs.find? fun p => decide (kyN p = .inr z) with
        | none => rw [h] at e; cases e
        | some q =>
          have e0 : getK qs (some z) = q.2 := by show ((qs.find? _).map _).getD 0 = _; rw [h]; rfl
          refine goRet (Ev.dget (ps := pD qs) (k := .inr z) (S := VI q.2) (ev_parts (Ev.var rfl (Mo.mo x1.s sv0)) l) (Ev.var (k := 1) (v := u) rfl su) (by rw [valP_get, h]; rfl)) a1 Bud.zero fun w F2 G2 x2 sw => ?_
          rw [← e0] at sw
          exact k _ F2 G2 (x1.trans x2) sw
theorem ok_llen {f C : Addr} {fd : FuncData} (F : Fun K "__len__" "Linear.__len__" s_Linear_len f fd) (T : Txt K mg) (l : LnF K C) : FnOk P w K mg base CX0 1 f fd ["self"] (spZ (fun Lk => Lk = []) (fun _ => True) (fun qs => [VLc C qs]) fun qs => VI qs.length) := by
  refine F.ok sc_Linear_len (fun vs H Q E h => ?_) (fun cdv A' outer s H vs Q E hr h => ?_)
  · obtain ⟨qs, p, Lk, F, _, _, _, al, _⟩ := h
    exact al.len
  · obtain ⟨qs, p, _, F, _, rfl, a, al, k⟩ := h
    obtain ⟨v, rfl, sv⟩ := one_all al
    refine ⟨_, (pss_one (ps_ret (pe_callB call_lenD (by rfl) T.b_len (by decide +kernel) (pa_cons (pe_fld (pc 0) rfl) pa_nil)))), ?_⟩
    refine goRet (Ev.lenD (ps := pD qs) (EvA.cons (ev_parts (Ev.var rfl sv) l) EvA.nil)) a Bud.zero fun u F1 G1 x1 su => ?_
    unfold pD at su
    rw [List.length_map] at su
    exact k _ _ _ x1 su

end
end LW

set_option Elab.async false
set_option linter.all false
set_option maxRecDepth 100000
set_option maxHeartbeats 4000000
namespace LW
open PySem PySem.Spec PyProof.Rows L2 HX NumText
section
variable {P : Program} {w : World} {K : PySem.W.Frag} {mg : Str → Option Value} {base : Heap}

def neg1 (p : List Nat × Int) : List Nat × Int := (p.1, -p.2)
theorem psok_neg {qs : List (List Nat × Int)} (ok : PsOk qs) : PsOk (qs.map neg1) := by
  refine ⟨by rw [List.map_map]; exact ok.nd, by rw [List.length_map]; exact ok.l64, fun p hp => ?_⟩
  obtain ⟨q, hq, rfl⟩ := List.mem_map.mp hp
  obtain ⟨a, b, c, d⟩ := ok.all q hq
  exact ⟨a, by show -9 ≤ -q.2; omega, by show -q.2 ≤ 9; omega, by show -q.2 ≠ 0; omega⟩
/-- a new Linear with such parts -/
abbrev VLn (Ln : Addr) (ps : List (List Nat × Int)) : Pr := VMk Ln (PoL ps)
theorem vln_c {Ln : Addr} {ps : List (List Nat × Int)} {v : V} {F : Hp} (h : VLn Ln ps v F) : ∃ qs, qs.Perm ps ∧ Asc qs ∧ VO Ln [("_parts", VP qs)] v F := by
  obtain ⟨a, dx, fs, e, ha, qs, q1, q2, al⟩ := h
  exact ⟨qs, q1, q2, a, dx, fs, e, ha, al⟩
theorem vo_c {C : Addr} {qs : List (List Nat × Int)} {r : List (Str × Pr)} {v : V} {F : Hp} (h : VO C (("_parts", VP qs) :: r) v F) : VLc C qs v F := by
  obtain ⟨a, dx, fs, e, ha, u, t, rfl, hu, _⟩ := h
  exact ⟨a, dx, _, u, e, ha, rfl, hu⟩
theorem ok_lneg {f C Ln fL : Addr} {fd fdL : FuncData} (F : Fun K "__neg__" "Linear.__neg__" s_Linear_neg f fd) (T : Txt K mg) (l : LnF K C) (gLin : mg "Linear" = some (.ref Ln)) (mL : Mk K Ln fL) (FL : FnOk P w K mg base CX0 5 fL fdL ["self", "parts"] (spLini K)) (bL : Binds K fdL ["self", "parts"] []) (lL : LnF K Ln) : FnOk P w K mg base CX0 7 f fd ["self"] (spZ (fun Lk => Lk = []) PsOk (fun qs => [VLc C qs]) fun qs => VLn Ln (qs.map neg1)) := by
  refine F.ok sc_Linear_neg (fun vs H Q E h => ?_) (fun cdv A' outer s H vs Q E hr h => ?_)
  · obtain ⟨qs, p, Lk, F, _, _, _, al, _⟩ := h
    exact al.len
  · obtain ⟨qs, p, _, F, ok, rfl, a, al, k⟩ := h
    obtain ⟨v, rfl, sv⟩ := one_all al
    have l64 := ok.l64
    refine ⟨_, (pss_one (ps_ret (pe_make mL FL (hr.mono (by decide)) rfl gLin bL .nil pass0 (pa_cons (pe_lock (pe_dc (own := [("account", 1), ("part", 2)]) (g := gTup K 2 (gCons (gName 1) (gCons (gName 2) gNil))) (tt := tYes) rfl sc_Linear_neg.nd (pi_items (pe_fld (pc 0) rfl)) (blkOk_by (own := [("account", 1), ("part", 2)]) (N := n_Linear_neg) (sc := defScope s_Linear_neg) (by decide +kernel)) (fun _ _ _ _ _ => (by exact pg_tup rfl (pgs_cons (pg_name (i := 1) sc_Linear_neg.nd rfl (Or.inl rfl)) (pgs_cons (pg_name (i := 2) sc_Linear_neg.nd rfl (Or.inl rfl)) pgs_nil)))) (fun _ _ _ _ _ => pts_nil) (fun _ _ _ _ _ => (pc 1)) (fun _ _ _ _ _ => (pe_un un_neg (pc 2))))) pa_nil)))), ?_⟩
    obtain ⟨x, dx, fs, u, rfl, hx, hl, d, kvs, rfl, hd, al⟩ := sv
    refine goRet (n := 0) (S := VLn Ln (qs.map neg1)) (Ev.makeI (qs.map neg1) (EvA.cons (n := 0) (m := 0) (Ev.lock hd (by simp) ?_) EvA.nil) (psok_neg ok) lL (fun fs F1 F2 s h => h.mo s)) a Bud.zero fun u F1 G1 x1 su => k _ _ _ x1 su
    unfold VP pD
    rw [List.map_map]
    refine Ev.dc0 (zs := qs) (R := fun p => VT [VKy (kyN p), VI p.2]) (ky' := kyN) (R' := fun p => VI (-p.2)) ?_ (fun z hz y F' s hy => ?_) (kyN_nd ok.nd) (by omega)
    · exact EvI.itemsM (zs := qs) (R := fun p => VI p.2) (ky := kyN) (ev_fldR (Ev.var rfl rfl) hx l.cl l.nP hl) hd al
    · obtain ⟨c, ws, rfl, hc, k1, r1, rfl, hk1, v1, r2, rfl, hv1, e3⟩ := hy
      refine ⟨[some (.ref x), some k1, some v1], rfl, fun G Q a h => ?_, Ev.var rfl hk1, Ev.neg (Ev.var rfl hv1)⟩
      exact gP_go (F := F') (S1 := VKy (kyN z)) (S2 := VI z.2) ⟨c, _, rfl, hc, k1, _, rfl, hk1, v1, _, rfl, hv1, e3⟩ a fun u' v' hu' hv' => by
        rw [show u' = k1 from hu'.trans hk1.symm, show v' = v1 from hv'.trans hv1.symm]
        exact h
/-- a Linear, or what is none -/
def VQL (Ln : Addr) : Option (List (List Nat × Int)) → Pr
  | some rs => VO Ln [("_parts", VP rs)]
  | none => VNs
instance {Ln : Addr} {o : Option (List (List Nat × Int))} : Mo (VQL Ln o) := by cases o <;> unfold VQL <;> infer_instance
def eqQ (qs : List (List Nat × Int)) : Option (List (List Nat × Int)) → Bool
  | some rs => eqP qs rs
  | none => false
theorem ok_leq {f Ln : Addr} {fd : FuncData} {uW : Value} (F : Fun K "__eq__" "Linear.__eq__" s_Linear_eq f fd) (T : Txt K mg) (gLin : mg "Linear" = some (.ref Ln)) (lL : LnF K Ln) (cW : Con K Ln "WORD" (.str "linear") uW) (kL : PySem.W.kitOne K (.ref Ln) (.ref Ln) = some true) (hN : ∀ t ∈ ["NoneType", "int", "bool", "list", "tuple", "dict"], PySem.W.kitOne K (.type t) (.ref Ln) = some false) (tyL : ∀ {H : Hp} {a dx : Addr} {fs : List (Str × V)}, H a = some (.ins Ln dx fs) → TyOf K H (.ref a) (.ref Ln)) :
    FnOk P w K mg base CX0 2 f fd ["self", "other"] (spZ (fun Lk => Lk = []) (fun x : List (List Nat × Int) × Option (List (List Nat × Int)) => ∀ rs, x.2 = some rs → (rs.map (·.1)).Nodup) (fun x => [VO Ln [("_parts", VP x.1)], VQL Ln x.2]) fun x => VB (eqQ x.1 x.2)) := by
  refine F.ok sc_Linear_eq (fun vs H Q E h => ?_) (fun cdv A' outer s H vs Q E hr h => ?_)
  · obtain ⟨qs, p, Lk, F, _, _, _, al, _⟩ := h
    exact al.len
  · obtain ⟨⟨qs, o⟩, p, _, F, nd, rfl, a, al, k⟩ := h
    obtain ⟨v, u, rfl, sv, su⟩ := two_all al
    refine ⟨_, (pss_one (ps_ret (e_and (pe_callB c_isi (by rfl) T.b_isinstance (by decide +kernel) (pa_cons (pc 1) (pa_cons (p_gc gLin) pa_nil))) (e_and (p_cmp (o_eq hr.units) (pe_con (pc 0) (by rfl)) (pe_con (pc 1) (by rfl))) (pe_one (p_cmp (op_eqDD (hr.mono (by decide))) (pe_fld (pc 0) rfl) (pe_fld (pc 1) rfl))))))), ?_⟩
    cases o with
    | some rs =>
      have su : VO Ln [("_parts", VP rs)] u F := su
      have sv : VO Ln [("_parts", VP qs)] v F := sv
      refine goRet (n := 0) (S := VB (eqP qs rs)) ?_ a Bud.zero fun u F1 G1 x1 su => k _ _ _ x1 su
      refine Ev.bt (c := true && (xor false (decide ((Str.ofString "linear") = Str.ofString "linear")) && xor false (eqP qs rs))) ?_ (by simp)
      refine Ev.and (n := 0) (m := 0) ?_ fun _ => Ev.and (n := 0) (m := 0) ?_ fun _ => ?_
      · exact Ev.isi (t := .ref Ln) (EvA.cons (Ev.var rfl su) (EvA.cons (Ev.c rfl) EvA.nil)) (fun v F' G _ a ⟨o, dx, fs, e, ho, _⟩ => by rw [e]; exact tyL (a.dkL ho)) (fun u r => r) kL
      · exact Ev.eqS (Ev.con (c := .str "linear") (Ev.var rfl sv) lL.cl cW rfl) (Ev.con (c := .str "linear") (Ev.var rfl su) lL.cl cW rfl)
      · exact ev_eqDD (ev_parts (Ev.var rfl (vo_c sv)) lL) (ev_parts (Ev.var rfl (vo_c su)) lL) (nd rs rfl)
    | none =>
      obtain ⟨t, ty, tm⟩ := VNs.ty (K := K) a (show VNs u F from su)
      exact ⟨u, .ref Ln, .type t, _, false, rfl, ty, (fun u r => r), hN t tm, fun e => (nomatch e), fun _ => k _ F H (Nx.refl a) rfl⟩

end
end LW

set_option Elab.async false
set_option linter.all false
set_option maxRecDepth 100000
set_option maxHeartbeats 4000000
namespace LW
open PySem PySem.Spec PyProof.Rows L2 HX NumText
section
variable {P : Program} {w : World} {K : PySem.W.Frag} {mg : Str → Option Value} {base : Heap}

theorem ok_asc {f Dt : Addr} {fd : FuncData} (F : Fun K "ascending_days" "ascending_days" s_ascending_days f fd) (T : Txt K mg) (gDt : mg "Dated" = some (.ref Dt)) (rD : ClX.CRead K Dt (.type "type")) (cD : ∃ t, ClX.CVal K Dt (.type "type") "LAST" (.int 4) (.int 4 t)) (cW : CalO P w K mg base "is_int_within" 2 ["value", "least", "most"] spWithI (fun _ => True)) : FnOk P w K mg base CX0 4 f fd ["days"] (spZ (fun _ => True) DysOk (fun ns => [VT (ns.map VI)]) fun ns => ExP (Srt ns) fun l => VT (l.map VI)) := by
  obtain ⟨tD, cD⟩ := cD
  refine F.ok sc_ascending_days (fun vs H Q E h => ?_) (fun cdv A' outer s H vs Q E hr h => ?_)
  · obtain ⟨ns, p, Lk, F, _, _, _, al, _⟩ := h
    exact al.len
  · obtain ⟨ns, p, Lk, F, ok, _, a, al, k⟩ := h
    obtain ⟨v, rfl, sv⟩ := one_all al
    refine ⟨_, (pss_cons (ps_for PassesOwn.never rfl (pi_tup (pc 0)) (pg_name (i := 1) sc_ascending_days.nd rfl (Or.inl rfl)) (pss_one (s_if (pt_not (t_val (pe_cO cW (hr.mono (by decide)) (pa_cons (pc 1) (pa_cons pe_int (pa_cons (ClX.pe_cval (p_gc gDt)) pa_nil)))))) (pss_one ps_dead) pss_nil)))
    (pss_one (ps_ret (pe_callTy call_tuple_of (by rfl) T.b_tuple (by decide +kernel) (pa_cons (pe_callB (cr_sortedSet rfl) (by rfl) T.b_sorted (by decide +kernel) (pa_cons (pe_callTy (cr_setL rfl) (by rfl) T.b_set (by decide +kernel) (pa_cons (pe_lc (own := [("day", 1)]) (g := gName 1) (tt := tYes) rfl sc_ascending_days.nd (pi_tup (pc 0)) (blkOk_by (own := [("day", 1)]) (N := n_ascending_days) (sc := defScope s_ascending_days) (by decide +kernel)) (fun _ _ _ _ _ => pg_name (i := 1) sc_ascending_days.nd rfl (Or.inl rfl)) (fun _ _ _ _ _ => pts_nil) (fun _ _ _ _ _ => (pe_callTy c_int (by rfl) T.b_int (by decide +kernel) (pa_cons (pc 1) pa_nil)))) pa_nil)) pa_nil)) pa_nil))))), ?_⟩
    refine forZ (n0 := 0) (n := 0) (xs := ns.map VI) (F := F) (p := p) (L := Lk) ?_ a (by simpa using Bud.zero) (fun _ σ' _ => ∃ o, σ' = [some v, o]) (fun _ _ => ⟨none, rfl⟩) ?_ (fun _ _ _ _ _ h => h) ?_
    · exact EvI.tup (Ev.var rfl sv)
    · rintro i S x σ1 F1 H1 eS hx sF a1 rn b1 ⟨o, rfl⟩ N hN
      rw [List.getElem?_map] at eS
      obtain ⟨n, hn, rfl⟩ := Option.map_eq_some_iff.mp eS
      obtain ⟨n0, n4⟩ := ok.2 n (List.mem_of_getElem? hn)
      refine gN_go ?_
      refine EvT.go (n := 0) (c := false) (p := p) (L := Lk) (F := F1) ?_ a1 Bud.zero (fun e => nomatch e) fun _ F2 G2 x2 => hN [some v, some x] F2 G2 x2 ⟨_, rfl⟩
      refine EvT.bt (c := !(decide ((0 : Int) ≤ n) && decide (n ≤ 4))) ?_ (by simp [n0, n4])
      refine EvT.not (EvT.b ?_)
      exact ev_within (EvA.cons (Ev.var rfl hx) (EvA.cons (Ev.c rfl) (EvA.cons (Ev.cval (Ev.c rfl) rD cD) EvA.nil)))
    · rintro σ' F1 G1 x1 ⟨o, rfl⟩
      have x1' : Nx p Lk 0 F H F1 G1 := x1.le (by simp)
      dsimp only
      refine goRet (n := 0) (p := p) (L := Lk) (F := F1) (S := ExP (Srt ns) fun l => VT (l.map VI)) ?_ (x1'.at_ a) Bud.zero fun u F2 G2 x2 su => k _ _ _ (x1'.trans x2) su
      refine Ev.tupX (n := 0) (EvA.cons (n := 0) (m := 0) (Ev.sortedSet (n := 0) (EvA.cons (n := 0) (m := 0) (Ev.setL (n := 0) (EvA.cons (n := 0) (m := 0) ?_ EvA.nil) ok.1) EvA.nil) (by have := ok.1; omega)) EvA.nil)
      refine Ev.lc0 (zs := ns) (R := VI) (R' := VI) ?_ (fun z hz x F' s hx => ?_) (by have := ok.1; omega)
      · exact EvI.tup (Ev.var rfl (Mo.mo x1.s sv))
      · exact ⟨[some v, some x], rfl, fun G Q _ h => h, Ev.intI (EvA.cons (Ev.var rfl hx) EvA.nil)⟩

end
end LW

set_option Elab.async false
set_option linter.all false
set_option maxRecDepth 100000
set_option maxHeartbeats 4000000
namespace LW
open PySem PySem.Spec PyProof.Rows L2 HX NumText
section
variable {P : Program} {w : World} {K : PySem.W.Frag} {mg : Str → Option Value} {base : Heap}

theorem fnR_of {k : Nat} {f : Addr} {fd : FuncData} {ps : List Str} {sp : Sp} {CY : CXT} (F : FnOk P w K mg base CX0 k f fd ps sp) (b : Binds K fd ps []) : FnR P w K mg base CY k f sp := fnR_cx ((F.raw b .nil).imp fun vs H Q E h => by rw [List.append_nil]; exact h)
theorem ok_iinit {fI It fL : Addr} {fd_fI fdL : FuncData} {cc_fI cd_fI : Addr} (FS_fI : FunS P K "__init__" "Item.__init__" (defArgs s_Item_init) (defBody s_Item_init) (defScope s_Item_init) fI It fd_fI cc_fI cd_fI) (T : Txt K mg) (topS : (P.main.scope.names.lookup ("super" : Str)).isSome = false) (op : PySem.W.nsIn K cStatics "thirdparty.any" = some none) (hD_It : ∃ cd, PySem.W.clsIn K It = some cd) (ft_fL : PySem.W.typeIn K (.ref fL) = some (.type "function")) (fi_fL : PySem.W.fnIn K fL = true) (FL : FnOk P w K mg base CX0 5 fL fdL ["self", "parts"] (spLini K)) (bL : Binds K fdL ["self", "parts"] []) (cA : CalO P w K mg base "ascending_days" 4 ["days"] (spZ (fun _ => True) DysOk (fun ns => [VT (ns.map VI)]) fun ns => ExP (Srt ns) fun l => VT (l.map VI)) (fun _ => True)) : FnOk P w K mg base CX0 6 fI fd_fI ["self", "parts", "days"] (spItem (ItF K It fL)) := by
  refine FS_fI.ok (k := 5) sc_Item_init (fun vs H Q E h => ?_) (fun A' outer s H vs Q E hr h => ?_)
  · obtain ⟨x, p, F, a, C, dx, ws, rfl, _, _, _, _, _, _, al, _⟩ := h
    exact congrArg Nat.succ al.len
  · obtain ⟨⟨ps, ns⟩, p, F, a, C, dx, ws, rfl, ⟨ok, dok⟩, at0, Fa, np, ha, cc, al, k⟩ := h
    obtain ⟨v, u, rfl, sv, su⟩ := two_all al
    refine ⟨_, (pas_super (i := 0) (j := 3) (FS_fI.sup (self := "self") rfl rfl rfl (by decide +kernel) (by decide +kernel) (by decide +kernel) topS T.b_super) hD_It op (fnR_of FL bL) ft_fL fi_fL (hr.mono (by decide)) LamX.takes0 (pa_cons (pc 1) pa_nil) (pas_of (pss_one (ps_fld (pc 0) (pe_cO cA (hr.mono (by decide)) (pa_cons (pc 2) pa_nil)) (by rfl))))), ?_⟩
    refine ⟨a, C, dx, [], rfl, rfl, ha, cc.sp, ?_⟩
    refine ⟨ps, p, F, a, C, dx, [v], rfl, ok, at0, Fa, np, ha, cc.toLnF, ⟨v, [], rfl, sv, rfl⟩, fun fs F1 G1 x1 e1 po => ?_⟩
    obtain ⟨a1, F1a⟩ := at0.unhd Fa np x1
    obtain ⟨qs, q1, q2, w1, r1, rfl, hw, er⟩ := po
    obtain rfl : r1 = [] := er
    refine store_self (n := 0) (p := p) (L := []) (F := F1) (S := ExP (Srt ns) fun l => VT (l.map VI)) (Ev.callZ ns (EvA.cons (Ev.var rfl (Mo.mo x1.s su)) EvA.nil) dok trivial) a1 Bud.zero rfl e1 np cc.cl cc.nD (by simp) fun z F2 G2 x2 sz e2 => ?_
    obtain ⟨l, hl, sz⟩ := sz
    refine k _ F2 _ (x1.trans (x2.self F1a (by rw [e1]; exact fun z => nomatch z) np)) upd_same ⟨qs, l, q1, q2, hl, w1, _, rfl, Mo.mo x2.s hw, z, [], rfl, sz, rfl⟩
theorem ok_kinit {fK Ck fI It fL : Addr} {fd_fK fdI : FuncData} {cc_fK cd_fK : Addr} (FS_fK : FunS P K "__init__" "Check.__init__" (defArgs s_Check_init) (defBody s_Check_init) (defScope s_Check_init) fK Ck fd_fK cc_fK cd_fK) (T : Txt K mg) (topS : (P.main.scope.names.lookup ("super" : Str)).isSome = false) (op : PySem.W.nsIn K cStatics "thirdparty.any" = some none) (hD_Ck : ∃ cd, PySem.W.clsIn K Ck = some cd) (ft_fI : PySem.W.typeIn K (.ref fI) = some (.type "function")) (fi_fI : PySem.W.fnIn K fI = true) (FI : FnOk P w K mg base CX0 6 fI fdI ["self", "parts", "days"] (spItem (ItF K It fL))) (bI : Binds K fdI ["self", "parts", "days"] []) : FnOk P w K mg base CX0 7 fK fd_fK ["self", "parts", "days"] (spCheck (CkF K It fL Ck fI)) := by
  refine FS_fK.ok (k := 6) sc_Check_init (fun vs H Q E h => ?_) (fun A' outer s H vs Q E hr h => ?_)
  · obtain ⟨x, p, F, a, C, dx, ws, rfl, _, _, _, _, _, _, al, _⟩ := h
    exact congrArg Nat.succ al.len
  · obtain ⟨⟨ps, ns⟩, p, F, a, C, dx, ws, rfl, ⟨ok, dok, nn⟩, at0, Fa, np, ha, cc, al, k⟩ := h
    obtain ⟨v, u, rfl, sv, su⟩ := two_all al
    refine ⟨_, (pas_super (i := 0) (j := 3) (FS_fK.sup (self := "self") rfl rfl rfl (by decide +kernel) (by decide +kernel) (by decide +kernel) topS T.b_super) hD_Ck op (fnR_of FI bI) ft_fI fi_fI (hr.mono (by decide)) LamX.takes0 (pa_cons (pc 1) (pa_cons (pc 2) pa_nil)) (pas_of (pss_one (s_if (pt_not (pt_truth (pc 2) (by intro _; rfl))) (pss_one ps_dead) pss_nil)))), ?_⟩
    refine ⟨a, C, dx, [], rfl, rfl, ha, cc.sq, ?_⟩
    refine ⟨(ps, ns), p, F, a, C, dx, [v, u], rfl, ⟨ok, dok⟩, at0, Fa, np, ha, cc.toItF, al, fun fs F1 G1 x1 e1 po => ?_⟩
    obtain ⟨a1, F1a⟩ := at0.unhd Fa np x1
    have su1 : VT (ns.map VI) u F1 := Mo.mo x1.s su
    refine EvT.go (n := 0) (p := p) (L := []) (F := F1) (c := false) (EvT.bt (c := !(!(ns.map VI).isEmpty)) (EvT.not (EvT.truT (Ev.var rfl su1))) ?_) a1 Bud.zero (fun e => nomatch e) fun _ F2 G2 x2 => ?_
    · cases ns with
      | nil => exact absurd rfl nn
      | cons _ _ => rfl
    · refine k fs F2 G2 (x1.trans (x2.hd F1a (by rw [e1]; exact fun z => nomatch z) np)) (x2.r.keep np e1) (po.mo x2.s)
/-- Count(account, *days) -/
def spCount (CC : Addr → Prop) : Sp := fun vs H Q E => ∃ ws rest, vs = ws ++ rest ∧ ws.length = ["self", "account"].length ∧ rest.length ≤ sizeLine ∧ ∀ q, H q = none → spIni CC (fun x : List Nat × List Int => Nm x.1 ∧ DysOk x.2 ∧ x.2 ≠ []) (fun x => [VS (ofL x.1), VT (x.2.map VI)]) [] (fun x => PoI ([(x.1, 1)], x.2)) (ws ++ [V.ref q]) (L2.upd H q (.tup rest)) Q E
theorem one_ok {n : List Nat} (h : Nm n) : PsOk [(n, 1)] := ⟨by simp, by simp, fun p hp => by rw [List.mem_singleton.mp hp]; exact ⟨h, by show (-9 : Int) ≤ 1; decide, by show (1 : Int) ≤ 9; decide, by show (1 : Int) ≠ 0; decide⟩⟩
theorem ok_tinit {fT Ct fK Ck fI It fL : Addr} {fd_fT fdK : FuncData} {cc_fT cd_fT : Addr} (FS_fT : FunS P K "__init__" "Count.__init__" (defArgs s_Count_init) (defBody s_Count_init) (defScope s_Count_init) fT Ct fd_fT cc_fT cd_fT) (hb : ∀ us rest : List Value, us.length = (["self", "account"] : List Str).length → bindArgs fd_fT ⟨us ++ rest, []⟩ = (newTuple rest >>= fun t => pure ((["self", "account"] : List Str).zip us ++ [(("days" : Str), t)]))) (T : Txt K mg) (topS : (P.main.scope.names.lookup ("super" : Str)).isSome = false) (op : PySem.W.nsIn K cStatics "thirdparty.any" = some none) (hD_Ct : ∃ cd, PySem.W.clsIn K Ct = some cd) (ft_fK : PySem.W.typeIn K (.ref fK) = some (.type "function")) (fi_fK : PySem.W.fnIn K fK = true) (FK : FnOk P w K mg base CX0 7 fK fdK ["self", "parts", "days"] (spCheck (CkF K It fL Ck fI))) (bK : Binds K fdK ["self", "parts", "days"] []) (cN : CalO P w K mg base "is_name" 1 ["value"] spIsName (fun _ => True)) : FnR P w K mg base CX0 8 fT (spCount (CtF K It fL Ck fI Ct fK)) := by
  refine FS_fT.star (k := 7) (ps := ["self", "account"]) (pv := "days") sc_Count_init StX.cxUp_none hb fun A' outer s H vs Q E hr h => ?_
  obtain ⟨⟨n, ns⟩, p, F, a, C, dx, ws, rfl, ⟨hn, dok, nn⟩, at0, Fa, np, ha, cc, al, k⟩ := h
  obtain ⟨v, u, rfl, sv, su⟩ := two_all al
  refine ⟨_, (pas_cons (s_if (pt_not (t_val (pe_cO cN (hr.mono (by decide)) (pa_cons (pc 1) pa_nil)))) (pss_one ps_dead) pss_nil) (pas_super (i := 0) (j := 3) (FS_fT.sup (self := "self") rfl rfl rfl (by decide +kernel) (by decide +kernel) (by decide +kernel) topS T.b_super) hD_Ct op (fnR_of FK bK) ft_fK fi_fK (hr.mono (by decide)) LamX.takes0 (pa_cons (pe_disp (pps_cons (pc 1) pe_int pps_nil) (by rfl) (by rfl) (fun z => by cases z) (by decide)) (pa_cons (pc 2) pa_nil)) (pas_of pss_nil))), ?_⟩
  refine goOn (n := 0) (p := p) (L := []) (F := F) (EvT.not (EvT.b (ev_isname (EvA.cons (Ev.var rfl sv) EvA.nil) hn))) at0 Bud.zero fun F1 G1 x1 => ?_
  have a1 := x1.at_ at0
  have F1a := x1.w a Fa (by rw [ha]; exact fun z => nomatch z)
  have e1 := x1.r.keep np ha
  refine ⟨a, C, dx, [], rfl, rfl, e1, cc.sr, ?_⟩
  have ev : EvA p [] F1 0 (tCons (tDisp [(cV 1, tC (.int 1))]) (tCons (cV 2) tNil)) [some (V.ref a), some v, some u, some (.ref Ct)] [VP [(n, 1)], VT (ns.map VI)] := EvA.cons (n := 0) (m := 0) (Ev.disp1 (n := 0) (m := 0) (ky := kyN (n, 1)) (Ev.var rfl (Mo.mo x1.s sv)) (Ev.c rfl)) (EvA.cons (n := 0) (m := 0) (Ev.var rfl (Mo.mo x1.s su)) EvA.nil)
  refine ev G1 a1 Bud.zero _ fun vs F2 G2 x2 al2 => ?_
  have a2 := x2.at_ a1
  have F2a := x2.w a F1a (by rw [e1]; exact fun z => nomatch z)
  have e2 := x2.r.keep np e1
  refine ⟨([(n, 1)], ns), p, F2, a, C, dx, vs, rfl, ⟨one_ok hn, dok, nn⟩, a2, F2a, np, e2, cc.toCkF, al2, fun fs F3 G3 x3 e3 po => ?_⟩
  exact k fs F3 G3 ((((x1.trans x2).hd Fa (by rw [ha]; exact fun z => nomatch z) np)).trans x3) e3 po

end
end LW

set_option Elab.async false
set_option linter.all false
set_option maxRecDepth 100000
set_option maxHeartbeats 2000000
/-! A54: == and != of own instances, of one class, of a class and one below it, beside plain values -/
namespace PySem
namespace HXN
open W Builtin PyProof.Rows
section
variable {prog : Program} {w : World} {A : Around} {E : Value → Shared → Prop} {s : Shared} {K : Frag} {x y C D f : Addr} {ox oy : Obj} {od oe : Option Obj}
/-- of two classes, the right one not below the left one: the left one is asked first -/
theorem oD {op : CmpOp} {Q : Value → Shared → Prop} (hu : A.units < cLine) (X : K.In s.heap) (I : InstAt s.heap x ox C od) (J : InstAt s.heap y oy D oe) (hn : C ≠ D) (hsub : subIn K (.ref D) (.ref C) = some false)
    (one : wpAny (model prog w) A (tryCompare (.ref x) (cmpInfo op).2.1 (.ref y)) (fun r s2 => ∃ v, r = some v ∧ Q v s2) E s) : wpAny (model prog w) A (richCompare op (.ref x) (.ref y)) Q E s := by
  unfold richCompare
  simp only [oneThing_ref]
  refine wpAny_holding (wpAny_bind (wpAny_cRoomFor hu ?_))
  refine wpAny_bind (I.type.here (wpAny_bind (J.type.here ?_)))
  have ne : (Value.ref C != Value.ref D) = true := by simpa using hn
  rw [if_pos ne]
  refine wpAny_bind ((looks_subIn X hsub).here ?_)
  simp only [Bool.false_eq_true, if_false]
  refine wpAny_bind (wpAny_mono one (fun r s2 z => ?_) fun _ _ z => z)
  obtain ⟨v, rfl, hq⟩ := z
  exact (wpAny_pure hq)
/-- the right one of a class below the left one's: it is asked first -/
theorem oS {op : CmpOp} {Q : Value → Shared → Prop} (hu : A.units < cLine) (X : K.In s.heap) (I : InstAt s.heap x ox C od) (J : InstAt s.heap y oy D oe) (hn : C ≠ D) (hsub : subIn K (.ref D) (.ref C) = some true)
    (one : wpAny (model prog w) A (tryCompare (.ref y) (cmpInfo op).2.2 (.ref x)) (fun r s2 => ∃ v, r = some v ∧ Q v s2) E s) : wpAny (model prog w) A (richCompare op (.ref x) (.ref y)) Q E s := by
  unfold richCompare
  simp only [oneThing_ref]
  refine wpAny_holding (wpAny_bind (wpAny_cRoomFor hu ?_))
  refine wpAny_bind (I.type.here (wpAny_bind (J.type.here ?_)))
  have ne : (Value.ref C != Value.ref D) = true := by simpa using hn
  rw [if_pos ne]
  refine wpAny_bind ((looks_subIn X hsub).here ?_)
  simp only [if_true]
  refine wpAny_bind (wpAny_mono one (fun r s2 z => ?_) fun _ _ z => z)
  obtain ⟨v, rfl, hq⟩ := z
  refine wpAny_bind (wpAny_rule (wpAny_pure hq))
end
end HXN
end PySem
namespace HX
open PySem PySem.Spec PyProof.Rows L2
/-- what a class's == is -/
structure EqF (K : PySem.W.Frag) (C f : Addr) : Prop where
  hs : PySem.W.findIn K (.ref C) "__eq__" = some (some (.ref f))
  hf : PySem.W.isFn K (.ref f) = true
  hm : PySem.W.mroIn K C (.type "object") = some true
  hn : PySem.W.findIn K (.ref C) "__ne__" = some (some (.builtin "object.__ne__"))
/-- x == y, x != y, x asked first: y a plain value, of the same class, of one not below -/
def rEqL (K : PySem.W.Frag) (C : Addr) (neg : Bool) (sp : Sp) (E : XK) : L2.R2 := fun x y H Q => ∃ a : Addr, x = .ref a ∧ IsI C H a ∧
  ((∃ T, TyOf K H y (.type T) ∧ isSubtype (.type T) (.ref C) = pure false) ∨ (∃ b, y = .ref b ∧ IsI C H b) ∨ ∃ b D, y = .ref b ∧ IsI D H b ∧ C ≠ D ∧ PySem.W.subIn K (.ref D) (.ref C) = some false) ∧
  sp [.ref a, y] H (fun v G => ∃ c, v = .bl c ∧ Q (.bl (xor neg c)) G) E
/-- .. y of a class below, asked first -/
def rEqR (K : PySem.W.Frag) (C D : Addr) (neg : Bool) (sp : Sp) (E : XK) : L2.R2 := fun x y H Q => ∃ a b : Addr, x = .ref a ∧ y = .ref b ∧ IsI C H a ∧ IsI D H b ∧ C ≠ D ∧ PySem.W.subIn K (.ref D) (.ref C) = some true ∧
  sp [.ref b, .ref a] H (fun v G => ∃ c, v = .bl c ∧ Q (.bl (xor neg c)) G) E
section
variable {X : Cx} {C D f : Addr} {fd : FuncData} {ps : List Str} {sp : Sp} {CY : CXT} {k : Nat} {E : XK}
theorem ep_bool {neg : Bool} {pins : List (Addr × Obj)} {σ : L2.St} {Q : VK} {u : Value} {s' : Shared} (h : EP X pins σ (fun v G => ∃ c, v = .bl c ∧ Q (.bl (xor neg c)) G) u s') : ∃ c, u = .bool c ∧ EP X pins σ Q (.bool (xor neg c)) s' := by
  obtain ⟨v, G, J, r, c, rfl, q⟩ := h
  exact ⟨c, r, .bl (xor neg c), G, J, rfl, q⟩
theorem cmp_back {x : Addr} {u : Value} {s : Shared} {neg : Bool} {pins : List (Addr × Obj)} {σ : L2.St} {H : Hp} {Q : VK} {a : Addr} {y : V} (I : Inv X pins σ H s) (EF : EqF X.K C f) (Fi : FnOk X.prog X.w X.K X.mg X.base CY k f fd ps sp) (b : Binds X.K fd ps []) (hr : Room (k + 1) X.A) (hx : Passes CY X E) (i1 : IsI C H a) (ry : RelV y u)
    (q : sp [.ref a, y] H (fun v G => ∃ c, v = .bl c ∧ Q (.bl (xor neg c)) G) E) : wpAny (model X.prog X.w) X.A (tryCompare (.ref a) (if neg then "__ne__" else "__eq__") u) (fun r s2 => ∃ v, r = some v ∧ EP X pins σ Q v s2) X.xe s := by
  obtain ⟨dx, od, J, ho⟩ := inst_at I i1
  have rv : Vals [V.ref a, y] [Value.ref a, u] := .cons rfl (.cons ry .nil)
  cases neg with
  | true =>
    rw [if_pos rfl]
    refine PySem.HXN.try_ne (hr.in1).units0 I.kIn J EF.hm EF.hn EF.hs EF.hf (wpAny_mono (run_at Fi b hr.in1 I.env0.in1 hx I rv q) (fun u s2 h => ?_) fun _ _ z => z)
    obtain ⟨c, rfl, e⟩ := ep_bool h
    exact ⟨c, rfl, by simpa using e⟩
  | false =>
    rw [if_neg (by decide)]
    refine PySem.HXC.try_own I.kIn J EF.hs EF.hf (wpAny_mono (run_fn Fi (hr.mono (by omega)) b .nil hx I rv (by rw [List.append_nil]; exact q)) (fun u s2 h => ?_) fun _ _ z => z)
    obtain ⟨c, rfl, e⟩ := ep_bool h
    simpa [PySem.W.CmpBack] using e
theorem op_eqL {neg : Bool} {op : CmpOp} (ho : op = if neg then .NotEq else .Eq) (EF : EqF X.K C f) (Fi : FnOk X.prog X.w X.K X.mg X.base CY k f fd ps sp) (b : Binds X.K fd ps []) (hr : Room (k + 1) X.A) (hx : Passes CY X E) : OpR X (compareOp op) (rEqL X.K C neg sp E) := by
  intro pins s σ H x y v u Q I rx ry q
  obtain ⟨a, rfl, i1, hy, q⟩ := q
  obtain rfl : v = Value.ref a := rx
  have one := cmp_back (x := a) I EF Fi b hr hx i1 ry q
  obtain ⟨dx, od, J, ho2⟩ := inst_at I i1
  have rich : compareOp op (Value.ref a) u = richCompare op (Value.ref a) u := by cases neg <;> (subst ho; rfl)
  have hi : (cmpInfo op).2.1 = (if neg then "__ne__" else "__eq__" : Str) := by cases neg <;> (subst ho; rfl)
  rw [rich]
  rcases hy with ⟨T, ty, hT⟩ | ⟨c, rfl, i2⟩ | ⟨c, D, rfl, i2, hn, hs⟩
  · exact PySem.HXN.oL hr.units0 J (typeIs_of I ry ty) hT (by rw [hi]; exact one)
  · obtain rfl : u = Value.ref c := ry
    obtain ⟨dy, od2, J2, _⟩ := inst_at I i2
    exact PySem.HXN.oE hr.units0 J J2 (by rw [hi]; exact one)
  · obtain rfl : u = Value.ref c := ry
    obtain ⟨dy, od2, J2, _⟩ := inst_at I i2
    exact PySem.HXN.oD hr.units0 I.kIn J J2 hn hs (by rw [hi]; exact one)
theorem op_eqR {neg : Bool} {op : CmpOp} (ho : op = if neg then .NotEq else .Eq) (EF : EqF X.K D f) (Fi : FnOk X.prog X.w X.K X.mg X.base CY k f fd ps sp) (b : Binds X.K fd ps []) (hr : Room (k + 1) X.A) (hx : Passes CY X E) : OpR X (compareOp op) (rEqR X.K C D neg sp E) := by
  intro pins s σ H x y v u Q I rx ry q
  obtain ⟨a, c, rfl, rfl, i1, i2, hn, hs, q⟩ := q
  obtain rfl : v = Value.ref a := rx
  obtain rfl : u = Value.ref c := ry
  have one := cmp_back (x := c) (u := .ref a) (y := .ref a) I EF Fi b hr hx i2 rfl q
  obtain ⟨dx, od, J, ho2⟩ := inst_at I i1
  obtain ⟨dy, od2, J2, _⟩ := inst_at I i2
  have rich : compareOp op (Value.ref a) (.ref c) = richCompare op (Value.ref a) (.ref c) := by cases neg <;> (subst ho; rfl)
  have hi : (cmpInfo op).2.2 = (if neg then "__ne__" else "__eq__" : Str) := by cases neg <;> (subst ho; rfl)
  rw [rich]
  exact PySem.HXN.oS hr.units0 I.kIn J J2 hn hs (by rw [hi]; exact one)
end
end HX

set_option Elab.async false
set_option linter.all false
set_option maxRecDepth 100000
set_option maxHeartbeats 4000000
namespace LW
open PySem PySem.Spec PyProof.Rows L2 HX NumText
section
variable {P : Program} {w : World} {K : PySem.W.Frag} {mg : Str → Option Value} {base : Heap}

theorem pt_dead {X : Cx} {e : Expr} : PT X e fun _ _ _ => False := ⟨fun _ _ _ _ _ _ h => h.elim⟩
abbrev spIeq (Ct Ln : Addr) : Sp := spZ (fun Lk => Lk = []) (fun _ => True) (fun x : List (List Nat × Int) × List (List Nat × Int) => [VLc Ct x.1, VLc Ln x.2]) fun _ => VB false
abbrev spLeq (Ln : Addr) : Sp := spZ (fun Lk => Lk = []) (fun x : List (List Nat × Int) × Option (List (List Nat × Int)) => ∀ rs, x.2 = some rs → (rs.map (·.1)).Nodup) (fun x => [VO Ln [("_parts", VP x.1)], VQL Ln x.2]) fun x => VB (eqQ x.1 x.2)
theorem ok_ieq {f Ct Ln It : Addr} {fd : FuncData} (F : Fun K "__eq__" "Item.__eq__" s_Item_eq f fd) (T : Txt K mg) (gIt : mg "Item" = some (.ref It)) (kLI : PySem.W.kitOne K (.ref Ln) (.ref It) = some false) (tyL : ∀ {H : Hp} {a dx : Addr} {fs : List (Str × V)}, H a = some (.ins Ln dx fs) → TyOf K H (.ref a) (.ref Ln)) : FnOk P w K mg base CX0 2 f fd ["self", "other"] (spIeq Ct Ln) := by
  refine F.ok sc_Item_eq (fun vs H Q E h => ?_) (fun cdv A' outer s H vs Q E hr h => ?_)
  · obtain ⟨qs, p, Lk, F, _, _, _, al, _⟩ := h
    exact al.len
  · obtain ⟨⟨qs, rs⟩, p, _, F, _, rfl, a, al, k⟩ := h
    obtain ⟨v, u, rfl, sv, su⟩ := two_all al
    obtain ⟨o, dx, fs, w0, rfl, ho, _⟩ := su
    refine ⟨_, (pss_cons (s_if (PW.pt (w_or (pt_not (t_val (pe_callB c_isi (by rfl) T.b_isinstance (by decide +kernel) (pa_cons (pc 1) (pa_cons (p_gc gIt) pa_nil))))) (w_or pt_dead (pw_or1 pt_dead)))) (pss_one (ps_ret pe_bl)) pss_nil)
    (pss_one ps_dead)), ?_⟩
    refine ⟨.ref o, .ref It, .ref Ln, _, false, rfl, tyL (a.dkL ho), (fun u r => r), kLI, ⟨fun _ => ⟨fun _ => k _ F H (Nx.refl a) rfl, fun z => nomatch z⟩, fun z => nomatch z⟩⟩
section
variable {p : Option Addr} {n m : Nat} {F : Hp} {t1 t2 : TE} {σ : L2.St} {Ln Ct : Addr} {E : XK} {qs rs : List (List Nat × Int)} {o : Option (List (List Nat × Int))} {neg : Bool}
theorem isI_lc {C : Addr} {G : Hp} {v : V} (a : At p [] F G) (h : VLc C qs v F) : ∃ x, v = .ref x ∧ IsI C G x := by
  obtain ⟨x, dx, fs, u, e, hx, _⟩ := h
  exact ⟨x, e, dx, fs, a.dkL hx⟩
theorem sub_no : ∀ t ∈ ["NoneType", "int", "bool", "list", "tuple", "dict"], isSubtype (.type t) (.ref Ln) = pure false := fun t h => by
  simp only [List.mem_cons, List.not_mem_nil, or_false] at h
  rcases h with rfl | rfl | rfl | rfl | rfl | rfl <;> rfl
/-- a Linear beside a Linear, beside what is none -/
theorem ev_eqL (h1 : Ev p [] F n t1 σ (VO Ln [("_parts", VP qs)])) (h2 : Ev p [] F m t2 σ (VQL Ln o)) (nd : ∀ rs, o = some rs → (rs.map (·.1)).Nodup) : Ev p [] F (n + m) (tOp (rEqL K Ln neg (spLeq Ln) E) t1 t2) σ (VB (xor neg (eqQ qs o))) :=
  Ev.op (l := 0) h1 h2 fun v u F' G s a _ e1 e2 Q k => by
    obtain ⟨x, rfl, ix⟩ := isI_lc a (vo_c e1)
    refine ⟨x, rfl, ix, ?_, (qs, o), p, [], F', nd, rfl, a, ⟨_, _, rfl, e1, _, _, rfl, e2, rfl⟩, fun z F'' G' y sz => ⟨eqQ qs o, sz, k _ F'' G' y rfl⟩⟩
    cases o with
    | some rs =>
      obtain ⟨y, rfl, iy⟩ := isI_lc a (vo_c e2)
      exact .inr (.inl ⟨y, rfl, iy⟩)
    | none =>
      obtain ⟨t, ty, tm⟩ := VNs.ty (K := K) a (show VNs u F' from e2)
      exact .inl ⟨t, ty, sub_no t tm⟩
/-- a Linear beside a Count -/
theorem ev_eqC (h1 : Ev p [] F n t1 σ (VLc Ln qs)) (h2 : Ev p [] F m t2 σ (VLc Ct rs)) (hn : Ln ≠ Ct) (hs : PySem.W.subIn K (.ref Ct) (.ref Ln) = some true) : Ev p [] F (n + m) (tOp (rEqR K Ln Ct neg (spIeq Ct Ln) E) t1 t2) σ (VB neg) :=
  Ev.op (l := 0) h1 h2 fun v u F' G s a _ e1 e2 Q k => by
    obtain ⟨x, rfl, ix⟩ := isI_lc a e1
    obtain ⟨y, rfl, iy⟩ := isI_lc a e2
    exact ⟨x, y, rfl, rfl, ix, iy, hn, hs, (rs, qs), p, [], F', trivial, rfl, a, ⟨_, _, rfl, e2, _, _, rfl, e1, rfl⟩, fun z F'' G' y sz => ⟨false, sz, k _ F'' G' y (by cases neg <;> rfl)⟩⟩
/-- a Count beside a Linear -/
theorem ev_eqD (h1 : Ev p [] F n t1 σ (VLc Ct qs)) (h2 : Ev p [] F m t2 σ (VLc Ln rs)) (hn : Ct ≠ Ln) (hs : PySem.W.subIn K (.ref Ln) (.ref Ct) = some false) : Ev p [] F (n + m) (tOp (rEqL K Ct neg (spIeq Ct Ln) E) t1 t2) σ (VB neg) :=
  Ev.op (l := 0) h1 h2 fun v u F' G s a _ e1 e2 Q k => by
    obtain ⟨x, rfl, ix⟩ := isI_lc a e1
    obtain ⟨y, rfl, iy⟩ := isI_lc a e2
    exact ⟨x, rfl, ix, .inr (.inr ⟨y, Ln, rfl, iy, hn, hs⟩), (qs, rs), p, [], F', trivial, rfl, a, ⟨_, _, rfl, e1, _, _, rfl, e2, rfl⟩, fun z F'' G' y sz => ⟨false, sz, k _ F'' G' y (by cases neg <;> rfl)⟩⟩
end

end
end LW

set_option Elab.async false
set_option linter.all false
set_option maxRecDepth 100000
set_option maxHeartbeats 4000000
namespace LW
open PySem PySem.Spec PyProof.Rows L2 HX NumText
section
variable {P : Program} {w : World} {K : PySem.W.Frag} {mg : Str → Option Value} {base : Heap}

def strL (ns : List (List Nat)) : List V := ns.map fun n => V.str (ofL n)
def base4 : List (List (List Nat)) := [[[97], [98], [99], [100], [101]], [[100, 97, 121, 115], [115, 104, 105, 102, 116], [99, 111, 117, 110, 116], [110, 111, 110, 101], [122]], [[97], [97, 97], [97, 97, 97], [97, 98], [98]], [[116, 105, 108, 108], [116, 105, 108, 108, 115], [97, 98, 99, 100, 101, 102, 103, 104], [97, 98, 99, 100, 101, 102, 103], [97, 110, 121]]]
structure NsOk (ns : List (List Nat)) : Prop where
  nd : ns.Nodup
  all : ∀ n ∈ ns, Nm n
theorem base4_ok : ∀ ns ∈ base4, ns.length = 5 ∧ ns.Nodup ∧ ∀ n ∈ ns, Nm n := by decide +kernel
theorem b4_0 : ([V.str (Str.ofString "a"), V.str (Str.ofString "b"), V.str (Str.ofString "c"), V.str (Str.ofString "d"), V.str (Str.ofString "e")] : List V) = strL [[97], [98], [99], [100], [101]] := by
  have h : ∀ a b : Str, a = b → V.str a = V.str b := fun _ _ e => by rw [e]
  simp only [strL, List.map_cons, List.map_nil]
  rw [show (Str.ofString "a") = ofL [97] by decide +kernel]
  rw [show (Str.ofString "b") = ofL [98] by decide +kernel]
  rw [show (Str.ofString "c") = ofL [99] by decide +kernel]
  rw [show (Str.ofString "d") = ofL [100] by decide +kernel]
  rw [show (Str.ofString "e") = ofL [101] by decide +kernel]
theorem b4_1 : ([V.str (Str.ofString "days"), V.str (Str.ofString "shift"), V.str (Str.ofString "count"), V.str (Str.ofString "none"), V.str (Str.ofString "z")] : List V) = strL [[100, 97, 121, 115], [115, 104, 105, 102, 116], [99, 111, 117, 110, 116], [110, 111, 110, 101], [122]] := by
  have h : ∀ a b : Str, a = b → V.str a = V.str b := fun _ _ e => by rw [e]
  simp only [strL, List.map_cons, List.map_nil]
  rw [show (Str.ofString "days") = ofL [100, 97, 121, 115] by decide +kernel]
  rw [show (Str.ofString "shift") = ofL [115, 104, 105, 102, 116] by decide +kernel]
  rw [show (Str.ofString "count") = ofL [99, 111, 117, 110, 116] by decide +kernel]
  rw [show (Str.ofString "none") = ofL [110, 111, 110, 101] by decide +kernel]
  rw [show (Str.ofString "z") = ofL [122] by decide +kernel]
theorem b4_2 : ([V.str (Str.ofString "a"), V.str (Str.ofString "aa"), V.str (Str.ofString "aaa"), V.str (Str.ofString "ab"), V.str (Str.ofString "b")] : List V) = strL [[97], [97, 97], [97, 97, 97], [97, 98], [98]] := by
  have h : ∀ a b : Str, a = b → V.str a = V.str b := fun _ _ e => by rw [e]
  simp only [strL, List.map_cons, List.map_nil]
  rw [show (Str.ofString "a") = ofL [97] by decide +kernel]
  rw [show (Str.ofString "aa") = ofL [97, 97] by decide +kernel]
  rw [show (Str.ofString "aaa") = ofL [97, 97, 97] by decide +kernel]
  rw [show (Str.ofString "ab") = ofL [97, 98] by decide +kernel]
  rw [show (Str.ofString "b") = ofL [98] by decide +kernel]
theorem b4_3 : ([V.str (Str.ofString "till"), V.str (Str.ofString "tills"), V.str (Str.ofString "abcdefgh"), V.str (Str.ofString "abcdefg"), V.str (Str.ofString "any")] : List V) = strL [[116, 105, 108, 108], [116, 105, 108, 108, 115], [97, 98, 99, 100, 101, 102, 103, 104], [97, 98, 99, 100, 101, 102, 103], [97, 110, 121]] := by
  have h : ∀ a b : Str, a = b → V.str a = V.str b := fun _ _ e => by rw [e]
  simp only [strL, List.map_cons, List.map_nil]
  rw [show (Str.ofString "till") = ofL [116, 105, 108, 108] by decide +kernel]
  rw [show (Str.ofString "tills") = ofL [116, 105, 108, 108, 115] by decide +kernel]
  rw [show (Str.ofString "abcdefgh") = ofL [97, 98, 99, 100, 101, 102, 103, 104] by decide +kernel]
  rw [show (Str.ofString "abcdefg") = ofL [97, 98, 99, 100, 101, 102, 103] by decide +kernel]
  rw [show (Str.ofString "any") = ofL [97, 110, 121] by decide +kernel]
theorem erase_map {α β : Type} (f : α → β) (l : List α) (i : Nat) : (l.map f).eraseIdx i = (l.eraseIdx i).map f := by
  rw [List.eraseIdx_eq_take_drop_succ, List.eraseIdx_eq_take_drop_succ, List.map_append, List.map_take, List.map_drop]
theorem perm_erase {α : Type} {l : List α} {i : Nat} (h : i < l.length) : ([l[i]] ++ l.eraseIdx i).Perm l := by
  rw [List.eraseIdx_eq_take_drop_succ]
  have e : l = l.take i ++ l[i] :: l.drop (i + 1) := by rw [← List.drop_eq_getElem_cons h, List.take_append_drop]
  refine .trans ?_ (.of_eq e.symm)
  exact (List.perm_middle (a := l[i]) (l₁ := l.take i) (l₂ := l.drop (i + 1))).symm
theorem lay_free {H : Hp} {a b : Addr} {o : HO} (n : L2.upd H a o b = none) : H b = none := by
  by_cases e : b = a
  · rw [e, upd_same] at n
    cases n
  · rwa [upd_ne e] at n
theorem lay5 {H : Hp} {a1 a2 a3 a4 a0 : Addr} {o1 o2 o3 o4 o0 : HO} (n1 : H a1 = none) (n2 : L2.upd H a1 o1 a2 = none) (n3 : L2.upd (L2.upd H a1 o1) a2 o2 a3 = none) (n4 : L2.upd (L2.upd (L2.upd H a1 o1) a2 o2) a3 o3 a4 = none)
    (n0 : L2.upd (L2.upd (L2.upd (L2.upd H a1 o1) a2 o2) a3 o3) a4 o4 a0 = none) :
    Same H (L2.upd (L2.upd (L2.upd (L2.upd (L2.upd H a1 o1) a2 o2) a3 o3) a4 o4) a0 o0) ∧ L2.upd (L2.upd (L2.upd (L2.upd (L2.upd H a1 o1) a2 o2) a3 o3) a4 o4) a0 o0 a1 = some o1 ∧ L2.upd (L2.upd (L2.upd (L2.upd (L2.upd H a1 o1) a2 o2) a3 o3) a4 o4) a0 o0 a2 = some o2 ∧
      L2.upd (L2.upd (L2.upd (L2.upd (L2.upd H a1 o1) a2 o2) a3 o3) a4 o4) a0 o0 a3 = some o3 ∧ L2.upd (L2.upd (L2.upd (L2.upd (L2.upd H a1 o1) a2 o2) a3 o3) a4 o4) a0 o0 a4 = some o4 ∧ L2.upd (L2.upd (L2.upd (L2.upd (L2.upd H a1 o1) a2 o2) a3 o3) a4 o4) a0 o0 a0 = some o0 :=
  have s1 := Same.new (o := o1) (Same.refl H) n1
  have s2 := Same.new (o := o2) (Same.refl _) n2
  have s3 := Same.new (o := o3) (Same.refl _) n3
  have s4 := Same.new (o := o4) (Same.refl _) n4
  have s0 := Same.new (o := o0) (Same.refl _) n0
  ⟨(((s1.trans s2).trans s3).trans s4).trans s0, (((s2.trans s3).trans s4).trans s0) _ _ upd_same, ((s3.trans s4).trans s0) _ _ upd_same, (s4.trans s0) _ _ upd_same, s0 _ _ upd_same, upd_same⟩
def teA (K : PySem.W.Frag) : TE := tBM K "list" rPopAt (cV 2) (tCons (tCall spDraw [] E0 (tCons (cV 0) (tCons (tCB (rLen2 K) (tCons (cV 2) tNil)) tNil))) tNil)
def spAcc : Sp := fun vs H Q _ => ∃ (p k0 : Addr) (c many : Int), vs = [.ref p, .int many] ∧ Pe H p k0 c ∧ c < 999900 ∧ 0 ≤ many ∧ many ≤ 5 ∧
  ∀ (q : Addr) (G : Hp) (ns : List (List Nat)), H q = none → Kp p H G → Pe G p k0 (c + 6) → G q = some (.lst (strL ns)) → (ns.length : Int) = many → NsOk ns → Q (.ref q) G
theorem ok_acc {f : Addr} {fd : FuncData} (F : Fun K "_law_accounts" "_law_accounts" s__law_accounts f fd) (T : Txt K mg) (cD : CalO P w K mg base "_law_draw" 1 ["_law_pen_here", "_law_many"] spDraw (fun _ => True)) (cP : CalO P w K mg base "_law_pick" 2 ["_law_pen_here", "_law_some"] (spPick K) (fun _ => True)) : FnOk P w K mg base CX0 3 f fd ["_law_pen_here", "_law_many"] spAcc := by
  refine F.ok sc__law_accounts (fun vs H Q E h => ?_) (fun cdv A' outer s H vs Q E hr h => ?_)
  · obtain ⟨p, k0, c, many, rfl, _⟩ := h
    rfl
  · obtain ⟨p, k0, c, many, rfl, Pp, hc, m0, m5, k⟩ := h
    refine ⟨_, (pss_cons (ps_set (i := 2) sc__law_accounts.nd rfl (Or.inr rfl) (pe_callTy call_list_of (by rfl) T.b_list (by decide +kernel) (pa_cons (pe_cO cP (hr.mono (by decide)) (pa_cons (pc 0) (pa_cons (pe_lst (pa_cons (pe_lst (pa_cons pe_str (pa_cons pe_str (pa_cons pe_str (pa_cons pe_str (pa_cons pe_str pa_nil)))))) (pa_cons (pe_lst (pa_cons pe_str (pa_cons pe_str (pa_cons pe_str (pa_cons pe_str (pa_cons pe_str pa_nil)))))) (pa_cons (pe_lst (pa_cons pe_str (pa_cons pe_str (pa_cons pe_str (pa_cons pe_str (pa_cons pe_str pa_nil)))))) (pa_cons (pe_lst (pa_cons pe_str (pa_cons pe_str (pa_cons pe_str (pa_cons pe_str (pa_cons pe_str pa_nil)))))) pa_nil))))) pa_nil))) pa_nil)))
    (pss_one (ps_ret (pe_lc (own := [("_law_spot", 3)]) (g := gName 3) (tt := tYes) (te := teA K) rfl sc__law_accounts.nd (pi_range1 (by rfl) T.b_range (pa_cons (pc 1) pa_nil)) (blkOk_by (own := [("_law_spot", 3)]) (N := n__law_accounts) (sc := defScope s__law_accounts) (by decide +kernel)) (fun _ _ _ _ _ => pg_name (i := 3) sc__law_accounts.nd rfl (Or.inl rfl)) (fun _ _ _ _ _ => pts_nil) (fun _ _ _ _ _ => (by exact pe_bm PySem.F.plainAttrs_list PySem.F.slot_list_pop PySem.F.type_list_pop mt_popAt (pc 2) (pa_cons (pe_cO cD (hr.mono (by decide)) (pa_cons (pc 0) (pa_cons (pe_callB c_len (by rfl) T.b_len (by decide +kernel) (pa_cons (pc 2) pa_nil)) pa_nil))) pa_nil))))))), ?_⟩
    refine ⟨by show 5 ≤ sizeLine; decide, fun a1 n1 => ⟨by show 5 ≤ sizeLine; decide, fun a2 n2 => ⟨by show 5 ≤ sizeLine; decide, fun a3 n3 => ⟨by show 5 ≤ sizeLine; decide, fun a4 n4 => ⟨by show 4 ≤ sizeLine; decide, fun a0 n0 => ?_⟩⟩⟩⟩⟩
    rw [b4_0] at n2 n3 n4 n0 ⊢
    rw [b4_1] at n3 n4 n0 ⊢
    rw [b4_2] at n4 n0 ⊢
    rw [b4_3] at n0 ⊢
    obtain ⟨sH, q1, q2, q3, q4, q0⟩ := lay5 n1 n2 n3 n4 n0
    have p1 := Pp.ne n1
    have p2 := Pp.ne (lay_free n2)
    have p3 := Pp.ne (lay_free (lay_free n3))
    have p4 := Pp.ne (lay_free (lay_free (lay_free n4)))
    have p0 := Pp.ne (lay_free (lay_free (lay_free (lay_free n0))))
    refine ⟨p, k0, c, .ref a0, rfl, Pp.same sH, by omega, .inr ⟨a0, _, rfl, p0, .inl (SqL.of q0), by show 0 < 4; decide, by show 4 ≤ 1000000; decide, fun v G hv kp P1 => ?_⟩⟩
    have kp0 : Kp p H G := (Kp.same sH).trans kp
    obtain ⟨a, B, rfl, hB, hG⟩ : ∃ (a : Addr) (B : List (List Nat)), v = .ref a ∧ B ∈ base4 ∧ G a = some (.lst (strL B)) := by
      have hv : v = .ref a1 ∨ v = .ref a2 ∨ v = .ref a3 ∨ v = .ref a4 := by simpa using hv
      rcases hv with rfl | rfl | rfl | rfl
      · exact ⟨_, _, rfl, (by decide +kernel : base4.getD 0 [] ∈ base4), kp _ _ p1 q1⟩
      · exact ⟨_, _, rfl, (by decide +kernel : base4.getD 1 [] ∈ base4), kp _ _ p2 q2⟩
      · exact ⟨_, _, rfl, (by decide +kernel : base4.getD 2 [] ∈ base4), kp _ _ p3 q3⟩
      · exact ⟨_, _, rfl, (by decide +kernel : base4.getD 3 [] ∈ base4), kp _ _ p4 q4⟩
    obtain ⟨B5, Bn, Ba⟩ := base4_ok B hB
    refine ⟨a, strL B, rfl, .inl (SqL.of hG), fun l nl => ?_⟩
    have lp : l ≠ p := P1.ne nl
    have lk0 : l ≠ k0 := P1.neL nl
    have lH : H l = none := by
      cases e : H l with
      | none => rfl
      | some o => rw [kp0 _ _ lp e] at nl; cases nl
    have m62 : many < 2 ^ 62 := by omega
    refine ⟨many, rfl, by omega, m62, fun D nD => lc_it (te := teA K) (walk_range (lo := 0) (n := many.toNat))
      (fun i G1 => ∃ xs rem : List (List Nat), xs.length = i ∧ (xs ++ rem).Perm B ∧ G1 D = some (.lst (strL xs)) ∧ G1 l = some (.lst (strL rem)) ∧ Kp p H G1 ∧ Pe G1 p k0 (c + 1 + i))
      ⟨[], B, rfl, .refl _, upd_same, kpN upd_same nD, (kp0.mut lH).new nD, ((P1.new nl).new nD).mono (by omega)⟩ (fun i G1 _ z => trivial) ?_ ?_⟩
    · rintro i x G1 G2 hi ⟨xs, rem, xl, pm, gD, gl, kp1, P2⟩ ⟨rfl, ex⟩
      have rl := pm.length_eq
      rw [List.length_append, B5] at rl
      have sl : (strL rem).length = rem.length := by unfold strL; rw [List.length_map]
      have Dl : D ≠ l := fun z => by rw [z, upd_same] at nD; cases nD
      have nD0 : G D = none := by rwa [upd_ne Dl] at nD
      have Dp := P1.ne nD0
      have Dk := P1.neL nD0
      have DH : H D = none := by
        cases e : H D with
        | none => rfl
        | some o => rw [kp0 _ _ Dp e] at nD0; cases nD0
      refine ⟨rfl, .inl ⟨rfl, _, SqL.of gl⟩, strL rem, .inl (SqL.of gl), p, k0, _, _, rfl, P2, by omega, by omega, by omega, fun r G3 r0 r1 kp2 P3 => ?_⟩
      have gl3 := kp2 _ _ lp gl
      have gD3 := kp2 _ _ Dp gD
      have rn : r.toNat < rem.length := by omega
      have six : seqIndex? r (strL rem).length = some r.toNat := by
        simp [seqIndex?, show ¬ r < 0 by omega, show r < ((strL rem).length : Int) by omega, r0]
      have get : (strL rem)[r.toNat]? = some (.str (ofL rem[r.toNat])) := by unfold strL; rw [List.getElem?_map, List.getElem?_eq_getElem rn]; rfl
      have er : (strL rem).eraseIdx r.toNat = strL (rem.eraseIdx r.toNat) := by unfold strL; rw [erase_map]
      refine ⟨l, strL rem, r, r.toNat, _, rfl, rfl, gl3, by omega, by omega, six, get, _, by rw [upd_ne Dl]; exact gD3, by rw [strL, List.length_map, sizeLine_eq]; omega, xs ++ [rem[r.toNat]], rem.eraseIdx r.toNat, by simp; omega, ?_, ?_, ?_, ?_, ?_⟩
      · refine .trans ?_ pm
        rw [List.append_assoc]
        exact List.Perm.append_left xs (perm_erase rn)
      · rw [upd_same]
        unfold strL
        rw [List.map_append]
        rfl
      · rw [upd_ne (Ne.symm Dl), upd_same, er]
      · exact ((kp1.trans kp2).mut lH).mut DH
      · exact ((P3.mut lp lk0).mut Dp Dk).mono (by omega)
    · rintro G1 ⟨xs, rem, xl, pm, gD, gl, kp1, P2⟩
      have Dl : D ≠ l := fun z => by rw [z, upd_same] at nD; cases nD
      have nD0 : G D = none := by rwa [upd_ne Dl] at nD
      have Dp := P1.ne nD0
      have DH : H D = none := by
        cases e : H D with
        | none => rfl
        | some o => rw [kp0 _ _ Dp e] at nD0; cases nD0
      have nd := (pm.nodup_iff.mpr Bn)
      refine k D G1 xs DH kp1 (P2.mono (by omega)) gD (by omega) ⟨(List.nodup_append.mp nd).1, fun n hn => Ba n (pm.mem_iff.mp (List.mem_append_left _ hn))⟩

theorem ns_all : ∀ (ns : List (List Nat)) (F : Hp), AllP (ns.map fun n => VS (ofL n)) (strL ns) F
  | [], _ => rfl
  | n :: r, F => ⟨_, _, rfl, rfl, ns_all r F⟩
section
variable {p : Option Addr} {q : Addr} {n m l : Nat} {F F1 G : Hp} {L : List Addr} {te : TE} {ta : TA} {σ : L2.St}
theorem ev_acc {many : Nat} {E : XK} (h : EvA (some q) L F n ta σ [VR q, VI many]) (hm : many ≤ 5) : Ev (some q) L F (n + 6) (tCall spAcc [] E ta) σ (ExP (fun ns : List (List Nat) => ns.length = many ∧ NsOk ns) fun ns => VL (ns.map fun n => VS (ofL n))) :=
  Ev.call h fun vs F' G s a b al Q k => by
    obtain ⟨u, v, rfl, e1, e2⟩ := two_all al
    obtain ⟨k0, ns, c0, g, P, le⟩ := b.pn
    rw [show u = .ref q from e1, show v = .int many from e2]
    refine ⟨q, k0, c0, many, rfl, ⟨ns, c0, g, P, by omega⟩, by omega, by omega, by omega, fun t G1 xs ht kp P1 ht1 len ok => ?_⟩
    have x := Nx.kp a P kp P1
    have y := x.put ht (a.nf ht) ht1 (a.nl ht)
    exact k _ _ _ y ⟨xs, ⟨by omega, ok⟩, t, _, rfl, upd_same, ns_all xs _⟩
theorem allP_ex {α β : Type} {Pp : α → β → Prop} {R : α → β → Pr} : ∀ {zs : List α} {vs : List V}, AllP (zs.map fun z => ExP (Pp z) (R z)) vs F → ∃ ps : List (α × β), ps.map (·.1) = zs ∧ (∀ p ∈ ps, Pp p.1 p.2) ∧ AllP (ps.map fun p => R p.1 p.2) vs F
  | [], _, h => ⟨[], rfl, by simp, h⟩
  | z :: zs, _, ⟨v, r, e, ⟨x, hx, hv⟩, h⟩ => by
    obtain ⟨ps, e1, h1, h2⟩ := allP_ex h
    exact ⟨(z, x) :: ps, by rw [List.map_cons, e1], fun p hp => by
      rcases List.mem_cons.mp hp with rfl | hp
      · exact hx
      · exact h1 p hp, v, r, e, hv, h2⟩
/-- a list of what is told of some things: the list of things -/
theorem Ev.vlX {α β : Type} {Pp : α → β → Prop} {R : α → β → Pr} {zs : List α} (h : Ev p L F n te σ (VL (zs.map fun z => ExP (Pp z) (R z)))) : Ev p L F n te σ (ExP (fun ps : List (α × β) => ps.map (·.1) = zs ∧ ∀ p ∈ ps, Pp p.1 p.2) fun ps => VL (ps.map fun p => R p.1 p.2)) := h.to fun v F' _ ⟨a, vs, e, ha, al⟩ => by
  obtain ⟨ps, e1, h1, h2⟩ := allP_ex al
  exact ⟨ps, ⟨e1, h1⟩, a, vs, e, ha, h2⟩
/-- dict(l) of a list of pairs -/
theorem Ev.dictPM {α : Type} {zs : List α} {ky : α → Key} {R : α → Pr} [∀ x, Mo (R x)] (h : EvA p L F n ta σ [VL (zs.map fun z => VT [VKy (ky z), R z])]) (nd : (zs.map ky).Nodup) : Ev p L F n (tCB (fun xs H Q => ∃ (a : Addr) (ps : List Addr) (kvs : List (Key × V)), xs = [.ref a] ∧ SqL K H a (ps.map V.ref) ∧ Paired (fun p kv => SqT K H p [kV kv.1, kv.2]) ps kvs ∧
    ∀ p, H p = none → Q (.ref p) (L2.upd H p (.dK (mergeK [] kvs)))) ta) σ (VD (zs.map fun z => (ky z, R z))) :=
  Ev.dictP (by rw [List.map_map]; exact h) (by rw [List.map_map]; exact nd)
/-- one of a list of ints -/
theorem Ev.pickI {is : List Int} (h : EvA (some q) L F n ta σ [VR q, VL (is.map VI)]) (h0 : 0 < is.length) (h1 : is.length ≤ 1000000) {K : PySem.W.Frag} {E : XK} : Ev (some q) L F (n + 1) (tCall (spPick K) [] E ta) σ (ExP (· ∈ is) VI) := (Ev.pickL h (by simpa using h0) (by simpa using h1)).to fun v F' _ ⟨S, hS, hv⟩ => by
  obtain ⟨i, hi, rfl⟩ := List.mem_map.mp hS
  exact ⟨i, hi, hv⟩
end

def cfs : List Int := [1, -1, 2, -3, 9, -9, 5]
def teT (K : PySem.W.Frag) : TE := tTup (tCons (cV 2) (tCons (tCall (spPick K) [] E0 (tCons (cV 0) (tCons (tLst (tCons (tC (.int 1)) (tCons (tUn (rU fun i => .int (-i)) (tC (.int 1))) (tCons (tC (.int 2)) (tCons (tUn (rU fun i => .int (-i)) (tC (.int 3))) (tCons (tC (.int 9)) (tCons (tUn (rU fun i => .int (-i)) (tC (.int 9))) (tCons (tC (.int 5)) tNil)))))))) tNil))) tNil))
/-- terms: parts of such accounts -/
def TmOk (ns : List (List Nat)) (ps : List (List Nat × Int)) : Prop := ps.map (·.1) = ns ∧ PsOk ps
abbrev spTerms : Sp := spZp 6 (fun _ => True) (fun ns : List (List Nat) => ns.length ≤ 5 ∧ NsOk ns) (fun ns => [VL (ns.map fun n => VS (ofL n))]) fun ns => ExP (TmOk ns) VP
theorem ok_terms {f : Addr} {fd : FuncData} (F : Fun K "_law_terms" "_law_terms" s__law_terms f fd) (T : Txt K mg) (cP : CalO P w K mg base "_law_pick" 2 ["_law_pen_here", "_law_some"] (spPick K) (fun _ => True)) : FnOk P w K mg base CX0 3 f fd ["_law_pen_here", "_law_owners"] spTerms := by
  refine F.ok sc__law_terms (fun vs H Q E h => ?_) (fun cdv A' outer s H vs Q E hr h => ?_)
  · obtain ⟨x, q, L, F, ws, rfl, _, _, _, _, al, _⟩ := h
    exact congrArg Nat.succ al.len
  · obtain ⟨ns, q, L, F, ws, rfl, ⟨l5, ok⟩, _, a, bu, al, k⟩ := h
    obtain ⟨v, rfl, sv⟩ := one_all al
    refine ⟨_, (pss_one (ps_ret (pe_callTy (call_dictP rfl) (by rfl) T.b_dict (by decide +kernel) (pa_cons (pe_lc (own := [("_law_owner", 2)]) (g := gName 2) (tt := tYes) (te := teT K) rfl sc__law_terms.nd (pi_list (pc 1)) (blkOk_by (own := [("_law_owner", 2)]) (N := n__law_terms) (sc := defScope s__law_terms) (by decide +kernel)) (fun _ _ _ _ _ => pg_name (i := 2) sc__law_terms.nd rfl (Or.inl rfl)) (fun _ _ _ _ _ => pts_nil) (fun _ _ _ _ _ => by exact (pe_tup (pa_cons (pc 2) (pa_cons (pe_cO cP (hr.mono (by decide)) (pa_cons (pc 0) (pa_cons (pe_lst (pa_cons pe_int (pa_cons (pe_un un_neg pe_int) (pa_cons pe_int (pa_cons (pe_un un_neg pe_int) (pa_cons pe_int (pa_cons (pe_un un_neg pe_int) (pa_cons pe_int pa_nil)))))))) pa_nil))) pa_nil))))) pa_nil)))), ?_⟩
    refine goRet (n := 6) (S := ExP (TmOk ns) VP) (p := some q) (L := L) (F := F) ?_ a bu fun u F1 G1 x1 su => k _ _ _ x1 su
    refine Ev.le (n := 5 + 0) (Ev.exI (n := 5) (m := 0) (P := fun ps : List (List Nat × Int) => ps.map (·.1) = ns ∧ ∀ p ∈ ps, p.2 ∈ cfs) (R := fun ps => VL (ps.map fun p => VT [VS (ofL p.1), VI p.2])) (ctx := fun t => tCB _ (tCons t tNil)) ?_ (fun ps u F' hp s hu => ?_) (fun _ _ h => h)) (by omega)
    · refine Ev.vlX (Ev.le (Ev.lcA (n0 := 0) (n := 1) (zs := ns) (R := fun n => VS (ofL n)) (R' := fun n => ExP (· ∈ cfs) fun i => VT [VS (ofL n), VI i]) ?_ (fun z hz x F' s hx => ?_) (by omega)) (by omega))
      · exact EvI.list (Ev.var rfl sv)
      · refine ⟨[some (.ref q), some v, some x], rfl, fun G Q _ h => h, ?_⟩
        have e7 : EvA (some q) L F' 0 (tCons (tC (.int 1)) (tCons (tUn (rU fun i => .int (-i)) (tC (.int 1))) (tCons (tC (.int 2)) (tCons (tUn (rU fun i => .int (-i)) (tC (.int 3))) (tCons (tC (.int 9)) (tCons (tUn (rU fun i => .int (-i)) (tC (.int 9))) (tCons (tC (.int 5)) tNil))))))) [some (.ref q), some v, some x] (cfs.map VI) :=
          EvA.cons (n := 0) (m := 0) (Ev.c rfl) (EvA.cons (n := 0) (m := 0) (Ev.neg (Ev.c rfl)) (EvA.cons (n := 0) (m := 0) (Ev.c rfl) (EvA.cons (n := 0) (m := 0) (Ev.neg (Ev.c rfl)) (EvA.cons (n := 0) (m := 0) (Ev.c rfl) (EvA.cons (n := 0) (m := 0) (Ev.neg (Ev.c rfl)) (EvA.cons (n := 0) (m := 0) (Ev.c rfl) EvA.nil))))))
        refine (Ev.tup (n := 1) (Ss := [VS (ofL z), ExP (· ∈ cfs) VI]) (EvA.cons (n := 0) (m := 1) (Ev.var rfl hx) (EvA.cons (n := 1) (m := 0) (Ev.pickI (n := 0) (is := cfs) (EvA.cons (n := 0) (m := 0) (Ev.var rfl rfl) (EvA.cons (n := 0) (m := 0) (Ev.lst e7 (by rw [List.length_map]; decide)) EvA.nil)) (by decide) (by decide)) EvA.nil))).to fun v F' _ ⟨a, vs, e, ha, w1, r1, e1, h1, w2, r2, e2, ⟨i, hi, h2⟩, h3⟩ => ⟨i, hi, a, vs, e, ha, w1, r1, e1, h1, w2, r2, e2, h2, h3⟩
    · obtain ⟨e, hp⟩ := hp
      have nd : (ps.map (·.1)).Nodup := by rw [e]; exact ok.nd
      have okp : PsOk ps := ⟨nd, by have := congrArg List.length e; rw [List.length_map] at this; omega, fun p h => by
        refine ⟨ok.all p.1 (by rw [← e]; exact List.mem_map.mpr ⟨p, h, rfl⟩), ?_⟩
        have := hp p h
        unfold cfs at this
        simp only [List.mem_cons, List.not_mem_nil, or_false] at this
        omega⟩
      refine Ev.toX ps ⟨e, okp⟩ ?_
      exact Ev.dictPM (zs := ps) (ky := kyN) (R := fun p => VI p.2) (EvA.cons (n := 0) (m := 0) (Ev.c hu) EvA.nil) (kyN_nd nd)

end
end LW

set_option Elab.async false
set_option linter.all false
set_option maxRecDepth 100000
set_option maxHeartbeats 4000000
namespace LW
open PySem PySem.Spec PyProof.Rows L2 HX NumText
section
variable {P : Program} {w : World} {K : PySem.W.Frag} {mg : Str → Option Value} {base : Heap}

/-- a property, an own operator, by its promise -/
def PropZ (P : Program) (w : World) (K : PySem.W.Frag) (mg : Str → Option Value) (base : Heap) (C : Addr) (nm : Str) (k : Nat) (sp : Sp) : Prop := ∃ (p g : Addr) (fd : FuncData), PropOf K C nm p g ∧ FnOk P w K mg base CX0 k g fd ["self"] sp ∧ Binds K fd ["self"] []
def OpZ (P : Program) (w : World) (K : PySem.W.Frag) (mg : Str → Option Value) (base : Heap) (C : Addr) (nm : Str) (k : Nat) (ps : List Str) (sp : Sp) : Prop := ∃ (f : Addr) (fd : FuncData), PySem.W.findIn K (.ref C) nm = some (some (.ref f)) ∧ PySem.W.isFn K (.ref f) = true ∧ PySem.W.fnIn K f = true ∧ FnOk P w K mg base CX0 k f fd ps sp ∧ Binds K fd ps []
abbrev spLacc (C : Addr) : Sp := spZ (fun Lk => Lk = []) (fun _ => True) (fun qs => [VLc C qs]) fun qs => VT (qs.map fun p => VS (ofL p.1))
abbrev spLcon (C : Addr) : Sp := spZ (fun Lk => Lk = []) (fun _ => True) (fun x : List (List Nat × Int) × Option Str => [VLc C x.1, VQ x.2]) fun x => VB (hasK x.1 x.2)
abbrev spLget (C : Addr) : Sp := spZ (fun Lk => Lk = []) (fun _ => True) (fun x : List (List Nat × Int) × Option Str => [VLc C x.1, VQ x.2]) fun x => VI (getK x.1 x.2)
abbrev spLlen (C : Addr) : Sp := spZ (fun Lk => Lk = []) (fun _ => True) (fun qs => [VLc C qs]) fun qs => VI qs.length
section
variable {p : Option Addr} {n m : Nat} {F : Hp} {t1 t2 te : TE} {ta : TA} {σ : L2.St} {C : Addr} {E : XK} {qs : List (List Nat × Int)} {o : Option Str} {neg : Bool}
theorem ev_accs (h : Ev p [] F n te σ (VLc C qs)) : Ev p [] F n (tProp C (spLacc C) [] E te) σ (VT (qs.map fun p => VS (ofL p.1))) := fun G a b Q k => h G a b _ fun v F1 G1 x1 sv => by
  have sv' := sv
  obtain ⟨o, dx, fs, u, rfl, ho, _⟩ := sv
  exact ⟨o, dx, fs, rfl, (x1.at_ a).dkL ho, qs, p, [], F1, trivial, rfl, x1.at_ a, ⟨_, [], rfl, sv', rfl⟩, fun v F2 G2 y s2 => k v F2 G2 (x1.trans y) s2⟩
theorem ev_lenO (h : EvA p [] F n ta σ [VLc C qs]) (hl : qs.length < 64) : Ev p [] F n (tCB (rLenO C (spLlen C) E) ta) σ (VI qs.length) :=
  Ev.cb (l := 0) h fun vs F' G s a _ al Q k => by
    obtain ⟨v, rfl, e⟩ := one_all al
    obtain ⟨x, rfl, ix⟩ := isI_lc a e
    exact ⟨x, rfl, ix, qs, p, [], F', trivial, rfl, a, ⟨_, _, rfl, e, rfl⟩, fun z F'' G' y sz => ⟨qs.length, sz, by omega, by omega, k _ F'' G' y rfl⟩⟩
theorem ev_inO (h1 : Ev p [] F n t1 σ (VQ o)) (h2 : Ev p [] F m t2 σ (VLc C qs)) : Ev p [] F (n + m) (tOp (rInO C neg (spLcon C) E) t1 t2) σ (VB (xor neg (hasK qs o))) :=
  Ev.op (l := 0) h1 h2 fun v u F' G s a _ e1 e2 Q k => by
    obtain ⟨x, rfl, ix⟩ := isI_lc a e2
    exact ⟨x, rfl, ix, (qs, o), p, [], F', trivial, rfl, a, ⟨_, _, rfl, e2, _, _, rfl, e1, rfl⟩, fun z F'' G' y sz => ⟨hasK qs o, sz, k _ F'' G' y rfl⟩⟩
theorem ev_ixO (h1 : Ev p [] F n t1 σ (VLc C qs)) (h2 : Ev p [] F m t2 σ (VQ o)) : Ev p [] F (n + m) (tOp (rIxO C (spLget C) E) t1 t2) σ (VI (getK qs o)) :=
  Ev.op (l := 0) h1 h2 fun v u F' G s a _ e1 e2 Q k => by
    obtain ⟨x, rfl, ix⟩ := isI_lc a e1
    exact ⟨x, rfl, ix, (qs, o), p, [], F', trivial, rfl, a, ⟨_, _, rfl, e1, _, _, rfl, e2, rfl⟩, fun z F'' G' y sz => k _ F'' G' y sz⟩
theorem getK_some {ps : List (List Nat × Int)} {z : Str} : getK ps (some z) = ((ps.find? fun p => decide (kyN p = .inr z)).map (·.2)).getD 0 := rfl
theorem hasK_some {ps : List (List Nat × Int)} {z : Str} : hasK ps (some z) = (valP (pD ps) (.inr z)).isSome := rfl
theorem ev_getD {t3 : TE} {l : Nat} {z : Str} {ps : List (List Nat × Int)} (h1 : Ev p [] F n t1 σ (VP ps)) (h2 : Ev p [] F m t2 σ (VS z)) (h3 : Ev p [] F l t3 σ (VI 0)) : Ev p [] F (n + m + l) (tDGet2 t1 t2 t3) σ (VI (getK ps (some z))) :=
  (Ev.dget2 (ps := pD ps) (k := .inr z) h1 h2 h3).to fun v F' _ h => by
    rw [valP_get] at h
    rw [getK_some]
    cases e : ps.find? fun p => decide (kyN p = .inr z) with
    | none => rw [e] at h; exact h
    | some r => rw [e] at h; exact h
end
theorem psok_sm {ps : List (List Nat × Int)} (ok : PsOk ps) (o : Option Str) : -9 ≤ getK ps o ∧ getK ps o ≤ 9 := by
  cases o with
  | none => exact ⟨by show (-9 : Int) ≤ 0; decide, by show (0 : Int) ≤ 9; decide⟩
  | some z =>
    rw [getK_some]
    cases e : ps.find? fun p => decide (kyN p = .inr z) with
    | none => exact ⟨by show (-9 : Int) ≤ 0; decide, by show (0 : Int) ≤ 9; decide⟩
    | some r =>
      obtain ⟨_, a, b, _⟩ := ok.all r (List.mem_of_find?_eq_some e)
      exact ⟨a, b⟩
theorem getK_mem {ps : List (List Nat × Int)} {p : List Nat × Int} (nd : (ps.map (·.1)).Nodup) (h : p ∈ ps) : getK ps (some (ofL p.1)) = p.2 := by
  rw [getK_some]
  cases e : ps.find? fun q => decide (kyN q = .inr (ofL p.1)) with
  | none =>
    have := List.find?_eq_none.mp e p h
    simp [kyN] at this
  | some r =>
    have hr : kyN r = .inr (ofL p.1) := by simpa using List.find?_some e
    have hm := List.mem_of_find?_eq_some e
    have := nodup_fst nd hm h (ofL_inj (Sum.inr.inj hr))
    rw [this]
    rfl
theorem getK_out {ps : List (List Nat × Int)} {z : Str} (h : ∀ p ∈ ps, ofL p.1 ≠ z) : getK ps (some z) = 0 := by
  rw [getK_some]
  cases e : ps.find? fun q => decide (kyN q = .inr z) with
  | none => rfl
  | some r =>
    have hr : kyN r = .inr z := by simpa using List.find?_some e
    exact absurd (Sum.inr.inj hr) (h r (List.mem_of_find?_eq_some e))
theorem getK_perm {ps qs : List (List Nat × Int)} (ok : PsOk ps) (pm : qs.Perm ps) (o : Option Str) : getK qs o = getK ps o := by
  cases o with
  | none => rfl
  | some z =>
    by_cases c : ∃ p ∈ ps, ofL p.1 = z
    · obtain ⟨p, hp, rfl⟩ := c
      rw [getK_mem ok.nd hp, getK_mem (ok.perm pm).nd (pm.mem_iff.mpr hp)]
    · have h : ∀ p ∈ ps, ofL p.1 ≠ z := fun p hp e => c ⟨p, hp, e⟩
      rw [getK_out h, getK_out fun p hp => h p (pm.mem_iff.mp hp)]
theorem hasK_get {ps : List (List Nat × Int)} (ok : PsOk ps) (o : Option Str) : hasK ps o = decide (getK ps o ≠ 0) := by
  cases o with
  | none => rfl
  | some z =>
    rw [hasK_some, getK_some, valP_get]
    cases e : ps.find? fun q => decide (kyN q = .inr z) with
    | none => rfl
    | some r =>
      have := (ok.all r (List.mem_of_find?_eq_some e)).2.2.2
      show true = decide (r.2 ≠ 0)
      rw [decide_eq_true this]
theorem abc_lt : ∀ c ∈ abc, c < 16 ^ 8 := by decide +kernel
theorem names_facts : ∀ (ps : List (List Nat × Int)), (∀ p ∈ ps, Nm p.1) → PyData.showableAll (ps.map fun p => PyData.str (ofL p.1)) = true ∧ PyData.depthAll (ps.map fun p => PyData.str (ofL p.1)) ≤ 3 ∧ PyData.leavesShortAll 1000 (ps.map fun p => PyData.str (ofL p.1)) = true ∧ PyData.weightAll (ps.map fun p => PyData.str (ofL p.1)) ≤ 100 * ps.length
  | [], _ => ⟨rfl, by decide, rfl, by decide⟩
  | p :: r, h => by
    obtain ⟨b1, b2, b3, b4⟩ := names_facts r fun q hq => h q (List.mem_cons_of_mem _ hq)
    obtain ⟨l1, l8, ha⟩ := h p List.mem_cons_self
    have sn : (ofL p.1).cps.toList.all (fun c => decide (c < 16 ^ 8)) = true := by
      rw [ofL_cps, List.all_eq_true]
      exact fun c hc => decide_eq_true (abc_lt c (ha c hc))
    have ls : (ofL p.1).cps.size ≤ 8 := by
      have : (ofL p.1).length ≤ 8 := by rw [ofL_len]; exact l8
      exact this
    rw [List.map_cons, List.length_cons]
    refine ⟨?_, ?_, ?_, ?_⟩
    · rw [PyData.showableAll, b1, Bool.and_true]
      first
        | rfl
        | (unfold PyData.showable; first | exact sn | rfl)
    · rw [PyData.depthAll]
      unfold PyData.depth
      omega
    · rw [PyData.leavesShortAll, b3, Bool.and_true]
      unfold PyData.leavesShort
      exact sn
    · rw [PyData.weightAll]
      unfold PyData.weight
      omega
theorem names_okD {ps : List (List Nat × Int)} (h : ∀ p ∈ ps, Nm p.1) (hl : ps.length < 64) : OkD (.tuple (ps.map fun p => PyData.str (ofL p.1))) := by
  obtain ⟨b1, b2, b3, b4⟩ := names_facts ps h
  refine ⟨b1, ?_, b3, ?_⟩
  · unfold PyData.depth
    omega
  · unfold PyData.weight
    omega
def nmT (qs : List (List Nat × Int)) : Str := (PyData.tuple (qs.map fun p => PyData.str (ofL p.1))).shown
theorem ev_reprN {p : Option Addr} {n : Nat} {F : Hp} {ta : TA} {σ : L2.St} {qs : List (List Nat × Int)} (h : EvA p [] F n ta σ [VT (qs.map fun p => VS (ofL p.1))]) (ok : PsOk qs) : Ev p [] F n (tCB rRepr ta) σ (VS (nmT qs)) := Ev.reprT h (names_okD (fun p hp => (ok.all p hp).1) ok.l64)
theorem ib_okD : ∀ i ∈ ([-9, -8, -7, -6, -5, -4, -3, -2, -1, 0, 1, 2, 3, 4, 5, 6, 7, 8, 9] : List Int), ∀ b : Bool, OkD (.list [.int i, .bool b]) := fun i hi b => okD_by (by
  revert i b
  decide +kernel)
theorem ib_ok {i : Int} {b : Bool} (h1 : -9 ≤ i) (h2 : i ≤ 9) : OkD (.list [.int i, .bool b]) := ib_okD i (by
  simp only [List.mem_cons, List.not_mem_nil, or_false]
  omega) b
def ibT (i : Int) (b : Bool) : Str := (PyData.list [.int i, .bool b]).shown
theorem ev_reprIB {p : Option Addr} {n : Nat} {F : Hp} {ta : TA} {σ : L2.St} {i : Int} {b : Bool} (h : EvA p [] F n ta σ [VL [VI i, VB b]]) (h1 : -9 ≤ i) (h2 : i ≤ 9) : Ev p [] F n (tCB rReprL ta) σ (VS (ibT i b)) := Ev.reprL h (ib_ok h1 h2)

theorem ev_isiN {p : Option Addr} {n : Nat} {F : Hp} {ta : TA} {σ : L2.St} (h : EvA p [] F n ta σ [VNs, VC (.ty "str")]) : Ev p [] F n (tCB (rIsi2 K) ta) σ (VB false) :=
  Ev.cb (l := 0) h fun vs F' G s a _ al Q k => by
    obtain ⟨u, v, rfl, e1, e2⟩ := two_all al
    rw [show v = .ty "str" from e2]
    obtain ⟨t, ty, tm⟩ := VNs.ty (K := K) a e1
    exact ⟨u, .ty "str", .type t, _, false, rfl, ty, (fun u r => r), kit_str t tm, k _ _ _ (Nx.refl a) rfl⟩
theorem Ev.dnew {p : Option Addr} {F : Hp} {L : List Addr} {σ : L2.St} : Ev p L F 0 tDNewK σ (VD []) := fun G a b Q q => by
  intro t nt
  have y := Nx.new a nt (.dK [])
  exact q _ _ _ y ⟨t, _, rfl, upd_same, rfl⟩
def oddO : List (Option Str) := [some (Str.ofString "q"), some (Str.ofString "a"), some (Str.ofString "none"), some (Str.ofString ""), some (Str.ofString "A"), none, none, none, none, none, none]
@[reducible] def oddP : List Pr := [VS (Str.ofString "q"), VS (Str.ofString "a"), VS (Str.ofString "none"), VS (Str.ofString ""), VS (Str.ofString "A"), VN, VI 0, VB true, VT [VS (Str.ofString "a")], VL [VS (Str.ofString "a")], VD []]
theorem odd_to {ws : List V} {F : Hp} (h : AllP oddP ws F) : AllP (oddO.map VQ) ws F := by
  obtain ⟨v1, _, rfl, h1, v2, _, rfl, h2, v3, _, rfl, h3, v4, _, rfl, h4, v5, _, rfl, h5, v6, _, rfl, h6, v7, _, rfl, h7, v8, _, rfl, h8, v9, _, rfl, ⟨a9, x9, e9, h9, _⟩, v10, _, rfl, ⟨a10, x10, e10, h10, _⟩, v11, _, rfl, ⟨a11, x11, e11, h11, _⟩, rfl⟩ := h
  exact ⟨v1, _, rfl, h1, v2, _, rfl, h2, v3, _, rfl, h3, v4, _, rfl, h4, v5, _, rfl, h5, v6, _, rfl, .inl h6, v7, _, rfl, .inr (.inl ⟨0, h7⟩), v8, _, rfl, .inr (.inr (.inl ⟨true, h8⟩)), v9, _, rfl, .inr (.inr (.inr (.inr (.inl ⟨a9, x9, e9, h9⟩)))), v10, _, rfl, .inr (.inr (.inr (.inl ⟨a10, x10, e10, h10⟩))), v11, _, rfl, .inr (.inr (.inr (.inr (.inr ⟨a11, x11, e11, h11⟩)))), rfl⟩
theorem AllP.split {F : Hp} : ∀ {Ss Ts : List Pr} {vs : List V}, AllP (Ss ++ Ts) vs F → ∃ us ws, vs = us ++ ws ∧ AllP Ss us F ∧ AllP Ts ws F
  | [], _, vs, h => ⟨[], vs, rfl, rfl, h⟩
  | S :: Ss, _, _, ⟨v, r, e, hv, h⟩ => by
    obtain ⟨us, ws, e2, h1, h2⟩ := AllP.split h
    exact ⟨v :: us, ws, by rw [e, e2]; rfl, ⟨v, us, rfl, hv, h1⟩, h2⟩

abbrev spTold (Ln : Addr) : Sp := spZ (fun Lk => Lk = []) (fun x : List (List Nat × Int) × List (List Nat × Int) => PsOk x.1 ∧ x.2.Perm x.1 ∧ Asc x.2 ∧ x.1.length ≤ 60) (fun x => [VLc Ln x.2, VP x.1]) fun _ => VB true
set_option maxHeartbeats 400000 in
theorem ok_told {f Ln : Addr} {fd : FuncData} (F : Fun K "_law_told_right" "_law_told_right" s__law_told_right f fd) (T : Txt K mg) (lL : LnF K Ln) (zA : PropZ P w K mg base Ln "accounts" 1 (spLacc Ln)) (zL : OpZ P w K mg base Ln "__len__" 1 ["self"] (spLlen Ln)) (zC : OpZ P w K mg base Ln "__contains__" 1 ["self", "account"] (spLcon Ln)) (zG : OpZ P w K mg base Ln "__getitem__" 2 ["self", "account"] (spLget Ln)) : FnG P w K mg base CX0 4 f fd ["_law_made", "_law_terms_here"] (spTold Ln) := by
  obtain ⟨pA, gA, fdA, hA, FA, bA⟩ := zA
  obtain ⟨aL, fdL, hsL, hfL, hnL, FL, bL⟩ := zL
  obtain ⟨aC, fdC, hsC, hfC, hnC, FC, bC⟩ := zC
  obtain ⟨aG, fdG, hsG, hfG, hnG, FG, bG⟩ := zG
  refine fun_okG F sc__law_told_right (fun vs H Q E h => ?_) (fun cdv A' outer s H vs Q E gd hr h => ?_)
  · obtain ⟨x, p, Lk, F, _, _, _, al, _⟩ := h
    exact al.len
  · obtain ⟨⟨ps, qs⟩, p, _, F, ⟨ok, pm, asc, l60⟩, rfl, a, al, k⟩ := h
    obtain ⟨v, u, rfl, sv, su⟩ := two_all al
    refine ⟨_, (pss_cons (s_if (PW.pt (w_or (t_cmp (o_ne hr.units) (pe_callB (call_reprD gd hr.units) (by rfl) T.b_repr (by decide +kernel) (pa_cons (pe_prop (pc 0) lL.cl hA FA (hr.mono (by decide)) bA .nil pass0 rfl) pa_nil)) (pe_callB (call_reprD gd hr.units) (by rfl) T.b_repr (by decide +kernel) (pa_cons (pe_callTy call_tuple_of (by rfl) T.b_tuple (by decide +kernel) (pa_cons (pe_callB cr_sortedS (by rfl) T.b_sorted (by decide +kernel) (pa_cons (pe_lock (pe_lc (own := [("_law_owner", 2)]) (g := gName 2) (tt := tYes) rfl sc__law_told_right.nd (pi_keys (pc 1)) (blkOk_by (own := [("_law_owner", 2)]) (N := n__law_told_right) (sc := defScope s__law_told_right) (by decide +kernel)) (fun _ _ _ _ _ => pg_name (i := 2) sc__law_told_right.nd rfl (Or.inl rfl)) (fun _ _ _ _ _ => pts_nil) (fun _ _ _ _ _ => (pe_callTy SkE.call_str_str (by rfl) T.b_str (by decide +kernel) (pa_cons (pc 2) pa_nil))))) pa_nil)) pa_nil)) pa_nil))) (pw_or1 (t_cmp (o_ne hr.units) (pe_callB (call_lenO hsL hfL FL bL (hr.mono (by decide)) pass0) (by rfl) T.b_len (by decide +kernel) (pa_cons (pc 0) pa_nil)) (pe_callB call_lenD (by rfl) T.b_len (by decide +kernel) (pa_cons (pc 1) pa_nil)))))) (pss_one (ps_ret pe_bl)) pss_nil)
    (pss_cons (ps_for PassesOwn.never rfl (pi_list (pe_op op_cat (pe_callTy (call_listD rfl) (by rfl) T.b_list (by decide +kernel) (pa_cons (pc 1) pa_nil)) (pe_lst (pa_cons pe_str (pa_cons pe_str (pa_cons pe_str (pa_cons pe_str (pa_cons pe_str (pa_cons pe_non (pa_cons pe_int (pa_cons pe_bl (pa_cons (pe_tup (pa_cons pe_str pa_nil)) (pa_cons (pe_lst (pa_cons pe_str pa_nil)) (pa_cons pe_dnewK pa_nil)))))))))))))) (pg_name (i := 2) sc__law_told_right.nd rfl (Or.inl rfl)) (pss_cons (ps_set (i := 3) sc__law_told_right.nd rfl (Or.inl rfl) (e_if (t_val (pe_callB c_isi (by rfl) T.b_isinstance (by decide +kernel) (pa_cons (pc 2) (pa_cons (pe_bltn (v := .ty "str") (u := .type "str") (by rfl) T.b_str (by decide +kernel) rfl) pa_nil)))) (pe_dget2 (Nat.lt_of_le_of_lt (Nat.add_le_add_left (by decide : 1 ≤ 64) _) hr.units) (pc 1) (pc 2) pe_int (by exact ⟨rfl, rfl, rfl, rfl⟩)) pe_int))
    (pss_one (s_if (t_cmp (o_ne hr.units) (pe_callB (call_reprL gd hr.units) (by rfl) T.b_repr (by decide +kernel) (pa_cons (pe_lst (pa_cons (pe_ixO hsG hfG hnG FG bG (hr.mono (by decide)) pass0 (pc 0) (pc 2)) (pa_cons (p_cmp (op_inO hsC hfC FC bC (hr.mono (by decide)) pass0) (pc 2) (pc 0)) pa_nil))) pa_nil)) (pe_callB (call_reprL gd hr.units) (by rfl) T.b_repr (by decide +kernel) (pa_cons (pe_lst (pa_cons (pc 3) (pa_cons (p_cmp (o_ne hr.units) (pc 3) pe_int) pa_nil))) pa_nil))) (pss_one (ps_ret pe_bl)) pss_nil))))
    (pss_one (ps_ret pe_bl)))), ?_⟩
    have okq := ok.perm pm
    have l60 : ps.length ≤ 60 := l60
    refine goOn (n := 0) (p := p) (L := []) (F := F) ?_ a Bud.zero fun F1 G1 x1 => ?_
    · refine EvT.bt (c := (xor true (decide (nmT qs = nmT qs))) || (xor true (decide ((qs.length : Int) = (ps.length : Int))))) (EvT.or (n := 0) (m := 0) (EvT.b (Ev.eqS (n := 0) (m := 0) ?_ ?_)) fun _ => EvT.b (Ev.eqI (n := 0) (m := 0) ?_ ?_)) (by simp [pm.length_eq])
      · refine ev_reprN (qs := qs) ?_ okq
        refine EvA.cons (n := 0) (m := 0) ?_ EvA.nil
        refine ev_accs (qs := qs) ?_
        exact Ev.var rfl sv
      · refine ev_reprN (qs := qs) ?_ okq
        refine EvA.cons (n := 0) (m := 0) ?_ EvA.nil
        refine Ev.tupL (Ss := qs.map fun p => VS (ofL p.1)) ?_
        refine EvA.cons (n := 0) (m := 0) ?_ EvA.nil
        have su0 := su
        obtain ⟨d, kvs, rfl, hd, al⟩ := su
        refine (Ev.sortedS (n := 0) (xs := ps.map fun p => ofL p.1) (EvA.cons (n := 0) (m := 0) (Ev.lock hd (by simp) ?_) EvA.nil) (by rw [List.length_map]; omega)).to fun v F' _ ⟨ys, ⟨q1, q2⟩, hv⟩ => ?_
        · rw [List.map_map]
          refine Ev.lc0 (R := fun p => VKy (kyN p)) (R' := fun p => VS (ofL p.1)) ?_ (fun z hz x F' s hx => ?_) (by omega)
          · exact EvI.keysM (zs := ps) (Ev.var rfl rfl) hd al
          · exact ⟨[some v, some (.ref d), some x, none], rfl, fun G Q _ h => h, Ev.strS (EvA.cons (n := 0) (m := 0) (Ev.var rfl hx) EvA.nil)⟩
        · obtain ⟨rs, r1, rfl⟩ := perm_lift (fun p : List Nat × Int => ofL p.1) q1.symm ps rfl
          have e : qs = rs := sorted_one (fun p : List Nat × Int => p.1) (pm.trans r1.symm) asc q2 (by exact (ok.perm r1).nd)
          rw [e]
          rw [List.map_map] at hv
          exact hv
      · exact ev_lenO (EvA.cons (n := 0) (m := 0) (Ev.var rfl sv) EvA.nil) okq.l64
      · refine (Ev.lenD (n := 0) (ps := pD ps) (EvA.cons (n := 0) (m := 0) (Ev.var rfl su) EvA.nil)).to fun v F' _ h => ?_
        unfold pD at h
        rw [List.length_map] at h
        exact h
    · have a1 := x1.at_ a
      replace sv := Mo.mo x1.s sv
      replace su := Mo.mo x1.s su
      refine forZ (n0 := 0) (n := 0) (xs := ((ps.map fun p => some (ofL p.1)) ++ oddO).map VQ) (F := F1) (p := p) (L := []) ?_ a1 (by simpa using Bud.zero) (fun _ σ' _ => ∃ o1 o2, σ' = [some v, some u, o1, o2]) (fun _ _ => ⟨none, none, rfl⟩) ?_ (fun _ _ _ _ _ h => h) ?_
      · refine EvI.list (Ev.to (S := VL (((pD ps).map fun e => VKy e.1) ++ oddP)) (Ev.catL (n := 0) (m := 0) (Ss := (pD ps).map fun e => VKy e.1) (Ts := oddP) (Ev.listD (EvA.cons (n := 0) (m := 0) (Ev.var rfl su) EvA.nil)) ?_ (by unfold pD oddP; rw [List.length_map, List.length_map]; simp; omega)) fun v F' _ ⟨c, vs, e, hc, al⟩ => ?_)
        · exact Ev.lst (Ss := oddP) (EvA.cons (n := 0) (m := 0) (Ev.c rfl) (EvA.cons (n := 0) (m := 0) (Ev.c rfl) (EvA.cons (n := 0) (m := 0) (Ev.c rfl) (EvA.cons (n := 0) (m := 0) (Ev.c rfl) (EvA.cons (n := 0) (m := 0) (Ev.c rfl) (EvA.cons (n := 0) (m := 0) (Ev.c rfl) (EvA.cons (n := 0) (m := 0) (Ev.c rfl) (EvA.cons (n := 0) (m := 0) (Ev.c rfl) (EvA.cons (n := 0) (m := 0) (Ev.tup (EvA.cons (n := 0) (m := 0) (Ev.c rfl) EvA.nil)) (EvA.cons (n := 0) (m := 0) (Ev.lst (EvA.cons (n := 0) (m := 0) (Ev.c rfl) EvA.nil)) (EvA.cons (n := 0) (m := 0) Ev.dnew EvA.nil)))))))))))
        · obtain ⟨us, ws, rfl, h1, h2⟩ := AllP.split al
          refine ⟨c, _, e, hc, ?_⟩
          rw [List.map_append, List.map_map]
          unfold pD at h1
          rw [List.map_map] at h1
          exact AllP.app h1 (odd_to h2)
      · rintro i S x σ1 F2 H2 eS hx sF a2 rn b2 ⟨o1, o2, rfl⟩ N hN
        rw [List.getElem?_map] at eS
        obtain ⟨o, ho, rfl⟩ := Option.map_eq_some_iff.mp eS
        have sv2 := Mo.mo sF sv
        have su2 := Mo.mo sF su
        refine gN_go ?_
        refine goSet (n := 0) (p := p) (L := []) (F := F2) (S := VI (getK ps o)) ?_ a2 Bud.zero fun w1 F3 G3 x3 s3 => ?_
        · cases o with
          | some z => exact Ev.ite (n := 0) (m := 0) (c := true) (EvT.b (Ev.isi (n := 0) (S := VS z) (EvA.cons (n := 0) (m := 0) (Ev.var rfl hx) (EvA.cons (n := 0) (m := 0) (Ev.c rfl) EvA.nil)) (fun v F' G _ a h => by rw [show v = .str z from h]; exact .str z) (fun u r => r) (kit_ty (by show kitB _ _ = some true; decide +kernel)))) (fun _ => ev_getD (Ev.var rfl su2) (Ev.var rfl hx) (Ev.c rfl)) fun h => nomatch h
          | none => exact Ev.ite (n := 0) (m := 0) (c := false) (EvT.b (ev_isiN (n := 0) (EvA.cons (n := 0) (m := 0) (Ev.var rfl hx) (EvA.cons (n := 0) (m := 0) (Ev.c rfl) EvA.nil)))) (fun h => nomatch h) fun _ => Ev.c rfl
        · have a3 := x3.at_ a2
          have sv3 := Mo.mo x3.s sv2
          have hx3 := Mo.mo x3.s hx
          obtain ⟨g1, g2⟩ := psok_sm ok o
          have e1 := getK_perm ok pm o
          have e2 := hasK_get okq o
          rw [e1] at e2
          refine EvT.go (n := 0) (p := p) (L := []) (F := F3) (c := false) ?_ a3 Bud.zero (fun e => nomatch e) fun _ F4 G4 x4 => hN [some v, some u, some x, some w1] F4 G4 (x3.trans x4) ⟨_, _, rfl⟩
          refine EvT.bt (c := xor true (decide (ibT (getK ps o) (decide (getK ps o ≠ 0)) = ibT (getK ps o) (decide (getK ps o ≠ 0))))) (EvT.b (Ev.eqS (n := 0) (m := 0) ?_ ?_)) (by simp)
          · refine ev_reprIB (n := 0) (i := getK ps o) (b := decide (getK ps o ≠ 0)) (EvA.cons (n := 0) (m := 0) (Ev.lst (EvA.cons (n := 0) (m := 0) ?_ (EvA.cons (n := 0) (m := 0) ?_ EvA.nil))) EvA.nil) g1 g2
            · rw [← e1]
              exact ev_ixO (Ev.var rfl sv3) (Ev.var rfl hx3)
            · rw [← e2]
              exact (ev_inO (neg := false) (Ev.var rfl hx3) (Ev.var rfl sv3)).bt (by simp)
          · refine ev_reprIB (n := 0) (i := getK ps o) (b := decide (getK ps o ≠ 0)) (EvA.cons (n := 0) (m := 0) (Ev.lst (EvA.cons (n := 0) (m := 0) (Ev.var rfl s3) (EvA.cons (n := 0) (m := 0) ?_ EvA.nil))) EvA.nil) g1 g2
            exact (Ev.eqI (neg := true) (Ev.var rfl s3) (Ev.c rfl)).bt (by simp)
      · rintro σ' F2 G2 x2 ⟨o1, o2, rfl⟩
        have x2' : Nx p [] 0 F1 G1 F2 G2 := x2.le (by simp)
        dsimp only
        refine goRet (n := 0) (p := p) (L := []) (F := F2) (S := VB true) (Ev.c rfl) (x2'.at_ a1) Bud.zero fun u F3 G3 x3 su => k _ _ _ ((x1.trans x2').trans x3) su

end
end LW

set_option Elab.async false
set_option linter.all false
set_option maxRecDepth 100000
set_option maxHeartbeats 4000000
namespace LW
open PySem PySem.Spec PyProof.Rows L2 HX NumText
section
variable {P : Program} {w : World} {K : PySem.W.Frag} {mg : Str → Option Value} {base : Heap}

section
variable {p : Option Addr} {n m l : Nat} {F G : Hp} {L : List Addr} {t1 t2 te : TE} {ta : TA} {σ : L2.St} {Ln Ct : Addr} {E : XK} {qs rs ps : List (List Nat × Int)} {neg c : Bool}
theorem mem_unique (ok : PsOk ps) (pm : qs.Perm ps) (asc : Asc qs) (pm2 : rs.Perm ps) (asc2 : Asc rs) : rs = qs := sorted_one (fun p : List Nat × Int => p.1) (pm2.trans pm.symm) asc2 asc (ok.perm pm).nd
theorem vln_to (ok : PsOk ps) (pm : qs.Perm ps) (asc : Asc qs) {v : V} (h : VLn Ln ps v F) : VO Ln [("_parts", VP qs)] v F := by
  obtain ⟨rs, r1, r2, h⟩ := vln_c h
  rw [← mem_unique ok pm asc r1 r2]
  exact h
instance : Mo (VMk Ln (PoL ps)) := ⟨fun s ⟨a, dx, fs, e, h, w⟩ => ⟨a, dx, fs, e, s _ _ h, w.mo s⟩⟩
instance {F0 : Hp} : Mo (VMk Ln (PoLN F0 ps)) := ⟨fun s ⟨a, dx, fs, e, h, w⟩ => ⟨a, dx, fs, e, s _ _ h, w.mo s⟩⟩
instance {x : List (List Nat × Int) × List Int} : Mo (VMk Ct (PoI x)) := ⟨fun s ⟨a, dx, fs, e, h, w⟩ => ⟨a, dx, fs, e, s _ _ h, w.mo s⟩⟩
/-- a Linear beside one that is made of such parts -/
theorem ev_eqN (h1 : Ev p [] F n t1 σ (VO Ln [("_parts", VP qs)])) (h2 : Ev p [] F m t2 σ (VLn Ln ps)) (ok : PsOk ps) (hc : ∀ rs, rs.Perm ps → Asc rs → eqP qs rs = c) : Ev p [] F (n + m) (tOp (rEqL K Ln neg (spLeq Ln) E) t1 t2) σ (VB (xor neg c)) :=
  Ev.op (l := 0) h1 h2 fun v u F' G s a _ e1 e2 Q k => by
    obtain ⟨rs, r1, r2, e2⟩ := vln_c e2
    obtain ⟨x, rfl, ix⟩ := isI_lc a (vo_c e1)
    obtain ⟨y, rfl, iy⟩ := isI_lc a (vo_c e2)
    have nd : ∀ rs', (some rs) = some rs' → (rs'.map (·.1)).Nodup := fun rs' e => by cases e; exact (ok.perm r1).nd
    refine ⟨x, rfl, ix, .inr (.inl ⟨y, rfl, iy⟩), (qs, some rs), p, [], F', nd, rfl, a, ⟨_, _, rfl, e1, _, _, rfl, e2, rfl⟩, fun z F'' G' y sz => ⟨eqP qs rs, sz, k _ F'' G' y ?_⟩⟩
    rw [hc rs r1 r2]
    rfl
theorem ev_lenPos (h : Ev p [] F n te σ (VP ps)) : Ev p [] F n (tOp (rI1 fun i j => V.bl (decide (j < i))) (tCB (fun xs H Q => ∃ a kvs, xs = [V.ref a] ∧ H a = some (.dK kvs) ∧ Q (.int kvs.length) H) (tCons te tNil)) (tC (.int 0))) σ (VB (decide ((0 : Int) < ps.length))) :=
  Ev.i1 (n := n) (m := 0) ((Ev.lenD (ps := pD ps) (EvA.cons (n := n) (m := 0) h EvA.nil)).to fun v F' _ h => by
    unfold pD at h
    rw [List.length_map] at h
    exact h) (Ev.c (S := VI 0) rfl)
theorem eqP_self : eqP qs qs = true := by unfold eqP; simp
abbrev VAn (C : Addr) : Pr := ExP (fun _ => True) (VLc C)
theorem vln_an {v : V} (h : VLn Ln ps v F) : VAn Ln v F := by
  obtain ⟨rs, _, _, h⟩ := vln_c h
  exact ⟨rs, trivial, vo_c h⟩
theorem vct_an {x : List (List Nat × Int) × List Int} {v : V} (h : VMk Ct (PoI x) v F) : VAn Ct v F := by
  obtain ⟨a, dx, fs, e, ha, rs, l, q1, q2, q3, al⟩ := h
  exact ⟨rs, trivial, vo_c (r := [("_days", VT (l.map VI))]) ⟨a, dx, fs, e, ha, al⟩⟩
theorem ev_anC (h1 : Ev p [] F n t1 σ (VAn Ln)) (h2 : Ev p [] F m t2 σ (VAn Ct)) (hn : Ln ≠ Ct) (hs : PySem.W.subIn K (.ref Ct) (.ref Ln) = some true) : Ev p [] F (n + m) (tOp (rEqR K Ln Ct neg (spIeq Ct Ln) E) t1 t2) σ (VB neg) :=
  Ev.op (l := 0) h1 h2 fun v u F' G s a _ ⟨qs, _, e1⟩ ⟨rs, _, e2⟩ Q k => by
    obtain ⟨x, rfl, ix⟩ := isI_lc a e1
    obtain ⟨y, rfl, iy⟩ := isI_lc a e2
    exact ⟨x, y, rfl, rfl, ix, iy, hn, hs, (rs, qs), p, [], F', trivial, rfl, a, ⟨_, _, rfl, e2, _, _, rfl, e1, rfl⟩, fun z F'' G' y sz => ⟨false, sz, k _ F'' G' y (by cases neg <;> rfl)⟩⟩
theorem ev_anD (h1 : Ev p [] F n t1 σ (VAn Ct)) (h2 : Ev p [] F m t2 σ (VAn Ln)) (hn : Ct ≠ Ln) (hs : PySem.W.subIn K (.ref Ln) (.ref Ct) = some false) : Ev p [] F (n + m) (tOp (rEqL K Ct neg (spIeq Ct Ln) E) t1 t2) σ (VB neg) :=
  Ev.op (l := 0) h1 h2 fun v u F' G s a _ ⟨qs, _, e1⟩ ⟨rs, _, e2⟩ Q k => by
    obtain ⟨x, rfl, ix⟩ := isI_lc a e1
    obtain ⟨y, rfl, iy⟩ := isI_lc a e2
    exact ⟨x, rfl, ix, .inr (.inr ⟨y, Ln, rfl, iy, hn, hs⟩), (qs, rs), p, [], F', trivial, rfl, a, ⟨_, _, rfl, e1, _, _, rfl, e2, rfl⟩, fun z F'' G' y sz => ⟨false, sz, k _ F'' G' y (by cases neg <;> rfl)⟩⟩
/-- Count(a, d) -/
theorem ev_count {CC : Addr → Prop} {l : List Nat} {d : Int} (h : EvA p [] F n ta σ [VS (ofL l), VI d]) (hl : Nm l) (hd : DysOk [d]) (cc : CC Ct) : Ev p [] F n (StX.tMakeR Ct (spCount CC) E ta) σ (VMk Ct (PoI ([(l, 1)], [d]))) :=
  Ev.makeR (l := 0) h (fun fs F1 F2 s h => h.mo s) fun a dx vs F' G s at_ _ Fa np ha al Q k => by
    obtain ⟨v, u, rfl, e1, e2⟩ := two_all al
    refine ⟨[.ref a, v], [u], rfl, rfl, by show 1 ≤ sizeLine; decide, fun t nt => ?_⟩
    have y := Nx.new at_ nt (.tup [u])
    have na : t ≠ a := fun e => by rw [e, ha] at nt; cases nt
    refine ⟨(l, [d]), p, _, a, Ct, dx, [v, .ref t], rfl, ⟨hl, hd, by simp⟩, y.at_ at_, by rw [upd_ne (Ne.symm na)]; exact Fa, np, by rw [upd_ne (Ne.symm na)]; exact ha, cc, ⟨v, _, rfl, e1, _, _, rfl, ⟨t, _, rfl, upd_same, u, [], rfl, e2, rfl⟩, rfl⟩, fun fs F2 G2 x2 e3 po => ?_⟩
    exact k fs F2 G2 ((y.hd Fa (by rw [ha]; exact fun z => nomatch z) np).trans x2) e3 po
/-- dict(d), put aside -/
theorem goCopy {i : Nat} {ps : List (Key × Pr)} [MoK ps] {u : TS} {D : Ends} (h : EvA p L F n ta σ [VD ps]) (a : At p L F G) (b : Bud p n G) (k : ∀ d kvs F1 G1, As p L n F G d (.dK kvs) F1 G1 → AllK ps kvs F1 → u D (σ.set i (some (.ref d))) G1) :
    tSeq (tAsg (tCB (fun xs H Q => ∃ (a : Addr) (kvs : List (Key × V)), xs = [.ref a] ∧ Rd H a (.dK kvs) ∧ ∀ p, H p = none → Q (.ref p) (L2.upd H p (.dK kvs))) ta) (gName i)) u D σ G :=
  h G a b _ fun vs F1 G1 x1 s1 => by
    obtain ⟨v, rfl, c, kvs, rfl, hc, al⟩ := one_all s1
    have a1 := x1.at_ a
    refine ⟨c, kvs, rfl, a1.dic hc, fun t nt => ?_⟩
    have h0 : G t = none := by
      cases e : G t with
      | none => rfl
      | some o => exact absurd nt (x1.r.trk (by rw [e]; exact fun z => nomatch z))
    exact k t kvs F1 _ ⟨a, by simpa using x1.trans (Nx.aside a1 (o := .dK kvs) nt), upd_same, h0⟩ al
theorem pD_allK : ∀ (ps : List (List Nat × Int)) (F : Hp), AllK (pD ps) (ps.map fun q => (kyN q, V.int q.2)) F
  | [], _ => rfl
  | p :: r, F => ⟨_, _, rfl, rfl, pD_allK r F⟩
/-- one part changed -/
def chg (p0 : List Nat × Int) (c : Int) (p : List Nat × Int) : List Nat × Int := if p.1 = p0.1 then (p.1, c) else p
theorem chg_1 {p0 p : List Nat × Int} {c : Int} : (chg p0 c p).1 = p.1 := by unfold chg; split <;> rfl
theorem putK_chg {p0 : List Nat × Int} {c : Int} (h : p0 ∈ ps) : putK (ps.map fun q => (kyN q, V.int q.2)) (kyN p0) (.int c) = (ps.map (chg p0 c)).map fun q => (kyN q, V.int q.2) := by
  unfold putK
  rw [if_pos (List.any_eq_true.mpr ⟨_, List.mem_map.mpr ⟨p0, h, rfl⟩, by simp⟩), List.map_map, List.map_map]
  refine List.map_congr_left fun q _ => ?_
  show (if kyN q = kyN p0 then (kyN q, V.int c) else (kyN q, V.int q.2)) = (kyN (chg p0 c q), V.int (chg p0 c q).2)
  unfold chg
  by_cases e : q.1 = p0.1
  · have e2 : kyN q = kyN p0 := by unfold kyN; rw [e]
    rw [if_pos e2, if_pos e]
    rfl
  · have e2 : kyN q ≠ kyN p0 := fun z => e (ofL_inj (Sum.inr.inj z))
    rw [if_neg e2, if_neg e]
theorem chg_ok {p0 : List Nat × Int} {c : Int} (ok : PsOk ps) (c1 : -9 ≤ c) (c2 : c ≤ 9) (c3 : c ≠ 0) : PsOk (ps.map (chg p0 c)) := by
  have e : (ps.map (chg p0 c)).map (·.1) = ps.map (·.1) := by rw [List.map_map]; exact List.map_congr_left fun q _ => chg_1
  refine ⟨by rw [e]; exact ok.nd, by rw [List.length_map]; exact ok.l64, fun p hp => ?_⟩
  obtain ⟨q, hq, rfl⟩ := List.mem_map.mp hp
  obtain ⟨a, b1, b2, b3⟩ := ok.all q hq
  refine ⟨by rw [chg_1]; exact a, ?_⟩
  unfold chg
  split
  · exact ⟨c1, c2, c3⟩
  · exact ⟨b1, b2, b3⟩
theorem chg_no {p0 : List Nat × Int} {c : Int} (pm : qs.Perm ps) (h : p0 ∈ ps) (hc : c ≠ p0.2) : ∀ rs, rs.Perm (ps.map (chg p0 c)) → Asc rs → eqP qs rs = false := fun rs pr _ => by
  cases e : eqP qs rs with
  | false => rfl
  | true =>
    unfold eqP at e
    rw [Bool.and_eq_true, List.all_eq_true] at e
    have m := of_decide_eq_true (e.2 p0 (pm.mem_iff.mpr h))
    obtain ⟨q, _, eq⟩ := List.mem_map.mp (pr.mem_iff.mp m)
    unfold chg at eq
    split at eq
    · exact absurd (by rw [← eq]) hc
    · rename_i ne
      exact absurd (by rw [eq]) ne
theorem len_no {ps' : List (List Nat × Int)} (h : qs.length ≠ ps'.length) : ∀ rs, rs.Perm ps' → Asc rs → eqP qs rs = false := fun rs pr _ => by
  unfold eqP
  rw [decide_eq_false (by rw [pr.length_eq]; exact h), Bool.false_and]
theorem psok_drop (ok : PsOk ps) : PsOk (ps.drop 1) := ⟨by rw [List.map_drop]; exact ok.nd.sublist (List.drop_sublist _ _), by rw [List.length_drop]; have := ok.l64; omega, fun p h => ok.all p (List.mem_of_mem_drop h)⟩
theorem psok_rev (ok : PsOk ps) : PsOk ps.reverse := ok.perm (List.reverse_perm ps)
end

abbrev spEqual (Ln : Addr) : Sp := spZp 2 (fun Lk => Lk = []) (fun x : List (List Nat × Int) × List (List Nat × Int) => PsOk x.1 ∧ x.2.Perm x.1 ∧ Asc x.2 ∧ x.1.length ≤ 5) (fun x => [VO Ln [("_parts", VP x.2)], VP x.1]) fun _ => VB true
set_option maxHeartbeats 800000 in
theorem ok_equal {f : Addr} {fd : FuncData} {fL Ln It Ck fI Ct fK fT fE fJ : Addr} {fdL fdE fdJ : FuncData} (F : Fun K "_law_equal_right" "_law_equal_right" s__law_equal_right f fd) (T : Txt K mg) (gLin : mg "Linear" = some (.ref Ln)) (mL : Mk K Ln fL) (FL : FnOk P w K mg base CX0 5 fL fdL ["self", "parts"] (spLini K)) (bL : Binds K fdL ["self", "parts"] []) (lL : LnF K Ln) (kL : KBn K fdL ["self", "parts"] 1 ["parts"] (fun us ws => us ++ ws) (fun vs zs => vs ++ zs)) (zA : PropZ P w K mg base Ln "accounts" 1 (spLacc Ln)) (gCt : mg "Count" = some (.ref Ct)) (mT : Mk K Ct fT) (FT : FnR P w K mg base CX0 8 fT (spCount (CtF K It fL Ck fI Ct fK))) (cT_ : (CtF K It fL Ck fI Ct fK) Ct) (EL : EqF K Ln fE) (FE : FnOk P w K mg base CX0 2 fE fdE ["self", "other"] (spLeq Ln)) (bE : Binds K fdE ["self", "other"] []) (EC : EqF K Ct fJ) (FJ : FnOk P w K mg base CX0 2 fJ fdJ ["self", "other"] (spIeq Ct Ln)) (bJ : Binds K fdJ ["self", "other"] []) (nLC : Ln ≠ Ct) (sCL : PySem.W.subIn K (.ref Ct) (.ref Ln) = some true) (sLC : PySem.W.subIn K (.ref Ln) (.ref Ct) = some false) (cP : CalO P w K mg base "_law_pick" 2 ["_law_pen_here", "_law_some"] (spPick K) (fun _ => True)) : FnOk P w K mg base CX0 12 f fd ["_law_pen_here", "_law_made", "_law_terms_here"] (spEqual Ln) := by
  obtain ⟨pA, gA, fdA, hA, FA, bA⟩ := zA
  refine F.ok sc__law_equal_right (fun vs H Q E h => ?_) (fun cdv A' outer s H vs Q E hr h => ?_)
  · obtain ⟨x, q, L, F, ws, rfl, _, _, _, _, al, _⟩ := h
    exact congrArg Nat.succ al.len
  · obtain ⟨⟨ps, qs⟩, q, _, F, ws, rfl, ⟨ok, pm, asc, l5⟩, rfl, a, bu, al, k⟩ := h
    obtain ⟨v, u, rfl, sv, su⟩ := two_all al
    have sv : VO Ln [("_parts", VP qs)] v F := sv
    have su : VP ps u F := su
    have l5 : ps.length ≤ 5 := l5
    have ok : PsOk ps := ok
    have pm : qs.Perm ps := pm
    refine ⟨_, (pss_cons (ps_set (i := 3) sc__law_equal_right.nd rfl (Or.inl rfl) (pe_callTy (call_dictP rfl) (by rfl) T.b_dict (by decide +kernel) (pa_cons (pe_revL (LiI.pe_listItems rfl (pc 2) (by rfl) T.b_list (by decide +kernel))) pa_nil)))
    (pss_cons (s_if (PW.pt (w_or (t_cmp (op_eqL (neg := true) rfl EL FE bE (hr.mono (by decide)) pass0) (pc 1) (pe_make mL FL (hr.mono (by decide)) rfl gLin bL .nil pass0 (pa_cons (pc 3) pa_nil))) (pw_or1 (pt_not (t_cmp (op_eqL (neg := false) rfl EL FE bE (hr.mono (by decide)) pass0) (pc 1) (pe_makeK0 mL FL (hr.mono (by decide)) rfl gLin kL pass0 (pk_cons (pe_callTy call_dictD (by rfl) T.b_dict (by decide +kernel) (pa_cons (pc 2) pa_nil)) pk_nil))))))) (pss_one (ps_ret pe_bl)) pss_nil)
    (pss_cons (ps_set (i := 4) sc__law_equal_right.nd rfl (Or.inl rfl) (pe_callTy call_dictD (by rfl) T.b_dict (by decide +kernel) (pa_cons (pc 2) pa_nil)))
    (pss_cons (s_if (t_cmp o_gt (pe_callB call_lenD (by rfl) T.b_len (by decide +kernel) (pa_cons (pc 2) pa_nil)) pe_int) (pss_cons (ps_set (i := 5) sc__law_equal_right.nd rfl (Or.inr rfl) (pe_cO cP (hr.mono (by decide)) (pa_cons (pc 0) (pa_cons (pe_callTy (call_listD rfl) (by rfl) T.b_list (by decide +kernel) (pa_cons (pc 2) pa_nil)) pa_nil))))
    (pss_one (ps_dput (Nat.lt_of_le_of_lt (Nat.add_le_add_left (by decide : 1 ≤ 64) _) hr.units) (pc 4) (pc 5) (pe_cO cP (hr.mono (by decide)) (pa_cons (pc 0) (pa_cons (pe_lc (own := [("_law_one", 9)]) (g := gName 9) (tt := (cT (tOp (rEq2 K true) (cV 9) (tDGet (cV 2) (cV 5))))) rfl sc__law_equal_right.nd (pi_list (pe_lst (pa_cons pe_int (pa_cons (pe_un un_neg pe_int) (pa_cons pe_int (pa_cons pe_int pa_nil)))))) (blkOk_by (own := [("_law_one", 9)]) (N := n__law_equal_right) (sc := defScope s__law_equal_right) (by decide +kernel)) (fun _ _ _ _ _ => pg_name (i := 9) sc__law_equal_right.nd rfl (Or.inl rfl)) (fun _ _ _ _ _ => (pts_one (t_cmp (o_ne hr.units) (pc 9) (pe_dget (Nat.lt_of_le_of_lt (Nat.add_le_add_left (by decide : 1 ≤ 64) _) hr.units) (pc 2) (pc 5) (by exact fun _ _ => rfl))))) (fun _ _ _ _ _ => (pc 9))) pa_nil))) (by rfl)))) (pss_one (ps_dput (Nat.lt_of_le_of_lt (Nat.add_le_add_left (by decide : 1 ≤ 64) _) hr.units) (pc 4) pe_str pe_int (by rfl))))
    (pss_cons (ps_set (i := 6) sc__law_equal_right.nd rfl (Or.inl rfl) (pe_callTy (call_dictP rfl) (by rfl) T.b_dict (by decide +kernel) (pa_cons (pe_slice sl_list (LiI.pe_listItems rfl (pc 2) (by rfl) T.b_list (by decide +kernel)) (po_some pe_int) po_none) pa_nil)))
    (pss_cons (s_if (PW.pt (w_or (t_cmp (op_eqL (neg := false) rfl EL FE bE (hr.mono (by decide)) pass0) (pc 1) (pe_make mL FL (hr.mono (by decide)) rfl gLin bL .nil pass0 (pa_cons (pc 4) pa_nil))) (pw_or1 (PW.pt (w_and (t_cmp o_gt (pe_callB call_lenD (by rfl) T.b_len (by decide +kernel) (pa_cons (pc 2) pa_nil)) pe_int) (pw_and1 (t_cmp (op_eqL (neg := false) rfl EL FE bE (hr.mono (by decide)) pass0) (pc 1) (pe_make mL FL (hr.mono (by decide)) rfl gLin bL .nil pass0 (pa_cons (pc 6) pa_nil))))))))) (pss_one (ps_ret pe_bl)) pss_nil)
    (pss_cons (ps_set (i := 7) sc__law_equal_right.nd rfl (Or.inl rfl) (pe_make mL FL (hr.mono (by decide)) rfl gLin bL .nil pass0 (pa_cons (pe_disp (pps_cons pe_str pe_int pps_nil) (by rfl) (by rfl) (fun z => by cases z) (by decide)) pa_nil)))
    (pss_cons (s_if (PW.pt (w_or (t_cmp (op_eqR (C := Ln) (neg := false) rfl EC FJ bJ (hr.mono (by decide)) pass0) (pc 7) (StX.pe_makeR mT FT (hr.mono (by decide)) rfl gCt pass0 (pa_cons pe_str (pa_cons pe_int pa_nil)))) (w_or (pt_not (t_cmp (op_eqR (C := Ln) (neg := true) rfl EC FJ bJ (hr.mono (by decide)) pass0) (pc 7) (StX.pe_makeR mT FT (hr.mono (by decide)) rfl gCt pass0 (pa_cons pe_str (pa_cons pe_int pa_nil))))) (pw_or1 (t_cmp (op_eqL (neg := false) rfl EC FJ bJ (hr.mono (by decide)) pass0) (StX.pe_makeR mT FT (hr.mono (by decide)) rfl gCt pass0 (pa_cons pe_str (pa_cons pe_int pa_nil))) (pc 7)))))) (pss_one (ps_ret pe_bl)) pss_nil)
    (pss_one (ps_ret (p_cmp (o_eq hr.units) (pe_lc (own := [("_law_thing", 8)]) (g := gName 8) (tt := (cT (tOp (rEqL K Ln false (spLeq Ln) E0) (cV 1) (cV 8)))) rfl sc__law_equal_right.nd (pi_list (pe_lst (pa_cons (pc 2) (pa_cons pe_non (pa_cons pe_int (pa_cons (pe_prop (pc 1) lL.cl hA FA (hr.mono (by decide)) bA .nil pass0 rfl) (pa_cons (pe_tup pa_nil) pa_nil))))))) (blkOk_by (own := [("_law_thing", 8)]) (N := n__law_equal_right) (sc := defScope s__law_equal_right) (by decide +kernel)) (fun _ _ _ _ _ => pg_name (i := 8) sc__law_equal_right.nd rfl (Or.inl rfl)) (fun _ _ _ _ _ => (pts_one (t_cmp (op_eqL (neg := false) rfl EL FE bE (hr.mono (by decide)) pass0) (pc 1) (pc 8)))) (fun _ _ _ _ _ => (pc 8))) (pe_lst pa_nil)))))))))))), ?_⟩
    refine goSet (n := 0) (p := some q) (L := []) (F := F) (S := VP ps.reverse) ?_ a Bud.zero fun v3 F1 G1 x1 s3 => ?_
    · exact Ev.dictPM (zs := ps.reverse) (ky := kyN) (R := fun p => VI p.2) (EvA.cons (n := 0) (m := 0) (Ev.revL (Ev.itemsL (zs := ps) (ky := kyN) (R := fun p => VI p.2) (Ev.var rfl su))) EvA.nil) (kyN_nd (psok_rev ok).nd)
    have a1 := x1.at_ a
    replace sv := Mo.mo x1.s sv
    replace su := Mo.mo x1.s su
    refine goOn (n := 0) (p := some q) (L := []) (F := F1) ?_ a1 Bud.zero fun F2 G2 x2 => ?_
    · refine EvT.bt (c := (xor true true) || !(xor false true)) (EvT.or (n := 0) (m := 0) (EvT.b (ev_eqN (qs := qs) (ps := ps.reverse) (n := 0) (m := 0) (Ev.var rfl sv) (Ev.makeI (n := 0) ps.reverse (EvA.cons (n := 0) (m := 0) (Ev.var rfl s3) EvA.nil) (psok_rev ok) lL (fun fs F1 F2 s h => h.mo s)) (psok_rev ok) fun rs r1 r2 => ?_)) fun _ => EvT.not (EvT.b (ev_eqN (qs := qs) (ps := ps) (n := 0) (m := 0) (Ev.var rfl sv) (Ev.makeK0 (n := 0) ps (EvA.cons (n := 0) (m := 0) (Ev.dictD (ps := pD ps) (EvA.cons (n := 0) (m := 0) (Ev.var rfl su) EvA.nil)) EvA.nil) (fun _ _ => rfl) rfl ok lL (fun fs F1 F2 s h => h.mo s)) ok fun rs r1 r2 => ?_))) rfl
      · rw [mem_unique ok pm asc (r1.trans (List.reverse_perm ps)) r2]
        exact eqP_self
      · rw [mem_unique ok pm asc r1 r2]
        exact eqP_self
    have a2 := x2.at_ a1
    replace sv := Mo.mo x2.s sv
    replace su := Mo.mo x2.s su
    have b2 : Bud (some q) 2 G2 := Bud.step (n := 0) (Bud.step (n := 0) bu x1.r) x2.r
    have ea : (Str.ofString "a") = ofL [97] := by decide +kernel
    have n97 : Nm [97] := by decide +kernel
    refine goCopy (n := 0) (p := some q) (L := []) (F := F2) (ps := pD ps) (EvA.cons (n := 0) (m := 0) (Ev.var rfl su) EvA.nil) a2 Bud.zero fun d kvs F3 G3 A3 al3 => ?_
    have ek := allK_pD al3
    subst ek
    have sv3 := Mo.mo A3.x.s sv
    have su3 := Mo.mo A3.x.s su
    refine goIfJ (n := 0) (p := some q) (L := []) (F := F3) (c := decide ((0 : Int) < ps.length)) (fun σ' G' => ∃ kvs' ps' F' o5, σ' = [some (.ref q), some v, some u, some v3, some (.ref d), o5, none, none, none, none] ∧ As (some q) [] 2 F2 G2 d (.dK kvs') F' G' ∧ AllK (pD ps') kvs' F' ∧ PsOk ps' ∧ ∀ rs, rs.Perm ps' → Asc rs → eqP qs rs = false) (EvT.b (ev_lenPos (n := 0) (Ev.var rfl su3))) A3.at_ Bud.zero ?_ ?_ ?_
    · rintro σ' G' ⟨kvs', ps', F', o5, rfl, A, al', ok', no⟩
      have x24 := A.fact
      have a4 := x24.at_ a2
      have sv4 := Mo.mo x24.s sv
      have su4 := Mo.mo x24.s su
      have so4 : VP ps' (.ref d) (L2.upd F' d (.dK kvs')) := ⟨d, kvs', rfl, upd_same, MoK.mo (Same.new (Same.refl F') A.Fd) al'⟩
      refine goSet (n := 0) (p := some q) (L := []) (F := L2.upd F' d (.dK kvs')) (S := VP (ps.drop 1)) ?_ a4 Bud.zero fun v6 F5 G5 x5 s6 => ?_
      · exact Ev.dictPM (zs := ps.drop 1) (ky := kyN) (R := fun p => VI p.2) (EvA.cons (n := 0) (m := 0) (Ev.cut1 (zs := ps) (R := fun p => VT [VKy (kyN p), VI p.2]) (Ev.itemsL (zs := ps) (ky := kyN) (R := fun p => VI p.2) (Ev.var rfl su4)) (by omega)) EvA.nil) (kyN_nd (psok_drop ok).nd)
      have a5 := x5.at_ a4
      have sv5 := Mo.mo x5.s sv4
      have su5 := Mo.mo x5.s su4
      have so5 := Mo.mo x5.s so4
      refine goOn (n := 0) (p := some q) (L := []) (F := F5) ?_ a5 Bud.zero fun F6 G6 x6 => ?_
      · refine EvT.bt (c := (xor false false) || (decide ((0 : Int) < ps.length) && xor false false)) (EvT.or (n := 0) (m := 0) (EvT.b (ev_eqN (qs := qs) (ps := ps') (n := 0) (m := 0) (Ev.var rfl sv5) (Ev.makeI (n := 0) ps' (EvA.cons (n := 0) (m := 0) (Ev.var rfl so5) EvA.nil) ok' lL (fun fs F1 F2 s h => h.mo s)) ok' no)) fun _ => EvT.and (n := 0) (m := 0) (EvT.b (ev_lenPos (n := 0) (Ev.var rfl su5))) fun e => EvT.b (ev_eqN (qs := qs) (ps := ps.drop 1) (n := 0) (m := 0) (Ev.var rfl sv5) (Ev.makeI (n := 0) (ps.drop 1) (EvA.cons (n := 0) (m := 0) (Ev.var rfl s6) EvA.nil) (psok_drop ok) lL (fun fs F1 F2 s h => h.mo s)) (psok_drop ok) (len_no ?_))) (by simp)
        rw [pm.length_eq, List.length_drop]
        have := of_decide_eq_true e
        omega
      have a6 := x6.at_ a5
      have sv6 := Mo.mo x6.s sv5
      have su6 := Mo.mo x6.s su5
      refine goSet (n := 0) (p := some q) (L := []) (F := F6) (S := VLn Ln [([97], 1)]) ?_ a6 Bud.zero fun v7 F7 G7 x7 s7 => ?_
      · exact Ev.makeI (n := 0) [([97], 1)] (EvA.cons (n := 0) (m := 0) (Ev.disp1 (n := 0) (m := 0) (ky := kyN ([97], 1)) (Ev.c (by show V.str _ = V.str _; rw [ea])) (Ev.c rfl)) EvA.nil) (one_ok n97) lL (fun fs F1 F2 s h => h.mo s)
      have a7 := x7.at_ a6
      have sv7 := Mo.mo x7.s sv6
      have su7 := Mo.mo x7.s su6
      have dok : DysOk [0] := ⟨by simp, by simp⟩
      refine goOn (n := 0) (p := some q) (L := []) (F := F7) ?_ a7 Bud.zero fun F8 G8 x8 => ?_
      · have ct : ∀ σ' : L2.St, Ev (some q) [] F7 0 (StX.tMakeR Ct (spCount (CtF K It fL Ck fI Ct fK)) E0 (tCons (tC (.str (Str.ofString "a"))) (tCons (tC (.int 0)) tNil))) σ' (VAn Ct) := fun σ' => (ev_count (n := 0) (l := [97]) (d := 0) (EvA.cons (n := 0) (m := 0) (Ev.c (by show V.str _ = V.str _; rw [ea])) (EvA.cons (n := 0) (m := 0) (Ev.c rfl) EvA.nil)) n97 dok cT_).to fun v F' _ h => vct_an h
        have s7' := vln_an s7
        exact EvT.bt (c := false || (!true || false)) (EvT.or (n := 0) (m := 0) (EvT.b (ev_anC (n := 0) (m := 0) (Ev.var rfl s7') (ct _) nLC sCL)) fun _ => EvT.or (n := 0) (m := 0) (EvT.not (EvT.b (ev_anC (n := 0) (m := 0) (Ev.var rfl s7') (ct _) nLC sCL))) fun _ => EvT.b (ev_anD (n := 0) (m := 0) (ct _) (Ev.var rfl s7') (Ne.symm nLC) sLC)) rfl
      have a8 := x8.at_ a7
      have sv8 := Mo.mo x8.s sv7
      have su8 := Mo.mo x8.s su7
      refine goRet (n := 0) (p := some q) (L := []) (F := F8) (S := VB true) ?_ a8 Bud.zero fun w F9 G9 x9 s9 => k w F9 G9 ((((((((x1.trans x2).trans x24).trans x5).trans x6).trans x7).trans x8).trans x9).le (by omega)) s9
      refine Ev.bt (c := xor false (PyData.eqv (.list []) (.list []))) (Ev.eqR (n := 0) (m := 0) (S1 := VL []) (S2 := VL []) ?_ (Ev.lst EvA.nil) (by decide +kernel) (by decide +kernel)) (by decide +kernel)
      refine Ev.lcf0 (zs := [(), (), (), (), ()]) (R := fun _ => VNs) (R' := fun _ => VNs) (keep := fun _ => false) ?_ (fun z hz x F' s hx => ⟨[some (.ref q), some v, some u, some v3, some (.ref d), o5, some v6, some v7, some x, none], rfl, fun G Q _ h => h, EvT.b (ev_eqL (n := 0) (m := 0) (qs := qs) (o := none) (Ev.var rfl (Mo.mo s sv8)) (Ev.var rfl hx) fun _ h => nomatch h), fun h => nomatch h⟩) (by decide)
      refine EvI.list (Ev.lst (EvA.cons (n := 0) (m := 0) (Ev.var rfl ?_) (EvA.cons (n := 0) (m := 0) (Ev.c (.inl rfl)) (EvA.cons (n := 0) (m := 0) (Ev.c (.inr (.inl ⟨0, rfl⟩))) (EvA.cons (n := 0) (m := 0) ((ev_accs (qs := qs) (Ev.var rfl (vo_c sv8))).to fun v F' _ ⟨a, vs, e, h, _⟩ => .inr (.inr (.inr (.inr (.inl ⟨a, vs, e, h⟩))))) (EvA.cons (n := 0) (m := 0) ((Ev.tup (n := 0) EvA.nil).to fun v F' _ ⟨a, vs, e, h, _⟩ => .inr (.inr (.inr (.inr (.inl ⟨a, vs, e, h⟩))))) EvA.nil))))))
      obtain ⟨a, kvs, e, h, _⟩ := su8
      exact .inr (.inr (.inr (.inr (.inr ⟨a, kvs, e, h⟩))))
    · intro e F4 G4 N x4 hN
      have A4 := A3.step x4
      have su4 := Mo.mo x4.s su3
      have lp : 0 < ps.length := by have := of_decide_eq_true e; omega
      refine goSet (n := 1) (p := some q) (L := []) (F := F4) (S := ExP (· ∈ ps) fun p => VS (ofL p.1)) ?_ A4.at_ (A4.bud (b2.le (by omega))) fun v5 F5 G5 x5 s5 => ?_
      · refine (Ev.pickL (n := 0) (Ss := (pD ps).map fun e => VKy e.1) (EvA.cons (n := 0) (m := 0) (Ev.var rfl rfl) (EvA.cons (n := 0) (m := 0) (Ev.listD (EvA.cons (n := 0) (m := 0) (Ev.var rfl su4) EvA.nil)) EvA.nil)) (by unfold pD; simpa using lp) (by unfold pD; rw [List.length_map, List.length_map]; omega)).to fun w F' _ ⟨S, hS, hw⟩ => ?_
        obtain ⟨e1, h1, rfl⟩ := List.mem_map.mp hS
        obtain ⟨p0, hp, rfl⟩ := List.mem_map.mp h1
        exact ⟨p0, hp, hw⟩
      obtain ⟨p0, hp0, e5⟩ := s5
      have su5 := Mo.mo x5.s su4
      have A5 := A4.step x5
      refine goPut (n := 1) (ky := kyN p0) (S := ExP (· ∈ ([1, -1, 2, 9] : List Int).filter fun i => xor true (decide (i = p0.2))) VI) A5 (b2.le (by omega)) (by rw [List.length_map]; omega) ?_ (fun G Q h => h) (fun F' G Q s a h => by show Q v5 G; rw [show v5 = kV (kyN p0) from e5]; exact h) fun v6 F6 G6 A6 s6 hv => ?_
      · refine Ev.pickI (n := 0) (is := ([1, -1, 2, 9] : List Int).filter fun i => xor true (decide (i = p0.2))) (EvA.cons (n := 0) (m := 0) (Ev.var rfl rfl) (EvA.cons (n := 0) (m := 0) ?_ EvA.nil)) ?_ ?_
        · refine Ev.lcf0 (zs := ([1, -1, 2, 9] : List Int)) (R := VI) (R' := VI) (keep := fun i => xor true (decide (i = p0.2))) ?_ (fun z hz x F' s hx => ⟨[some (.ref q), some v, some u, some v3, some (.ref d), some v5, none, none, none, some x], rfl, fun G Q _ h => h, EvT.b (Ev.eqI (n := 0) (m := 0) (neg := true) (Ev.var rfl hx) (Ev.dget (n := 0) (m := 0) (ps := pD ps) (k := kyN p0) (S := VI p0.2) (Ev.var rfl (Mo.mo s su5)) (Ev.var rfl e5) (pD_val ok.nd hp0))), fun _ => Ev.var rfl hx⟩) (by decide)
          exact EvI.list (Ev.lst (Ss := ([1, -1, 2, 9] : List Int).map VI) (EvA.cons (n := 0) (m := 0) (Ev.c rfl) (EvA.cons (n := 0) (m := 0) (Ev.neg (Ev.c rfl)) (EvA.cons (n := 0) (m := 0) (Ev.c rfl) (EvA.cons (n := 0) (m := 0) (Ev.c rfl) EvA.nil)))))
        · by_cases c : p0.2 = 2
          · exact List.length_pos_of_mem (a := 9) (by rw [c]; decide)
          · exact List.length_pos_of_mem (a := 2) (List.mem_filter.mpr ⟨by decide, by simp; exact fun z => c z.symm⟩)
        · exact Nat.le_trans (List.length_filter_le _ _) (by decide)
      · obtain ⟨c, hc, rfl⟩ := hv
        obtain ⟨c1, c2⟩ := List.mem_filter.mp hc
        have c2 : c ≠ p0.2 := by simpa using c2
        simp only [List.mem_cons, List.not_mem_nil, or_false] at c1
        rw [putK_chg hp0] at A6
        exact hN _ _ ⟨_, ps.map (chg p0 c), F6, some v5, rfl, A6.le (by omega), pD_allK _ _, chg_ok ok (by omega) (by omega) (by omega), chg_no pm hp0 c2⟩
    · intro e F4 G4 N x4 hN
      have A4 := A3.step x4
      have e0 : ps = [] := by
        have := of_decide_eq_false e
        exact List.eq_nil_of_length_eq_zero (by omega)
      refine goPut (n := 0) (ky := kyN ([97], 1)) (S := VI 1) A4 (b2.le (by omega)) (by rw [List.length_map]; omega) (Ev.c rfl) (fun G Q h => h) (fun F' G Q s a h => by show Q (.str (Str.ofString "a")) G; rw [ea]; exact h) fun v6 F6 G6 A6 s6 hv => ?_
      rw [show v6 = .int 1 from hv, e0] at A6
      exact hN _ _ ⟨_, [([97], 1)], F6, none, rfl, A6.le (by omega), pD_allK [([97], 1)] _, one_ok n97, len_no (by rw [pm.length_eq, e0]; decide)⟩

end
end LW

set_option Elab.async false
set_option linter.all false
set_option maxRecDepth 100000
set_option maxHeartbeats 1000000
/-! Z11: loops while an object is put aside -/
namespace HX
open PySem PySem.Spec PyProof.Rows L2 NumText
section
variable {p : Option Addr} {q d : Addr} {n m k l : Nat} {F F0 F1 F2 F' G G0 G1 G2 G' H : Hp} {L : List Addr} {te t1 t2 t3 tk tv : TE} {tt : TT} {ta : TA} {wi : TI} {σ : L2.St} {S S1 S2 : Pr} {Ss Ts : List Pr} {K : PySem.W.Frag} {o o' : HO}
structure WkJ (p : Option Addr) (L : List Addr) (F : Hp) (J : It) (xs : List Pr) : Prop where
  goes : ∀ i H F', i < xs.length → Same F F' → At p L F' H → J.go i H
  stops : ∀ H F', Same F F' → At p L F' H → J.stop xs.length H
  yields : ∀ i H x H' F', i < xs.length → Same F F' → At p L F' H → J.yld i H x H' → ∃ F3 S, Nx p L 0 F' H F3 H' ∧ xs[i]? = some S ∧ S x F3
def EvJ (p : Option Addr) (L : List Addr) (F : Hp) (n : Nat) (wi : TI) (σ : L2.St) (xs : List Pr) : Prop :=
  ∀ G, At p L F G → Bud p n G → ∀ R, (∀ J F' G', Nx p L n F G F' G' → WkJ p L F' J xs → R J G') → wi σ G R
theorem EvJ.list [MoL Ss] (h : Ev p L F n te σ (VL Ss)) : EvJ p L F n (iList K te) σ Ss := fun G a b R q =>
  h G a b _ fun v F1 G1 x1 ⟨c, vs, e, hc, al⟩ => ⟨c, e, ⟨vs, (x1.at_ a).sql hc⟩, q _ F1 G1 x1 ⟨fun i H F' hi s z => by
      have hi' : i < vs.length := by rw [al.len]; exact hi
      exact ⟨vs, vs[i], z.sql (s _ _ hc), List.getElem?_eq_getElem hi'⟩, fun H F' s z => ⟨vs, z.sql (s _ _ hc), by rw [al.len]; exact Nat.le_refl _⟩, fun i H x H' F' hi s z y => by
      obtain ⟨rfl, y⟩ := y
      have e1 : Ss[i]? = some Ss[i] := List.getElem?_eq_getElem hi
      obtain ⟨v', h1, h2⟩ := (MoL.mo s al).get e1
      have := y vs (z.sql (s _ _ hc))
      rw [this] at h1
      cases h1
      exact ⟨F', Ss[i], Nx.refl z, e1, h2⟩⟩⟩
theorem forA0 {xs : List Pr} {g : TG} {tb : TS} {D : Ends} (hi : EvJ p L F 0 wi σ xs) (A : As p L k F0 G0 d o F G) (Iv : Nat → L2.St → HO → Prop) (h0 : Iv 0 σ o)
    (hs : ∀ i S x σ1 o1 F1 H1, xs[i]? = some S → S x F1 → Same F F1 → As p L k F0 G0 d o1 F1 H1 → Iv i σ1 o1 → ∀ N : L2.St → Hp → Prop, (∀ σ' o' F' H', As p L k F0 G0 d o' F' H' → Same F1 F' → Iv (i + 1) σ' o' → N σ' H') →
      g x σ1 H1 fun σ2 H2 => tb { D with nx := N, ct := N, bk := D.nx } σ2 H2)
    (hd : ∀ σ' o' F' G', As p L k F0 G0 d o' F' G' → Same F F' → Iv xs.length σ' o' → D.nx σ' G') : tFor wi g tb D σ G := by
  unfold tFor
  refine hi G A.at_ Bud.zero _ (fun J F1 G1 x1 wk => ?_)
  have A1 : As p L k F0 G0 d o F1 G1 := (A.step x1).le (by omega)
  refine ⟨fun i left σ' H => left = xs.length - i ∧ i ≤ xs.length ∧ ∃ o2 F2, As p L k F0 G0 d o2 F2 H ∧ Same F1 F2 ∧ Iv i σ' o2, ⟨xs.length, by simp, Nat.zero_le _, o, F1, A1, Same.refl F1, h0⟩, ?_⟩
  rintro i left σ' H ⟨rfl, il, o2, F2, A2, s2, iv⟩
  rcases Nat.lt_or_ge i xs.length with lt | ge
  · refine .inr ⟨wk.goes i H F2 lt s2 A2.at_, fun σ' H' => ∃ o2 F2, i + 1 ≤ xs.length ∧ As p L k F0 G0 d o2 F2 H' ∧ Same F1 F2 ∧ Iv (i + 1) σ' o2, fun σ' H' ⟨o2, F2, h1, h2, h3, h4⟩ => ⟨_, by omega, rfl, h1, o2, F2, h2, h3, h4⟩, fun x H' y => ?_⟩
    obtain ⟨F3, S0, x3, eS, hx⟩ := wk.yields i H x H' F2 lt s2 A2.at_ y
    have A3 : As p L k F0 G0 d o2 F3 H' := (A2.step x3).le (by omega)
    refine hs i S0 x σ' o2 F3 H' eS hx (x1.s.trans (s2.trans x3.s)) A3 iv _ fun σ3 o4 F4 H4 A4 s4 iv4 => ⟨o4, F4, lt, A4, (s2.trans x3.s).trans s4, iv4⟩
  · have e : i = xs.length := by omega
    subst e
    exact .inl ⟨wk.stops H F2 s2 A2.at_, hd σ' o2 F2 H A2 (x1.s.trans s2) iv⟩
theorem putK_len {κ : Type} [DecidableEq κ] {kvs : List (κ × V)} {k : κ} {v : V} : (putK kvs k v).length ≤ kvs.length + 1 := by
  unfold putK
  split
  · rw [List.length_map]
    omega
  · simp
theorem cV_eq {i : Nat} {v : V} {Q : VK} (e : σ[i]? = some (some v)) : cV i σ G Q = Q v G := by
  show (match σ[i]? with | some (some v) => Q v G | _ => False) = _
  rw [e]
theorem cV_go {i : Nat} {v : V} {Q : VK} (e : σ[i]? = some (some v)) (h : Q v G) : cV i σ G Q := by
  show (match σ[i]? with | some (some v) => Q v G | _ => False)
  rw [e]
  exact h
end
end HX

set_option Elab.async false
set_option linter.all false
set_option maxRecDepth 100000
set_option maxHeartbeats 4000000
namespace LW
open PySem PySem.Spec PyProof.Rows L2 HX NumText
section
variable {P : Program} {w : World} {K : PySem.W.Frag} {mg : Str → Option Value} {base : Heap}

section
variable {p : Option Addr} {q d : Addr} {n m l : Nat} {F F5 Fx G : Hp} {L : List Addr} {t1 t2 te : TE} {ta : TA} {σ : L2.St} {Ln C : Addr} {E E1 E2 E3 : XK} {qs rs ps : List (List Nat × Int)} {neg c : Bool}
abbrev spLneg (C Ln : Addr) : Sp := spZ (fun Lk => Lk = []) PsOk (fun qs => [VLc C qs]) fun qs => VLn Ln (qs.map neg1)
theorem ev_neg (h : Ev p [] F n te σ (VLc C qs)) (ok : PsOk qs) : Ev p [] F n (tUn (rNg C (spLneg C Ln) E) te) σ (VLn Ln (qs.map neg1)) :=
  Ev.un (l := 0) h fun v F' G s a _ e Q k => by
    obtain ⟨x, rfl, ix⟩ := isI_lc a e
    exact ⟨ix, qs, p, [], F', ok, rfl, a, ⟨_, _, rfl, e, rfl⟩, fun z F'' G' y sz => k z F'' G' y sz⟩
theorem asc_neg (h : Asc qs) : Asc (qs.map neg1) := by
  unfold Asc
  rw [List.map_map]
  exact h
theorem neg2 : (qs.map neg1).map neg1 = qs := by
  rw [List.map_map]
  refine (List.map_congr_left fun q _ => ?_).trans (List.map_id _)
  show (q.1, - -q.2) = q
  rw [Int.neg_neg]
theorem vln_hide {kvs : List (Key × V)} {v : V} (h : VMk Ln (PoLN Fx ps) v F5) (hx : Fx d = some (.dK kvs)) (h5 : F5 d = some (.dK kvs)) : ∃ qs, qs.Perm ps ∧ Asc qs ∧ VO Ln [("_parts", VP qs)] v (Hd d F5) := by
  obtain ⟨x, dx, fs, e, ha, qs, q1, q2, u, t, e1, ⟨⟨c, kv, rfl, hc, al⟩, nu⟩, h⟩ := h
  have n1 : x ≠ d := fun z => by rw [z, h5] at ha; cases ha
  have n2 : c ≠ d := fun z => by
    have := nu c rfl
    rw [z, hx] at this
    cases this
  have al' : AllK (pD qs) kv (Hd d F5) := by rw [allK_pD al]; exact pD_allK _ _
  exact ⟨qs, q1, q2, x, dx, fs, e, Hd.at_ n1 ha, .ref c, t, e1, ⟨c, kv, rfl, Hd.at_ n2 hc, al'⟩, h⟩
theorem ev_terms (hq : σ[1]? = some (some (.ref q))) : Ev (some q) L F 13 (tCall spTerms [] E1 (tCons (cV 1) (tCons (tCall spAcc [] E2 (tCons (cV 1) (tCons (tCall spDraw [] E3 (tCons (cV 1) (tCons (tC (.int 6)) tNil))) tNil))) tNil))) σ (ExP (fun ps : List (List Nat × Int) => PsOk ps ∧ ps.length ≤ 5) VP) := by
  refine Ev.le (n := 1 + 12) (Ev.exI (n := 1) (m := 12) (P := fun r : Int => 0 ≤ r ∧ r < 6) (R := VI) (ctx := fun t => tCall spTerms [] E1 (tCons (cV 1) (tCons (tCall spAcc [] E2 (tCons (cV 1) (tCons t tNil))) tNil))) (Ev.draw (n := 0) (many := 6) (EvA.cons (n := 0) (m := 0) (Ev.var hq rfl) (EvA.cons (n := 0) (m := 0) (Ev.c rfl) EvA.nil)) (by decide) (by decide)) (fun r u F' hr s hu => ?_) (fun G Q h => by simp only [tCall, tCons, tC, cV_eq hq] at h ⊢; exact h)) (by omega)
  obtain ⟨many, rfl⟩ := Int.eq_ofNat_of_zero_le hr.1
  refine Ev.le (n := 6 + 6) (Ev.exI (n := 6) (m := 6) (P := fun ns : List (List Nat) => ns.length = many ∧ NsOk ns) (R := fun ns => VL (ns.map fun n => VS (ofL n))) (ctx := fun t => tCall spTerms [] E1 (tCons (cV 1) (tCons t tNil))) (ev_acc (n := 0) (EvA.cons (n := 0) (m := 0) (Ev.var hq rfl) (EvA.cons (n := 0) (m := 0) (Ev.c hu) EvA.nil)) (by have := hr.2; omega)) (fun ns w F'' hn s hw => ?_) (fun G Q h => by simp only [tCall, tCons, tC, cV_eq hq] at h ⊢; exact h)) (by omega)
  have l5 : ns.length ≤ 5 := by have := hr.2; have := hn.1; omega
  exact (Ev.callZp (n := 0) (m := 6) ns (EvA.cons (n := 0) (m := 0) (Ev.var hq rfl) (EvA.cons (n := 0) (m := 0) (Ev.c hw) EvA.nil)) ⟨l5, hn.2⟩ trivial).to fun v F' _ ⟨ps, ⟨e, okp⟩, h⟩ => ⟨ps, ⟨okp, by have := congrArg List.length e; rw [List.length_map] at this; omega⟩, h⟩
end
def wps : List (List Nat × Int) := ((List.range 12).map fun i => 97 + i).map fun c => ([c], 9)
theorem ecs : (Str.ofString "abcdefghijkl").cps.toList = (List.range 12).map fun i => 97 + i := by decide +kernel
theorem wps_ok : PsOk wps := ⟨by decide +kernel, by decide +kernel, by decide +kernel⟩
theorem wps_asc : Asc wps := by unfold Asc; decide +kernel

theorem ev_eqTT {p : Option Addr} {n m : Nat} {F : Hp} {t1 t2 : TE} {σ : L2.St} (h1 : Ev p [] F n t1 σ (VT (wps.map fun p => VS (ofL p.1)))) (h2 : Ev p [] F m t2 σ (VT ((Str.ofString "abcdefghijkl").cps.toList.map fun c => VS ⟨#[c]⟩))) : Ev p [] F (n + m) (tOp (rEq2 K true) t1 t2) σ (VB (xor true (PyData.eqv (.tuple (wps.map fun p => .str (ofL p.1))) (.tuple ((Str.ofString "abcdefghijkl").cps.toList.map fun c => .str ⟨#[c]⟩))))) :=
  Ev.eqR h1 h2 (by decide +kernel) (by decide +kernel)
def spLaw (K : PySem.W.Frag) : Sp := fun vs H Q _ => ∃ (a : Addr) (ns : List Int), vs = [.ref a] ∧ SqL K H a (ns.map V.int) ∧ ∀ H', Q (.bl true) H'
set_option maxHeartbeats 800000 in
theorem ok_law {f : Addr} {fd : FuncData} {fL Ln It Ck fI Ct fK fT fE fJ : Addr} {fdL fdE fdJ : FuncData} (F : Fun K "law" "law" s_law f fd) (T : Txt K mg) (gLin : mg "Linear" = some (.ref Ln)) (mL : Mk K Ln fL) (FL : FnOk P w K mg base CX0 5 fL fdL ["self", "parts"] (spLini K)) (bL : Binds K fdL ["self", "parts"] []) (lL : LnF K Ln) (kL : KBn K fdL ["self", "parts"] 1 ["parts"] (fun us ws => us ++ ws) (fun vs zs => vs ++ zs)) (zA : PropZ P w K mg base Ln "accounts" 1 (spLacc Ln)) (gCt : mg "Count" = some (.ref Ct)) (mT : Mk K Ct fT) (FT : FnR P w K mg base CX0 8 fT (spCount (CtF K It fL Ck fI Ct fK))) (cT_ : (CtF K It fL Ck fI Ct fK) Ct) (EL : EqF K Ln fE) (FE : FnOk P w K mg base CX0 2 fE fdE ["self", "other"] (spLeq Ln)) (bE : Binds K fdE ["self", "other"] []) (EC : EqF K Ct fJ) (FJ : FnOk P w K mg base CX0 2 fJ fdJ ["self", "other"] (spIeq Ct Ln)) (bJ : Binds K fdJ ["self", "other"] []) (nLC : Ln ≠ Ct) (sCL : PySem.W.subIn K (.ref Ct) (.ref Ln) = some true) (sLC : PySem.W.subIn K (.ref Ln) (.ref Ct) = some false) (FLN : FnOk P w K mg base CX0 5 fL fdL ["self", "parts"] (spLiniN K)) (zL : OpZ P w K mg base Ln "__len__" 1 ["self"] (spLlen Ln)) (zG : OpZ P w K mg base Ln "__getitem__" 2 ["self", "account"] (spLget Ln)) (zN : OpZ P w K mg base Ln "__neg__" 7 ["self"] (spLneg Ln Ln)) (zM : OpZ P w K mg base Ct "__neg__" 7 ["self"] (spLneg Ct Ln)) (rL : ClX.CRead K Ln (.type "type")) (cM : ∃ t, ClX.CVal K Ln (.type "type") "MOST" (.int 9) (.int 9 t)) (cPn : CalO P w K mg base "_law_pen" 1 ["_law_script"] (spPen K) (fun _ => True)) (cD : CalO P w K mg base "_law_draw" 1 ["_law_pen_here", "_law_many"] spDraw (fun _ => True)) (cAc : CalO P w K mg base "_law_accounts" 3 ["_law_pen_here", "_law_many"] spAcc (fun _ => True)) (cTm : CalO P w K mg base "_law_terms" 3 ["_law_pen_here", "_law_owners"] spTerms (fun _ => True)) (cTd : CalG P w K mg base "_law_told_right" 4 ["_law_made", "_law_terms_here"] (spTold Ln) (fun _ => True)) (cEq : CalO P w K mg base "_law_equal_right" 12 ["_law_pen_here", "_law_made", "_law_terms_here"] (spEqual Ln) (fun _ => True)) : FnG P w K mg base CX0 14 f fd ["_law_script"] (spLaw K) := by
  obtain ⟨pA, gA, fdA, hA, FA, bA⟩ := zA
  obtain ⟨aL, fdL_, hsL, hfL, hnL, FL_, bL_⟩ := zL
  obtain ⟨aG, fdG, hsG, hfG, hnG, FG, bG⟩ := zG
  obtain ⟨aN, fdN, hsN, hfN, hnN, FN, bN⟩ := zN
  obtain ⟨aM, fdM, hsM, hfM, hnM, FM, bM⟩ := zM
  obtain ⟨tM, cM⟩ := cM
  refine fun_okG F sc_law (fun vs H Q E h => ?_) (fun cdv A' outer s H vs Q E gd hr h => ?_)
  · obtain ⟨a, ns, rfl, _⟩ := h
    rfl
  · obtain ⟨a, ns, rfl, hs, k⟩ := h
    refine ⟨_, (pss_cons (ps_set (i := 1) sc_law.nd rfl (Or.inl rfl) (pe_cO cPn (hr.mono (by decide)) (pa_cons (pc 0) pa_nil)))
    (pss_cons (ps_for PassesOwn.never rfl (pi_range1 (by rfl) T.b_range (pa_cons pe_int pa_nil)) (pg_name (i := 2) sc_law.nd rfl (Or.inl rfl)) (pss_cons (ps_set (i := 3) sc_law.nd rfl (Or.inr rfl) (pe_cO cTm (hr.mono (by decide)) (pa_cons (pc 1) (pa_cons (pe_cO cAc (hr.mono (by decide)) (pa_cons (pc 1) (pa_cons (pe_cO cD (hr.mono (by decide)) (pa_cons (pc 1) (pa_cons pe_int pa_nil))) pa_nil))) pa_nil))))
    (pss_cons (ps_set (i := 4) sc_law.nd rfl (Or.inl rfl) (pe_callTy call_dictD (by rfl) T.b_dict (by decide +kernel) (pa_cons (pc 3) pa_nil)))
    (pss_cons (ps_set (i := 5) sc_law.nd rfl (Or.inl rfl) (pe_make mL FLN (hr.mono (by decide)) rfl gLin bL .nil pass0 (pa_cons (pc 4) pa_nil)))
    (pss_cons (ps_dput (Nat.lt_of_le_of_lt (Nat.add_le_add_left (by decide : 1 ≤ 64) _) hr.units) (pc 4) pe_str pe_int (by rfl))
    (pss_cons (ps_for PassesOwn.never rfl (pi_list (pe_callTy (call_listD rfl) (by rfl) T.b_list (by decide +kernel) (pa_cons (pc 3) pa_nil))) (pg_name (i := 6) sc_law.nd rfl (Or.inl rfl)) (pss_one (ps_dput (Nat.lt_of_le_of_lt (Nat.add_le_add_left (by decide : 1 ≤ 64) _) hr.units) (pc 4) (pc 6) pe_int (by rfl))))
    (pss_cons (ps_set (i := 7) sc_law.nd rfl (Or.inl rfl) (pe_callTy (call_dictP rfl) (by rfl) T.b_dict (by decide +kernel) (pa_cons (pe_lock (pe_lc (own := [("_law_owner", 6)]) (g := gName 6) (tt := tYes) rfl sc_law.nd (pi_keys (pc 3)) (blkOk_by (own := [("_law_owner", 6)]) (N := n_law) (sc := defScope s_law) (by decide +kernel)) (fun _ _ _ _ _ => pg_name (i := 6) sc_law.nd rfl (Or.inl rfl)) (fun _ _ _ _ _ => pts_nil) (fun _ _ _ _ _ => (pe_tup (pa_cons (pc 6) (pa_cons (pe_op o_sub pe_int (pe_dget (Nat.lt_of_le_of_lt (Nat.add_le_add_left (by decide : 1 ≤ 64) _) hr.units) (pc 3) (pc 6) (by exact fun _ _ => rfl))) pa_nil)))))) pa_nil)))
    (pss_cons (s_if (PW.pt (w_or (pt_not (t_val (pe_cG cTd gd (hr.mono (by decide)) (pa_cons (pc 5) (pa_cons (pc 3) pa_nil))))) (pw_or1 (pt_not (t_val (pe_cG cTd gd (hr.mono (by decide)) (pa_cons (pe_un (un_ow hsN hfN FN bN (hr.mono (by decide)) pass0) (pc 5)) (pa_cons (pc 7) pa_nil)))))))) (pss_one (ps_ret pe_bl)) pss_nil)
    (pss_one (s_if (PW.pt (w_or (t_cmp (op_eqL (neg := true) rfl EL FE bE (hr.mono (by decide)) pass0) (pe_un (un_ow hsN hfN FN bN (hr.mono (by decide)) pass0) (pe_un (un_ow hsN hfN FN bN (hr.mono (by decide)) pass0) (pc 5))) (pc 5)) (pw_or1 (pt_not (t_val (pe_cO cEq (hr.mono (by decide)) (pa_cons (pc 1) (pa_cons (pc 5) (pa_cons (pc 3) pa_nil))))))))) (pss_one (ps_ret pe_bl)) pss_nil))))))))))
    (pss_cons (ps_set (i := 8) sc_law.nd rfl (Or.inl rfl) (pe_make mL FLN (hr.mono (by decide)) rfl gLin bL .nil pass0 (pa_cons (pe_callTy (call_dictP rfl) (by rfl) T.b_dict (by decide +kernel) (pa_cons (pe_lc (own := [("_law_sign", 9)]) (g := gName 9) (tt := tYes) rfl sc_law.nd (pi_str pe_str) (blkOk_by (own := [("_law_sign", 9)]) (N := n_law) (sc := defScope s_law) (by decide +kernel)) (fun _ _ _ _ _ => pg_name (i := 9) sc_law.nd rfl (Or.inl rfl)) (fun _ _ _ _ _ => pts_nil) (fun _ _ _ _ _ => (pe_tup (pa_cons (pc 9) (pa_cons pe_int pa_nil))))) pa_nil)) pa_nil)))
    (pss_cons (s_if (PW.pt (w_or (t_cmp (o_ne hr.units) (pe_callB (call_lenO hsL hfL FL_ bL_ (hr.mono (by decide)) pass0) (by rfl) T.b_len (by decide +kernel) (pa_cons (pc 8) pa_nil)) pe_int) (w_or (t_cmp (o_ne hr.units) (pe_prop (pc 8) lL.cl hA FA (hr.mono (by decide)) bA .nil pass0 rfl) (pe_callTy (call_tuple_strK rfl) (by rfl) T.b_tuple (by decide +kernel) (pa_cons pe_str pa_nil))) (pw_or1 (t_cmp (o_ne hr.units) (pe_ixO hsG hfG hnG FG bG (hr.mono (by decide)) pass0 (pe_un (un_ow hsN hfN FN bN (hr.mono (by decide)) pass0) (pc 8)) pe_str) (pe_un un_neg pe_int)))))) (pss_one (ps_ret pe_bl)) pss_nil)
    (pss_one (ps_ret (e_and (p_cmp (o_eq hr.units) (ClX.pe_cval (p_gc gLin)) pe_int) (e_and (p_cmp (op_eqL (neg := false) rfl EL FE bE (hr.mono (by decide)) pass0) (pe_un (un_ow hsM hfM FM bM (hr.mono (by decide)) pass0) (StX.pe_makeR mT FT (hr.mono (by decide)) rfl gCt pass0 (pa_cons pe_str (pa_cons pe_int pa_nil)))) (pe_make mL FLN (hr.mono (by decide)) rfl gLin bL .nil pass0 (pa_cons (pe_disp (pps_cons pe_str (pe_un un_neg pe_int) pps_nil) (by rfl) (by rfl) (fun z => by cases z) (by decide)) pa_nil))) (pe_one (p_cmp (op_eqR (C := Ln) (neg := true) rfl EC FJ bJ (hr.mono (by decide)) pass0) (pe_un (un_ow hsM hfM FM bM (hr.mono (by decide)) pass0) (StX.pe_makeR mT FT (hr.mono (by decide)) rfl gCt pass0 (pa_cons pe_str (pa_cons pe_int pa_nil)))) (StX.pe_makeR mT FT (hr.mono (by decide)) rfl gCt pass0 (pa_cons pe_str (pa_cons pe_int pa_nil))))))))))))), ?_⟩
    refine ⟨a, ns, rfl, hs, fun q l G np sG P0 => ?_⟩
    refine gN_go ?_
    dsimp only
    have a0 : At (some q) [] (fun _ => none) G := ⟨fun b o e => (nomatch e), fun _ _ => rfl, fun q' e => by
      cases e
      obtain ⟨o, e⟩ := P0.atP
      rw [e]
      exact fun z => (nomatch z), fun b hb => (nomatch hb)⟩
    have b0 : Bud (some q) 120 G := .inr ⟨l, 0, P0, by omega⟩
    refine forZ (n0 := 0) (n := 15) (xs := (List.range 8).map fun i : Nat => VI (i : Int)) (F := fun _ => none) (p := some q) (L := []) ?_ a0 (b0.le (by simp)) (fun _ σ' _ => ∃ o2 o3 o4 o5 o6 o7, σ' = [some (.ref a), some (.ref q), o2, o3, o4, o5, o6, o7, none, none]) (fun _ _ => ⟨none, none, none, none, none, none, rfl⟩) ?_ (fun _ _ _ _ _ h => h) ?_
    · exact EvI.range (k := 8) (EvA.cons (n := 0) (m := 0) (Ev.c rfl) EvA.nil) (by decide)
    · rintro i S x σ1 F1 H1 eS hx sF a1 rn b1 ⟨o2, o3, o4, o5, o6, o7, rfl⟩ N hN
      refine gN_go ?_
      refine goSet (n := 13) (p := some q) (L := []) (F := F1) (S := ExP (fun ps : List (List Nat × Int) => PsOk ps ∧ ps.length ≤ 5) VP) (ev_terms rfl) a1 (b1.le (by decide)) fun v3 F2 G2 x2 s3 => ?_
      obtain ⟨ps, ⟨ok, l5⟩, s3⟩ := s3
      have a2 := x2.at_ a1
      have b2 : Bud (some q) 2 G2 := Bud.step (n := 13) b1 x2.r
      refine goCopy (n := 0) (p := some q) (L := []) (F := F2) (ps := pD ps) (EvA.cons (n := 0) (m := 0) (Ev.var rfl s3) EvA.nil) a2 Bud.zero fun d kvs F3 G3 A3 al3 => ?_
      have x3 := A3.fact
      have a3 := x3.at_ a2
      have sp : VP ps (.ref d) (L2.upd F3 d (.dK kvs)) := ⟨d, kvs, rfl, upd_same, MoK.mo (Same.new (Same.refl F3) A3.Fd) al3⟩
      have kl : kvs.length ≤ 10 := by rw [allK_pD al3, List.length_map]; omega
      refine goSet (n := 0) (p := some q) (L := []) (F := L2.upd F3 d (.dK kvs)) (S := VMk Ln (PoLN (L2.upd F3 d (.dK kvs)) ps)) ?_ a3 Bud.zero fun v5 F5 G5 x5 s5 => ?_
      · exact Ev.makeI (n := 0) (ps, L2.upd F3 d (.dK kvs)) (EvA.cons (n := 0) (m := 0) (S := VPs ps (L2.upd F3 d (.dK kvs))) (Ev.var rfl ⟨sp, Same.refl _⟩) EvA.nil) ok lL (fun fs F1 F2 s h => h.mo s)
      have A5 := As.of a2 (x3.trans x5) A3.h0 (x5.s d _ upd_same) (fun _ _ => by simp)
      obtain ⟨qs, pm, asc, sM⟩ := vln_hide s5 upd_same (x5.s d _ upd_same)
      have sT := Mo.mo A5.x.s s3
      refine goPut (n := 0) (ky := .inr (Str.ofString "q")) (S := VI 1) A5 (b2.le (by omega)) (by omega) (Ev.c rfl) (fun G Q h => h) (fun F' G Q s a h => h) fun v6 F6 G6 A6 sF6 s6 => ?_
      have sT6 := Mo.mo sF6 sT
      have sM6 := Mo.mo sF6 sM
      have A6' : As (some q) [] 0 F2 G2 d (.dK (putK kvs (.inr (Str.ofString "q")) v6)) F6 G6 := A6.le (by omega)
      dsimp only
      refine forA0 (xs := (pD ps).map fun e => VKy e.1) (p := some q) (L := []) (F := F6) ?_ A6' (fun i σ' o' => ∃ kvs' o6, o' = .dK kvs' ∧ kvs'.length ≤ 20 + i ∧ σ' = [some (.ref a), some (.ref q), some x, some v3, some (.ref d), some v5, o6, o7, none, none]) ⟨_, o6, rfl, by have := putK_len (kvs := kvs) (k := (.inr (Str.ofString "q") : Key)) (v := v6); omega, rfl⟩ ?_ ?_
      · exact EvJ.list (Ev.listD (EvA.cons (n := 0) (m := 0) (Ev.var rfl sT6) EvA.nil))
      · rintro j S y σ1 o1 F7 H7 eS hy sF A7 ⟨kvs', o6', rfl, hl, rfl⟩ N hN
        have jl : j < ps.length := by
          have := (List.getElem?_eq_some_iff.mp eS).1
          unfold pD at this
          rw [List.length_map, List.length_map] at this
          exact this
        rw [List.getElem?_map] at eS
        obtain ⟨e1, _, rfl⟩ := Option.map_eq_some_iff.mp eS
        refine gN_go ?_
        refine goPut (n := 0) (ky := e1.1) (S := VI 8) A7 (b2.le (by omega)) (by omega) (Ev.c rfl) (fun G Q h => h) (fun F' G Q s a h => by show Q y G; rw [show y = kV e1.1 from hy]; exact h) fun v8 F8 G8 A8 sF8 s8 => ?_
        exact hN _ _ F8 G8 (A8.le (by omega)) sF8 ⟨_, some y, rfl, by have := putK_len (kvs := kvs') (k := e1.1) (v := v8); omega, rfl⟩
      · rintro σ' o' F7 G7 A7 sF7 ⟨kvs', o6', rfl, hl, rfl⟩
        dsimp only
        have x7 := A7.nx
        have a7 := A7.at_
        have sT7 := Mo.mo sF7 sT6
        have sM7 := Mo.mo sF7 sM6
        have okn := psok_neg ok
        have okq := ok.perm pm
        have okqn := psok_neg okq
        refine goSet (n := 0) (p := some q) (L := []) (F := F7) (S := VP (ps.map neg1)) ?_ a7 Bud.zero fun v9 F9 G9 x9 s9 => ?_
        · have sT0 := sT7
          obtain ⟨c, kv, rfl, hc, al⟩ := sT7
          have e : VP (ps.map neg1) = VD (ps.map fun p => (kyN p, VI (-p.2))) := by unfold VP pD; rw [List.map_map]; rfl
          rw [e]
          refine Ev.dictPM (zs := ps) (ky := kyN) (R := fun p => VI (-p.2)) (EvA.cons (n := 0) (m := 0) (Ev.lock hc (by simp) ?_) EvA.nil) (kyN_nd ok.nd)
          refine Ev.lc0 (R := fun p => VKy (kyN p)) (R' := fun p => VT [VKy (kyN p), VI (-p.2)]) ?_ (fun z hz y F' s hy => ?_) (by omega)
          · exact EvI.keysM (zs := ps) (Ev.var rfl rfl) hc al
          · refine ⟨[some (.ref a), some (.ref q), some x, some (.ref c), some (.ref d), some v5, some y, o7, none, none], rfl, fun G Q _ h => h, ?_⟩
            refine Ev.tup (EvA.cons (n := 0) (m := 0) (Ev.var rfl hy) (EvA.cons (n := 0) (m := 0) ?_ EvA.nil))
            refine (Ev.i1 (n := 0) (m := 0) (i := 0) (j := z.2) (Ev.c rfl) (Ev.dget (n := 0) (m := 0) (ps := pD ps) (k := kyN z) (S := VI z.2) (Ev.var rfl (Mo.mo s sT0)) (Ev.var rfl hy) (pD_val ok.nd hz))).to fun v F' _ h => ?_
            rw [show v = _ from h, Int.zero_sub]
            rfl
        have a9 := x9.at_ a7
        have sT9 := Mo.mo x9.s sT7
        have sM9 := Mo.mo x9.s sM7
        refine goOn (n := 0) (p := some q) (L := []) (F := F9) ?_ a9 Bud.zero fun F10 G10 x10 => ?_
        · refine EvT.bt (c := !true || !true) (EvT.or (n := 0) (m := 0) (EvT.not (EvT.b (Ev.callZ (n := 0) (ps, qs) (EvA.cons (n := 0) (m := 0) (Ev.var rfl (vo_c sM9)) (EvA.cons (n := 0) (m := 0) (Ev.var rfl sT9) EvA.nil)) ⟨ok, pm, asc, by show ps.length ≤ 60; omega⟩ rfl))) fun _ => EvT.not (EvT.b (Ev.callZ (n := 0) (ps.map neg1, qs.map neg1) (EvA.cons (n := 0) (m := 0) ?_ (EvA.cons (n := 0) (m := 0) (Ev.var rfl s9) EvA.nil)) ⟨okn, pm.map _, asc_neg asc, by show (ps.map neg1).length ≤ 60; rw [List.length_map]; omega⟩ rfl))) rfl
          exact (ev_neg (Ev.var rfl (vo_c sM9)) okq).to fun v F' _ h => vo_c (vln_to okqn (List.Perm.refl _) (asc_neg asc) h)
        have a10 := x10.at_ a9
        have sT10 := Mo.mo x10.s sT9
        have sM10 := Mo.mo x10.s sM9
        refine EvT.go (n := 2) (p := some q) (L := []) (F := F10) (c := false) ?_ a10 (Bud.step (n := 0) (Bud.step (n := 0) (Bud.step (n := 0) b2 x7.r) x9.r) x10.r) (fun e => nomatch e) fun _ F11 G11 x11 => hN _ F11 G11 (((((x2.trans x7).trans x9).trans x10).trans x11).le (by omega)) ⟨_, _, _, _, _, _, rfl⟩
        refine EvT.bt (c := (xor true (eqQ qs (some qs))) || !true) (EvT.or (n := 0) (m := 2) (EvT.b (ev_eqL (n := 0) (m := 0) (qs := qs) (o := some qs) ?_ (Ev.var rfl sM10) fun rs e => by cases e; exact okq.nd)) fun _ => EvT.not (EvT.b (Ev.callZp (n := 0) (m := 2) (ps, qs) (EvA.cons (n := 0) (m := 0) (Ev.var rfl rfl) (EvA.cons (n := 0) (m := 0) (Ev.var rfl sM10) (EvA.cons (n := 0) (m := 0) (Ev.var rfl sT10) EvA.nil))) ⟨ok, pm, asc, l5⟩ rfl))) (by rw [show eqQ qs (some qs) = true from eqP_self]; rfl)
        refine (ev_neg (qs := qs.map neg1) ((ev_neg (Ev.var rfl (vo_c sM10)) okq).to fun v F' _ h => vo_c (vln_to okqn (List.Perm.refl _) (asc_neg asc) h)) okqn).to fun v F' _ h => ?_
        rw [neg2] at h
        exact vln_to okq (List.Perm.refl _) asc h
    · rintro σ' F1 G1 x1 ⟨o2, o3, o4, o5, o6, o7, rfl⟩
      dsimp only
      have a1 := x1.at_ a0
      have pS : ∀ {F : Hp}, Same (fun _ => none) F := fun {F} b o e => nomatch e
      refine goSet (n := 0) (p := some q) (L := []) (F := F1) (S := VO Ln [("_parts", VP wps)]) ?_ a1 Bud.zero fun v8 F2 G2 x2 s8 => ?_
      · refine (Ev.makeI (n := 0) (wps, fun _ => none) (EvA.cons (n := 0) (m := 0) (S := VPs wps fun _ => none) (Ev.to (S := VP wps) ?_ fun v F' _ h => ⟨h, pS⟩) EvA.nil) wps_ok lL (fun fs F1 F2 s h => h.mo s)).to fun v F' _ h => vln_to wps_ok (List.Perm.refl _) wps_asc (let ⟨a, dx, fs, e, ha, po⟩ := h; ⟨a, dx, fs, e, ha, po.weak⟩)
        refine Ev.dictPM (zs := wps) (ky := kyN) (R := fun p => VI p.2) (EvA.cons (n := 0) (m := 0) ?_ EvA.nil) (kyN_nd wps_ok.nd)
        have e : (wps.map fun z => VT [VKy (kyN z), VI z.2]) = (Str.ofString "abcdefghijkl").cps.toList.map fun c => VT [VS ⟨#[c]⟩, VI 9] := by
          unfold wps
          rw [ecs, List.map_map]
          rfl
        rw [e]
        refine Ev.lc0 (R := fun c => VS ⟨#[c]⟩) (R' := fun c => VT [VS ⟨#[c]⟩, VI 9]) ?_ (fun z hz y F' s hy => ?_) (by rw [ecs]; decide)
        · exact EvI.str (Ev.c rfl)
        · exact ⟨[some (.ref a), some (.ref q), o2, o3, o4, o5, o6, o7, none, some y], rfl, fun G Q _ h => h, Ev.tup (EvA.cons (n := 0) (m := 0) (Ev.var rfl hy) (EvA.cons (n := 0) (m := 0) (Ev.c rfl) EvA.nil))⟩
      have a2 := x2.at_ a1
      refine goOn (n := 0) (p := some q) (L := []) (F := F2) ?_ a2 Bud.zero fun F3 G3 x3 => ?_
      · refine EvT.bt (c := (xor true (decide ((wps.length : Int) = 12))) || ((xor true (PyData.eqv (.tuple (wps.map fun p => .str (ofL p.1))) (.tuple ((Str.ofString "abcdefghijkl").cps.toList.map fun c => .str ⟨#[c]⟩)))) || xor true (decide (getK (wps.map neg1) (some (Str.ofString "l")) = -9)))) (EvT.or (n := 0) (m := 0) (EvT.b (Ev.eqI (n := 0) (m := 0) ?_ (Ev.c rfl))) fun _ => EvT.or (n := 0) (m := 0) (EvT.b ?_) fun _ => EvT.b (Ev.eqI (n := 0) (m := 0) ?_ (Ev.neg (Ev.c rfl)))) (by decide +kernel)
        · exact ev_lenO (EvA.cons (n := 0) (m := 0) (Ev.var rfl (vo_c s8)) EvA.nil) wps_ok.l64
        · refine ev_eqTT (n := 0) (m := 0) ?_ ?_
          · exact ev_accs (Ev.var rfl (vo_c s8))
          · exact Ev.tupS (EvA.cons (n := 0) (m := 0) (Ev.c rfl) EvA.nil) (by decide +kernel)
        · exact ev_ixO ((ev_neg (Ev.var rfl (vo_c s8)) wps_ok).to fun v F' _ h => vo_c (vln_to (psok_neg wps_ok) (List.Perm.refl _) (asc_neg wps_asc) h)) (Ev.c (S := VQ (some (Str.ofString "l"))) rfl)
      have a3 := x3.at_ a2
      have eb : (Str.ofString "b") = ofL [98] := by decide +kernel
      have n98 : Nm [98] := by decide +kernel
      have dok : DysOk [0] := ⟨by simp, by simp⟩
      have ok1 := one_ok n98
      have okm : PsOk [(([98] : List Nat), (-1 : Int))] := psok_neg ok1
      have as1 : Asc [(([98] : List Nat), (-1 : Int))] := rfl
      have ct : ∀ σ' : L2.St, Ev (some q) [] F3 0 (StX.tMakeR Ct (spCount (CtF K It fL Ck fI Ct fK)) E0 (tCons (tC (.str (Str.ofString "b"))) (tCons (tC (.int 0)) tNil))) σ' (VLc Ct [([98], 1)]) := fun σ' => (ev_count (n := 0) (l := [98]) (d := 0) (EvA.cons (n := 0) (m := 0) (Ev.c (by show V.str _ = V.str _; rw [eb])) (EvA.cons (n := 0) (m := 0) (Ev.c rfl) EvA.nil)) n98 dok cT_).to fun v F' _ ⟨a, dx, fs, e, ha, rs, l, q1, q2, q3, al⟩ => by
        have e1 : rs = [([98], 1)] := List.perm_singleton.mp q1
        subst e1
        exact vo_c (r := [("_days", VT (l.map VI))]) ⟨a, dx, fs, e, ha, al⟩
      refine goRet (n := 0) (p := some q) (L := []) (F := F3) (S := VB true) ?_ a3 Bud.zero fun w F4 G4 x4 s4 => by rw [show w = .bl true from s4]; exact k _
      refine Ev.bt (c := (xor false (decide ((9 : Int) = 9))) && ((xor false true) && true)) (Ev.and (n := 0) (m := 0) (Ev.eqI (n := 0) (m := 0) (Ev.cval (Ev.c rfl) rL cM) (Ev.c rfl)) fun _ => Ev.and (n := 0) (m := 0) (ev_eqN (n := 0) (m := 0) (qs := [([98], -1)]) (ps := [([98], -1)]) ?_ ?_ okm ?_) fun _ => ev_anC (n := 0) (m := 0) ?_ ?_ nLC sCL) rfl
      · exact (ev_neg (qs := [([98], 1)]) (ct _) ok1).to fun v F' _ h => vln_to okm (List.Perm.refl _) as1 h
      · refine (Ev.makeI (n := 0) ([([98], -1)], fun _ => none) (EvA.cons (n := 0) (m := 0) (S := VPs [([98], -1)] fun _ => none) (Ev.to (S := VP [([98], -1)]) (Ev.disp1 (n := 0) (m := 0) (ky := kyN ([98], -1)) (Ev.c (by show V.str _ = V.str _; rw [eb])) (Ev.neg (Ev.c rfl))) fun v F' _ h => ⟨h, pS⟩) EvA.nil) okm lL (fun fs F1 F2 s h => h.mo s)).to fun v F' _ ⟨a, dx, fs, e, ha, po⟩ => ⟨a, dx, fs, e, ha, po.weak⟩
      · intro rs r1 _
        rw [List.perm_singleton.mp r1]
        exact eqP_self
      · exact (ev_neg (qs := [([98], 1)]) (ct _) ok1).to fun v F' _ h => vln_an h
      · exact (ct _).to fun v F' _ h => ⟨_, trivial, h⟩

end
end LW

set_option Elab.async false
set_option linter.all false
set_option maxRecDepth 100000
set_option maxHeartbeats 4000000
/-! A51: a head by one run: defs and facts told by a Hook, addresses found by functions of what is known -/
namespace HX
open PySem PySem.Spec PyProof.Rows L2
/-- one def: how it is found, its names, its text, its defaults -/
structure DefZ where
  adr : PySem.W.Frag → Addr
  name : Str
  qual : Str
  st : Stmt
  dfl : List He.Dv := []
def fnZ (K : PySem.W.Frag) (a : Addr) : He.FnW := match K.lookup a with
  | some ⟨_, _, .func fd, _⟩ => some (fd.name, fd.qualname, fd.params, fd.body, fd.scope, fd.globals, fd.closure, fd.builtins)
  | _ => none
def DefZ.val (d : DefZ) : He.FnW := some (d.name, d.qual, defArgs d.st, .stmts (defBody d.st), defScope d.st, mainGlobals, [], builtinsNs)
def DefZ.dvs (K : PySem.W.Frag) (d : DefZ) : List V := d.dfl.map (He.Dv.v K)
def DefZ.ok (K : PySem.W.Frag) (d : DefZ) : Bool := PySem.W.keepIn K (.ref (d.adr K)) && (match K.lookup (d.adr K) with
  | some ⟨_, _, .func fd, _⟩ => PySem.W.codeIn K fd.code d.qual && (He.dflB K fd.defaults (d.dvs K) && He.kwdB K fd.kwdefaults [])
  | _ => false)
theorem DefZ.funD {K : PySem.W.Frag} {d : DefZ} (e : fnZ K (d.adr K) = d.val) (c : d.ok K = true) : ∃ fd, FunD K d.name d.qual (defArgs d.st) (defBody d.st) (defScope d.st) (d.dvs K) [] (d.adr K) fd := by
  obtain ⟨kp, c2⟩ := He.ba c
  unfold fnZ at e
  cases q : K.lookup (d.adr K) with
  | none => rw [q] at c2; cases c2
  | some o =>
    obtain ⟨oc, od, dt, osl⟩ := o
    rw [q] at c2 e
    cases dt with
    | func fd =>
      obtain ⟨n1, n2, n3, n4, n5, n6, n7, n8, n9, n10, n11, n12, n13, n14, n15⟩ := fd
      have e2 : (some (n1, n2, n3, n4, n5, n6, n7, n15) : He.FnW) = some (d.name, d.qual, defArgs d.st, .stmts (defBody d.st), defScope d.st, mainGlobals, [], builtinsNs) := e
      simp only [Option.some.injEq, Prod.mk.injEq] at e2
      obtain ⟨z1, z2, z3, z4, z5, z6, z7, z8⟩ := e2
      subst z1 z2 z3 z4 z5 z6 z7 z8
      have c3 : (PySem.W.codeIn K n13 d.qual && (He.dflB K n8 (d.dvs K) && He.kwdB K n9 [])) = true := c2
      obtain ⟨k1, k2⟩ := He.ba c3
      obtain ⟨k3, k4⟩ := He.ba k2
      exact ⟨_, ⟨oc, od, n8, n9, n10, n11, n12, n13, n14, osl, rfl, q, k1, He.dflB_ok k3, He.kwdB_ok k4⟩, kp⟩
    | _ => cases c2
theorem funD_fun {K : PySem.W.Frag} {x q : Str} {st : Stmt} {f : Addr} {fd : FuncData} (F : FunD K x q (defArgs st) (defBody st) (defScope st) [] [] f fd) : Fun K x q st f fd := by
  obtain ⟨oc, od, dV, kV, doc, pm, an, cdv, ct, osl, rfl, lk, hcd, hD, hK⟩ := F.ex
  rcases hD with ⟨_, rfl⟩ | ⟨e, _⟩
  · exact ⟨⟨oc, od, kV, doc, pm, an, cdv, ct, osl, rfl, lk, hcd⟩, F.kp⟩
  · exact absurd rfl e
abbrev AlZ : Type := List He.FnW × Bool
def obsZ (fn : List DefZ) (ck : PySem.W.Frag → List Bool) (K : PySem.W.Frag) : AlZ := (fn.map fun d => fnZ K (d.adr K), (fn.all fun d => d.ok K) && (ck K).all id)
def valZ (fn : List DefZ) : AlZ := (fn.map DefZ.val, true)
def SaysZ (fn : List DefZ) (ck : PySem.W.Frag → List Bool) (K : PySem.W.Frag) : Prop := obsZ fn ck K = valZ fn
def obsZG (n : Nat) (fn : List DefZ) (ck : PySem.W.Frag → List Bool) (g : Addr → Option Obj) : AlZ := obsZ fn ck (He.frG g (cStatics :: He.asD g n))
def hookZ (n : Nat) (fn : List DefZ) (ck : PySem.W.Frag → List Bool) : PySem.W.Hook where
  α := AlZ
  obs := fun s => obsZG n fn ck s.heap.get?
  val := fun _ => valZ fn
  says := fun _ h => ∃ K : PySem.W.Frag, K.In h ∧ SaysZ fn ck K
  of := fun _ _ e => ⟨_, He.frG_in, e⟩
  keeps := fun _ _ _ ⟨K, hK, c⟩ k => ⟨K, PySem.W.Frag.In.keeps hK k, c⟩
theorem obsZG_eq {n : Nat} {fn : List DefZ} {ck : PySem.W.Frag → List Bool} {g : Addr → Option Obj} {s : Shared} (h : ∀ a, g a = s.heap.get? a) : obsZG n fn ck g = (hookZ n fn ck).obs s := by
  have e : g = s.heap.get? := funext h
  rw [e]
  rfl
section
variable {fn : List DefZ} {ck : PySem.W.Frag → List Bool} {K : PySem.W.Frag}
theorem SaysZ.def_ (c : SaysZ fn ck K) (i : Nat) {d : DefZ} (h : fn[i]? = some d := by rfl) : ∃ fd, FunD K d.name d.qual (defArgs d.st) (defBody d.st) (defScope d.st) (d.dvs K) [] (d.adr K) fd := by
  have e1 : (fn.map fun d => fnZ K (d.adr K)) = fn.map DefZ.val := congrArg (fun z : AlZ => z.1) c
  have e2 : ((fn.all fun d => d.ok K) && (ck K).all id) = true := congrArg (fun z : AlZ => z.2) c
  refine DefZ.funD ?_ (List.all_eq_true.mp (He.ba e2).1 d (List.mem_of_getElem? h))
  have z := congrArg (·[i]?) e1
  simp only [List.getElem?_map, h, Option.map_some, Option.some.injEq] at z
  exact z
theorem SaysZ.is (c : SaysZ fn ck K) (i : Nat) {b : Bool} (h : (ck K)[i]? = some b) : b = true := by
  have e2 : ((fn.all fun d => d.ok K) && (ck K).all id) = true := congrArg (fun z : AlZ => z.2) c
  exact List.all_eq_true.mp (He.ba e2).2 b (List.mem_of_getElem? h)
end
/-- a law by facts, for a def at which nothing is being shown -/
theorem walkGE {l : PySem.W.OpenLaw} {n k : Nat} {q : Program} {loose : List Str} {XP : (Str → Option Value) → Heap → Prop} {YP : World → Heap → Prop} {d : DefRec} {sp : PySem.W.Frag → Sp} {x : Str}
    (hm : l.most = some n) (hn : n ≤ sizeLine) (hdf : d.params.defaults = []) (hr : Room k callerA)
    (F : ∀ (w : World) (mg : Str → Option Value) (fa : Addr) (h : Heap), YP w h → h.Ns mainGlobals mg → mg d.name = some (.ref fa) →
      ∃ (K : PySem.W.Frag) (fd : FuncData), K.In h ∧ (∀ (s : Shared) (u : Value), BindsTo s fd ⟨[u], []⟩ [(x, u)]) ∧
        ∀ base : Heap, K.In base → base.Ns mainGlobals mg → FnG l.prog w K mg base CX0 k fa fd [x] (sp K))
    (hsp : ∀ (K : PySem.W.Frag) (H : Hp) (a : Addr) (ns : List Int), ns.length ≤ n → Only H → SqL K H a (ns.map V.int) → sp K [.ref a] H (fun v _ => v = .bl true) fun _ _ _ => False) :
    PySem.W.WalkO q loose XP YP l.row.toRowW d [] (fun f vs => PySem.call f vs) := by
  refine Att.attach_call hm hdf fun w s₀ s mg mb fa o pm cd doc a vs ns G Y ho hd hcd hmg hobj hi hlen hg => ?_
  obtain ⟨K, fd, kin, b1, f1⟩ := F w mg fa _ Y G.T.g hmg
  have rv := vals_ints hi
  have lv := hi.length
  cases e : K.lookup a with
  | some ob =>
    have z := kin a ob e
    rw [hobj] at z
    cases z
    refine law_goG (vs := vs) kin G.T.g G.T.b G.T.builtins G.T.nolimit hg (fun _ => none) (fun _ => .inl rfl) (fun _ _ z => nomatch z) (fun _ z => absurd rfl z) hr f1 b1 ?_ fun _ _ z => z
    refine hsp _ _ a ns hlen (fun _ => .inl rfl) (.inr ⟨_, vs.toArray, _, e, rfl, rfl, rfl, ?_, by simpa using rv⟩)
    rw [List.size_toArray, lv]
    exact Nat.le_trans hlen hn
  | none =>
    have at_ : ∀ b u, scr a { cls := .type "list", data := .seq vs.toArray } ns b = some u → b = a ∧ u = .frz { cls := .type "list", data := .seq vs.toArray } (.lst (ns.map V.int)) := fun b u z => by
      unfold scr at z
      split at z
      · rename_i hb
        exact ⟨hb, (Option.some.inj z).symm⟩
      · cases z
    refine law_goG (vs := vs) kin G.T.g G.T.b G.T.builtins G.T.nolimit hg (scr a { cls := .type "list", data := .seq vs.toArray } ns) (fun b => ?_) (fun b u z => ?_) (fun b z => ?_) hr f1 b1 ?_ fun _ _ z => z
    · cases z : scr a { cls := .type "list", data := .seq vs.toArray } ns b with
      | none => exact .inl rfl
      | some u => exact .inr ⟨_, _, by rw [(at_ b u z).2]⟩
    · obtain ⟨rfl, rfl⟩ := at_ b u z
      exact ⟨hobj, by rw [List.length_map]; exact Nat.le_trans hlen hn, vs, _, rv, hobj⟩
    · cases y : scr a { cls := .type "list", data := .seq vs.toArray } ns b with
      | none => exact absurd y z
      | some u =>
        obtain ⟨rfl, _⟩ := at_ b u y
        exact ⟨hobj, e⟩
    · refine hsp _ _ a ns hlen (fun b => ?_) (.inl (.inr ⟨_, if_pos rfl⟩))
      cases z : scr a { cls := .type "list", data := .seq vs.toArray } ns b with
      | none => exact .inl rfl
      | some u => exact .inr ⟨_, _, by rw [(at_ b u z).2]⟩
end HX
namespace HX
def cfEq : (a b : PySem.W.CFound) → Decidable (a = b)
  | .val v, .val v' => if h : v = v' then .isTrue (h ▸ rfl) else .isFalse (fun e => h (PySem.W.CFound.val.inj e))
  | .get a b c d, .get a' b' c' d' => if h : a = a' ∧ b = b' ∧ c = c' ∧ d = d' then .isTrue (by obtain ⟨rfl, rfl, rfl, rfl⟩ := h; rfl) else .isFalse (fun e => h (PySem.W.CFound.get.inj e))
  | .val _, .get _ _ _ _ => .isFalse (fun e => nomatch e)
  | .get _ _ _ _, .val _ => .isFalse (fun e => nomatch e)
instance : DecidableEq PySem.W.CFound := cfEq
end HX
namespace HX
open PySem PySem.Spec PyProof.Rows L2
/-- an own exception class below ValueError -/
def oexB (K : PySem.W.Frag) (C : Addr) : Bool := match K.lookup C with
  | some ⟨.type t, _, .cls cd, sl⟩ => (match cd.mro, sl.toList with
    | .ref C' :: bm, [_, _, _, _, some (.builtin n), _] => decide (t = "type") && (decide (C' = C) && (decide (n = "ValueError.__new__") && (!cd.hasDel && (cd.hasDict && PySem.HandSPX.refsVE bm))))
    | _, _ => false)
  | _ => false
theorem oexB_ok {K : PySem.W.Frag} {C : Addr} (h : oexB K C = true) : ∃ nm q N bs bm sn sub ab col dd k0 k1 k2 k3 k5, K.lookup C = some (excClassObj nm q C N bs bm true sn sub ab col dd k0 k1 k2 k3 k5 "ValueError.__new__") ∧ PySem.HandSPX.refsVE bm = true := by
  unfold oexB at h
  split at h
  · rename_i t dd cd sl lk
    split at h
    · rename_i C' bm a0 a1 a2 a3 n a5 e1 e2
      obtain ⟨h1, h2⟩ := He.ba h
      obtain ⟨h2, h3⟩ := He.ba h2
      obtain ⟨h3, h4⟩ := He.ba h3
      obtain ⟨h4, h5⟩ := He.ba h4
      obtain ⟨h5, h6⟩ := He.ba h5
      have h1 := of_decide_eq_true h1
      have h2 := of_decide_eq_true h2
      have h3 := of_decide_eq_true h3
      subst h1 h2 h3
      obtain ⟨c1, c2, c3, c4, c5, c6, c7, c8, c9, c10, c11⟩ := cd
      have e1 : c3 = .ref C' :: bm := e1
      have h4 : (!c11) = true := h4
      have h5 : c6 = true := h5
      obtain rfl : c11 = false := by simpa using h4
      subst e1 h5
      obtain ⟨l⟩ := sl
      have e2 : l = [a0, a1, a2, a3, some (.builtin "ValueError.__new__"), a5] := e2
      subst e2
      exact ⟨c1, c5, c4, c2, bm, c7, c8, c9, c10, dd, a0, a1, a2, a3, a5, lk, h6⟩
    · cases h
  · cases h
/-- addresses by what is known -/
def cfP : Option PySem.W.CFound → Addr
  | some (.get _ (.ref p) _ _) => p
  | _ => 0
def rcF : Option (List Value) → Addr
  | some (.ref f :: _) => f
  | _ => 0
def rcR : Option (List Value) → List Value
  | some (_ :: r) => r
  | _ => []
def gTok : Option (Option Value) → Tok
  | some (some (.int _ t)) => t
  | some (some (.str _ t)) => t
  | _ => 0
def cTok : Option PySem.W.CFound → Tok
  | some (.val (.int _ t)) => t
  | some (.val (.str _ t)) => t
  | _ => 0
end HX

set_option Elab.async false
set_option linter.all false
set_option maxRecDepth 100000
set_option maxHeartbeats 4000000
/-! A52: the head's facts over objects at told addresses: the tree walked once, the list of objects laid once -/
namespace HX
open PySem PySem.Spec PyProof.Rows L2
def frT {α : Type} : PySem.W.BT → (PySem.W.BT → α) → α
  | .nil, k => k .nil
  | .node v l r, k => frT l fun l => frT r fun r => k (.node v l r)
theorem frT_eq {α : Type} : ∀ (t : PySem.W.BT) (k : PySem.W.BT → α), frT t k = k t
  | .nil, _ => rfl
  | .node v l r, k => by
    show frT l (fun l => frT r fun r => k (.node v l r)) = _
    rw [frT_eq l, frT_eq r]
def frK {α : Type} (g : Addr → Option Obj) : List Addr → PySem.W.Frag → (PySem.W.Frag → α) → α
  | [], acc, k => k acc
  | a :: r, acc, k => match g a with
    | some ⟨c, d, dt, sl⟩ => frK g r ((a, ⟨c, d, dt, sl⟩) :: acc) k
    | none => frK g r acc k
theorem frK_ex {α : Type} {g : Addr → Option Obj} (k : PySem.W.Frag → α) : ∀ (as : List Addr) (acc : PySem.W.Frag), (∀ a o, acc.lookup a = some o → g a = some o) → ∃ K : PySem.W.Frag, (∀ a o, K.lookup a = some o → g a = some o) ∧ frK g as acc k = k K
  | [], acc, h => ⟨acc, h, rfl⟩
  | a :: r, acc, h => by
    cases e : g a with
    | none =>
      obtain ⟨K, h1, h2⟩ := frK_ex k r acc h
      refine ⟨K, h1, ?_⟩
      rw [← h2]
      show (match g a with | some ⟨c, d, dt, sl⟩ => frK g r ((a, ⟨c, d, dt, sl⟩) :: acc) k | none => frK g r acc k) = _
      rw [e]
    | some o =>
      obtain ⟨c, d, dt, sl⟩ := o
      obtain ⟨K, h1, h2⟩ := frK_ex (g := g) k r ((a, ⟨c, d, dt, sl⟩) :: acc) (fun b o q => by
        have q2 : (match b == a with | true => some (⟨c, d, dt, sl⟩ : Obj) | false => acc.lookup b) = some o := q
        cases z : (b == a) with
        | true =>
          rw [z] at q2
          rw [beq_iff_eq.mp z, e]
          exact q2
        | false =>
          rw [z] at q2
          exact h b o q2)
      refine ⟨K, h1, ?_⟩
      rw [← h2]
      show (match g a with | some ⟨c, d, dt, sl⟩ => frK g r ((a, ⟨c, d, dt, sl⟩) :: acc) k | none => frK g r acc k) = _
      rw [e]
def hookL (as : List Addr) (fn : List DefZ) (ck : PySem.W.Frag → List Bool) : PySem.W.Hook where
  α := AlZ
  obs := fun s => frK s.heap.get? as [] (obsZ fn ck)
  val := fun _ => valZ fn
  says := fun _ h => ∃ K : PySem.W.Frag, K.In h ∧ SaysZ fn ck K
  of := fun _ _ e => by
    obtain ⟨K, h1, h2⟩ := frK_ex (g := _) (obsZ fn ck) as [] (fun _ _ z => nomatch z)
    exact ⟨K, h1, h2.symm.trans e⟩
  keeps := fun _ _ _ ⟨K, hK, c⟩ k => ⟨K, PySem.W.Frag.In.keeps hK k, c⟩
def obL (as : List Addr) (fn : List DefZ) (ck : PySem.W.Frag → List Bool) (s : PySem.W.SharedT) : AlZ := frT s.tree fun T => frK (HandSHeadRun.getT { s with tree := T }) as [] (obsZ fn ck)
theorem obL_eq {as : List Addr} {fn : List DefZ} {ck : PySem.W.Frag → List Bool} (s : PySem.W.SharedT) : obL as fn ck s = (hookL as fn ck).obs s.abs := by
  have e : HandSHeadRun.getT s = s.abs.heap.get? := funext (HandSHeadRun.getT_eq s)
  show frT s.tree (fun T => frK (HandSHeadRun.getT { s with tree := T }) as [] (obsZ fn ck)) = frK s.abs.heap.get? as [] (obsZ fn ck)
  rw [frT_eq, ← e]
end HX

set_option Elab.async false
set_option linter.all false
set_option maxRecDepth 100000
set_option maxHeartbeats 4000000
/-! A56: the head by told addresses, with defs that hold the cell of their class -/
namespace HX
open PySem PySem.Spec PyProof.Rows L2
/-- a def whose closure is the cell of its class -/
structure DefY where
  adr : PySem.W.Frag → Addr
  cls : PySem.W.Frag → Addr
  name : Str
  qual : Str
  st : Stmt
def fnY (K : PySem.W.Frag) (a : Addr) : He.FnW := match K.lookup a with
  | some ⟨_, _, .func fd, _⟩ => some (fd.name, fd.qualname, fd.params, fd.body, fd.scope, fd.globals, [], fd.builtins)
  | _ => none
def DefY.val (d : DefY) : He.FnW := some (d.name, d.qual, defArgs d.st, .stmts (defBody d.st), defScope d.st, mainGlobals, [], builtinsNs)
def cellB (K : PySem.W.Frag) (D : Addr) (cc : Addr) : Bool := match K.lookup cc with
  | some ⟨_, _, .cell (some (.ref D')), _⟩ => decide (D' = D)
  | _ => false
def fileB (K : PySem.W.Frag) (file : Str) (c : Value) : Bool := match c with
  | .ref a => (match K.lookup a with
    | some ⟨_, _, .fields vs, _⟩ => (match (vs[2]? : Option Value) with
      | some (.str f _) => decide (f = file)
      | _ => false)
    | _ => false)
  | _ => false
def closB (K : PySem.W.Frag) (D : Addr) (cl : List (Str × Addr)) : Bool := match cl with
  | [(n, cc)] => decide (n = "__class__") && cellB K D cc
  | _ => false
def DefY.ok (file : Str) (K : PySem.W.Frag) (d : DefY) : Bool := PySem.W.keepIn K (.ref (d.adr K)) && (decide (PySem.W.typeIn K (.ref (d.adr K)) = some (.type "function")) && (PySem.W.fnIn K (d.adr K) && (match K.lookup (d.adr K) with
  | some ⟨_, _, .func fd, _⟩ => PySem.W.codeIn K fd.code d.qual && (decide (fd.defaults = .none) && (fileB K file fd.code && closB K (d.cls K) fd.closure))
  | _ => false)))
structure FunY (P : Program) (K : PySem.W.Frag) (x qual : Str) (params : Arguments) (body : List Stmt) (scope : Scope) (f D : Addr) (fd : FuncData) (cc c : Addr) : Prop extends FunS P K x qual params body scope f D fd cc c where
  df : fd.defaults = .none
theorem DefY.funY {P : Program} {K : PySem.W.Frag} {file : Str} {d : DefY} (e : fnY K (d.adr K) = d.val) (ok : d.ok file K = true) (hf : P.main.file = file) : ∃ fd cc c, FunY P K d.name d.qual (defArgs d.st) (defBody d.st) (defScope d.st) (d.adr K) (d.cls K) fd cc c := by
  obtain ⟨kp, ok⟩ := He.ba ok
  obtain ⟨ty, ok⟩ := He.ba ok
  obtain ⟨fi, ok⟩ := He.ba ok
  have ty := of_decide_eq_true ty
  unfold fnY at e
  cases q : K.lookup (d.adr K) with
  | none => rw [q] at ok; cases ok
  | some o =>
    obtain ⟨oc, od, dt, osl⟩ := o
    rw [q] at ok e
    cases dt with
    | func fd =>
      obtain ⟨n1, n2, n3, n4, n5, n6, n7, n8, n9, n10, n11, n12, n13, n14, n15⟩ := fd
      have e2 : (some (n1, n2, n3, n4, n5, n6, [], n15) : He.FnW) = some (d.name, d.qual, defArgs d.st, .stmts (defBody d.st), defScope d.st, mainGlobals, [], builtinsNs) := e
      simp only [Option.some.injEq, Prod.mk.injEq] at e2
      obtain ⟨z1, z2, z3, z4, z5, z6, _, z8⟩ := e2
      subst z1 z2 z3 z4 z5 z6 z8
      have c3 : (PySem.W.codeIn K n13 d.qual && (decide (n8 = .none) && (fileB K file n13 && closB K (d.cls K) n7))) = true := ok
      obtain ⟨k1, k2⟩ := He.ba c3
      obtain ⟨k2a, k2b⟩ := He.ba k2
      obtain ⟨k3, k4⟩ := He.ba k2b
      have k2c := of_decide_eq_true k2a
      clear k2 k2b c3
      subst k2c
      unfold closB at k4
      split at k4
      · rename_i n cc
        obtain ⟨k4, k5⟩ := He.ba k4
        have k4 := of_decide_eq_true k4
        subst k4
        unfold cellB at k5
        split at k5
        · rename_i c1 d1 D' s1 lk
          have k5 := of_decide_eq_true k5
          subst k5
          unfold fileB at k3
          split at k3
          · rename_i a
            split at k3
            · rename_i c2 d2 vs s2 lk2
              split at k3
              · rename_i f t hv
                have k3 := of_decide_eq_true k3
                exact ⟨_, cc, a, ⟨⟨oc, od, .none, n9, n10, n11, n12, n14, osl, _, vs, c2, d2, s2, f, t, rfl, q, k1, lk, rfl, lk2, hv, by rw [hf, k3]; exact beq_self_eq_true _⟩, kp, ty, fi⟩, rfl⟩
              · cases k3
            · cases k3
          · cases k3
        · cases k5
      · cases k4
    | _ => cases ok
section
variable {P : Program} {K : PySem.W.Frag} {x qual : Str} {params : Arguments} {body : List Stmt} {scope : Scope} {f D cc c : Addr} {fd : FuncData} {ps : List Str}
theorem FunY.binds (F : FunY P K x qual params body scope f D fd cc c)
    (h : ∀ (kV doc pm : Value) (an : Option Addr) (ct : Value) (us : List Value), us.length = ps.length → bindArgs (PySem.W.fnX x qual params body scope [("__class__", cc)] .none kV doc pm an (.ref c) ct) ⟨us, []⟩ = pure (ps.zip us)) : Binds K fd ps [] := by
  have df := F.df
  obtain ⟨oc, od, dV, kV, doc, pm, an, ct, osl, oC, vs, ccl, cdd, ccs, file, tf, rfl, _⟩ := F.ex
  have e : dV = .none := df
  subst e
  exact .all (h kV doc pm an ct)
theorem FunY.star {p1 p2 pv : Str} (F : FunY P K x qual params body scope f D fd cc c)
    (h0 : ∀ (kV doc pm : Value) (an : Option Addr) (ct : Value) (a b : Value), bindArgs (PySem.W.fnX x qual params body scope [("__class__", cc)] .none kV doc pm an (.ref c) ct) ⟨[a, b], []⟩ = (newTuple [] >>= fun t => pure [(p1, a), (p2, b), (pv, t)]))
    (h1 : ∀ (kV doc pm : Value) (an : Option Addr) (ct : Value) (a b r : Value) (rs : List Value), bindArgs (PySem.W.fnX x qual params body scope [("__class__", cc)] .none kV doc pm an (.ref c) ct) ⟨a :: b :: r :: rs, []⟩ = (newTuple (r :: rs) >>= fun t => pure [(p1, a), (p2, b), (pv, t)])) :
    ∀ us rest : List Value, us.length = ([p1, p2] : List Str).length → bindArgs fd ⟨us ++ rest, []⟩ = (newTuple rest >>= fun t => pure (([p1, p2] : List Str).zip us ++ [(pv, t)])) := by
  have df := F.df
  obtain ⟨oc, od, dV, kV, doc, pm, an, ct, osl, oC, vs, ccl, cdd, ccs, file, tf, rfl, _⟩ := F.ex
  have e : dV = .none := df
  subst e
  exact StX.bind_star2 (B := fun l => bindArgs (PySem.W.fnX x qual params body scope [("__class__", cc)] .none kV doc pm an (.ref c) ct) ⟨l, []⟩) (h0 kV doc pm an ct) (h1 kV doc pm an ct)
end
def obsY (fn : List DefZ) (sn : List DefY) (file : Str) (ck : PySem.W.Frag → List Bool) (K : PySem.W.Frag) : AlZ := ((fn.map fun d => fnZ K (d.adr K)) ++ (sn.map fun d => fnY K (d.adr K)), ((fn.all fun d => d.ok K) && (sn.all fun d => d.ok file K)) && (ck K).all id)
def valY (fn : List DefZ) (sn : List DefY) : AlZ := (fn.map DefZ.val ++ sn.map DefY.val, true)
def SaysY (fn : List DefZ) (sn : List DefY) (file : Str) (ck : PySem.W.Frag → List Bool) (K : PySem.W.Frag) : Prop := obsY fn sn file ck K = valY fn sn
def hookY (as : List Addr) (fn : List DefZ) (sn : List DefY) (file : Str) (ck : PySem.W.Frag → List Bool) : PySem.W.Hook where
  α := AlZ
  obs := fun s => frK s.heap.get? as [] (obsY fn sn file ck)
  val := fun _ => valY fn sn
  says := fun _ h => ∃ K : PySem.W.Frag, K.In h ∧ SaysY fn sn file ck K
  of := fun _ _ e => by
    obtain ⟨K, h1, h2⟩ := frK_ex (g := _) (obsY fn sn file ck) as [] (fun _ _ z => nomatch z)
    exact ⟨K, h1, h2.symm.trans e⟩
  keeps := fun _ _ _ ⟨K, hK, c⟩ k => ⟨K, PySem.W.Frag.In.keeps hK k, c⟩
def obY (as : List Addr) (fn : List DefZ) (sn : List DefY) (file : Str) (ck : PySem.W.Frag → List Bool) (s : PySem.W.SharedT) : AlZ := frT s.tree fun T => frK (HandSHeadRun.getT { s with tree := T }) as [] (obsY fn sn file ck)
theorem obY_eq {as : List Addr} {fn : List DefZ} {sn : List DefY} {file : Str} {ck : PySem.W.Frag → List Bool} (s : PySem.W.SharedT) : obY as fn sn file ck s = (hookY as fn sn file ck).obs s.abs := by
  have e : HandSHeadRun.getT s = s.abs.heap.get? := funext (HandSHeadRun.getT_eq s)
  show frT s.tree (fun T => frK (HandSHeadRun.getT { s with tree := T }) as [] (obsY fn sn file ck)) = frK s.abs.heap.get? as [] (obsY fn sn file ck)
  rw [frT_eq, ← e]
section
variable {fn : List DefZ} {sn : List DefY} {file : Str} {ck : PySem.W.Frag → List Bool} {K : PySem.W.Frag}
theorem SaysY.parts (c : SaysY fn sn file ck K) : (fn.map fun d => fnZ K (d.adr K)) = fn.map DefZ.val ∧ (sn.map fun d => fnY K (d.adr K)) = sn.map DefY.val ∧ (fn.all fun d => d.ok K) = true ∧ (sn.all fun d => d.ok file K) = true ∧ (ck K).all id = true := by
  have e1 : (fn.map fun d => fnZ K (d.adr K)) ++ (sn.map fun d => fnY K (d.adr K)) = fn.map DefZ.val ++ sn.map DefY.val := congrArg (fun z : AlZ => z.1) c
  have e2 : (((fn.all fun d => d.ok K) && (sn.all fun d => d.ok file K)) && (ck K).all id) = true := congrArg (fun z : AlZ => z.2) c
  obtain ⟨a, b⟩ := List.append_inj e1 (by rw [List.length_map, List.length_map])
  obtain ⟨c1, c2⟩ := He.ba e2
  obtain ⟨c3, c4⟩ := He.ba c1
  exact ⟨a, b, c3, c4, c2⟩
theorem SaysY.def_ (c : SaysY fn sn file ck K) (i : Nat) {d : DefZ} (h : fn[i]? = some d := by rfl) : ∃ fd, FunD K d.name d.qual (defArgs d.st) (defBody d.st) (defScope d.st) (d.dvs K) [] (d.adr K) fd := by
  obtain ⟨e1, _, e2, _⟩ := c.parts
  refine DefZ.funD ?_ (List.all_eq_true.mp e2 d (List.mem_of_getElem? h))
  have z := congrArg (·[i]?) e1
  simp only [List.getElem?_map, h, Option.map_some, Option.some.injEq] at z
  exact z
theorem SaysY.sup {P : Program} (c : SaysY fn sn file ck K) (hf : P.main.file = file) (i : Nat) {d : DefY} (h : sn[i]? = some d := by rfl) : ∃ fd cc c, FunY P K d.name d.qual (defArgs d.st) (defBody d.st) (defScope d.st) (d.adr K) (d.cls K) fd cc c := by
  obtain ⟨_, e1, _, e2, _⟩ := c.parts
  refine DefY.funY ?_ (List.all_eq_true.mp e2 d (List.mem_of_getElem? h)) hf
  have z := congrArg (·[i]?) e1
  simp only [List.getElem?_map, h, Option.map_some, Option.some.injEq] at z
  exact z
theorem SaysY.is (c : SaysY fn sn file ck K) (i : Nat) {b : Bool} (h : (ck K)[i]? = some b) : b = true := by
  obtain ⟨_, _, _, _, e2⟩ := c.parts
  exact List.all_eq_true.mp e2 b (List.mem_of_getElem? h)
end
/-- w, one row of its text told -/
def wB (b : Bool) (w : World) : World := ⟨w.draws, { w.params with followText := fun row => if row = "special-get-raises" then b else w.params.followText row }⟩
theorem wB_eq (w : World) : wB (w.params.followText "special-get-raises") w = w := by
  have e : (fun row => if row = "special-get-raises" then w.params.followText "special-get-raises" else w.params.followText row) = w.params.followText := by
    funext row
    split
    · rename_i h
      rw [h]
    · rfl
  unfold wB
  rw [e]
end HX

set_option Elab.async false
set_option linter.all false
set_option maxRecDepth 100000
set_option maxHeartbeats 4000000
namespace LW
open PySem PySem.Spec PyProof.Rows L2 HX NumText
theorem kb_2 {K : PySem.W.Frag} {f : Addr} {fd : FuncData} {x q p0 p : Str} {st : Stmt} (F : Fun K x q st f fd) (hb : ∀ (kV doc pm : Value) (an : Option Addr) (cdv ct : Value) (s : Shared) (z u : Value), BindsTo s (PySem.W.fnOf x q (defArgs st) (defBody st) (defScope st) .none kV doc pm an cdv ct) ⟨[z], [(p, u)]⟩ [(p0, z), (p, u)]) : KBn K fd [p0, p] 1 [p] (fun us ws => us ++ ws) (fun vs zs => vs ++ zs) := by
  obtain ⟨oc, od, kV, doc, pm, an, cdv, ct, osl, rfl, lk, hcd⟩ := F.ex
  exact ⟨fun s us ws _ l1 l2 => match us, ws, l1, l2 with | [z], [u], _, _ => hb kV doc pm an cdv ct s z u, fun r1 r2 => r1.append r2⟩
theorem all_mk {l : PySem.W.OpenLaw} {w : World} {K : PySem.W.Frag} {h : Heap} {mg : Str → Option Value} {fa : Addr} (X : K.In h) (G : h.Ns mainGlobals mg) (hfa : mg "law" = some (.ref fa))
    {t_MOST_LETTERS : Tok} {Ln : Addr} {Ct : Addr} {It : Addr} {Ck : Addr} {Dt : Addr} {tM : Tok} {tD : Tok} {tW : Tok} {f_li : Addr} {f_lg : Addr} {f_lc : Addr} {f_ll : Addr} {f_ln : Addr} {f_le : Addr} {p_la : Addr} {f_la : Addr} {rest_la : List Value} {f_ie : Addr} {f_fI : Addr} {f_fK : Addr} {f_fT : Addr} {f_isint : Addr} {f_within : Addr} {f_isn : Addr} {f_wp : Addr} {f_asc : Addr} {f_pen : Addr} {f_draw : Addr} {f_pick : Addr} {f_acc : Addr} {f_trm : Addr} {f_told : Addr} {f_eqr : Addr} {f_law : Addr} {fd_li : FuncData} {fd_lg : FuncData} {fd_lc : FuncData} {fd_ll : FuncData} {fd_ln : FuncData} {fd_le : FuncData} {fd_la : FuncData} {fd_ie : FuncData} {fd_isint : FuncData} {fd_within : FuncData} {fd_isn : FuncData} {fd_wp : FuncData} {fd_asc : FuncData} {fd_pen : FuncData} {fd_draw : FuncData} {fd_pick : FuncData} {fd_acc : FuncData} {fd_trm : FuncData} {fd_told : FuncData} {fd_eqr : FuncData} {fd_law : FuncData} {fd_fI : FuncData} {cc_fI c_fI : Addr} {fd_fK : FuncData} {cc_fK c_fK : Addr} {fd_fT : FuncData} {cc_fT c_fT : Addr}
    (n_int : PySem.W.nsIn K mainGlobals "int" = some none)
    (n_len : PySem.W.nsIn K mainGlobals "len" = some none)
    (n_abs : PySem.W.nsIn K mainGlobals "abs" = some none)
    (n_list : PySem.W.nsIn K mainGlobals "list" = some none)
    (n_range : PySem.W.nsIn K mainGlobals "range" = some none)
    (n_isinstance : PySem.W.nsIn K mainGlobals "isinstance" = some none)
    (n_repr : PySem.W.nsIn K mainGlobals "repr" = some none)
    (n_bool : PySem.W.nsIn K mainGlobals "bool" = some none)
    (n_str : PySem.W.nsIn K mainGlobals "str" = some none)
    (n_dict : PySem.W.nsIn K mainGlobals "dict" = some none)
    (n_tuple : PySem.W.nsIn K mainGlobals "tuple" = some none)
    (n_sorted : PySem.W.nsIn K mainGlobals "sorted" = some none)
    (n_set : PySem.W.nsIn K mainGlobals "set" = some none)
    (n_all : PySem.W.nsIn K mainGlobals "all" = some none)
    (n_any : PySem.W.nsIn K mainGlobals "any" = some none)
    (n_sum : PySem.W.nsIn K mainGlobals "sum" = some none)
    (n_super : PySem.W.nsIn K mainGlobals "super" = some none)
    (n_enumerate : PySem.W.nsIn K mainGlobals "enumerate" = some none)
    (hn : PySem.W.specialIn K (.builtin "object.__class__") "__get__" = some (some (.builtin "getset_descriptor.__get__")))
    (ht : PySem.W.takesIn K (.builtin "object.__class__") = some true)
    (g_MOST_LETTERS : PySem.W.nsIn K mainGlobals "MOST_LETTERS" = some (some (.int 8 t_MOST_LETTERS)))
    (op : PySem.W.nsIn K cStatics "thirdparty.any" = some none)
    (a_Ln : PySem.W.nsIn K mainGlobals "Linear" = some (some (.ref Ln)))
    (pg_Ln : PySem.W.plainGet K Ln Str.empty = true)
    (hd_Ln : PySem.W.hasDictIn K Ln = true)
    (po_Ln : PySem.W.plainOver K Ln = true)
    (sa_Ln : PySem.W.findIn K (.ref Ln) "__setattr__" = some (some (.builtin "object.__setattr__")))
    (mk_Ln : PySem.W.makesIn K Ln = true)
    (kA_Ln : PySem.W.keepIn K (.ref Ln) = true)
    (ha_Ln : PySem.W.findIn K (.ref Ln) "__class__" = some (some (.builtin "object.__class__")))
    (hm_Ln : PySem.W.mroIn K Ln (.type "object") = some true)
    (sub_Ln : PySem.W.subIn K (.ref Ln) (.type "int") = some false)
    (rd_Ln : PySem.W.readsIn K Ln (.type "type") = true)
    (gat_Ln : PySem.W.specialIn K (.ref Ln) "__getattribute__" = some (some (.builtin "type.__getattribute__")))
    (no_Ln__parts : PySem.W.findIn K (.ref Ln) "_parts" = some none)
    (a_Ct : PySem.W.nsIn K mainGlobals "Count" = some (some (.ref Ct)))
    (pg_Ct : PySem.W.plainGet K Ct Str.empty = true)
    (hd_Ct : PySem.W.hasDictIn K Ct = true)
    (po_Ct : PySem.W.plainOver K Ct = true)
    (sa_Ct : PySem.W.findIn K (.ref Ct) "__setattr__" = some (some (.builtin "object.__setattr__")))
    (mk_Ct : PySem.W.makesIn K Ct = true)
    (kA_Ct : PySem.W.keepIn K (.ref Ct) = true)
    (ha_Ct : PySem.W.findIn K (.ref Ct) "__class__" = some (some (.builtin "object.__class__")))
    (hm_Ct : PySem.W.mroIn K Ct (.type "object") = some true)
    (sub_Ct : PySem.W.subIn K (.ref Ct) (.type "int") = some false)
    (rd_Ct : PySem.W.readsIn K Ct (.type "type") = true)
    (gat_Ct : PySem.W.specialIn K (.ref Ct) "__getattribute__" = some (some (.builtin "type.__getattribute__")))
    (no_Ct__parts : PySem.W.findIn K (.ref Ct) "_parts" = some none)
    (no_Ct__days : PySem.W.findIn K (.ref Ct) "_days" = some none)
    (a_It : PySem.W.nsIn K mainGlobals "Item" = some (some (.ref It)))
    (a_Ck : PySem.W.nsIn K mainGlobals "Check" = some (some (.ref Ck)))
    (a_Dt : PySem.W.nsIn K mainGlobals "Dated" = some (some (.ref Dt)))
    (hD_It : (PySem.W.clsIn K It).isSome = true)
    (hD_Ck : (PySem.W.clsIn K Ck).isSome = true)
    (hD_Ct : (PySem.W.clsIn K Ct).isSome = true)
    (rd_Dt : PySem.W.readsIn K Dt (.type "type") = true)
    (gat_Dt : PySem.W.specialIn K (.ref Dt) "__getattribute__" = some (some (.builtin "type.__getattribute__")))
    (fM : PySem.W.findCls K (.ref Ln) (.type "type") "MOST" = some (.val (.int 9 tM)))
    (fD : PySem.W.findCls K (.ref Dt) (.type "type") "LAST" = some (.val (.int 4 tD)))
    (fW : PySem.W.findIn K (.ref Ln) "WORD" = some (some (.str "linear" tW)))
    (gW : PySem.W.specialIn K (.str "linear" tW) "__get__" = some none)
    (kLL : PySem.W.kitOne K (.ref Ln) (.ref Ln) = some true)
    (kLI : PySem.W.kitOne K (.ref Ln) (.ref It) = some false)
    (kN : (["NoneType", "int", "bool", "list", "tuple", "dict"] : List String).all (fun t => decide (PySem.W.kitOne K (.type t) (.ref Ln) = some false)) = true)
    (a_li : PySem.W.findIn K (.ref Ln) "__init__" = some (some (.ref f_li)))
    (i_li : PySem.W.isFn K (.ref f_li) = true)
    (k_li : PySem.W.keepIn K (.ref f_li) = true)
    (a_lg : PySem.W.findIn K (.ref Ln) "__getitem__" = some (some (.ref f_lg)))
    (i_lg : PySem.W.isFn K (.ref f_lg) = true)
    (k_lg : PySem.W.keepIn K (.ref f_lg) = true)
    (a_lc : PySem.W.findIn K (.ref Ln) "__contains__" = some (some (.ref f_lc)))
    (i_lc : PySem.W.isFn K (.ref f_lc) = true)
    (k_lc : PySem.W.keepIn K (.ref f_lc) = true)
    (a_ll : PySem.W.findIn K (.ref Ln) "__len__" = some (some (.ref f_ll)))
    (i_ll : PySem.W.isFn K (.ref f_ll) = true)
    (k_ll : PySem.W.keepIn K (.ref f_ll) = true)
    (a_ln : PySem.W.findIn K (.ref Ln) "__neg__" = some (some (.ref f_ln)))
    (i_ln : PySem.W.isFn K (.ref f_ln) = true)
    (k_ln : PySem.W.keepIn K (.ref f_ln) = true)
    (a_le : PySem.W.findIn K (.ref Ln) "__eq__" = some (some (.ref f_le)))
    (i_le : PySem.W.isFn K (.ref f_le) = true)
    (k_le : PySem.W.keepIn K (.ref f_le) = true)
    (a_la : PySem.W.findIn K (.ref Ln) "accounts" = some (some (.ref p_la)))
    (g_la : PySem.W.specialIn K (.ref p_la) "__get__" = some (some (.builtin "property.__get__")))
    (t_la : PySem.W.takesIn K (.ref p_la) = some true)
    (r_la : PySem.W.recIn K p_la "property" = some (.ref f_la :: rest_la))
    (fn_lg : PySem.W.fnIn K f_lg = true)
    (fn_lc : PySem.W.fnIn K f_lc = true)
    (fn_ll : PySem.W.fnIn K f_ll = true)
    (fn_ln : PySem.W.fnIn K f_ln = true)
    (fn_li : PySem.W.fnIn K f_li = true)
    (ft_li : PySem.W.typeIn K (.ref f_li) = some (.type "function"))
    (a_ie : PySem.W.findIn K (.ref Ct) "__eq__" = some (some (.ref f_ie)))
    (i_ie : PySem.W.isFn K (.ref f_ie) = true)
    (k_ie : PySem.W.keepIn K (.ref f_ie) = true)
    (nC : PySem.W.findIn K (.ref Ct) "__neg__" = some (some (.ref f_ln)))
    (ne_Ln : PySem.W.findIn K (.ref Ln) "__ne__" = some (some (.builtin "object.__ne__")))
    (ne_Ct : PySem.W.findIn K (.ref Ct) "__ne__" = some (some (.builtin "object.__ne__")))
    (a_fI : PySem.W.findIn K (.ref It) "__init__" = some (some (.ref f_fI)))
    (i_fI : PySem.W.isFn K (.ref f_fI) = true)
    (a_fK : PySem.W.findIn K (.ref Ck) "__init__" = some (some (.ref f_fK)))
    (i_fK : PySem.W.isFn K (.ref f_fK) = true)
    (a_fT : PySem.W.findIn K (.ref Ct) "__init__" = some (some (.ref f_fT)))
    (i_fT : PySem.W.isFn K (.ref f_fT) = true)
    (sb_It : PySem.W.mroIn K Ct (.ref It) = some true)
    (sp_It : PySem.W.ks_superIn K Ct It "__init__" = some (some (.ref f_li)))
    (sb_Ck : PySem.W.mroIn K Ct (.ref Ck) = some true)
    (sp_Ck : PySem.W.ks_superIn K Ct Ck "__init__" = some (some (.ref f_fI)))
    (sb_Ct : PySem.W.mroIn K Ct (.ref Ct) = some true)
    (sp_Ct : PySem.W.ks_superIn K Ct Ct "__init__" = some (some (.ref f_fK)))
    (sCL : PySem.W.subIn K (.ref Ct) (.ref Ln) = some true)
    (sLC : PySem.W.subIn K (.ref Ln) (.ref Ct) = some false)
    (nLC : Ln ≠ Ct)
    (a_isint : PySem.W.nsIn K mainGlobals "is_int" = some (some (.ref f_isint)))
    (a_within : PySem.W.nsIn K mainGlobals "is_int_within" = some (some (.ref f_within)))
    (a_isn : PySem.W.nsIn K mainGlobals "is_name" = some (some (.ref f_isn)))
    (a_wp : PySem.W.nsIn K mainGlobals "wrong_part" = some (some (.ref f_wp)))
    (a_asc : PySem.W.nsIn K mainGlobals "ascending_days" = some (some (.ref f_asc)))
    (a_pen : PySem.W.nsIn K mainGlobals "_law_pen" = some (some (.ref f_pen)))
    (a_draw : PySem.W.nsIn K mainGlobals "_law_draw" = some (some (.ref f_draw)))
    (a_pick : PySem.W.nsIn K mainGlobals "_law_pick" = some (some (.ref f_pick)))
    (a_acc : PySem.W.nsIn K mainGlobals "_law_accounts" = some (some (.ref f_acc)))
    (a_trm : PySem.W.nsIn K mainGlobals "_law_terms" = some (some (.ref f_trm)))
    (a_told : PySem.W.nsIn K mainGlobals "_law_told_right" = some (some (.ref f_told)))
    (a_eqr : PySem.W.nsIn K mainGlobals "_law_equal_right" = some (some (.ref f_eqr)))
    (a_law : PySem.W.nsIn K mainGlobals "law" = some (some (.ref f_law)))
    (F_li : Fun K "__init__" "Linear.__init__" s_Linear_init f_li fd_li)
    (F_lg : Fun K "__getitem__" "Linear.__getitem__" s_Linear_getitem f_lg fd_lg)
    (F_lc : Fun K "__contains__" "Linear.__contains__" s_Linear_contains f_lc fd_lc)
    (F_ll : Fun K "__len__" "Linear.__len__" s_Linear_len f_ll fd_ll)
    (F_ln : Fun K "__neg__" "Linear.__neg__" s_Linear_neg f_ln fd_ln)
    (F_le : Fun K "__eq__" "Linear.__eq__" s_Linear_eq f_le fd_le)
    (F_la : Fun K "accounts" "Linear.accounts" s_Linear_accounts f_la fd_la)
    (F_ie : Fun K "__eq__" "Item.__eq__" s_Item_eq f_ie fd_ie)
    (F_isint : Fun K "is_int" "is_int" s_is_int f_isint fd_isint)
    (F_within : Fun K "is_int_within" "is_int_within" s_is_int_within f_within fd_within)
    (F_isn : Fun K "is_name" "is_name" s_is_name f_isn fd_isn)
    (F_wp : Fun K "wrong_part" "wrong_part" s_wrong_part f_wp fd_wp)
    (F_asc : Fun K "ascending_days" "ascending_days" s_ascending_days f_asc fd_asc)
    (F_pen : Fun K "_law_pen" "_law_pen" s__law_pen f_pen fd_pen)
    (F_draw : Fun K "_law_draw" "_law_draw" s__law_draw f_draw fd_draw)
    (F_pick : Fun K "_law_pick" "_law_pick" s__law_pick f_pick fd_pick)
    (F_acc : Fun K "_law_accounts" "_law_accounts" s__law_accounts f_acc fd_acc)
    (F_trm : Fun K "_law_terms" "_law_terms" s__law_terms f_trm fd_trm)
    (F_told : Fun K "_law_told_right" "_law_told_right" s__law_told_right f_told fd_told)
    (F_eqr : Fun K "_law_equal_right" "_law_equal_right" s__law_equal_right f_eqr fd_eqr)
    (D_law : FunD K "law" "law" (defArgs s_law) (defBody s_law) (defScope s_law) [] [] f_law fd_law)
    (Y_fI : FunY l.prog K "__init__" "Item.__init__" (defArgs s_Item_init) (defBody s_Item_init) (defScope s_Item_init) f_fI It fd_fI cc_fI c_fI)
    (Y_fK : FunY l.prog K "__init__" "Check.__init__" (defArgs s_Check_init) (defBody s_Check_init) (defScope s_Check_init) f_fK Ck fd_fK cc_fK c_fK)
    (Y_fT : FunY l.prog K "__init__" "Count.__init__" (defArgs s_Count_init) (defBody s_Count_init) (defScope s_Count_init) f_fT Ct fd_fT cc_fT c_fT)
    (topS : (l.prog.main.scope.names.lookup ("super" : Str)).isSome = false) :
    ∃ fd : FuncData, (∀ (s : Shared) (v : Value), BindsTo s fd ⟨[v], []⟩ [("_law_script", v)]) ∧ ∀ base : Heap, K.In base → base.Ns mainGlobals mg → FnG l.prog w K mg base CX0 14 fa fd ["_law_script"] (spLaw K) := by
  have F_law := funD_fun D_law
  have e := hfa.symm.trans (PySem.W.mg_of X G a_law)
  cases e
  have mn_int := PySem.W.mg_none_of X G n_int
  have mn_len := PySem.W.mg_none_of X G n_len
  have mn_abs := PySem.W.mg_none_of X G n_abs
  have mn_list := PySem.W.mg_none_of X G n_list
  have mn_range := PySem.W.mg_none_of X G n_range
  have mn_isinstance := PySem.W.mg_none_of X G n_isinstance
  have mn_repr := PySem.W.mg_none_of X G n_repr
  have mn_bool := PySem.W.mg_none_of X G n_bool
  have mn_str := PySem.W.mg_none_of X G n_str
  have mn_dict := PySem.W.mg_none_of X G n_dict
  have mn_tuple := PySem.W.mg_none_of X G n_tuple
  have mn_sorted := PySem.W.mg_none_of X G n_sorted
  have mn_set := PySem.W.mg_none_of X G n_set
  have mn_all := PySem.W.mg_none_of X G n_all
  have mn_any := PySem.W.mg_none_of X G n_any
  have mn_sum := PySem.W.mg_none_of X G n_sum
  have mn_super := PySem.W.mg_none_of X G n_super
  have mn_enumerate := PySem.W.mg_none_of X G n_enumerate
  have mg_MOST_LETTERS := PySem.W.mg_of X G g_MOST_LETTERS
  have m_Ln := PySem.W.mg_of X G a_Ln
  have cls_Ln : Cls K Ln := ⟨pg_Ln, hd_Ln, po_Ln, sa_Ln⟩
  have m_Ct := PySem.W.mg_of X G a_Ct
  have cls_Ct : Cls K Ct := ⟨pg_Ct, hd_Ct, po_Ct, sa_Ct⟩
  have m_It := PySem.W.mg_of X G a_It
  have m_Ck := PySem.W.mg_of X G a_Ck
  have m_Dt := PySem.W.mg_of X G a_Dt
  have b_li := F_li.binds (ps := ["self", "parts"]) fun _ _ _ _ _ _ us hl => match us, hl with | [_, _], _ => rfl
  have b_lg := F_lg.binds (ps := ["self", "account"]) fun _ _ _ _ _ _ us hl => match us, hl with | [_, _], _ => rfl
  have b_lc := F_lc.binds (ps := ["self", "account"]) fun _ _ _ _ _ _ us hl => match us, hl with | [_, _], _ => rfl
  have b_ll := F_ll.binds (ps := ["self"]) fun _ _ _ _ _ _ us hl => match us, hl with | [_], _ => rfl
  have b_ln := F_ln.binds (ps := ["self"]) fun _ _ _ _ _ _ us hl => match us, hl with | [_], _ => rfl
  have b_le := F_le.binds (ps := ["self", "other"]) fun _ _ _ _ _ _ us hl => match us, hl with | [_, _], _ => rfl
  have b_la := F_la.binds (ps := ["self"]) fun _ _ _ _ _ _ us hl => match us, hl with | [_], _ => rfl
  have b_ie := F_ie.binds (ps := ["self", "other"]) fun _ _ _ _ _ _ us hl => match us, hl with | [_, _], _ => rfl
  have b_isint := F_isint.binds (ps := ["value"]) fun _ _ _ _ _ _ us hl => match us, hl with | [_], _ => rfl
  have m_isint := PySem.W.mg_of X G a_isint
  have b_within := F_within.binds (ps := ["value", "least", "most"]) fun _ _ _ _ _ _ us hl => match us, hl with | [_, _, _], _ => rfl
  have m_within := PySem.W.mg_of X G a_within
  have b_isn := F_isn.binds (ps := ["value"]) fun _ _ _ _ _ _ us hl => match us, hl with | [_], _ => rfl
  have m_isn := PySem.W.mg_of X G a_isn
  have b_wp := F_wp.binds (ps := ["parts"]) fun _ _ _ _ _ _ us hl => match us, hl with | [_], _ => rfl
  have m_wp := PySem.W.mg_of X G a_wp
  have b_asc := F_asc.binds (ps := ["days"]) fun _ _ _ _ _ _ us hl => match us, hl with | [_], _ => rfl
  have m_asc := PySem.W.mg_of X G a_asc
  have b_pen := F_pen.binds (ps := ["_law_script"]) fun _ _ _ _ _ _ us hl => match us, hl with | [_], _ => rfl
  have m_pen := PySem.W.mg_of X G a_pen
  have b_draw := F_draw.binds (ps := ["_law_pen_here", "_law_many"]) fun _ _ _ _ _ _ us hl => match us, hl with | [_, _], _ => rfl
  have m_draw := PySem.W.mg_of X G a_draw
  have b_pick := F_pick.binds (ps := ["_law_pen_here", "_law_some"]) fun _ _ _ _ _ _ us hl => match us, hl with | [_, _], _ => rfl
  have m_pick := PySem.W.mg_of X G a_pick
  have b_acc := F_acc.binds (ps := ["_law_pen_here", "_law_many"]) fun _ _ _ _ _ _ us hl => match us, hl with | [_, _], _ => rfl
  have m_acc := PySem.W.mg_of X G a_acc
  have b_trm := F_trm.binds (ps := ["_law_pen_here", "_law_owners"]) fun _ _ _ _ _ _ us hl => match us, hl with | [_, _], _ => rfl
  have m_trm := PySem.W.mg_of X G a_trm
  have b_told := F_told.binds (ps := ["_law_made", "_law_terms_here"]) fun _ _ _ _ _ _ us hl => match us, hl with | [_, _], _ => rfl
  have m_told := PySem.W.mg_of X G a_told
  have b_eqr := F_eqr.binds (ps := ["_law_pen_here", "_law_made", "_law_terms_here"]) fun _ _ _ _ _ _ us hl => match us, hl with | [_, _, _], _ => rfl
  have m_eqr := PySem.W.mg_of X G a_eqr
  have b_law := F_law.binds (ps := ["_law_script"]) fun _ _ _ _ _ _ us hl => match us, hl with | [_], _ => rfl
  have m_law := PySem.W.mg_of X G a_law
  refine ⟨fd_law, fun s v => FunD.bindsA (ps := ["_law_script"]) D_law (fun _ _ _ _ _ _ us hl => match us, hl with | [_], _ => rfl) s [v] rfl, fun base _ _ => ?_⟩
  have T_ : Txt K mg := ⟨mn_int, mn_len, mn_abs, mn_list, mn_range, mn_isinstance, mn_repr, mn_bool, mn_str, mn_dict, mn_tuple, mn_sorted, mn_set, mn_all, mn_any, mn_sum, mn_super, mn_enumerate, ⟨_, mg_MOST_LETTERS⟩⟩
  have rL : ClX.CRead K Ln (.type "type") := ⟨rd_Ln, gat_Ln⟩
  have rD : ClX.CRead K Dt (.type "type") := ⟨rd_Dt, gat_Dt⟩
  have cM : ∃ t, ClX.CVal K Ln (.type "type") "MOST" (.int 9) (.int 9 t) := ⟨tM, fM, ⟨_, rfl⟩⟩
  have cD_ : ∃ t, ClX.CVal K Dt (.type "type") "LAST" (.int 4) (.int 4 t) := ⟨tD, fD, ⟨_, rfl⟩⟩
  have lL : LnF K Ln := ⟨cls_Ln, no_Ln__parts⟩
  have lC : LnF K Ct := ⟨cls_Ct, no_Ct__parts⟩
  have cT_ : CtF K It f_li Ck f_fI Ct f_fK Ct := ⟨⟨⟨⟨cls_Ct, no_Ct__parts⟩, no_Ct__days, ⟨sb_It, sp_It⟩⟩, ⟨sb_Ck, sp_Ck⟩⟩, ⟨sb_Ct, sp_Ct⟩⟩
  have tyL : ∀ {H : Hp} {a dx : Addr} {fs : List (Str × V)}, H a = some (.ins Ln dx fs) → TyOf K H (.ref a) (.ref Ln) := fun e => .ins e cls_Ln ha_Ln hn ht hm_Ln
  have hN : ∀ t ∈ (["NoneType", "int", "bool", "list", "tuple", "dict"] : List String), PySem.W.kitOne K (.type t) (.ref Ln) = some false := fun t h => of_decide_eq_true (List.all_eq_true.mp kN t h)
  have cW_ : Con K Ln "WORD" (.str "linear") (.str "linear" tW) := ⟨fW, ⟨_, rfl⟩, gW, by decide +kernel⟩
  have cI : CalO l.prog w K mg base "is_int" 1 ["value"] spIntI (fun _ => True) := ⟨_, _, ok_isint F_isint T_, m_isint, F_isint.kp, b_isint, trivial⟩
  have cW : CalO l.prog w K mg base "is_int_within" 2 ["value", "least", "most"] spWithI (fun _ => True) := ⟨_, _, ok_within F_within T_ cI, m_within, F_within.kp, b_within, trivial⟩
  have cN : CalO l.prog w K mg base "is_name" 1 ["value"] spIsName (fun _ => True) := ⟨_, _, ok_is_name F_isn T_, m_isn, F_isn.kp, b_isn, trivial⟩
  have cWp : CalO l.prog w K mg base "wrong_part" 4 ["parts"] (spZ (fun Lk => Lk = []) PsOk (fun ps => [VP ps]) fun _ => VN) (fun _ => True) := ⟨_, _, ok_wrong F_wp T_ m_Ln rL cM cN cW, m_wp, F_wp.kp, b_wp, trivial⟩
  have cA : CalO l.prog w K mg base "ascending_days" 4 ["days"] (spZ (fun _ => True) DysOk (fun ns => [VT (ns.map VI)]) fun ns => ExP (Srt ns) fun l => VT (l.map VI)) (fun _ => True) := ⟨_, _, ok_asc F_asc T_ m_Dt rD cD_ cW, m_asc, F_asc.kp, b_asc, trivial⟩
  have FLN := ok_linit (P := l.prog) (w := w) (base := base) F_li T_ cWp
  have FL : FnOk l.prog w K mg base CX0 5 f_li _ ["self", "parts"] (spLini K) := FLN.imp fun _ _ _ _ h => spLini_N h
  have FI := ok_iinit (w := w) (mg := mg) (base := base) Y_fI.toFunS T_ topS op (Option.isSome_iff_exists.mp hD_It) ft_li fn_li FL b_li cA
  have b_fI : Binds K fd_fI ["self", "parts", "days"] [] := Y_fI.binds fun _ _ _ _ _ us hl => match us, hl with | [_, _, _], _ => rfl
  have FK := ok_kinit (w := w) (mg := mg) (base := base) Y_fK.toFunS T_ topS op (Option.isSome_iff_exists.mp hD_Ck) Y_fI.ft Y_fI.fi FI b_fI
  have b_fK : Binds K fd_fK ["self", "parts", "days"] [] := Y_fK.binds fun _ _ _ _ _ us hl => match us, hl with | [_, _, _], _ => rfl
  have FT := ok_tinit (w := w) (mg := mg) (base := base) Y_fT.toFunS (Y_fT.star (fun _ _ _ _ _ _ _ => rfl) (fun _ _ _ _ _ _ _ _ _ => rfl)) T_ topS op (Option.isSome_iff_exists.mp hD_Ct) Y_fK.ft Y_fK.fi FK b_fK cN
  have mL : Mk K Ln f_li := ⟨mk_Ln, a_li, i_li, kA_Ln⟩
  have mT : Mk K Ct f_fT := ⟨mk_Ct, a_fT, i_fT, kA_Ct⟩
  have kL : KBn K _ ["self", "parts"] 1 ["parts"] (fun us ws => us ++ ws) (fun vs zs => vs ++ zs) := kb_2 (x := "__init__") (q := "Linear.__init__") (st := s_Linear_init) (p0 := "self") (p := "parts") F_li (fun _ _ _ _ _ _ _ _ _ => .of_eq rfl)
  have FCo := ok_lcon (P := l.prog) (w := w) (base := base) F_lc T_ lL
  have zA : PropZ l.prog w K mg base Ln "accounts" 1 (spLacc Ln) := ⟨_, _, _, ⟨a_la, g_la, t_la, ⟨_, r_la⟩⟩, ok_lacc F_la T_ lL, b_la⟩
  have zC : OpZ l.prog w K mg base Ln "__contains__" 1 ["self", "account"] (spLcon Ln) := ⟨_, _, a_lc, i_lc, fn_lc, FCo, b_lc⟩
  have zG : OpZ l.prog w K mg base Ln "__getitem__" 2 ["self", "account"] (spLget Ln) := ⟨_, _, a_lg, i_lg, fn_lg, ok_lget F_lg T_ lL a_lc i_lc b_lc FCo, b_lg⟩
  have zL : OpZ l.prog w K mg base Ln "__len__" 1 ["self"] (spLlen Ln) := ⟨_, _, a_ll, i_ll, fn_ll, ok_llen F_ll T_ lL, b_ll⟩
  have zN : OpZ l.prog w K mg base Ln "__neg__" 7 ["self"] (spLneg Ln Ln) := ⟨_, _, a_ln, i_ln, fn_ln, ok_lneg F_ln T_ lL m_Ln mL FL b_li lL, b_ln⟩
  have zM : OpZ l.prog w K mg base Ct "__neg__" 7 ["self"] (spLneg Ct Ln) := ⟨_, _, nC, i_ln, fn_ln, ok_lneg F_ln T_ lC m_Ln mL FL b_li lL, b_ln⟩
  have FE : FnOk l.prog w K mg base CX0 2 f_le _ ["self", "other"] (spLeq Ln) := ok_leq F_le T_ m_Ln lL cW_ kLL hN tyL
  have FJ : FnOk l.prog w K mg base CX0 2 f_ie _ ["self", "other"] (spIeq Ct Ln) := ok_ieq F_ie T_ m_It kLI tyL
  have EL : EqF K Ln f_le := ⟨a_le, i_le, hm_Ln, ne_Ln⟩
  have EC : EqF K Ct f_ie := ⟨a_ie, i_ie, hm_Ct, ne_Ct⟩
  have cPn : CalO l.prog w K mg base "_law_pen" 1 ["_law_script"] (spPen K) (fun _ => True) := ⟨_, _, ok_pen F_pen T_, m_pen, F_pen.kp, b_pen, trivial⟩
  have cD : CalO l.prog w K mg base "_law_draw" 1 ["_law_pen_here", "_law_many"] spDraw (fun _ => True) := ⟨_, _, ok_draw F_draw T_, m_draw, F_draw.kp, b_draw, trivial⟩
  have cP : CalO l.prog w K mg base "_law_pick" 2 ["_law_pen_here", "_law_some"] (spPick K) (fun _ => True) := ⟨_, _, ok_pick F_pick T_ cD, m_pick, F_pick.kp, b_pick, trivial⟩
  have cAc : CalO l.prog w K mg base "_law_accounts" 3 ["_law_pen_here", "_law_many"] spAcc (fun _ => True) := ⟨_, _, ok_acc F_acc T_ cD cP, m_acc, F_acc.kp, b_acc, trivial⟩
  have cTm : CalO l.prog w K mg base "_law_terms" 3 ["_law_pen_here", "_law_owners"] spTerms (fun _ => True) := ⟨_, _, ok_terms F_trm T_ cP, m_trm, F_trm.kp, b_trm, trivial⟩
  have cTd : CalG l.prog w K mg base "_law_told_right" 4 ["_law_made", "_law_terms_here"] (spTold Ln) (fun _ => True) := ⟨_, _, ok_told F_told T_ lL zA zL zC zG, m_told, F_told.kp, b_told, trivial⟩
  have cEq : CalO l.prog w K mg base "_law_equal_right" 12 ["_law_pen_here", "_law_made", "_law_terms_here"] (spEqual Ln) (fun _ => True) := ⟨_, _, ok_equal F_eqr T_ m_Ln mL FL b_li lL kL zA m_Ct mT FT cT_ EL FE b_le EC FJ b_ie nLC sCL sLC cP, m_eqr, F_eqr.kp, b_eqr, trivial⟩
  exact ok_law F_law T_ m_Ln mL FL b_li lL kL zA m_Ct mT FT cT_ EL FE b_le EC FJ b_ie nLC sCL sLC FLN zL zG zN zM rL cM cPn cD cAc cTm cTd cEq
theorem sp_law_of (K : PySem.W.Frag) (H : Hp) (a : Addr) (ns : List Int) (hl : ns.length ≤ 63) (ho : Only H) (h : SqL K H a (ns.map V.int)) : spLaw K [.ref a] H (fun v _ => v = .bl true) fun _ _ _ => False := ⟨a, ns, rfl, h, fun _ => rfl⟩
end LW

set_option Elab.async false
set_option linter.all false
set_option maxRecDepth 100000
set_option maxHeartbeats 0
namespace LW
open PySem PySem.Spec PyProof.Rows L2 HX NumText
def z_t_MOST_LETTERS (K : PySem.W.Frag) : Tok := gTok (PySem.W.nsIn K mainGlobals "MOST_LETTERS")
def z_Ln (K : PySem.W.Frag) : Addr := He.ga K "Linear"
def z_Ct (K : PySem.W.Frag) : Addr := He.ga K "Count"
def z_It (K : PySem.W.Frag) : Addr := He.ga K "Item"
def z_Ck (K : PySem.W.Frag) : Addr := He.ga K "Check"
def z_Dt (K : PySem.W.Frag) : Addr := He.ga K "Dated"
def z_tM (K : PySem.W.Frag) : Tok := cTok (PySem.W.findCls K (.ref (z_Ln K)) (.type "type") "MOST")
def z_tD (K : PySem.W.Frag) : Tok := cTok (PySem.W.findCls K (.ref (z_Dt K)) (.type "type") "LAST")
def z_tW (K : PySem.W.Frag) : Tok := gTok (PySem.W.findIn K (.ref (z_Ln K)) "WORD")
def z_f_li (K : PySem.W.Frag) : Addr := He.ma K (z_Ln K) "__init__"
def z_f_lg (K : PySem.W.Frag) : Addr := He.ma K (z_Ln K) "__getitem__"
def z_f_lc (K : PySem.W.Frag) : Addr := He.ma K (z_Ln K) "__contains__"
def z_f_ll (K : PySem.W.Frag) : Addr := He.ma K (z_Ln K) "__len__"
def z_f_ln (K : PySem.W.Frag) : Addr := He.ma K (z_Ln K) "__neg__"
def z_f_le (K : PySem.W.Frag) : Addr := He.ma K (z_Ln K) "__eq__"
def z_p_la (K : PySem.W.Frag) : Addr := He.ma K (z_Ln K) "accounts"
def z_f_la (K : PySem.W.Frag) : Addr := rcF (PySem.W.recIn K (z_p_la K) "property")
def z_rest_la (K : PySem.W.Frag) : List Value := rcR (PySem.W.recIn K (z_p_la K) "property")
def z_f_ie (K : PySem.W.Frag) : Addr := He.ma K (z_Ct K) "__eq__"
def z_f_fI (K : PySem.W.Frag) : Addr := He.ma K (z_It K) "__init__"
def z_f_fK (K : PySem.W.Frag) : Addr := He.ma K (z_Ck K) "__init__"
def z_f_fT (K : PySem.W.Frag) : Addr := He.ma K (z_Ct K) "__init__"
def z_f_isint (K : PySem.W.Frag) : Addr := He.ga K "is_int"
def z_f_within (K : PySem.W.Frag) : Addr := He.ga K "is_int_within"
def z_f_isn (K : PySem.W.Frag) : Addr := He.ga K "is_name"
def z_f_wp (K : PySem.W.Frag) : Addr := He.ga K "wrong_part"
def z_f_asc (K : PySem.W.Frag) : Addr := He.ga K "ascending_days"
def z_f_pen (K : PySem.W.Frag) : Addr := He.ga K "_law_pen"
def z_f_draw (K : PySem.W.Frag) : Addr := He.ga K "_law_draw"
def z_f_pick (K : PySem.W.Frag) : Addr := He.ga K "_law_pick"
def z_f_acc (K : PySem.W.Frag) : Addr := He.ga K "_law_accounts"
def z_f_trm (K : PySem.W.Frag) : Addr := He.ga K "_law_terms"
def z_f_told (K : PySem.W.Frag) : Addr := He.ga K "_law_told_right"
def z_f_eqr (K : PySem.W.Frag) : Addr := He.ga K "_law_equal_right"
def z_f_law (K : PySem.W.Frag) : Addr := He.ga K "law"
def ck_0 (K : PySem.W.Frag) : List Bool := [
  decide (PySem.W.nsIn K mainGlobals "int" = some none),
  decide (PySem.W.nsIn K mainGlobals "len" = some none),
  decide (PySem.W.nsIn K mainGlobals "abs" = some none),
  decide (PySem.W.nsIn K mainGlobals "list" = some none),
  decide (PySem.W.nsIn K mainGlobals "range" = some none),
  decide (PySem.W.nsIn K mainGlobals "isinstance" = some none),
  decide (PySem.W.nsIn K mainGlobals "repr" = some none),
  decide (PySem.W.nsIn K mainGlobals "bool" = some none),
  decide (PySem.W.nsIn K mainGlobals "str" = some none),
  decide (PySem.W.nsIn K mainGlobals "dict" = some none),
  decide (PySem.W.nsIn K mainGlobals "tuple" = some none),
  decide (PySem.W.nsIn K mainGlobals "sorted" = some none),
  decide (PySem.W.nsIn K mainGlobals "set" = some none),
  decide (PySem.W.nsIn K mainGlobals "all" = some none),
  decide (PySem.W.nsIn K mainGlobals "any" = some none),
  decide (PySem.W.nsIn K mainGlobals "sum" = some none),
  decide (PySem.W.nsIn K mainGlobals "super" = some none),
  decide (PySem.W.nsIn K mainGlobals "enumerate" = some none),
  decide (PySem.W.specialIn K (.builtin "object.__class__") "__get__" = some (some (.builtin "getset_descriptor.__get__"))),
  decide (PySem.W.takesIn K (.builtin "object.__class__") = some true),
  decide (PySem.W.nsIn K mainGlobals "MOST_LETTERS" = some (some (.int 8 (z_t_MOST_LETTERS K)))),
  decide (PySem.W.nsIn K cStatics "thirdparty.any" = some none),
  decide (PySem.W.nsIn K mainGlobals "Linear" = some (some (.ref (z_Ln K)))),
  decide (PySem.W.plainGet K (z_Ln K) Str.empty = true),
  decide (PySem.W.hasDictIn K (z_Ln K) = true),
  decide (PySem.W.plainOver K (z_Ln K) = true),
  decide (PySem.W.findIn K (.ref (z_Ln K)) "__setattr__" = some (some (.builtin "object.__setattr__"))),
  decide (PySem.W.makesIn K (z_Ln K) = true),
  decide (PySem.W.keepIn K (.ref (z_Ln K)) = true),
  decide (PySem.W.findIn K (.ref (z_Ln K)) "__class__" = some (some (.builtin "object.__class__")))]
def ck_1 (K : PySem.W.Frag) : List Bool := [
  decide (PySem.W.mroIn K (z_Ln K) (.type "object") = some true),
  decide (PySem.W.subIn K (.ref (z_Ln K)) (.type "int") = some false),
  decide (PySem.W.readsIn K (z_Ln K) (.type "type") = true),
  decide (PySem.W.specialIn K (.ref (z_Ln K)) "__getattribute__" = some (some (.builtin "type.__getattribute__"))),
  decide (PySem.W.findIn K (.ref (z_Ln K)) "_parts" = some none),
  decide (PySem.W.nsIn K mainGlobals "Count" = some (some (.ref (z_Ct K)))),
  decide (PySem.W.plainGet K (z_Ct K) Str.empty = true),
  decide (PySem.W.hasDictIn K (z_Ct K) = true),
  decide (PySem.W.plainOver K (z_Ct K) = true),
  decide (PySem.W.findIn K (.ref (z_Ct K)) "__setattr__" = some (some (.builtin "object.__setattr__"))),
  decide (PySem.W.makesIn K (z_Ct K) = true),
  decide (PySem.W.keepIn K (.ref (z_Ct K)) = true),
  decide (PySem.W.findIn K (.ref (z_Ct K)) "__class__" = some (some (.builtin "object.__class__"))),
  decide (PySem.W.mroIn K (z_Ct K) (.type "object") = some true),
  decide (PySem.W.subIn K (.ref (z_Ct K)) (.type "int") = some false),
  decide (PySem.W.readsIn K (z_Ct K) (.type "type") = true),
  decide (PySem.W.specialIn K (.ref (z_Ct K)) "__getattribute__" = some (some (.builtin "type.__getattribute__"))),
  decide (PySem.W.findIn K (.ref (z_Ct K)) "_parts" = some none),
  decide (PySem.W.findIn K (.ref (z_Ct K)) "_days" = some none),
  decide (PySem.W.nsIn K mainGlobals "Item" = some (some (.ref (z_It K)))),
  decide (PySem.W.nsIn K mainGlobals "Check" = some (some (.ref (z_Ck K)))),
  decide (PySem.W.nsIn K mainGlobals "Dated" = some (some (.ref (z_Dt K)))),
  decide ((PySem.W.clsIn K (z_It K)).isSome = true),
  decide ((PySem.W.clsIn K (z_Ck K)).isSome = true),
  decide ((PySem.W.clsIn K (z_Ct K)).isSome = true),
  decide (PySem.W.readsIn K (z_Dt K) (.type "type") = true),
  decide (PySem.W.specialIn K (.ref (z_Dt K)) "__getattribute__" = some (some (.builtin "type.__getattribute__"))),
  decide (PySem.W.findCls K (.ref (z_Ln K)) (.type "type") "MOST" = some (.val (.int 9 (z_tM K)))),
  decide (PySem.W.findCls K (.ref (z_Dt K)) (.type "type") "LAST" = some (.val (.int 4 (z_tD K)))),
  decide (PySem.W.findIn K (.ref (z_Ln K)) "WORD" = some (some (.str "linear" (z_tW K))))]
def ck_2 (K : PySem.W.Frag) : List Bool := [
  decide (PySem.W.specialIn K (.str "linear" (z_tW K)) "__get__" = some none),
  decide (PySem.W.kitOne K (.ref (z_Ln K)) (.ref (z_Ln K)) = some true),
  decide (PySem.W.kitOne K (.ref (z_Ln K)) (.ref (z_It K)) = some false),
  decide ((["NoneType", "int", "bool", "list", "tuple", "dict"] : List String).all (fun t => decide (PySem.W.kitOne K (.type t) (.ref (z_Ln K)) = some false)) = true),
  decide (PySem.W.findIn K (.ref (z_Ln K)) "__init__" = some (some (.ref (z_f_li K)))),
  decide (PySem.W.isFn K (.ref (z_f_li K)) = true),
  decide (PySem.W.keepIn K (.ref (z_f_li K)) = true),
  decide (PySem.W.findIn K (.ref (z_Ln K)) "__getitem__" = some (some (.ref (z_f_lg K)))),
  decide (PySem.W.isFn K (.ref (z_f_lg K)) = true),
  decide (PySem.W.keepIn K (.ref (z_f_lg K)) = true),
  decide (PySem.W.findIn K (.ref (z_Ln K)) "__contains__" = some (some (.ref (z_f_lc K)))),
  decide (PySem.W.isFn K (.ref (z_f_lc K)) = true),
  decide (PySem.W.keepIn K (.ref (z_f_lc K)) = true),
  decide (PySem.W.findIn K (.ref (z_Ln K)) "__len__" = some (some (.ref (z_f_ll K)))),
  decide (PySem.W.isFn K (.ref (z_f_ll K)) = true),
  decide (PySem.W.keepIn K (.ref (z_f_ll K)) = true),
  decide (PySem.W.findIn K (.ref (z_Ln K)) "__neg__" = some (some (.ref (z_f_ln K)))),
  decide (PySem.W.isFn K (.ref (z_f_ln K)) = true),
  decide (PySem.W.keepIn K (.ref (z_f_ln K)) = true),
  decide (PySem.W.findIn K (.ref (z_Ln K)) "__eq__" = some (some (.ref (z_f_le K)))),
  decide (PySem.W.isFn K (.ref (z_f_le K)) = true),
  decide (PySem.W.keepIn K (.ref (z_f_le K)) = true),
  decide (PySem.W.findIn K (.ref (z_Ln K)) "accounts" = some (some (.ref (z_p_la K)))),
  decide (PySem.W.specialIn K (.ref (z_p_la K)) "__get__" = some (some (.builtin "property.__get__"))),
  decide (PySem.W.takesIn K (.ref (z_p_la K)) = some true),
  decide (PySem.W.recIn K (z_p_la K) "property" = some (.ref (z_f_la K) :: (z_rest_la K))),
  decide (PySem.W.fnIn K (z_f_lg K) = true),
  decide (PySem.W.fnIn K (z_f_lc K) = true),
  decide (PySem.W.fnIn K (z_f_ll K) = true),
  decide (PySem.W.fnIn K (z_f_ln K) = true)]
def ck_3 (K : PySem.W.Frag) : List Bool := [
  decide (PySem.W.fnIn K (z_f_li K) = true),
  decide (PySem.W.typeIn K (.ref (z_f_li K)) = some (.type "function")),
  decide (PySem.W.findIn K (.ref (z_Ct K)) "__eq__" = some (some (.ref (z_f_ie K)))),
  decide (PySem.W.isFn K (.ref (z_f_ie K)) = true),
  decide (PySem.W.keepIn K (.ref (z_f_ie K)) = true),
  decide (PySem.W.findIn K (.ref (z_Ct K)) "__neg__" = some (some (.ref (z_f_ln K)))),
  decide (PySem.W.findIn K (.ref (z_Ln K)) "__ne__" = some (some (.builtin "object.__ne__"))),
  decide (PySem.W.findIn K (.ref (z_Ct K)) "__ne__" = some (some (.builtin "object.__ne__"))),
  decide (PySem.W.findIn K (.ref (z_It K)) "__init__" = some (some (.ref (z_f_fI K)))),
  decide (PySem.W.isFn K (.ref (z_f_fI K)) = true),
  decide (PySem.W.findIn K (.ref (z_Ck K)) "__init__" = some (some (.ref (z_f_fK K)))),
  decide (PySem.W.isFn K (.ref (z_f_fK K)) = true),
  decide (PySem.W.findIn K (.ref (z_Ct K)) "__init__" = some (some (.ref (z_f_fT K)))),
  decide (PySem.W.isFn K (.ref (z_f_fT K)) = true),
  decide (PySem.W.mroIn K (z_Ct K) (.ref (z_It K)) = some true),
  decide (PySem.W.ks_superIn K (z_Ct K) (z_It K) "__init__" = some (some (.ref (z_f_li K)))),
  decide (PySem.W.mroIn K (z_Ct K) (.ref (z_Ck K)) = some true),
  decide (PySem.W.ks_superIn K (z_Ct K) (z_Ck K) "__init__" = some (some (.ref (z_f_fI K)))),
  decide (PySem.W.mroIn K (z_Ct K) (.ref (z_Ct K)) = some true),
  decide (PySem.W.ks_superIn K (z_Ct K) (z_Ct K) "__init__" = some (some (.ref (z_f_fK K)))),
  decide (PySem.W.subIn K (.ref (z_Ct K)) (.ref (z_Ln K)) = some true),
  decide (PySem.W.subIn K (.ref (z_Ln K)) (.ref (z_Ct K)) = some false),
  decide ((z_Ln K) ≠ (z_Ct K)),
  decide (PySem.W.nsIn K mainGlobals "is_int" = some (some (.ref (z_f_isint K)))),
  decide (PySem.W.nsIn K mainGlobals "is_int_within" = some (some (.ref (z_f_within K)))),
  decide (PySem.W.nsIn K mainGlobals "is_name" = some (some (.ref (z_f_isn K)))),
  decide (PySem.W.nsIn K mainGlobals "wrong_part" = some (some (.ref (z_f_wp K)))),
  decide (PySem.W.nsIn K mainGlobals "ascending_days" = some (some (.ref (z_f_asc K)))),
  decide (PySem.W.nsIn K mainGlobals "_law_pen" = some (some (.ref (z_f_pen K)))),
  decide (PySem.W.nsIn K mainGlobals "_law_draw" = some (some (.ref (z_f_draw K))))]
def ck_4 (K : PySem.W.Frag) : List Bool := [
  decide (PySem.W.nsIn K mainGlobals "_law_pick" = some (some (.ref (z_f_pick K)))),
  decide (PySem.W.nsIn K mainGlobals "_law_accounts" = some (some (.ref (z_f_acc K)))),
  decide (PySem.W.nsIn K mainGlobals "_law_terms" = some (some (.ref (z_f_trm K)))),
  decide (PySem.W.nsIn K mainGlobals "_law_told_right" = some (some (.ref (z_f_told K)))),
  decide (PySem.W.nsIn K mainGlobals "_law_equal_right" = some (some (.ref (z_f_eqr K)))),
  decide (PySem.W.nsIn K mainGlobals "law" = some (some (.ref (z_f_law K))))]
def cks (K : PySem.W.Frag) : List Bool := ck_0 K ++ (ck_1 K ++ (ck_2 K ++ (ck_3 K ++ (ck_4 K))))
def fns : List DefZ := [
  ⟨z_f_li, "__init__", "Linear.__init__", s_Linear_init, []⟩,
  ⟨z_f_lg, "__getitem__", "Linear.__getitem__", s_Linear_getitem, []⟩,
  ⟨z_f_lc, "__contains__", "Linear.__contains__", s_Linear_contains, []⟩,
  ⟨z_f_ll, "__len__", "Linear.__len__", s_Linear_len, []⟩,
  ⟨z_f_ln, "__neg__", "Linear.__neg__", s_Linear_neg, []⟩,
  ⟨z_f_le, "__eq__", "Linear.__eq__", s_Linear_eq, []⟩,
  ⟨z_f_la, "accounts", "Linear.accounts", s_Linear_accounts, []⟩,
  ⟨z_f_ie, "__eq__", "Item.__eq__", s_Item_eq, []⟩,
  ⟨z_f_isint, "is_int", "is_int", s_is_int, []⟩,
  ⟨z_f_within, "is_int_within", "is_int_within", s_is_int_within, []⟩,
  ⟨z_f_isn, "is_name", "is_name", s_is_name, []⟩,
  ⟨z_f_wp, "wrong_part", "wrong_part", s_wrong_part, []⟩,
  ⟨z_f_asc, "ascending_days", "ascending_days", s_ascending_days, []⟩,
  ⟨z_f_pen, "_law_pen", "_law_pen", s__law_pen, []⟩,
  ⟨z_f_draw, "_law_draw", "_law_draw", s__law_draw, []⟩,
  ⟨z_f_pick, "_law_pick", "_law_pick", s__law_pick, []⟩,
  ⟨z_f_acc, "_law_accounts", "_law_accounts", s__law_accounts, []⟩,
  ⟨z_f_trm, "_law_terms", "_law_terms", s__law_terms, []⟩,
  ⟨z_f_told, "_law_told_right", "_law_told_right", s__law_told_right, []⟩,
  ⟨z_f_eqr, "_law_equal_right", "_law_equal_right", s__law_equal_right, []⟩,
  ⟨z_f_law, "law", "law", s_law, []⟩]
def sns : List DefY := [
  ⟨z_f_fI, z_It, "__init__", "Item.__init__", s_Item_init⟩,
  ⟨z_f_fK, z_Ck, "__init__", "Check.__init__", s_Check_init⟩,
  ⟨z_f_fT, z_Ct, "__init__", "Count.__init__", s_Count_init⟩]
abbrev fil : Str := "/claim/cut.py"
theorem facts {l : PySem.W.OpenLaw} {w : World} {K : PySem.W.Frag} {h : Heap} {mg : Str → Option Value} {fa : Addr} (X : K.In h) (G : h.Ns mainGlobals mg) (hfa : mg "law" = some (.ref fa)) (hfile : l.prog.main.file = fil) (topS : (l.prog.main.scope.names.lookup ("super" : Str)).isSome = false) (c : SaysY fns sns fil cks K) :
    ∃ fd : FuncData, (∀ (s : Shared) (v : Value), BindsTo s fd ⟨[v], []⟩ [("_law_script", v)]) ∧ ∀ base : Heap, K.In base → base.Ns mainGlobals mg → FnG l.prog w K mg base CX0 14 fa fd ["_law_script"] (spLaw K) := by
  obtain ⟨fd_li, F_li⟩ := c.def_ 0 (d := ⟨z_f_li, "__init__", "Linear.__init__", s_Linear_init, []⟩) rfl
  obtain ⟨fd_lg, F_lg⟩ := c.def_ 1 (d := ⟨z_f_lg, "__getitem__", "Linear.__getitem__", s_Linear_getitem, []⟩) rfl
  obtain ⟨fd_lc, F_lc⟩ := c.def_ 2 (d := ⟨z_f_lc, "__contains__", "Linear.__contains__", s_Linear_contains, []⟩) rfl
  obtain ⟨fd_ll, F_ll⟩ := c.def_ 3 (d := ⟨z_f_ll, "__len__", "Linear.__len__", s_Linear_len, []⟩) rfl
  obtain ⟨fd_ln, F_ln⟩ := c.def_ 4 (d := ⟨z_f_ln, "__neg__", "Linear.__neg__", s_Linear_neg, []⟩) rfl
  obtain ⟨fd_le, F_le⟩ := c.def_ 5 (d := ⟨z_f_le, "__eq__", "Linear.__eq__", s_Linear_eq, []⟩) rfl
  obtain ⟨fd_la, F_la⟩ := c.def_ 6 (d := ⟨z_f_la, "accounts", "Linear.accounts", s_Linear_accounts, []⟩) rfl
  obtain ⟨fd_ie, F_ie⟩ := c.def_ 7 (d := ⟨z_f_ie, "__eq__", "Item.__eq__", s_Item_eq, []⟩) rfl
  obtain ⟨fd_isint, F_isint⟩ := c.def_ 8 (d := ⟨z_f_isint, "is_int", "is_int", s_is_int, []⟩) rfl
  obtain ⟨fd_within, F_within⟩ := c.def_ 9 (d := ⟨z_f_within, "is_int_within", "is_int_within", s_is_int_within, []⟩) rfl
  obtain ⟨fd_isn, F_isn⟩ := c.def_ 10 (d := ⟨z_f_isn, "is_name", "is_name", s_is_name, []⟩) rfl
  obtain ⟨fd_wp, F_wp⟩ := c.def_ 11 (d := ⟨z_f_wp, "wrong_part", "wrong_part", s_wrong_part, []⟩) rfl
  obtain ⟨fd_asc, F_asc⟩ := c.def_ 12 (d := ⟨z_f_asc, "ascending_days", "ascending_days", s_ascending_days, []⟩) rfl
  obtain ⟨fd_pen, F_pen⟩ := c.def_ 13 (d := ⟨z_f_pen, "_law_pen", "_law_pen", s__law_pen, []⟩) rfl
  obtain ⟨fd_draw, F_draw⟩ := c.def_ 14 (d := ⟨z_f_draw, "_law_draw", "_law_draw", s__law_draw, []⟩) rfl
  obtain ⟨fd_pick, F_pick⟩ := c.def_ 15 (d := ⟨z_f_pick, "_law_pick", "_law_pick", s__law_pick, []⟩) rfl
  obtain ⟨fd_acc, F_acc⟩ := c.def_ 16 (d := ⟨z_f_acc, "_law_accounts", "_law_accounts", s__law_accounts, []⟩) rfl
  obtain ⟨fd_trm, F_trm⟩ := c.def_ 17 (d := ⟨z_f_trm, "_law_terms", "_law_terms", s__law_terms, []⟩) rfl
  obtain ⟨fd_told, F_told⟩ := c.def_ 18 (d := ⟨z_f_told, "_law_told_right", "_law_told_right", s__law_told_right, []⟩) rfl
  obtain ⟨fd_eqr, F_eqr⟩ := c.def_ 19 (d := ⟨z_f_eqr, "_law_equal_right", "_law_equal_right", s__law_equal_right, []⟩) rfl
  obtain ⟨fd_law, F_law⟩ := c.def_ 20 (d := ⟨z_f_law, "law", "law", s_law, []⟩) rfl
  obtain ⟨fd_fI, cc_fI, c_fI, Y_fI⟩ := c.sup hfile 0 (d := ⟨z_f_fI, z_It, "__init__", "Item.__init__", s_Item_init⟩) rfl
  obtain ⟨fd_fK, cc_fK, c_fK, Y_fK⟩ := c.sup hfile 1 (d := ⟨z_f_fK, z_Ck, "__init__", "Check.__init__", s_Check_init⟩) rfl
  obtain ⟨fd_fT, cc_fT, c_fT, Y_fT⟩ := c.sup hfile 2 (d := ⟨z_f_fT, z_Ct, "__init__", "Count.__init__", s_Count_init⟩) rfl
  exact all_mk X G hfa (t_MOST_LETTERS := z_t_MOST_LETTERS K) (Ln := z_Ln K) (Ct := z_Ct K) (It := z_It K) (Ck := z_Ck K) (Dt := z_Dt K) (tM := z_tM K) (tD := z_tD K) (tW := z_tW K) (f_li := z_f_li K) (f_lg := z_f_lg K) (f_lc := z_f_lc K) (f_ll := z_f_ll K) (f_ln := z_f_ln K) (f_le := z_f_le K) (p_la := z_p_la K) (f_la := z_f_la K) (rest_la := z_rest_la K) (f_ie := z_f_ie K) (f_fI := z_f_fI K) (f_fK := z_f_fK K) (f_fT := z_f_fT K) (f_isint := z_f_isint K) (f_within := z_f_within K) (f_isn := z_f_isn K) (f_wp := z_f_wp K) (f_asc := z_f_asc K) (f_pen := z_f_pen K) (f_draw := z_f_draw K) (f_pick := z_f_pick K) (f_acc := z_f_acc K) (f_trm := z_f_trm K) (f_told := z_f_told K) (f_eqr := z_f_eqr K) (f_law := z_f_law K) (n_int := of_decide_eq_true (c.is 0 rfl)) (n_len := of_decide_eq_true (c.is 1 rfl)) (n_abs := of_decide_eq_true (c.is 2 rfl)) (n_list := of_decide_eq_true (c.is 3 rfl)) (n_range := of_decide_eq_true (c.is 4 rfl)) (n_isinstance := of_decide_eq_true (c.is 5 rfl)) (n_repr := of_decide_eq_true (c.is 6 rfl)) (n_bool := of_decide_eq_true (c.is 7 rfl)) (n_str := of_decide_eq_true (c.is 8 rfl)) (n_dict := of_decide_eq_true (c.is 9 rfl)) (n_tuple := of_decide_eq_true (c.is 10 rfl)) (n_sorted := of_decide_eq_true (c.is 11 rfl)) (n_set := of_decide_eq_true (c.is 12 rfl)) (n_all := of_decide_eq_true (c.is 13 rfl)) (n_any := of_decide_eq_true (c.is 14 rfl)) (n_sum := of_decide_eq_true (c.is 15 rfl)) (n_super := of_decide_eq_true (c.is 16 rfl)) (n_enumerate := of_decide_eq_true (c.is 17 rfl)) (hn := of_decide_eq_true (c.is 18 rfl)) (ht := of_decide_eq_true (c.is 19 rfl)) (g_MOST_LETTERS := of_decide_eq_true (c.is 20 rfl)) (op := of_decide_eq_true (c.is 21 rfl)) (a_Ln := of_decide_eq_true (c.is 22 rfl)) (pg_Ln := of_decide_eq_true (c.is 23 rfl)) (hd_Ln := of_decide_eq_true (c.is 24 rfl)) (po_Ln := of_decide_eq_true (c.is 25 rfl)) (sa_Ln := of_decide_eq_true (c.is 26 rfl)) (mk_Ln := of_decide_eq_true (c.is 27 rfl)) (kA_Ln := of_decide_eq_true (c.is 28 rfl)) (ha_Ln := of_decide_eq_true (c.is 29 rfl)) (hm_Ln := of_decide_eq_true (c.is 30 rfl)) (sub_Ln := of_decide_eq_true (c.is 31 rfl)) (rd_Ln := of_decide_eq_true (c.is 32 rfl)) (gat_Ln := of_decide_eq_true (c.is 33 rfl)) (no_Ln__parts := of_decide_eq_true (c.is 34 rfl)) (a_Ct := of_decide_eq_true (c.is 35 rfl)) (pg_Ct := of_decide_eq_true (c.is 36 rfl)) (hd_Ct := of_decide_eq_true (c.is 37 rfl)) (po_Ct := of_decide_eq_true (c.is 38 rfl)) (sa_Ct := of_decide_eq_true (c.is 39 rfl)) (mk_Ct := of_decide_eq_true (c.is 40 rfl)) (kA_Ct := of_decide_eq_true (c.is 41 rfl)) (ha_Ct := of_decide_eq_true (c.is 42 rfl)) (hm_Ct := of_decide_eq_true (c.is 43 rfl)) (sub_Ct := of_decide_eq_true (c.is 44 rfl)) (rd_Ct := of_decide_eq_true (c.is 45 rfl)) (gat_Ct := of_decide_eq_true (c.is 46 rfl)) (no_Ct__parts := of_decide_eq_true (c.is 47 rfl)) (no_Ct__days := of_decide_eq_true (c.is 48 rfl)) (a_It := of_decide_eq_true (c.is 49 rfl)) (a_Ck := of_decide_eq_true (c.is 50 rfl)) (a_Dt := of_decide_eq_true (c.is 51 rfl)) (hD_It := of_decide_eq_true (c.is 52 rfl)) (hD_Ck := of_decide_eq_true (c.is 53 rfl)) (hD_Ct := of_decide_eq_true (c.is 54 rfl)) (rd_Dt := of_decide_eq_true (c.is 55 rfl)) (gat_Dt := of_decide_eq_true (c.is 56 rfl)) (fM := of_decide_eq_true (c.is 57 rfl)) (fD := of_decide_eq_true (c.is 58 rfl)) (fW := of_decide_eq_true (c.is 59 rfl)) (gW := of_decide_eq_true (c.is 60 rfl)) (kLL := of_decide_eq_true (c.is 61 rfl)) (kLI := of_decide_eq_true (c.is 62 rfl)) (kN := of_decide_eq_true (c.is 63 rfl)) (a_li := of_decide_eq_true (c.is 64 rfl)) (i_li := of_decide_eq_true (c.is 65 rfl)) (k_li := of_decide_eq_true (c.is 66 rfl)) (a_lg := of_decide_eq_true (c.is 67 rfl)) (i_lg := of_decide_eq_true (c.is 68 rfl)) (k_lg := of_decide_eq_true (c.is 69 rfl)) (a_lc := of_decide_eq_true (c.is 70 rfl)) (i_lc := of_decide_eq_true (c.is 71 rfl)) (k_lc := of_decide_eq_true (c.is 72 rfl)) (a_ll := of_decide_eq_true (c.is 73 rfl)) (i_ll := of_decide_eq_true (c.is 74 rfl)) (k_ll := of_decide_eq_true (c.is 75 rfl)) (a_ln := of_decide_eq_true (c.is 76 rfl)) (i_ln := of_decide_eq_true (c.is 77 rfl)) (k_ln := of_decide_eq_true (c.is 78 rfl)) (a_le := of_decide_eq_true (c.is 79 rfl)) (i_le := of_decide_eq_true (c.is 80 rfl)) (k_le := of_decide_eq_true (c.is 81 rfl)) (a_la := of_decide_eq_true (c.is 82 rfl)) (g_la := of_decide_eq_true (c.is 83 rfl)) (t_la := of_decide_eq_true (c.is 84 rfl)) (r_la := of_decide_eq_true (c.is 85 rfl)) (fn_lg := of_decide_eq_true (c.is 86 rfl)) (fn_lc := of_decide_eq_true (c.is 87 rfl)) (fn_ll := of_decide_eq_true (c.is 88 rfl)) (fn_ln := of_decide_eq_true (c.is 89 rfl)) (fn_li := of_decide_eq_true (c.is 90 rfl)) (ft_li := of_decide_eq_true (c.is 91 rfl)) (a_ie := of_decide_eq_true (c.is 92 rfl)) (i_ie := of_decide_eq_true (c.is 93 rfl)) (k_ie := of_decide_eq_true (c.is 94 rfl)) (nC := of_decide_eq_true (c.is 95 rfl)) (ne_Ln := of_decide_eq_true (c.is 96 rfl)) (ne_Ct := of_decide_eq_true (c.is 97 rfl)) (a_fI := of_decide_eq_true (c.is 98 rfl)) (i_fI := of_decide_eq_true (c.is 99 rfl)) (a_fK := of_decide_eq_true (c.is 100 rfl)) (i_fK := of_decide_eq_true (c.is 101 rfl)) (a_fT := of_decide_eq_true (c.is 102 rfl)) (i_fT := of_decide_eq_true (c.is 103 rfl)) (sb_It := of_decide_eq_true (c.is 104 rfl)) (sp_It := of_decide_eq_true (c.is 105 rfl)) (sb_Ck := of_decide_eq_true (c.is 106 rfl)) (sp_Ck := of_decide_eq_true (c.is 107 rfl)) (sb_Ct := of_decide_eq_true (c.is 108 rfl)) (sp_Ct := of_decide_eq_true (c.is 109 rfl)) (sCL := of_decide_eq_true (c.is 110 rfl)) (sLC := of_decide_eq_true (c.is 111 rfl)) (nLC := of_decide_eq_true (c.is 112 rfl)) (a_isint := of_decide_eq_true (c.is 113 rfl)) (a_within := of_decide_eq_true (c.is 114 rfl)) (a_isn := of_decide_eq_true (c.is 115 rfl)) (a_wp := of_decide_eq_true (c.is 116 rfl)) (a_asc := of_decide_eq_true (c.is 117 rfl)) (a_pen := of_decide_eq_true (c.is 118 rfl)) (a_draw := of_decide_eq_true (c.is 119 rfl)) (a_pick := of_decide_eq_true (c.is 120 rfl)) (a_acc := of_decide_eq_true (c.is 121 rfl)) (a_trm := of_decide_eq_true (c.is 122 rfl)) (a_told := of_decide_eq_true (c.is 123 rfl)) (a_eqr := of_decide_eq_true (c.is 124 rfl)) (a_law := of_decide_eq_true (c.is 125 rfl)) (F_li := funD_fun F_li) (F_lg := funD_fun F_lg) (F_lc := funD_fun F_lc) (F_ll := funD_fun F_ll) (F_ln := funD_fun F_ln) (F_le := funD_fun F_le) (F_la := funD_fun F_la) (F_ie := funD_fun F_ie) (F_isint := funD_fun F_isint) (F_within := funD_fun F_within) (F_isn := funD_fun F_isn) (F_wp := funD_fun F_wp) (F_asc := funD_fun F_asc) (F_pen := funD_fun F_pen) (F_draw := funD_fun F_draw) (F_pick := funD_fun F_pick) (F_acc := funD_fun F_acc) (F_trm := funD_fun F_trm) (F_told := funD_fun F_told) (F_eqr := funD_fun F_eqr) (D_law := F_law) (Y_fI := Y_fI) (Y_fK := Y_fK) (Y_fT := Y_fT) (topS := topS)
abbrev R : PySem.W.OpenRow := PySem.W.OpenLaw.row PySem.Challenge.rw_holeshift_k03_sums_with_coefficients
def asL : List Addr := [749, 748, 746, 741, 740, 738, 732, 731, 729, 724, 723, 721, 692, 691, 689, 567, 566, 564, 559, 558, 556, 478, 477, 475, 266, 265, 263, 249, 248, 246, 238, 231, 230, 228, 221, 220, 218, 877, 876, 874, 869, 851, 850, 848, 843, 825, 824, 822, 818, 817, 815, 797, 796, 794, 790, 789, 787, 783, 782, 780, 761, 757, 756, 754, 717, 716, 714, 685, 684, 682, 678, 677, 675, 671, 670, 668, 664, 663, 661, 657, 656, 654, 650, 649, 647, 643, 642, 640, 636, 635, 633, 575, 574, 572, 552, 551, 549, 531, 530, 528, 523, 519, 518, 516, 511, 507, 506, 504, 500, 499, 497, 493, 492, 490, 486, 485, 483, 470, 435, 434, 432, 428, 427, 425, 421, 420, 418, 414, 413, 411, 407, 406, 404, 400, 399, 397, 393, 392, 390, 386, 385, 383, 379, 378, 376, 372, 371, 369, 365, 364, 362, 358, 357, 355, 351, 350, 348, 344, 343, 341, 337, 336, 334, 330, 329, 327, 323, 322, 320, 316, 315, 313, 309, 308, 306, 302, 301, 299, 295, 294, 292, 288, 287, 285, 281, 280, 278, 274, 273, 271, 259, 258, 256, 214, 213, 211, 154, 153, 151, 135, 134, 132, 116, 115, 113, 97, 96, 94, 210, 988, 983, 978, 973, 968, 964, 963, 961, 957, 956, 954, 950, 949, 947, 943, 942, 940, 935, 934, 932, 928, 927, 925, 920, 916, 915, 913, 908, 904, 903, 901, 896, 891, 886, 881, 855, 829, 801, 766, 699, 619, 614, 610, 609, 607, 603, 602, 600, 596, 595, 593, 589, 588, 586, 579, 535, 458, 453, 449, 448, 446, 439, 199, 198, 196, 192, 191, 189, 185, 184, 182, 178, 177, 175, 170, 158, 139, 120, 101, 82, 70, 57, 46, 45, 43, 863, 837, 809, 774, 707, 627, 747, 739, 730, 722, 690, 565, 557, 476, 264, 247, 239, 229, 219, 875, 870, 849, 844, 823, 816, 795, 788, 781, 762, 755, 751, 743, 734, 726, 715, 694, 683, 676, 669, 662, 655, 648, 641, 634, 573, 569, 561, 550, 529, 524, 517, 512, 505, 498, 491, 484, 480, 471, 433, 426, 419, 412, 405, 398, 391, 384, 377, 370, 363, 356, 349, 342, 335, 328, 321, 314, 307, 300, 293, 286, 279, 272, 268, 257, 251, 241, 233, 223, 212, 152, 133, 114, 95, 879, 872, 853, 846, 827, 820, 799, 792, 785, 764, 759, 719, 687, 680, 673, 666, 659, 652, 645, 638, 577, 554, 533, 526, 521, 514, 509, 502, 495, 488, 473, 437, 430, 423, 416, 409, 402, 395, 388, 381, 374, 367, 360, 353, 346, 339, 332, 325, 318, 311, 304, 297, 290, 283, 276, 261, 216, 156, 137, 118, 99, 989, 984, 979, 974, 969, 962, 955, 948, 941, 933, 926, 921, 914, 909, 902, 897, 892, 887, 753, 745, 728, 697, 620, 615, 608, 601, 594, 587, 583, 582, 571, 563, 539, 538, 482, 459, 454, 447, 443, 442, 270, 254, 244, 236, 226, 197, 190, 183, 176, 60, 44, 991, 986, 981, 976, 971, 966, 959, 952, 945, 937, 930, 923, 918, 911, 906, 899, 894, 889, 622, 617, 612, 605, 598, 591, 461, 456, 451, 201, 194, 187, 180, 48, 750, 742, 733, 725, 693, 568, 560, 479, 267, 250, 240, 232, 222, 878, 871, 852, 845, 826, 819, 798, 791, 784, 763, 758, 718, 686, 679, 672, 665, 658, 651, 644, 637, 576, 553, 532, 525, 520, 513, 508, 501, 494, 487, 472, 436, 429, 422, 415, 408, 401, 394, 387, 380, 373, 366, 359, 352, 345, 338, 331, 324, 317, 310, 303, 296, 289, 282, 275, 260, 215, 155, 136, 117, 98, 752, 744, 735, 727, 695, 570, 562, 481, 269, 252, 242, 234, 224, 990, 985, 980, 975, 970, 965, 958, 951, 944, 936, 929, 922, 917, 910, 905, 898, 893, 888, 880, 873, 854, 847, 828, 821, 800, 793, 786, 765, 760, 720, 688, 681, 674, 667, 660, 653, 646, 639, 621, 616, 611, 604, 597, 590, 578, 555, 534, 527, 522, 515, 510, 503, 496, 489, 474, 460, 455, 450, 438, 431, 424, 417, 410, 403, 396, 389, 382, 375, 368, 361, 354, 347, 340, 333, 326, 319, 312, 305, 298, 291, 284, 277, 262, 217, 200, 193, 186, 179, 157, 138, 119, 100, 47, 992, 987, 982, 977, 972, 967, 960, 953, 946, 938, 931, 924, 919, 912, 907, 900, 895, 890, 623, 618, 613, 606, 599, 592, 462, 457, 452, 202, 195, 188, 181, 49, 698, 255, 245, 237, 227, 712, 696, 253, 243, 235, 225, 882, 856, 830, 802, 767, 700, 580, 536, 440, 171, 159, 140, 121, 102, 83, 71, 58, 0, 939, 883, 857, 831, 803, 768, 701, 581, 537, 441, 172, 160, 141, 122, 103, 84, 72, 59, 4, 6, 3, 2]
abbrev hk : PySem.W.Hook := hookY asL fns sns fil cks
def ob (s : PySem.W.SharedT) : AlZ := obY asL fns sns fil cks s
theorem ob_eq (s : PySem.W.SharedT) : ob s = hk.obs s.abs := obY_eq s
def loose : List PySem.Str := (["_wall", "ShiftError", "BadInput", "NoAnswer", "BadAmount", "BadDay", "BadItem", "BadText", "NoDivisor", "MOST_FIGURES", "is_int", "is_int_within", "sum_of_products", "_is_figures", "Amount", "MOST_LETTERS", "is_name", "wrong_part", "ascending_days", "Linear", "Dated", "as_name", "read_word", "need_end", "MOST_ACCOUNTS", "MOST_WEIGHT", "_is_changes", "_is_accounts", "_words", "Item"] : List PySem.Str) ++ (["Shift", "Check", "Count", "Total", "Match", "_read_accounts", "_read_changes", "_read_some_days", "_read_days", "_read_weight", "_read_shift", "_read_match", "_read_count", "_read_total", "READINGS", "_read_item", "_law_pen", "_law_draw", "_law_pick", "_law_accounts", "_law_terms", "_law_told_right", "_law_equal_right"] : List PySem.Str)
theorem run1 (w : World) : HandSHeadRun.RunEqI R (PySem.W.view R.prog [0, 61]) hk ob 12000 loose (wB true w) := by
  unfold HandSHeadRun.RunEqI
  kernel_rfl
theorem run0 (w : World) : HandSHeadRun.RunEqI R (PySem.W.view R.prog [0, 61]) hk ob 12000 loose (wB false w) := by
  unfold HandSHeadRun.RunEqI
  kernel_rfl
theorem run (w : World) : HandSHeadRun.RunEqI R (PySem.W.view R.prog [0, 61]) hk ob 12000 loose w := by
  rw [← wB_eq w]
  cases w.params.followText "special-get-raises"
  · exact run0 w
  · exact run1 w
end LW
open PySem PySem.W PySem.Calls PyProof.Rows
theorem PySem.Challenge.cw_holeshift_k03_sums_with_coefficients_holds : PySem.Challenge.rw_holeshift_k03_sums_with_coefficients.Holds := by
  w_on; o_law
  refine HandSHeadRun.head_imp (r := OpenLaw.row PySem.Challenge.rw_holeshift_k03_sums_with_coefficients) (q := view (OpenLaw.row PySem.Challenge.rw_holeshift_k03_sums_with_coefficients).prog [0, 61]) (H := LW.hk) (ob := LW.ob) (M := 12000) (loose := LW.loose) (d := HandSHeadRun.topDef (OpenLaw.row PySem.Challenge.rw_holeshift_k03_sums_with_coefficients).prog 61) (kwd := []) LW.ob_eq
    LW.run (by kernel_rfl) (by kernel_rfl) (by kernel_rfl) (by rfl) (by first | assumption | decide +kernel) (by decide +kernel) ⟨rfl, rfl, rfl, rfl, rfl, by decide +kernel⟩ ?hw ?hc
  case hw => w_witness2
  case hc =>
    refine HX.walkGE (l := PySem.Challenge.rw_holeshift_k03_sums_with_coefficients) (n := 63) (k := 14) (x := "_law_script") (sp := LW.spLaw) rfl (by decide) (by kernel_rfl) ⟨rfl, by decide, by decide⟩ ?F (fun K H a ns hl ho h => LW.sp_law_of K H a ns hl ho h)
    intro w mg fa h Y G hmg0
    obtain ⟨K, KX, c⟩ := Y
    have hmg : mg ("law" : PySem.Str) = some (.ref fa) := by
      have e : (HandSHeadRun.topDef (OpenLaw.row PySem.Challenge.rw_holeshift_k03_sums_with_coefficients).prog 61).name = ("law" : PySem.Str) := by kernel_rfl
      rw [← e]
      exact hmg0
    obtain ⟨fd, hb, hF⟩ := LW.facts (l := PySem.Challenge.rw_holeshift_k03_sums_with_coefficients) (w := w) KX G hmg (by kernel_rfl) (by kernel_rfl) c
    exact ⟨K, fd, KX, hb, hF⟩
