import PyProof.Rows.All
import Wide.All
import OpenK.AllK
import Wide.FinOn
import HandS.ForMost
import HandS.ForExc
import HandS.ExcInit
import HandS.Wide
import PyProof.ReprRoads
import PyProof.ReprLen
import HandS.ExcField
import HandS.ExcIs
import KE.KExcIs
import HandS.IsInst
import HandS.Defaults
import HandS.AnyAll
import HandS.Walk
import HandS.Text
import HandS.ExcValue
import HandS.Iter
import HandS.ClsMeth
import HandS.MakeKw
import HandS.Gcd
import HandS.StrMore
import KE.IntTextLaws
import HandS.Property
import HandS.FStr
import KE.KCallOwn
import PyProof.Rows.StrOr
import OpenK.KOwn
import KE.IntTextText
import HandS.RaiseMore
import HandS.Lambda
import HandS.EndTab
import HandS.Codes
import HandS.Steps
import KE.DataFind
import OpenK.KMeth
import OpenK.KOps
import HandS.SuiteRaise
import HandS.RaiseFrom
import HandS.ExcInitHot
import HandS.WordsExc
import HandS.Style
import HandS.DictComp
import HandS.OwnEq
import HandS.Conv
import PyProof.TupleOfGen
import KE.KFmtOwn
import PyProof.Rows.StrMeet
import PyProof.Rows.TmSorted
import KE.KDictCopyH
import PyProof.Rows.StrRev
import PyProof.StrOps2
import HandS.MakeKwOnly
import HandS.HeadHook2
import HandS.HeadEnd
import HandS.Head0
import HandS.Head1
import HandS.Head2
import HandS.Head3
import PySem.Challenge.RW_holeshift_k04_sums_of_gaps_and_wrong_par
set_option Elab.async false
set_option linter.all false
set_option maxRecDepth 100000
set_option maxHeartbeats 2000000
namespace HX
open PySem PySem.Spec PyProof.Rows L2

/-- a def's promise where nothing is being shown (no repr runs around it) -/
structure FnG (P : Program) (w : World) (K : PySem.W.Frag) (mg : Str → Option Value) (base : Heap) (CX : CXT) (k : Nat) (f : Addr) (fd : FuncData) (ps : List Str) (sp : Sp) : Prop where
  len : ∀ vs H Q E, sp vs H Q E → vs.length = ps.length
  go : ∀ (A : Around) (out : List Env) (s : Shared) (H : Hp) (ar : Args) (us : List Value) (vs : List V) (Q : VK) (E : XK),
    A.guards = some [] → Room k A → Env0 P w K mg base A out s H → BindsTo s fd ar (ps.zip us) → Vals vs us → sp vs H Q E →
      codeAny (model P w) A (.call (.ref f) ar) (CR CX out P w H s Q E) s

section
variable {P : Program} {w : World} {K : PySem.W.Frag} {mg : Str → Option Value} {base : Heap} {CX : CXT} {k : Nat} {f : Addr} {fd : FuncData} {ps : List Str} {sp : Sp}
theorem FnG.of (F : FnOk P w K mg base CX k f fd ps sp) : FnG P w K mg base CX k f fd ps sp :=
  ⟨F.len, fun A out s H ar us vs Q E _ r e b v h => F.run A out s H ar us vs Q E r e b v h⟩
theorem FnG.mono {j : Nat} (F : FnG P w K mg base CX j f fd ps sp) (h : j ≤ k) : FnG P w K mg base CX k f fd ps sp :=
  ⟨F.len, fun A out s H ar us vs Q E g r => F.go A out s H ar us vs Q E g (r.mono h)⟩

/-- a def by its body -/
theorem fnG_of {nm qual : Str} {prm : Arguments} {body : List Stmt} {sc : Scope} {dV kV doc pm cdv ct oc : Value} {an od : Option Addr} {osl : Array (Option Value)} {N : List Str}
    (lk : K.lookup f = some ⟨oc, od, .func (PySem.W.fnOf nm qual prm body sc dV kV doc pm an cdv ct), osl⟩)
    (hcd : PySem.W.codeIn K cdv qual = true) (S : FnScope N ps sc) (ln : ∀ vs H Q E, sp vs H Q E → vs.length = ps.length)
    (hb : ∀ (A : Around) (out : List Env) (s : Shared) (H : Hp) (vs : List V) (Q : VK) (E : XK), A.guards = some [] →
      Room k (A.deeper (envOfC qual sc s.heap.objs.size f cdv)) → sp vs H Q E →
        ∃ t, PSs (cxOf CX P w K mg base N qual sc f cdv A out s H E) body t ∧ t { nx := fun _ G => Q .non G, rt := Q } (start N vs) H) :
    FnG P w K mg base CX (k + 1) f (PySem.W.fnOf nm qual prm body sc dV kV doc pm an cdv ct) ps sp := by
  refine ⟨ln, fun A out s H ar us vs Q E hgd hr e0 bd rv hsp => ?_⟩
  have n0 := ln _ _ _ _ hsp
  have stay : ∀ b o, base.get? b = some o → s.heap.get? b = some o := fun b o z => (e0.bs b o z).1
  have kin : K.In s.heap := e0.mod.kin.keeps stay
  have lim : s.heap.NoLimit := e0.mod.nolimit.keeps stay
  refine codeAny_call_function hr.depth (kin _ _ lk) rfl S.co S.gen rfl (PySem.W.codeRec_of kin hcd) (bd _ _ _ _ ?_)
  refine wpAny_newFunctionEnv_cells S.kind (fun ⟨x, u⟩ hx => ?_) fun env he s1 ic => ?_
  · rcases S.par x (List.of_mem_zip hx).1 with z | z
    · exact .inl z
    · exact .inr ⟨z, PySem.W.cellsFrom_some _ _ _ (.inl z)⟩
  · subst he
    refine ⟨lim.keeps ic.toInCall.keep, codeAny_func ?_⟩
    obtain ⟨t, pt, go⟩ := hb A out s H vs Q E hgd (hr.deeper _) hsp
    refine wpAny_mono (pt.run [] s1 _ H _ (inv_start S hr.hd e0 n0 rv ic) go) (fun fl s' q => ?_) fun _ _ z => z
    cases fl with
    | ret u =>
      obtain ⟨v, _, G, J, r, z⟩ := q
      exact ⟨v, G, J.os, J.bare, J.base, J.hok, r, z⟩
    | next =>
      obtain ⟨_, G, J, z⟩ := q
      exact ⟨V.non, G, J.os, J.bare, J.base, J.hok, rfl, z⟩
    | brk => exact False.elim (let ⟨_, _, _, z⟩ := q; z)
    | cont => exact False.elim (let ⟨_, _, _, z⟩ := q; z)

theorem fun_okG {x qual : Str} {st : Stmt} {N : List Str} (F : Fun K x qual st f fd) (S : FnScope N ps (defScope st)) (ln : ∀ vs H Q E, sp vs H Q E → vs.length = ps.length)
    (hb : ∀ (cdv : Value) (A : Around) (out : List Env) (s : Shared) (H : Hp) (vs : List V) (Q : VK) (E : XK), A.guards = some [] →
      Room k (A.deeper (envOfC qual (defScope st) s.heap.objs.size f cdv)) → sp vs H Q E →
        ∃ t, PSs (cxOf CX0 P w K mg base N qual (defScope st) f cdv A out s H E).nox (defBody st) t ∧ t { nx := fun _ G => Q .non G, rt := Q } (start N vs) H) :
    FnG P w K mg base CX0 (k + 1) f fd ps sp := by
  obtain ⟨_, _, _, _, _, _, cdv, _, _, rfl, lk, hcd⟩ := F.ex
  refine fnG_of lk hcd S ln fun A out s H vs Q E g hr hs => ?_
  obtain ⟨t, p, q⟩ := hb cdv A out s H vs Q E g hr hs
  exact ⟨t, p.nox, q⟩
end

section
variable {X : Cx} {CX : CXT} {k : Nat} {f : Addr} {fd : FuncData} {ps : List Str} {sp : Sp} {dvs : List V} {ds : List Value} {E : XK} {x : Str} {p pos : Pos} {e : Expr} {es : List Expr} {t : TA}
theorem run_fnG {pins : List (Addr × Obj)} {σ : L2.St} {H : Hp} {s : Shared} {Q : VK} {us : List Value} {vs : List V} (F : FnG X.prog X.w X.K X.mg X.base CX k f fd ps sp) (gd : X.A.guards = some []) (hr : Room k X.A)
    (hb : Binds X.K fd ps ds) (hd : Vals dvs ds) (hx : Passes CX X E) (I : Inv X pins σ H s) (r : Vals vs us) (h : sp (vs ++ dvs) H Q E) :
    wpAny (model X.prog X.w) X.A (call (.ref f) us) (EP X pins σ Q) X.xe s := by
  have rr : Vals (vs ++ dvs) (us ++ ds) := r.append hd
  have n0 : (us ++ ds).length = ps.length := rr.length.symm.trans (F.len _ _ _ _ h)
  have run := F.go X.A X.stack s H ⟨us, []⟩ (us ++ ds) (vs ++ dvs) Q E gd hr I.env0 (hb s us I.kIn n0) rr h
  refine wpAny_call (codeAny_mono run fun r s' q => ?_)
  match r, q with
  | .error e, q => exact hx pins σ H s e s' I q
  | .ok (.ret u), q => exact I.after q
  | .ok .next, q => exact False.elim q
  | .ok .brk, q => exact False.elim q
  | .ok .cont, q => exact False.elim q
theorem pe_callG (F : FnG X.prog X.w X.K X.mg X.base CX k f fd ps sp) (gd : X.A.guards = some []) (hr : Room k X.A) (hg : Gl X x) (hm : X.mg x = some (.ref f)) (hk : PySem.W.keepIn X.K (.ref f) = true)
    (hb : Binds X.K fd ps ds) (hd : Vals dvs ds) (hx : Passes CX X E) (ha : PA X (e :: es) t) (hdb : (x == ("__debug__" : Str)) = false := by decide)
    (he : starEach (e :: es) X.env = (false, eval e X.env) :: starEach es X.env := by rfl) (hpl : (backTo pos (starEach es X.env)).any (·.1) = false := by rfl) :
    PE X (.Call (.Name x p) (e :: es) [] pos) (tCall sp dvs E t) :=
  ⟨fun pins s σ H Q I h => wpAny_Call_Name_kw (ld_glob I hg hm (PySem.W.callWith_K (h₀ := X.base) I.ok.mod.kin hk
    (thn (ha.run pos pins s σ H _ I h) fun us s1 ⟨vs, H1, I1, r, q⟩ => ⟨I1.kIn, run_fnG F gd hr hb hd hx I1 r q⟩) he hpl) hdb)⟩
end
end HX

set_option Elab.async false
set_option linter.all false
set_option maxRecDepth 100000
set_option maxHeartbeats 2000000
namespace HX
open PySem PySem.Spec PyProof.Rows L2

/-- the heap that knows the script alone, locked -/
def scr (a : Addr) (o : Obj) (ns : List Int) : Hp := fun b => if b = a then some (.frz o (.lst (ns.map V.int))) else none

section
variable {P : Program} {w : World} {K : PySem.W.Frag} {mg mb : Str → Option Value} {CX : CXT} {k : Nat} {fa a : Addr} {fd : FuncData} {x : Str} {sp : Sp} {s : Shared} {vs : List Value} {ns : List Int}
theorem law_goG (kin : K.In s.heap) (hn : s.heap.Ns mainGlobals mg) (hb : s.heap.Ns builtinsNs mb) (hbb : ∀ y : Str, y ≠ "__name__" → mb y = bootBuiltins y) (lim : s.heap.NoLimit) (hg : s.gens = #[])
    (H : Hp) (only : Only H) (hok : HOk P w H s.heap) (at1 : ∀ b, H b ≠ none → s.heap.get? b = some { cls := .type "list", data := .seq vs.toArray } ∧ K.lookup b = none)
    (hr : Room k callerA) (F : ∀ base : Heap, K.In base → base.Ns mainGlobals mg → FnG P w K mg base CX k fa fd [x] sp)
    (bind1 : ∀ (s : Shared) (u : Value), BindsTo s fd ⟨[u], []⟩ [(x, u)])
    (hsp : sp [.ref a] H (fun v _ => v = .bl true) fun _ _ _ => False) (hCX : ∀ e s', CX [] H s (fun _ _ _ => False) e s' → False) :
    codeAny (model P w) callerA (.call (.ref fa) ⟨[.ref a], []⟩) (fun r s' => r = .ok (.ret (.bool true)) ∧ OldK s.heap s'.heap ∧ s'.os = s.os ∧ AllBare s'.gens) s := by
  have untr : ∀ b o, s.heap.get? b = some o → (o ≠ { cls := .type "list", data := .seq vs.toArray } ∨ K.lookup b ≠ none) → H b = none := fun b o e d => by
    cases q : H b with
    | none => rfl
    | some u =>
      obtain ⟨z1, z2⟩ := at1 b (by rw [q]; exact fun z => nomatch z)
      rcases d with d | d
      · exact absurd (Option.some.inj (e.symm.trans z1)) d
      · exact absurd z2 d
  have isNs : ∀ {b : Addr} {m : Str → Option Value}, s.heap.Ns b m → (hidT s.heap H).Ns b m := fun {b m} z => by
    obtain ⟨o, es, ep, e, d, r⟩ := z
    refine ⟨o, es, ep, hidT_get e (untr b o e (.inl fun z => ?_)), d, r⟩
    rw [z] at d
    cases d
  have kinB : K.In (hidT s.heap H) := fun b o e => hidT_get (kin b o e) (untr b o (kin b o e) (.inr (by rw [e]; exact fun z => nomatch z)))
  have md : Mod K mg (hidT s.heap H) := ⟨kinB, isNs hn, ⟨mb, isNs hb, hbb⟩, let ⟨m, z1, z2⟩ := lim; ⟨m, isNs z1, z2⟩⟩
  have e0 : Env0 P w K mg (hidT s.heap H) callerA [] s H :=
    ⟨rfl, md, fun _ _ e => of_hidT e, Nat.le_of_eq (hidT_size _ _), trivial, fun b z => absurd (show b ∈ ([] : List Addr) from z) List.not_mem_nil, hok, AllBare.of_eq hg⟩
  have run := (F _ kinB (isNs hn)).go callerA [] s H ⟨[.ref a], []⟩ [.ref a] [.ref a] (fun v _ => v = .bl true) (fun _ _ _ => False) rfl hr e0 (bind1 s (.ref a)) (.cons rfl .nil) hsp
  refine codeAny_mono run fun r s' q => ?_
  match r, q with
  | .error e, q => exact (hCX e s' q).elim
  | .ok .next, q => exact False.elim q
  | .ok .brk, q => exact False.elim q
  | .ok .cont, q => exact False.elim q
  | .ok (.ret u), q =>
    obtain ⟨v, G, os, bare, un, hok', rv, ev⟩ := q
    subst ev
    obtain rfl : u = Value.bool true := rv
    refine ⟨rfl, OldK.of_keep fun b o e => ?_, os, bare⟩
    rcases only b with n | ⟨ob, xs, n⟩
    · exact un.keep b o e n (fun z => absurd (show b ∈ ([] : List Addr) from z) List.not_mem_nil) List.not_mem_nil
    · have y1 := (hok b _ n).1
      have y2 := (hok' b _ (un.frzs b ob _ n)).1
      exact (y2.trans y1.symm).trans e
end

/-- the end of a law whose def keeps an FnG promise -/
theorem walkG {l : PySem.W.OpenLaw} {n k : Nat} {q : Program} {loose : List Str} {XP : (Str → Option Value) → Heap → Prop} {YP : World → Heap → Prop} {d : DefRec} {K : Params → PySem.W.Frag} {sp : PySem.W.Frag → Sp} {x : Str}
    (hm : l.most = some n) (hn : n ≤ sizeLine) (hdf : d.params.defaults = []) (hr : Room k callerA) (hY : ∀ (w : World) (h : Heap), YP w h → (K w.params).In h)
    (F : ∀ (w : World) (mg : Str → Option Value) (fa : Addr) (h : Heap), (K w.params).In h → h.Ns mainGlobals mg → mg d.name = some (.ref fa) →
      ∃ fd : FuncData, (∀ (s : Shared) (u : Value), BindsTo s fd ⟨[u], []⟩ [(x, u)]) ∧
        ∀ base : Heap, (K w.params).In base → base.Ns mainGlobals mg → FnG l.prog w (K w.params) mg base CX0 k fa fd [x] (sp (K w.params)))
    (hsp : ∀ (K : PySem.W.Frag) (H : Hp) (a : Addr) (ns : List Int), ns.length ≤ n → Only H → SqL K H a (ns.map V.int) → sp K [.ref a] H (fun v _ => v = .bl true) fun _ _ _ => False) :
    PySem.W.WalkO q loose XP YP l.row.toRowW d [] (fun f vs => PySem.call f vs) := by
  refine Att.attach_call hm hdf fun w s₀ s mg mb fa o pm cd doc a vs ns G Y ho hd hcd hmg hobj hi hlen hg => ?_
  have kin := hY w _ Y
  obtain ⟨fd, b1, f1⟩ := F w mg fa _ kin G.T.g hmg
  have rv := vals_ints hi
  have lv := hi.length
  cases e : (K w.params).lookup a with
  | some ob =>
    have z := kin a ob e
    rw [hobj] at z
    cases z
    refine law_goG (vs := vs) kin G.T.g G.T.b G.T.builtins G.T.nolimit hg (fun _ => none) (fun _ => .inl rfl) (fun _ _ z => nomatch z) (fun _ z => absurd rfl z) hr f1 b1 ?_ fun _ _ z => z
    refine hsp _ _ a ns hlen (fun _ => .inl rfl) (.inr ⟨_, vs.toArray, _, e, rfl, rfl, rfl, ?_, by simpa using rv⟩)
    rw [List.size_toArray, lv]
    exact Nat.le_trans hlen hn
  | none =>
    have at_ : ∀ b u, scr a { cls := .type "list", data := .seq vs.toArray } ns b = some u → b = a ∧ u = .frz { cls := .type "list", data := .seq vs.toArray } (.lst (ns.map V.int)) := fun b u z => by
      unfold scr at z
      split at z
      · rename_i hb
        exact ⟨hb, (Option.some.inj z).symm⟩
      · cases z
    refine law_goG (vs := vs) kin G.T.g G.T.b G.T.builtins G.T.nolimit hg (scr a { cls := .type "list", data := .seq vs.toArray } ns) (fun b => ?_) (fun b u z => ?_) (fun b z => ?_) hr f1 b1 ?_ fun _ _ z => z
    · cases z : scr a { cls := .type "list", data := .seq vs.toArray } ns b with
      | none => exact .inl rfl
      | some u => exact .inr ⟨_, _, by rw [(at_ b u z).2]⟩
    · obtain ⟨rfl, rfl⟩ := at_ b u z
      exact ⟨hobj, by rw [List.length_map]; exact Nat.le_trans hlen hn, vs, _, rv, hobj⟩
    · cases y : scr a { cls := .type "list", data := .seq vs.toArray } ns b with
      | none => exact absurd y z
      | some u =>
        obtain ⟨rfl, _⟩ := at_ b u y
        exact ⟨hobj, e⟩
    · refine hsp _ _ a ns hlen (fun b => ?_) (.inl (.inr ⟨_, if_pos rfl⟩))
      cases z : scr a { cls := .type "list", data := .seq vs.toArray } ns b with
      | none => exact .inl rfl
      | some u => exact .inr ⟨_, _, by rw [(at_ b u z).2]⟩
end HX

set_option Elab.async false
set_option linter.all false
set_option maxRecDepth 100000
set_option maxHeartbeats 2000000
namespace HX
open PySem PySem.Spec PyProof.Rows L2

/-! ### what a value tells as data: None, bools, ints, texts, lists, tuples, dicts with int and text keys -/
def keyD : Key → PyData
  | .inl i => .int i
  | .inr x => .str x
mutual
inductive Da (H : Hp) : V → PyData → Prop
  | non : Da H .non .none
  | bl (b : Bool) : Da H (.bl b) (.bool b)
  | int (i : Int) : Da H (.int i) (.int i)
  | str (x : Str) : Da H (.str x) (.str x)
  | lst {a : Addr} {xs : List V} {ds : List PyData} : H a = some (.lst xs) → a ≠ sysModules → Das H xs ds → Da H (.ref a) (.list ds)
  | tup {a : Addr} {xs : List V} {ds : List PyData} : H a = some (.tup xs) → Das H xs ds → Da H (.ref a) (.tuple ds)
  | dic {a : Addr} {kvs : List (Key × V)} {ps : List (PyData × PyData)} : H a = some (.dK kvs) → Dks H kvs ps → Da H (.ref a) (.dict ps)
inductive Das (H : Hp) : List V → List PyData → Prop
  | nil : Das H [] []
  | cons {v : V} {vs : List V} {d : PyData} {ds : List PyData} : Da H v d → Das H vs ds → Das H (v :: vs) (d :: ds)
inductive Dks (H : Hp) : List (Key × V) → List (PyData × PyData) → Prop
  | nil : Dks H [] []
  | cons {k : Key} {v : V} {kvs : List (Key × V)} {d : PyData} {ps : List (PyData × PyData)} : Da H v d → Dks H kvs ps → Dks H ((k, v) :: kvs) ((keyD k, d) :: ps)
end
theorem Das.len {H : Hp} : ∀ {vs : List V} {ds : List PyData}, Das H vs ds → vs.length = ds.length
  | _, _, .nil => rfl
  | _, _, .cons _ t => by rw [List.length_cons, List.length_cons, t.len]
theorem Das.get {H : Hp} : ∀ {vs : List V} {ds : List PyData} {i : Nat} {v : V}, Das H vs ds → vs[i]? = some v → ∃ d, ds[i]? = some d ∧ Da H v d
  | _, _, _, _, .nil, e => by simp at e
  | _, _, 0, v, .cons h _, e => by
    simp at e
    subst e
    exact ⟨_, rfl, h⟩
  | _, _, i + 1, v, .cons _ t, e => by
    obtain ⟨d, h1, h2⟩ := t.get (i := i) (v := v) (by simpa using e)
    exact ⟨d, by simpa using h1, h2⟩
theorem Das.app {H : Hp} : ∀ {vs us : List V} {ds es : List PyData}, Das H vs ds → Das H us es → Das H (vs ++ us) (ds ++ es)
  | _, _, _, _, .nil, t => t
  | _, _, _, _, .cons h t, t2 => .cons h (t.app t2)
mutual
theorem Da.mo {H H' : Hp} (m : Same H H') : ∀ {d : PyData} {v : V}, Da H v d → Da H' v d
  | _, _, .non => .non
  | _, _, .bl b => .bl b
  | _, _, .int i => .int i
  | _, _, .str x => .str x
  | _, _, .lst s n t => .lst (m _ _ s) n (Das.mo m t)
  | _, _, .tup s t => .tup (m _ _ s) (Das.mo m t)
  | _, _, .dic s t => .dic (m _ _ s) (Dks.mo m t)
theorem Das.mo {H H' : Hp} (m : Same H H') : ∀ {ds : List PyData} {vs : List V}, Das H vs ds → Das H' vs ds
  | _, _, .nil => .nil
  | _, _, .cons h t => .cons (Da.mo m h) (Das.mo m t)
theorem Dks.mo {H H' : Hp} (m : Same H H') : ∀ {ps : List (PyData × PyData)} {kvs : List (Key × V)}, Dks H kvs ps → Dks H' kvs ps
  | _, _, .nil => .nil
  | _, _, .cons h t => .cons (Da.mo m h) (Dks.mo m t)
end
section
variable {X : Cx} {pins : List (Addr × Obj)} {σ : L2.St} {H : Hp} {s : Shared}
theorem key_reads {h : Heap} {k : Key} {v : Value} (e : keyIs k v = true) : Reads h v (keyD k) [] := by
  rcases keyIs_shape e with ⟨i, t, rfl, rfl⟩ | ⟨x, t, rfl, rfl⟩
  · exact .int i t
  · exact .str x t
mutual
/-- .. as it stands in the heap; of the addresses that are read, none is sys.modules -/
theorem Da.reads (I : Inv X pins σ H s) : ∀ {d : PyData} {v : V} {u : Value}, Da H v d → RelV v u → ∃ as, Reads s.heap u d as ∧ sysModules ∉ as
  | _, _, _, .non, r => by cases r; exact ⟨_, .none, fun z => nomatch z⟩
  | _, _, _, .bl b, r => by cases r; exact ⟨_, .bool b, fun z => nomatch z⟩
  | _, _, _, .int i, r => by obtain ⟨t, rfl⟩ := r; exact ⟨_, .int i t, fun z => nomatch z⟩
  | _, _, _, .str x, r => by obtain ⟨t, rfl⟩ := r; exact ⟨_, .str x t, fun z => nomatch z⟩
  | _, _, _, .lst h nz t, r => by
    cases r
    obtain ⟨its, rv, ⟨o, n, ho, hc, _, hd⟩, _⟩ := I.list (SqL.of h)
    obtain ⟨as, hr, qs⟩ := Das.reads I t rv
    exact ⟨_, .list ho hc hd (by simpa using hr), fun z => (List.mem_cons.mp z).elim (fun e => nz e.symm) qs⟩
  | _, _, _, .tup h t, r => by
    cases r
    obtain ⟨its, rv, ⟨o, ho, hc, n, hd⟩, _⟩ := I.tuple (SqT.of h)
    obtain ⟨as, hr, q⟩ := Das.reads I t rv
    exact ⟨_, .tuple ho hc hd (by simpa using hr), q⟩
  | _, _, _, .dic (a := a) (kvs := kvs) h t, r => by
    cases r
    obtain ⟨_, nsys, vs, kv, o, es, ep, ho, hx, hd, _, hp, _⟩ := (show ObjOk X.prog X.w H s.heap a (.dK kvs) from I.hok a _ h)
    obtain ⟨bs, hr1, hr2, q⟩ := Dks.reads I t kv hp
    refine ⟨_, .dict (as := []) (bs := bs) ho hx.1 hd hr1 hr2, fun hm => ?_⟩
    rcases List.mem_cons.mp hm with e | hm
    · rw [← e] at nsys
      simp at nsys
    · exact q (by simpa using hm)
theorem Das.reads (I : Inv X pins σ H s) : ∀ {ds : List PyData} {vs : List V} {us : List Value}, Das H vs ds → Vals vs us → ∃ as, ReadsAll s.heap us ds as ∧ sysModules ∉ as
  | _, _, _, .nil, r => by cases r; exact ⟨_, .nil, fun z => nomatch z⟩
  | _, _, _, .cons h t, r => by
    cases r with
    | cons r1 r2 =>
      obtain ⟨as, h1, q1⟩ := Da.reads I h r1
      obtain ⟨bs, h2, q2⟩ := Das.reads I t r2
      exact ⟨_, .cons h1 h2, fun hm => (List.mem_append.mp hm).elim q1 q2⟩
theorem Dks.reads (I : Inv X pins σ H s) : ∀ {ps : List (PyData × PyData)} {kvs : List (Key × V)} {vs : List (Key × Value)} {es : List DictEntry}, Dks H kvs ps → KV kvs vs → Pairs (mixKind X.prog X.w) es vs →
    ∃ bs, ReadsAll s.heap (es.map (·.key)) (ps.map (·.1)) [] ∧ ReadsAll s.heap (es.map (·.val)) (ps.map (·.2)) bs ∧ sysModules ∉ bs
  | _, _, _, _, .nil, r, p => by cases r; cases p; exact ⟨_, .nil, .nil, fun z => nomatch z⟩
  | _, _, _, _, .cons h t, r, p => by
    cases r with
    | cons r1 r2 =>
      cases p with
      | cons p1 p2 p3 =>
        obtain ⟨e1, e2⟩ := r1
        obtain ⟨as, h1, q1⟩ := Da.reads I h e2
        obtain ⟨bs, h2, h3, q2⟩ := Dks.reads I t r2 p3
        rw [← e1] at p1
        refine ⟨as ++ bs, .cons (key_reads p1) h2, .cons (by show Reads s.heap (DictEntry.val _) _ _; rw [p2]; exact h1) h3, fun hm => (List.mem_append.mp hm).elim q1 q2⟩
end
/-- data that repr can show: not deep, not long -/
structure OkD (d : PyData) : Prop where
  sh : d.showable = true
  dp : d.depth ≤ 60
  lv : d.leavesShort 1000 = true
  wt : d.weight ≤ 10000
theorem OkD.len {d : PyData} (h : OkD d) : d.shown.length ≤ sizeLine := by
  have e := PyData.shown_le 1000 (by decide) d h.lv
  have w := h.wt
  rw [sizeLine_eq]
  omega
/-- repr of a list, a tuple, a dict -/
def rRepr : List V → Hp → VK → Prop := fun xs H Q => ∃ (a : Addr) (d : PyData), xs = [.ref a] ∧ Da H (.ref a) d ∧ OkD d ∧ Q (.str d.shown) H
theorem call_reprD (gd : X.A.guards = some []) (hu : X.A.units + 64 < cLine) : CallR X (.builtin "repr") rRepr := by
  intro pins s σ H xs us Q I r h
  obtain ⟨a, d, rfl, hd, ok, q⟩ := h
  obtain ⟨u, rfl, ru⟩ := vals1 r
  obtain ⟨as, hr, hsys⟩ := Da.reads I hd ru
  cases ru
  have hz := ok.dp
  exact repr_of_reads' hr ok.sh (fun _ => hsys) gd (by omega) (fun _ _ e => e) (fun h' t tk k => ⟨.str d.shown, H, I.kept k, ⟨_, rfl⟩, q⟩) ok.len
end
end HX

set_option Elab.async false
set_option linter.all false
set_option maxRecDepth 100000
set_option maxHeartbeats 2000000
namespace HX
open PySem PySem.Spec PyProof.Rows L2

/-! ### an exception that was caught, kept as a value: at a, of the class cls, its own dict at d -/
def exT (a : Addr) (cls : Value) (d : Option Addr) : HO := .ext fun h => ∃ oe vs, h.get? a = some oe ∧ Zc cls d oe ∧ oe.data = .fields vs
theorem exT_ok {P : Program} {w : World} {H : Hp} {h : Heap} {a : Addr} {cls : Value} {d : Option Addr} {oe : Obj} {vs : Array Value} (e : h.get? a = some oe) (z : Zc cls d oe) (q : oe.data = .fields vs) : ObjOk P w H h a (exT a cls d) :=
  ⟨⟨oe, vs, e, z, q⟩, ⟨oe, e⟩, fun _ _ ⟨o, us, x1, x2⟩ k => ⟨o, us, k o x1, x2⟩⟩
theorem exT_at {P : Program} {w : World} {H : Hp} {h : Heap} {a : Addr} {cls : Value} {d : Option Addr} (ok : HOk P w H h) (e : H a = some (exT a cls d)) : ∃ oe vs, h.get? a = some oe ∧ Zc cls d oe ∧ oe.data = .fields vs := by
  have x : ObjOk P w H h a (.ext fun h => ∃ oe vs, h.get? a = some oe ∧ Zc cls d oe ∧ oe.data = .fields vs) := ok a _ e
  exact x.1

section
variable {X : Cx} {pins : List (Addr × Obj)} {σ : L2.St} {H : Hp} {sI s' s : Shared} {B : Heap}
/-- back on the ground, the exception tracked -/
theorem landedK {a : Addr} {cls : Value} {d : Option Addr} {oe : Obj} {vs : Array Value} (I : Inv X pins σ H sI) (nb : ∀ b o, sI.heap.get? b = some o → b ∉ frs X.stack → B.get? b = some o) (st : B.StaysIn s'.heap)
    (up : sI.heap.UpToSlots s'.heap) (os : s'.os = sI.os) (ag : AllBare s'.gens) (na : H a = none) (nB : B.get? a = none) (nf : a ∉ frs X.stack) (he : s'.heap.get? a = some oe) (hz : Zc cls d oe) (hd : oe.data = .fields vs) :
    Inv X pins σ (upd H a (exT a cls d)) s' := by
  have nI : ∀ b o, sI.heap.get? b = some o → b ≠ a := fun b o e z => by
    subst z
    rw [nb b o e nf] at nB
    cases nB
  have fr : ∀ b ∈ frs X.stack, ∀ o, sI.heap.get? b = some o → ∃ sl, s'.heap.get? b = some { o with slots := sl } := fun b hb o e => by
    obtain ⟨_, o', e', q⟩ := I.stack.mem hb
    rw [e] at e'
    cases e'
    exact up b o e q
  have hk : HOk X.prog X.w H s'.heap := (I.inGround nb).kept st
  have hok : HOk X.prog X.w (upd H a (exT a cls d)) s'.heap := fun b u e => by
    by_cases hb : b = a
    · subst hb
      rw [upd_same] at e
      cases e
      exact exT_ok he hz hd
    · rw [upd_ne hb] at e
      exact (hk b u e).stay (fun _ _ _ z => z) (fun c z => by rw [upd_ne (ne_of_none z na)]; exact z) fun c xs z => by rw [upd_ne (ne_of_none z na)]; exact z
  have un : Un (frs X.stack) [] H (upd H a (exT a cls d)) sI.heap s'.heap := {
    keep := fun b o e _ hb _ => st b o (nb b o e hb)
    slot := fun b o e _ hb _ => fr b hb o e
    free := fun b o e n _ => by rw [upd_ne (nI b o e)]; exact n
    there := fun b o e _ => by
      by_cases hb : b ∈ frs X.stack
      · obtain ⟨sl, q⟩ := fr b hb o e
        exact ⟨_, q⟩
      · exact ⟨o, st b o (nb b o e hb)⟩
    tups := fun b xs e => by rw [upd_ne (ne_of_none e na)]; exact e
    frzs := fun b o u e => by rw [upd_ne (ne_of_none e na)]; exact e
    tbls := fun b ps e => ⟨#[], by rw [upd_ne (ne_of_none e na), e]; simp⟩ }
  exact I.call' (ch := []) os un hok ag fun _ z => nomatch z
theorem inSuite (I : Inv X pins σ H s) (a : Addr) : Inv (X.suite a (X.pn ++ pins)) [] σ H s :=
  ⟨I.ok.suite _ _, I.os, I.bare, I.base, I.loc, I.cell, I.free, I.freeC, fun p hp => I.pin p (by rw [List.append_nil] at hp; exact hp), I.hok, I.len⟩
theorem outSuite {a : Addr} {pn' : List (Addr × Obj)} (I : Inv (X.suite a (X.pn ++ pins)) pn' σ H s) (ok : X.Ok) : Inv X pins σ H s :=
  ⟨ok, I.os, I.bare, I.base, I.loc, I.cell, I.free, I.freeC, fun p hp => I.pin p (List.mem_append_left _ hp), I.hok, I.len⟩
end

/-- what 'except x as n' wishes of an exception of the body, where the suite keeps it as a value -/
def wKeep (K : PySem.W.Frag) (c : Value) (i : Nat) (ts : TS) (Wout : WX) (D : Ends) : WX := fun cls d σ H =>
  ∃ b, PySem.W.exmOne K cls c = some b ∧
    (b = true → ∀ a, H a = none → ts { nx := fun σ' G => D.nx (σ'.set i none) G, rt := D.rt, bk := fun σ' G => D.bk (σ'.set i none) G, ct := fun σ' G => D.ct (σ'.set i none) G } (σ.set i (some (.ref a))) (upd H a (exT a cls d))) ∧
    (b = false → Wout cls d σ H)

section
variable {X : Cx} {x n : Str} {c : Value} {i : Nat} {body rest : List Stmt} {b₀ : Stmt} {np pos pos' : Pos} {tb : WX → TS} {ts : TS} {Wout : WX}
theorem ps_try_keep (hs : X.stack = X.env :: X.outer) (hf : X.env.frame = some X.env.locals) (hN : X.N.Nodup) (hi : X.N[i]? = some n) (hln : X.env.kindOf n = some .local) (hc : Names X x c) (tk : Takes X Wout)
    (hb : ∀ (W : WX) (pn : List (Addr × Obj)) (xe : Value → Shared → Prop), Takes (X.tr pn xe) W → PassesOwn (model X.prog X.w) X.A X.env xe → PSs (X.tr pn xe) body (tb W))
    (hsu : ∀ (a : Addr) (pn : List (Addr × Obj)), PSs (X.suite a pn) (b₀ :: rest) ts) :
    PS X (.Try body [.ExceptHandler (some (.Name x np)) (some n) (b₀ :: rest) pos'] [] [] pos) (fun D σ H => tb (wKeep X.K c i ts Wout D) D σ H) := by
  refine ⟨fun pins s σ H D I h => ?_⟩
  have ok := I.ok
  have hfr : X.A.frames = some (X.env :: X.outer) := by rw [ok.frames, hs]
  have hloc : Loc X.env.scope n := .inl hln
  refine wpAny_Try_except ?_
  refine wpAny_mono ((hb (wKeep X.K c i ts Wout D) (X.pn ++ pins)
    (fun e s₁ => wpAny (model X.prog X.w) X.A (noteFrame e X.env) (fun _ s₂ => wpAny (model X.prog X.w) X.A (setFlight e none)
      (fun _ s₃ => wpAny (model X.prog X.w) X.A (handleBy e X.env [.ExceptHandler (some (.Name x np)) (some n) (b₀ :: rest) pos']) (SP X pins D) X.xe s₃) X.xe s₂) X.xe s₁)
    (fun u s' xx => ?_) PassesOwn.looking).run [] s σ H D (I.toTry _) h) (fun f s1 q => ?_) (fun _ _ z => z)
  · obtain ⟨a, B, sI, pins', σ', G, cls, d, rfl, J', nb, up, sky, na, os, ag, b, hb1, yes, no⟩ := xx
    have J : Inv X pins σ' G sI := J'.ofTry ok
    have sky2 : Sky B (X.env :: X.outer) a (Zc cls d) X.env.locals s'.heap := by rw [← hs]; exact sky
    show wpAny (model X.prog X.w) X.A (noteFrame (.ref a) X.env) _ _ _
    refine Sky.land Zc.steady hfr hf sky2 fun h3 fl3 up3 => ?_
    obtain ⟨oe3, vs3, he3, hz3, hd3⟩ := fl3.there
    have nfr : a ∉ frs X.stack := by
      rw [hs]
      intro hm
      obtain ⟨_, o, e, q⟩ := fl3.2.2.1.mem hm
      rw [he3] at e
      cases e
      exact q _ hd3
    have J3 := landedK (s' := { s' with heap := h3 }) J nb fl3.1 (up.trans up3) os ag na fl3.2.1 nfr he3 hz3 hd3
    have S3 := inSuite J3 a
    refine wpAny_handleBy_cons (codeAny_handlers_test ?_) (by intro q; cases q)
    have LT : PySem.W.Looks (model X.prog X.w) h3 (typeOf (.ref a)) cls := fun A Q E s k q => wpAny_typeOf_ref (k _ _ he3) (by rw [hz3.1]; exact q)
    have LM := PySem.W.exm_one (M := model X.prog X.w) J3.kIn LT hb1
    have test : ∀ {Q : Value → Shared → Prop} {E : Value → Shared → Prop}, Q c { s' with heap := h3 } → wpAny (model X.prog X.w) (X.A.mark (some (.ref a))) (eval (.Name x np) X.env) Q E { s' with heap := h3 } := fun {Q E} q => by
      obtain ⟨z1, z2, z3 | ⟨z3, z4, z5⟩⟩ := hc
      · exact ld_glob S3 z1 z3 q z2
      · exact ld_blt S3 z1 z3 z4 q z5 z2
    refine test (LM.here ?_)
    cases b with
    | true =>
      refine codeAny_handlers_suite_as ?_
      refine HandSPX.lands_againZ fl3 fun h4 fl4 up4 => ?_
      obtain ⟨oe4, vs4, he4, hz4, hd4⟩ := fl4.there
      have J4 := landedK (s' := { s' with heap := h4 }) J nb fl4.1 ((up.trans up3).trans up4) os ag na fl4.2.1 nfr he4 hz4 hd4
      refine store_ok (X := X.suite a (X.pn ++ pins)) (v := .ref a) (inSuite J4 a) hN hi hloc rfl (fun s5 S5 => ?_) (.inr hln)
      have leave : ∀ {σ6 : L2.St} {G6 : Hp} {s6 : Shared} {Q : Shared → Prop}, Inv (X.suite a (X.pn ++ pins)) [] σ6 G6 s6 → (∀ s7, Inv X pins (σ6.set i none) G6 s7 → Q s7) →
          wpAny (model X.prog X.w) X.A (do bindName X.env n .none; unbindBehindTheSuite X.env n pos') (fun _ s7 => Q s7) X.xe s6 := fun S6 hq => gone_ok (outSuite S6 ok) hN hi hln hq
      refine wpAny_mono ((hsu a (X.pn ++ pins)).run [] s5 _ _ _ S5 (yes rfl a na)) (fun f s6 q => ?_) (fun _ _ z => False.elim z)
      match f, q with
      | .next, ⟨σ6, G6, S6, q6⟩ => exact leave S6 fun s7 J7 => ⟨_, _, J7, q6⟩
      | .brk, ⟨σ6, G6, S6, q6⟩ => exact leave S6 fun s7 J7 => ⟨_, _, J7, q6⟩
      | .cont, ⟨σ6, G6, S6, q6⟩ => exact leave S6 fun s7 J7 => ⟨_, _, J7, q6⟩
      | .ret u, ⟨v6, σ6, G6, S6, r6, q6⟩ => exact leave S6 fun s7 J7 => ⟨_, _, _, J7, r6, q6⟩
    | false =>
      show wpAny _ X.A (handleBy (.ref a) X.env []) _ _ _
      refine wpAny_handleBy_nil ?_
      obtain ⟨k1, k2, k3, oe, vs, T, oT, ts', he, hz, hd, h1, hr⟩ := id fl3
      unfold PySem.passOn
      refine wpAny_bind (wpAny_field he hd h1 ?_)
      rw [if_neg (show ¬ ((Value.ref T == Value.none) = true) from by simp)]
      have fin : wpAny (model X.prog X.w) X.A (setFlight (.ref a) X.env.frame) (fun _ s4 => wpAny (model X.prog X.w) X.A (throw (.ref a) : Sem Flow) (SP X pins D) X.xe s4) X.xe { s' with heap := h3 } := by
        rw [hf]
        refine HandSPX.setFlight_upZ fl3 fun h4 hh4 up4 => wpAny_throw (tk _ _ ?_)
        exact ⟨a, B, sI, pins, σ', G, cls, d, rfl, J, nb, (up.trans up3).trans up4, .inr (.inr (by rw [hs]; exact hh4)), na, os, ag, no rfl⟩
      first
        | exact wpAny_bind (wpAny_pure (wpAny_bind fin))
        | exact wpAny_bind fin
  · match f, q with
    | .next, ⟨σ', G, J', z⟩ => exact wpAny_execs_nil ⟨σ', G, J'.ofTry ok, z⟩
    | .brk, ⟨σ', G, J', z⟩ => exact ⟨σ', G, J'.ofTry ok, z⟩
    | .cont, ⟨σ', G, J', z⟩ => exact ⟨σ', G, J'.ofTry ok, z⟩
    | .ret u, ⟨v, σ', G, J', r, z⟩ => exact ⟨v, σ', G, J'.ofTry ok, r, z⟩
end

/-! ### such a value's class and fields -/
/-- what an own exception class must have -/
structure ExC (K : PySem.W.Frag) (C : Addr) : Prop where
  ga : PySem.W.findIn K (.ref C) "__getattribute__" = some (some (.builtin "BaseException.__getattribute__"))
  gg : PySem.W.findIn K (.ref C) "__getattr__" = some none
  sub : PySem.W.subIn K (.ref C) (.type "BaseException") = some true
  hd : PySem.W.hasDictIn K C = true
  ha : PySem.W.findIn K (.ref C) "__class__" = some (some (.builtin "object.__class__"))
  hn : PySem.W.specialIn K (.builtin "object.__class__") "__get__" = some (some (.builtin "getset_descriptor.__get__"))
  ht : PySem.W.takesIn K (.builtin "object.__class__") = some true
  hm : PySem.W.mroIn K C (.type "object") = some true
theorem instAt_of {h : Heap} {a C : Addr} {oe od : Obj} {vs : Array Value} {d : Addr} (he : h.get? a = some oe) (hz : Zc (.ref C) (some d) oe) (hf : oe.data = .fields vs) (ho : h.get? d = some od) : PySem.W.InstAt h a oe C (some od) := by
  obtain ⟨c1, d1, dt, sl⟩ := oe
  obtain ⟨rfl, rfl⟩ := hz
  dsimp only at hf
  subst hf
  exact ⟨he, rfl, rfl, ho⟩
theorem instAt_of0 {h : Heap} {a C : Addr} {oe : Obj} {vs : Array Value} (he : h.get? a = some oe) (hz : Zc (.ref C) none oe) (hf : oe.data = .fields vs) : PySem.W.InstAt h a oe C none := by
  obtain ⟨c1, d1, dt, sl⟩ := oe
  obtain ⟨rfl, rfl⟩ := hz
  dsimp only at hf
  subst hf
  exact ⟨he, rfl, rfl, trivial⟩
section
variable {X : Cx} {e : Expr} {te : TE} {f : Str} {pos : Pos}
/-- e.f -/
def tExf (K : PySem.W.Frag) (f : Str) (te : TE) : TE := fun σ H Q => te σ H fun x G => ∃ (a C d : Addr) (fs : List (Str × V)) (v : V), x = .ref a ∧ G a = some (exT a (.ref C) (some d)) ∧ G d = some (.xd fs) ∧ ExC K C ∧ PySem.W.findIn K (.ref C) f = some none ∧ fs.lookup f = some v ∧ Q v G
theorem pe_exf (he : PE X e te) (hb : attributeBase e f X.env (eval e X.env) = eval e X.env := by rfl) : PE X (.Attribute e f pos) (tExf X.K f te) := by
  refine ⟨fun pins s σ H Q I h => attr_of hb (thn (he.run pins s σ H _ I h) fun u s1 ⟨x, G, I1, rx, a, C, d, fs, v, ex, ea, ed, T, no, l, q⟩ => ?_)⟩
  subst ex
  obtain rfl : u = Value.ref a := rx
  obtain ⟨oe, vs, z1, z2, z3⟩ := exT_at I1.hok ea
  obtain ⟨mA, hns, hr⟩ := (show ObjOk X.prog X.w G s1.heap d (.xd fs) from I1.hok d _ ed)
  obtain ⟨od, ho, hl⟩ := lookIn_ns hns
  obtain ⟨w', hu, ru⟩ := RelO.some_of (v := v) (o := mA f) (by rw [← l]; exact hr f)
  exact HandSPX.exc_get I1.kIn (instAt_of z1 z2 z3 ho) T.ga T.gg T.sub (PySem.W.findObj_own T.hd no rfl (by rw [hl, hu])) (handed_of ru) ⟨v, G, I1.tok _, ru, q⟩
/-- isinstance(e, c) -/
def rIsX (K : PySem.W.Frag) : List V → Hp → VK → Prop := fun xs H Q => ∃ (a D : Addr) (d : Option Addr) (c : V) (cv : Value) (b : Bool), xs = [.ref a, c] ∧ H a = some (exT a (.ref D) d) ∧ (∀ dd, d = some dd → ∃ fs, H dd = some (.xd fs)) ∧ ExC K D ∧ (∀ u, RelV c u → u = cv) ∧
  PySem.W.kitOne K (.ref D) cv = some b ∧ Q (.bl b) H
theorem call_isX : CallR X (.builtin "isinstance") (rIsX X.K) := by
  intro pins s σ H xs us Q I r h
  obtain ⟨a, D, d, c, cv, b, rfl, ea, ed, T, hc, hk, q⟩ := h
  obtain ⟨u, u2, rfl, r1, r2⟩ := vals2 r
  cases r1
  have e2 := hc _ r2
  subst e2
  obtain ⟨oe, vs, z1, z2, z3⟩ := exT_at I.hok ea
  have hcl : (PySem.W.clsIn X.K D).isSome = true := by
    obtain ⟨cd, z, _⟩ := PySem.W.any_some T.hd
    rw [z]
    rfl
  cases d with
  | none => exact PySem.W.kia_one (PySem.W.kitx_exc hcl T.ga T.gg T.sub T.ha T.hn T.ht T.hm) I.kIn (instAt_of0 z1 z2 z3) hk (fun z => nomatch z) fun tk => ⟨.bl b, H, I.kept (t' := tk) fun _ _ z => z, rfl, q⟩
  | some dd =>
    obtain ⟨fs, ed⟩ := ed dd rfl
    obtain ⟨mA, ⟨od, _, _, ho, _⟩, _⟩ := (show ObjOk X.prog X.w H s.heap dd (.xd fs) from I.hok dd _ ed)
    exact PySem.W.kia_one (PySem.W.kitx_exc hcl T.ga T.gg T.sub T.ha T.hn T.ht T.hm) I.kIn (instAt_of z1 z2 z3 ho) hk (fun z => nomatch z) fun tk => ⟨.bl b, H, I.kept (t' := tk) fun _ _ z => z, rfl, q⟩
end
end HX

set_option Elab.async false
set_option linter.all false
set_option maxRecDepth 100000
set_option maxHeartbeats 2000000
namespace HX
open PySem PySem.Spec PyProof.Rows L2

/-! ### own error classes whose __init__ keeps one field, two fields -/
def spI1 (C : Addr) (f : Str) : Sp := fun vs H Q _ => ∃ (a : Addr) (v : V), vs = [.ref a, v] ∧ H a = some (exo a C none) ∧
  ∀ dx, H dx = none → dx ≠ a → Q .non (upd (upd H dx (exd dx [(f, v)])) a (exo a C (some dx)))
def spI2 (C : Addr) (f g : Str) : Sp := fun vs H Q _ => ∃ (a : Addr) (v u : V), vs = [.ref a, v, u] ∧ H a = some (exo a C none) ∧
  ∀ dx, H dx = none → dx ≠ a → Q .non (upd (upd (upd H dx (exd dx [(f, v)])) a (exo a C (some dx))) dx (exd dx [(g, u), (f, v)]))
/-- what the written part says of such a class -/
structure RxC (K : PySem.W.Frag) (mg : Str → Option Value) (x : Str) (C fI : Addr) : Prop where
  o : OexC K C
  iC : PySem.W.findIn K (.ref C) "__init__" = some (some (.ref fI))
  tI : PySem.W.typeIn K (.ref fI) = some (.type "function")
  gC : mg x = some (.ref C)
section
variable {P : Program} {w : World} {K : PySem.W.Frag} {mg : Str → Option Value} {base : Heap} {C fI : Addr} {fd : FuncData} {qual f g : Str} {st : Stmt}
theorem ok_init1 (F : Fun K "__init__" qual st fI fd) (T : OexC K C) (no : PySem.W.findIn K (.ref C) f = some none) (S : FnScope ["self", f] ["self", f] (defScope st))
    (hb : ∃ p1 p2 p3 p4, defBody st = [.Assign [.Attribute (.Name "self" p1) f p2] (.Name f p3) p4])
    (v0 : Vis (defScope st) "self" := by exact Or.inl rfl) (v1 : Vis (defScope st) f := by exact Or.inl rfl)
    (hd : (f == ("__debug__" : Str)) = false := by decide) (hcd : (f == ("__classdict__" : Str)) = false := by decide) : FnOk P w K mg base CX0 1 fI fd ["self", f] (spI1 C f) := by
  obtain ⟨p1, p2, p3, p4, eb⟩ := hb
  refine F.ok S (fun vs H Q E h => ?_) (fun cdv A outer s H vs Q E hr h => ?_)
  · obtain ⟨a, v, rfl, _⟩ := h
    rfl
  · obtain ⟨a, v, rfl, ha, k⟩ := h
    rw [eb]
    refine ⟨_, pss_one (ps_ost (pe_var (i := 0) rfl v0) (pe_var (i := 1) rfl v1 hd hcd)), ?_⟩
    exact ⟨v, rfl, _, rfl, a, C, rfl, T, no, .inl ⟨ha, fun dx n ne => k dx n ne⟩⟩
theorem ok_init2 (F : Fun K "__init__" qual st fI fd) (T : OexC K C) (no : PySem.W.findIn K (.ref C) f = some none) (no2 : PySem.W.findIn K (.ref C) g = some none) (S : FnScope ["self", f, g] ["self", f, g] (defScope st))
    (hb : ∃ p1 p2 p3 p4 q1 q2 q3 q4, defBody st = [.Assign [.Attribute (.Name "self" p1) f p2] (.Name f p3) p4, .Assign [.Attribute (.Name "self" q1) g q2] (.Name g q3) q4])
    (v0 : Vis (defScope st) "self" := by exact Or.inl rfl) (v1 : Vis (defScope st) f := by exact Or.inl rfl) (v2 : Vis (defScope st) g := by exact Or.inl rfl)
    (hd : (f == ("__debug__" : Str)) = false := by decide) (hcd : (f == ("__classdict__" : Str)) = false := by decide)
    (hd2 : (g == ("__debug__" : Str)) = false := by decide) (hcd2 : (g == ("__classdict__" : Str)) = false := by decide) : FnOk P w K mg base CX0 1 fI fd ["self", f, g] (spI2 C f g) := by
  obtain ⟨p1, p2, p3, p4, q1, q2, q3, q4, eb⟩ := hb
  refine F.ok S (fun vs H Q E h => ?_) (fun cdv A outer s H vs Q E hr h => ?_)
  · obtain ⟨a, v, u, rfl, _⟩ := h
    rfl
  · obtain ⟨a, v, u, rfl, ha, k⟩ := h
    rw [eb]
    refine ⟨_, pss_cons (ps_ost (pe_var (i := 0) rfl v0) (pe_var (i := 1) rfl v1 hd hcd)) (pss_one (ps_ost (pe_var (i := 0) rfl v0) (pe_var (i := 2) rfl v2 hd2 hcd2))), ?_⟩
    refine ⟨v, rfl, _, rfl, a, C, rfl, T, no, .inl ⟨ha, fun dx n ne => ?_⟩⟩
    exact ⟨u, rfl, _, rfl, a, C, rfl, T, no2, .inr ⟨dx, [(f, v)], upd_same, by rw [upd_ne ne, upd_same], by show 1 ≤ 900; decide, k dx n ne⟩⟩
end

theorem lay_gone {H : Hp} {a dx : Addr} {o1 o2 o3 u : HO} (na : H a = none) (ne : dx ≠ a) : upd (del (upd (upd (upd H a o1) dx o2) a o3) a) dx u = upd H dx u := by
  funext b
  by_cases h1 : b = dx
  · rw [h1, upd_same, upd_same]
  · rw [upd_ne h1, upd_ne h1]
    by_cases h2 : b = a
    · rw [h2, del_same, na]
    · rw [del_ne h2, upd_ne h2, upd_ne h1, upd_ne h2]
theorem lay_gone2 {H : Hp} {a dx : Addr} {o1 o2 o3 o4 u : HO} (na : H a = none) (ne : dx ≠ a) : upd (del (upd (upd (upd (upd H a o1) dx o2) a o3) dx o4) a) dx u = upd H dx u := by
  funext b
  by_cases h1 : b = dx
  · rw [h1, upd_same, upd_same]
  · rw [upd_ne h1, upd_ne h1]
    by_cases h2 : b = a
    · rw [h2, del_same, na]
    · rw [del_ne h2, upd_ne h1, upd_ne h2, upd_ne h1, upd_ne h2]

/-- the answer where such an error is made: its own dict d is new and holds the field -/
theorem mk1_ans {H : Hp} {C : Addr} {f : Str} {v : V} {Q : XK} (h : ∀ d, H d = none → Q (.ref C) (some d) (upd H d (.xd [(f, v)]))) :
    [v].length ≤ 1000 ∧ ∀ a, H a = none → spI1 C f (.ref a :: ([v] ++ [])) (upd H a (exo a C none))
      (fun u G => u = .non ∧ ∃ (d : Addr) (fs : List (Str × V)), G a = some (exo a C (some d)) ∧ G d = some (exd d fs) ∧ H d = none ∧ Q (.ref C) (some d) (upd (del G a) d (.xd fs))) (fun _ _ _ => False) := by
  refine ⟨by show 1 ≤ 1000; decide, fun a na => ⟨a, v, rfl, upd_same, fun dx nx ne => ?_⟩⟩
  rw [upd_ne ne] at nx
  exact ⟨rfl, dx, _, upd_same, by rw [upd_ne ne, upd_same], nx, by rw [lay_gone na ne]; exact h dx nx⟩
theorem mk2_ans {H : Hp} {C : Addr} {f g : Str} {v u : V} {Q : XK} (h : ∀ d, H d = none → Q (.ref C) (some d) (upd H d (.xd [(g, u), (f, v)]))) :
    [v, u].length ≤ 1000 ∧ ∀ a, H a = none → spI2 C f g (.ref a :: ([v, u] ++ [])) (upd H a (exo a C none))
      (fun z G => z = .non ∧ ∃ (d : Addr) (fs : List (Str × V)), G a = some (exo a C (some d)) ∧ G d = some (exd d fs) ∧ H d = none ∧ Q (.ref C) (some d) (upd (del G a) d (.xd fs))) (fun _ _ _ => False) := by
  refine ⟨by show 2 ≤ 1000; decide, fun a na => ⟨a, v, u, rfl, upd_same, fun dx nx ne => ?_⟩⟩
  rw [upd_ne ne] at nx
  exact ⟨rfl, dx, _, by rw [upd_ne (Ne.symm ne), upd_same], upd_same, nx, by rw [lay_gone2 na ne]; exact h dx nx⟩
section
variable {X : Cx} {x f g : Str} {C fI : Addr} {fd : FuncData} {k : Nat} {e : Expr} {es : List Expr} {ta : TA} {W : WX} {p pos pos2 : Pos} {ps : List Str} {sp : Sp}
/-- raise C(e, ..) -/
theorem ps_raiseO (hc : X.calm = true) (T : RxC X.K X.mg x C fI) (F : FnOk X.prog X.w X.K X.mg X.base CX0 k fI fd ps sp) (b : Binds X.K fd ps []) (hr : Room (k + 1) X.A) (tk : Takes X W) (he : PA X (e :: es) ta) (hg : Gl X x)
    (hdb : (x == ("__debug__" : Str)) = false := by decide) (hs : starEach (e :: es) X.env = (false, eval e X.env) :: starEach es X.env := by rfl) (hpl : (backTo pos (starEach es X.env)).any (·.1) = false := by rfl) :
    PS X (.Raise (some (.Call (.Name x p) (e :: es) [] pos)) none pos2) (fun _ σ H => tMkO C sp [] ta σ H fun cls d G => W cls d σ G) :=
  ps_raise hc tk (pmk_oex T.o T.iC T.tI F hr b .nil (fun _ _ _ _ _ _ _ z => z.elim) hg T.gC he hdb hs hpl)
end
end HX

set_option Elab.async false
set_option linter.all false
set_option maxRecDepth 100000
set_option maxHeartbeats 2000000
namespace HX
open PySem PySem.Spec PyProof.Rows L2

/-! ### readings that reckon: a name, a test, operators by the values' kinds -/
def cV (i : Nat) : TE := fun σ H Q => match σ[i]? with
  | some (some v) => Q v H
  | _ => False
def cT (te : TE) : TT := fun σ H Q => te σ H fun x G => match x with
  | .bl k => Q k G
  | _ => False
def rI2 (C : Int → Int → Prop) (g : Int → Int → V) : R2 := fun x y H Q => match x, y with
  | .int i, .int j => C i j ∧ Q (g i j) H
  | _, _ => False
/-- one factor below 2 ^ 64, or both together below a million bits -/
def CMulU (i j : Int) : Prop := CMul i j ∨ CMulW i j
def rI1 (g : Int → Int → V) : R2 := fun x y H Q => match x, y with
  | .int i, .int j => Q (g i j) H
  | _, _ => False
def rAdd2 : R2 := fun x y H Q => match x, y with
  | .int i, .int j => Q (.int (i + j)) H
  | .str a, .str b => a.length + b.length ≤ sizeLine ∧ Q (.str (a ++ b)) H
  | _, _ => False
def eqD2 (K : PySem.W.Frag) (a b : Addr) (H : Hp) (Q : Bool → Prop) : Prop := ∃ d e, Dp K H (.ref a) d ∧ Dp K H (.ref b) e ∧ SeqAt.shaped d = true ∧ SeqAt.shaped e = true ∧ Q (PyData.eqv d e)
def rEq2 (K : PySem.W.Frag) (neg : Bool) : R2 := fun x y H Q => match x, y with
  | .int i, .int j => Q (.bl (xor neg (decide (i = j)))) H
  | .str i, .str j => Q (.bl (xor neg (decide (i = j)))) H
  | .bl i, .bl j => Q (.bl (xor neg (decide (i = j)))) H
  | .non, .non => Q (.bl (xor neg true)) H
  | .non, .int _ => Q (.bl neg) H
  | .int _, .non => Q (.bl neg) H
  | .non, .str _ => Q (.bl neg) H
  | .str _, .non => Q (.bl neg) H
  | .int _, .str _ => Q (.bl neg) H
  | .str _, .int _ => Q (.bl neg) H
  | .ref a, .ref b => eqD2 K a b H fun k => Q (.bl (xor neg k)) H
  | _, _ => False
def rOrd2 (g : Int → Int → Bool) (h : Str → Str → Bool) : R2 := fun x y H Q => match x, y with
  | .int i, .int j => Q (.bl (g i j)) H
  | .str i, .str j => Q (.bl (h i j)) H
  | _, _ => False
def rIs2 (neg : Bool) : R2 := fun x y H Q => match y with
  | .non => Q (.bl (xor neg (decide (x = .non)))) H
  | _ => False
/-- t[i]: of lists, tuples, texts, dicts with text keys -/
def rIx2 (K : PySem.W.Frag) : R2 := fun x y H Q => match x, y with
  | .ref p, .int i => ∃ xs v, (SqL K H p xs ∨ SqT K H p xs) ∧ atI xs i = some v ∧ Q v H
  | .str z, .int i => z.length ≤ sizeLine ∧ ∃ c, atI z.cps.toList i = some c ∧ Q (.str ⟨#[c]⟩) H
  | _, _ => False
section
variable {X : Cx} {a b e : Expr} {ta tb te : TE} {pos : Pos} {f : Value → Value → Sem Value}
theorem pc (i : Nat) {x : Str} (hN : X.N[i]? = some x := by rfl) (hv : Vis X.env.scope x := by first | exact Or.inl rfl | exact Or.inr (Or.inl rfl) | exact Or.inr (Or.inr rfl)) (hd : (x == ("__debug__" : Str)) = false := by decide)
    (hcd : (x == ("__classdict__" : Str)) = false := by decide) : PE X (.Name x pos) (cV i) := by
  refine ⟨fun pins s σ H Q I h => ?_⟩
  refine (pe_var hN hv hd hcd).run pins s σ H Q I ?_
  unfold cV at h
  split at h
  · rename_i v e
    exact ⟨v, e, h⟩
  · exact h.elim
theorem opC {C : Int → Int → Prop} {g : Int → Int → V} (h : OpR X f (rI C g)) : OpR X f (rI2 C g) := fun pins s σ H x y v u Q I rx ry q => by
  unfold rI2 at q
  split at q
  · exact h pins s σ H _ _ v u Q I rx ry ⟨_, _, rfl, rfl, q.1, q.2⟩
  · exact q.elim
theorem opC0 {g : Int → Int → V} (h : OpR X f (rI0 g)) : OpR X f (rI1 g) := fun pins s σ H x y v u Q I rx ry q => by
  unfold rI1 at q
  split at q
  · exact h pins s σ H _ _ v u Q I rx ry ⟨_, _, rfl, rfl, q⟩
  · exact q.elim
theorem o_add : OpR X (binaryOp .Add) rAdd2 := fun pins s σ H x y v u Q I rx ry q => by
  unfold rAdd2 at q
  split at q
  · exact op_add pins s σ H _ _ v u Q I rx ry ⟨_, _, rfl, rfl, q⟩
  · exact op_add_str pins s σ H _ _ v u Q I rx ry ⟨_, _, rfl, rfl, q.1, q.2⟩
  · exact q.elim
theorem o_sub : OpR X (binaryOp .Sub) (rI1 fun i j => .int (i - j)) := opC0 op_sub
theorem o_mul : OpR X (binaryOp .Mult) (rI2 CMulU fun i j => .int (i * j)) := fun pins s σ H x y v u Q I rx ry q => by
  unfold rI2 at q
  split at q
  · rcases q.1 with c | c
    · exact op_mul pins s σ H _ _ v u Q I rx ry ⟨_, _, rfl, rfl, c, q.2⟩
    · exact op_mulW pins s σ H _ _ v u Q I rx ry ⟨_, _, rfl, rfl, c, q.2⟩
  · exact q.elim
theorem o_fdiv : OpR X (binaryOp .FloorDiv) (rI2 CDivW fun i j => .int (i / j)) := opC op_fdivW
theorem o_mod : OpR X (binaryOp .Mod) (rI2 (fun _ j => 0 < j) fun i j => .int (i % j)) := opC op_mod
theorem o_pow : OpR X (binaryOp .Pow) (rI2 CPow fun i j => .int (i ^ j.toNat)) := opC op_pow
theorem o_lt : OpR X (compareOp .Lt) (rOrd2 (fun i j => decide (i < j)) fun i j => decide (i.cps.toList < j.cps.toList)) := fun pins s σ H x y v u Q I rx ry q => by
  unfold rOrd2 at q
  split at q
  · exact op_lt pins s σ H _ _ v u Q I rx ry ⟨_, _, rfl, rfl, q⟩
  · exact op_lt_str pins s σ H _ _ v u Q I rx ry ⟨_, _, rfl, rfl, q⟩
  · exact q.elim
theorem o_le : OpR X (compareOp .LtE) (rI1 fun i j => .bl (decide (i ≤ j))) := opC0 op_le
theorem o_gt : OpR X (compareOp .Gt) (rI1 fun i j => .bl (decide (j < i))) := opC0 op_gt
theorem o_ge : OpR X (compareOp .GtE) (rI1 fun i j => .bl (decide (j ≤ i))) := opC0 op_ge
theorem o_is : OpR X (compareOp .Is) (rIs2 false) := fun pins s σ H x y v u Q I rx ry q => by
  unfold rIs2 at q
  split at q
  · exact op_isN pins s σ H _ _ v u Q I rx ry ⟨rfl, by simpa using q⟩
  · exact q.elim
theorem o_isnot : OpR X (compareOp .IsNot) (rIs2 true) := fun pins s σ H x y v u Q I rx ry q => by
  unfold rIs2 at q
  split at q
  · exact op_notN pins s σ H _ _ v u Q I rx ry ⟨rfl, by simpa using q⟩
  · exact q.elim
theorem o_eq (hu : X.A.units + 64 < cLine) : OpR X (compareOp .Eq) (rEq2 X.K false) := fun pins s σ H x y v u Q I rx ry q => by
  unfold rEq2 at q
  split at q
  case h_11 =>
    obtain ⟨d, e, q1, q2, q3, q4, q5⟩ := q
    exact op_eqD hu pins s σ H _ _ v u Q I rx ry ⟨d, e, q1, q2, q3, q4, by simpa using q5⟩
  case h_12 => exact q.elim
  all_goals exact op_eq pins s σ H _ _ v u Q I rx ry ⟨rfl, by simpa [dec_int, dec_bl, dec_str] using q⟩
theorem o_ne (hu : X.A.units + 64 < cLine) : OpR X (compareOp .NotEq) (rEq2 X.K true) := fun pins s σ H x y v u Q I rx ry q => by
  unfold rEq2 at q
  split at q
  case h_11 =>
    obtain ⟨d, e, q1, q2, q3, q4, q5⟩ := q
    exact op_neD hu pins s σ H _ _ v u Q I rx ry ⟨d, e, q1, q2, q3, q4, by simpa using q5⟩
  case h_12 => exact q.elim
  all_goals exact op_ne pins s σ H _ _ v u Q I rx ry ⟨rfl, by simpa [dec_int, dec_bl, dec_str] using q⟩
theorem ix2 : IxR X (rIx2 X.K) := fun ve se pins s σ H x y v u Q I rx ry q hs => by
  unfold rIx2 at q
  split at q
  · obtain ⟨xs, w', z | z, h1, h2⟩ := q
    · exact ix_list ve se pins s σ H _ _ v u Q I rx ry ⟨_, xs, _, w', rfl, rfl, z, h1, h2⟩ hs
    · exact ix_tup ve se pins s σ H _ _ v u Q I rx ry ⟨_, xs, _, w', rfl, rfl, z, h1, h2⟩ hs
  · obtain ⟨h1, c, h2, h3⟩ := q
    exact ix_str ve se pins s σ H _ _ v u Q I rx ry ⟨_, _, c, rfl, rfl, h1, h2, h3⟩ hs
  · exact q.elim
theorem p_ix (ha : PE X a ta) (hb : PE X b tb) (hs : PlainIx b := by exact fun _ _ => rfl) : PE X (.Subscript a b pos) (tOp (rIx2 X.K) ta tb) := pe_ix ix2 ha hb hs
theorem p_cmp {op : CmpOp} {r : R2} (ho : OpR X (compareOp op) r) (ha : PE X a ta) (hb : PE X b tb) (hm : behindInMarks op b = false := by first | exact nomark _ | rfl) : PE X (.Compare a [op] [b] pos) (tOp r ta tb) := pe_cmpR ho ha hb hm
theorem tT_of {te : TE} {σ : L2.St} {H : Hp} {Q : Bool → Hp → Prop} (mono : ∀ {R R' : VK}, (∀ v G, R v G → R' v G) → te σ H R → te σ H R') (h : cT te σ H Q) : tTest te σ H Q :=
  mono (fun v G q => by
    split at q
    · exact ⟨_, rfl, q⟩
    · exact q.elim) h
/-- a value that is True or False as a test -/
theorem t_val (h : PE X e te) (he : ∀ whole, isTrue e X.env whole = (do let v ← whole; standAt e.pos; holding [v] (truthy v)) := by intro _; rfl) : PT X e (cT te) := by
  refine ⟨fun pins s σ H Q I hw => isTrue_plain (thn (h.run pins s σ H _ I hw) fun v s1 ⟨x, G, I1, r1, q1⟩ => ?_) (he _)⟩
  dsimp only at q1
  split at q1
  · cases r1
    exact wpAny_truthy_bool ⟨G, I1, q1⟩
  · exact q1.elim
theorem t_cmp {op : CmpOp} {r : R2} (ho : OpR X (compareOp op) r) (ha : PE X a ta) (hb : PE X b tb) (hm : behindInMarks op b = false := by first | exact nomark _ | rfl) : PT X (.Compare a [op] [b] pos) (cT (tOp r ta tb)) := by
  refine ⟨fun pins s σ H Q I h => wpAny_isTrue_Compare1 (thn (ha.run pins s σ H _ I h) fun v s1 ⟨x, H1, I1, r1, q1⟩ => thn (hb.run pins s1 σ H1 _ I1 q1) fun u s2 ⟨y, H2, I2, r2, q2⟩ =>
    thn (ho pins s2 σ H2 x y v u _ I2 r1 r2 q2) fun c s3 ⟨z, H3, I3, r3, q3⟩ => ?_) hm⟩
  dsimp only at q3
  split at q3
  · cases r3
    exact wpAny_truthy_bool ⟨H3, I3, q3⟩
  · exact q3.elim
/-! ### ways: each under its own answer -/
def cIfS (c : TT) (t u : TS) : TS := fun D σ H => c σ H fun b G => (b = true → t D σ G) ∧ (b = false → u D σ G)
theorem s_if {c : Expr} {p q : List Stmt} {tc : TT} {t u : TS} (hc : PT X c tc) (hp : PSs X p t) (hq : PSs X q u) : PS X (.If c p q pos) (cIfS tc t u) := by
  refine ⟨fun pins s σ H D I h => wpAny_If (thn (hc.run pins s σ H _ I h) fun d s1 ⟨G, I1, z⟩ => ?_)⟩
  cases d with
  | true => exact hp.run pins s1 σ G D I1 (z.1 rfl)
  | false => exact hq.run pins s1 σ G D I1 (z.2 rfl)
def cIfE (t : TT) (ta tb : TE) : TE := fun σ H Q => t σ H fun c G => (c = true → ta σ G Q) ∧ (c = false → tb σ G Q)
theorem e_if {c : Expr} {tc : TT} (hc : PT X c tc) (ha : PE X a ta) (hb : PE X b tb) : PE X (.IfExp c a b pos) (cIfE tc ta tb) := by
  refine ⟨fun pins s σ H Q I h => wpAny_IfExp (thn (hc.run pins s σ H _ I h) fun d s1 ⟨G, I1, z⟩ => ?_)⟩
  cases d with
  | true => exact ha.run pins s1 σ G Q I1 (z.1 rfl)
  | false => exact hb.run pins s1 σ G Q I1 (z.2 rfl)
def cAnd (t u : TT) : TT := fun σ H Q => t σ H fun c G => (c = true → u σ G Q) ∧ (c = false → Q false G)
def cOr (t u : TT) : TT := fun σ H Q => t σ H fun c G => (c = true → Q true G) ∧ (c = false → u σ G Q)
theorem w_and {rest : List Expr} {t u : TT} (ha : PT X a t) (hb : PW X (.BoolOp .And (b :: rest) pos) u) : PW X (.BoolOp .And (a :: b :: rest) pos) (cAnd t u) := by
  refine ⟨fun wh pins s σ H Q I h => isTrue_and (thn (ha.run pins s σ H _ I h) fun c s1 ⟨G, I1, z⟩ => ?_)⟩
  cases c with
  | true => exact hb.run wh pins s1 σ G Q I1 (z.1 rfl)
  | false => exact ⟨G, I1, z.2 rfl⟩
theorem w_or {rest : List Expr} {t u : TT} (ha : PT X a t) (hb : PW X (.BoolOp .Or (b :: rest) pos) u) : PW X (.BoolOp .Or (a :: b :: rest) pos) (cOr t u) := by
  refine ⟨fun wh pins s σ H Q I h => isTrue_or (thn (ha.run pins s σ H _ I h) fun c s1 ⟨G, I1, z⟩ => ?_)⟩
  cases c with
  | true => exact ⟨G, I1, z.1 rfl⟩
  | false => exact hb.run wh pins s1 σ G Q I1 (z.2 rfl)
/-- and, or, not as values, of True and False -/
def cAndV (ta tb : TE) : TE := fun σ H Q => ta σ H fun x G => match x with
  | .bl c => (c = true → tb σ G Q) ∧ (c = false → Q (.bl false) G)
  | _ => False
def cOrV (ta tb : TE) : TE := fun σ H Q => ta σ H fun x G => match x with
  | .bl c => (c = true → Q (.bl true) G) ∧ (c = false → tb σ G Q)
  | _ => False
def cNotV (ta : TE) : TE := fun σ H Q => ta σ H fun x G => match x with
  | .bl c => Q (.bl (!c)) G
  | _ => False
theorem e_and {rest : List Expr} (ha : PE X a ta) (hb : PE X (.BoolOp .And (b :: rest) pos) tb) : PE X (.BoolOp .And (a :: b :: rest) pos) (cAndV ta tb) := by
  refine ⟨fun pins s σ H Q I h => BoolOp_and (thn (ha.run pins s σ H _ I h) fun v s1 ⟨x, G, I1, r1, z⟩ => ?_)⟩
  dsimp only at z
  split at z
  · rename_i c
    cases r1
    refine wpAny_truthy_bool ?_
    cases c with
    | true => exact hb.run pins s1 σ G Q I1 (z.1 rfl)
    | false => exact ⟨.bl false, G, I1, rfl, z.2 rfl⟩
  · exact z.elim
theorem e_or {rest : List Expr} (ha : PE X a ta) (hb : PE X (.BoolOp .Or (b :: rest) pos) tb) : PE X (.BoolOp .Or (a :: b :: rest) pos) (cOrV ta tb) := by
  refine ⟨fun pins s σ H Q I h => BoolOp_or (thn (ha.run pins s σ H _ I h) fun v s1 ⟨x, G, I1, r1, z⟩ => ?_)⟩
  dsimp only at z
  split at z
  · rename_i c
    cases r1
    refine wpAny_truthy_bool ?_
    cases c with
    | false => exact hb.run pins s1 σ G Q I1 (z.2 rfl)
    | true => exact ⟨.bl true, G, I1, rfl, z.1 rfl⟩
  · exact z.elim
theorem e_not (ha : PE X a ta) : PE X (.UnaryOp .Not a pos) (cNotV ta) := by
  refine ⟨fun pins s σ H Q I h => UnaryOp_ (thn (ha.run pins s σ H _ I h) fun v s1 ⟨x, G, I1, r1, z⟩ => ?_)⟩
  dsimp only at z
  split at z
  · cases r1
    exact not_of (wpAny_truthy_bool ⟨.bl _, G, I1, rfl, z⟩)
  · exact z.elim
/-- a op b op' c, as a test, as a value -/
def cChain (r r' : R2) (ta tb tc : TE) : TE := fun σ H Q => ta σ H fun x H1 => tb σ H1 fun y H2 => r x y H2 fun z H3 => match z with
  | .bl k => (k = true → tc σ H3 fun u H4 => r' y u H4 Q) ∧ (k = false → Q (.bl false) H3)
  | _ => False
theorem t_chain {c : Expr} {tc : TE} {op op' : CmpOp} {r r' : R2} (ho : OpR X (compareOp op) r) (ho' : OpR X (compareOp op') r') (ha : PE X a ta) (hb : PE X b tb) (hc : PE X c tc)
    (hm : lastMarks [op, op'] [b, c] = false := by with_unfolding_all rfl) : PT X (.Compare a [op, op'] [b, c] pos) (cT (cChain r r' ta tb tc)) := by
  refine ⟨fun pins s σ H Q I h => isTrue_chain (thn (ha.run pins s σ H _ I h) fun v s1 ⟨x, H1, I1, r1, q1⟩ => test_link (thn (hb.run pins s1 σ H1 _ I1 q1) fun u s2 ⟨y, H2, I2, r2, q2⟩ =>
    thn (ho pins s2 σ H2 x y v u _ I2 r1 r2 q2) fun d s3 ⟨z, H3, I3, r3, q3⟩ => ?_)) hm⟩
  dsimp only at q3
  split at q3
  · rename_i k
    cases r3
    refine wpAny_truthy_bool ?_
    cases k with
    | false => exact ite_ff ⟨H3, I3, q3.2 rfl⟩
    | true =>
      refine ite_tt (test_last (thn (hc.run pins s3 σ H3 _ I3 (q3.1 rfl)) fun w4 s4 ⟨z4, H4, I4, r4, q4⟩ => thn (ho' pins s4 σ H4 y z4 u w4 _ I4 r2 r4 q4) fun d' s5 ⟨z5, H5, I5, r5, q5⟩ => ?_))
      dsimp only at q5
      split at q5
      · cases r5
        exact wpAny_truthy_bool ⟨H5, I5, q5⟩
      · exact q5.elim
  · exact q3.elim
theorem e_chain {c : Expr} {tc : TE} {op op' : CmpOp} {r r' : R2} (ho : OpR X (compareOp op) r) (ho' : OpR X (compareOp op') r') (ha : PE X a ta) (hb : PE X b tb) (hc : PE X c tc)
    (hm : lastMarks [op, op'] [b, c] = false := by with_unfolding_all rfl) : PE X (.Compare a [op, op'] [b, c] pos) (cChain r r' ta tb tc) := by
  refine ⟨fun pins s σ H Q I h => Compare_chain (thn (ha.run pins s σ H _ I h) fun v s1 ⟨x, H1, I1, r1, q1⟩ => chain_link (thn (hb.run pins s1 σ H1 _ I1 q1) fun u s2 ⟨y, H2, I2, r2, q2⟩ =>
    thn (ho pins s2 σ H2 x y v u _ I2 r1 r2 q2) fun d s3 ⟨z, H3, I3, r3, q3⟩ => ?_)) hm⟩
  dsimp only at q3
  split at q3
  · rename_i k
    cases r3
    refine wpAny_truthy_bool ?_
    cases k with
    | false => exact ite_ff ⟨.bl false, H3, I3, rfl, q3.2 rfl⟩
    | true => exact ite_tt (chain_last (thn (hc.run pins s3 σ H3 _ I3 (q3.1 rfl)) fun w4 s4 ⟨z4, H4, I4, r4, q4⟩ => ho' pins s4 σ H4 y z4 u w4 Q I4 r2 r4 q4))
  · exact q3.elim
/-- two statements with a word of one's own between them -/
def cCut (t u : TS) : TS := fun D σ H => ∃ M : L2.St → Hp → Prop, t { D with nx := M } σ H ∧ ∀ σ' G, M σ' G → u D σ' G
theorem s_cut {st : Stmt} {rest : List Stmt} {t u : TS} (h1 : PS X st t) (h2 : PSs X rest u) : PSs X (st :: rest) (cCut t u) := by
  refine ⟨fun pins s σ H D I ⟨M, h, k⟩ => wpAny_execs_cons (thn (h1.run pins s σ H { D with nx := M } I h) fun f s1 q => ?_)⟩
  match f, q with
  | .next, ⟨σ', G, I', q⟩ => exact h2.run pins s1 σ' G D I' (k σ' G q)
  | .ret v, q => exact q
  | .brk, q => exact q
  | .cont, q => exact q
theorem eqs {α : Type} [DecidableEq α] {a : α} {R : Bool → Prop} (h : R true) : R (xor false (decide (a = a))) := by
  rw [decide_eq_true rfl]
  exact h
end
end HX

set_option Elab.async false
set_option linter.all false
set_option maxRecDepth 100000
set_option maxHeartbeats 2000000
namespace HX
open PySem PySem.Spec PyProof.Rows L2

/-! ### the defs of the text, as their callers see them: by the module's name x -/
section
variable (P : Program) (w : World) (K : PySem.W.Frag) (mg : Str → Option Value) (base : Heap)
/-- raises nothing -/
def CalO (x : Str) (k : Nat) (ps : List Str) (sp : Sp) (B : FuncData → Prop) : Prop := ∃ (f : Addr) (fd : FuncData), FnOk P w K mg base CX0 k f fd ps sp ∧ mg x = some (.ref f) ∧ PySem.W.keepIn K (.ref f) = true ∧ Binds K fd ps [] ∧ B fd
/-- raises nothing, where nothing is being shown -/
def CalG (x : Str) (k : Nat) (ps : List Str) (sp : Sp) (B : FuncData → Prop) : Prop := ∃ (f : Addr) (fd : FuncData), FnG P w K mg base CX0 k f fd ps sp ∧ mg x = some (.ref f) ∧ PySem.W.keepIn K (.ref f) = true ∧ Binds K fd ps [] ∧ B fd
/-- may raise -/
def CalX (x : Str) (k : Nat) (ps : List Str) (sp : Sp) (B : FuncData → Prop) : Prop := ∃ (f : Addr) (fd : FuncData), FnOk P w K mg base (CX P w) k f fd ps sp ∧ mg x = some (.ref f) ∧ PySem.W.keepIn K (.ref f) = true ∧ Binds K fd ps [] ∧ B fd
end
section
variable {X : Cx} {k : Nat} {ps : List Str} {sp : Sp} {x : Str} {p pos : Pos} {e : Expr} {es : List Expr} {t tk' : TA} {W : WX} {B : FuncData → Prop} {ks : List Str} {kws : List Keyword} {g : List Value → List Value → List Value} {gV : List V → List V → List V}
theorem pe_cO (C : CalO X.prog X.w X.K X.mg X.base x k ps sp B) (hr : Room k X.A) (ha : PA X (e :: es) t) (hg : Gl X x := by rfl) (hdb : (x == ("__debug__" : Str)) = false := by decide)
    (he : starEach (e :: es) X.env = (false, eval e X.env) :: starEach es X.env := by rfl) (hpl : (backTo pos (starEach es X.env)).any (·.1) = false := by rfl) : PE X (.Call (.Name x p) (e :: es) [] pos) (tCall sp [] E0 t) := by
  obtain ⟨f, fd, F, hm, hk, hb, _⟩ := C
  exact pe_call F hr hg hm hk hb .nil pass0 ha hdb he hpl
theorem pe_cG (C : CalG X.prog X.w X.K X.mg X.base x k ps sp B) (gd : X.A.guards = some []) (hr : Room k X.A) (ha : PA X (e :: es) t) (hg : Gl X x := by rfl) (hdb : (x == ("__debug__" : Str)) = false := by decide)
    (he : starEach (e :: es) X.env = (false, eval e X.env) :: starEach es X.env := by rfl) (hpl : (backTo pos (starEach es X.env)).any (·.1) = false := by rfl) : PE X (.Call (.Name x p) (e :: es) [] pos) (tCall sp [] E0 t) := by
  obtain ⟨f, fd, F, hm, hk, hb, _⟩ := C
  exact pe_callG F gd hr hg hm hk hb .nil pass0 ha hdb he hpl
theorem pe_cX (C : CalX X.prog X.w X.K X.mg X.base x k ps sp B) (hr : Room k X.A) (tk : Takes X W) (ha : PA X (e :: es) t) (hg : Gl X x := by rfl) (hdb : (x == ("__debug__" : Str)) = false := by decide)
    (he : starEach (e :: es) X.env = (false, eval e X.env) :: starEach es X.env := by rfl) (hpl : (backTo pos (starEach es X.env)).any (·.1) = false := by rfl) : PE X (.Call (.Name x p) (e :: es) [] pos) (tCallS sp (WE W) t) := by
  obtain ⟨f, fd, F, hm, hk, hb, _⟩ := C
  exact pe_callS F hr hg hm hk hb (fun σ => passAt tk σ) ha hdb he hpl
end
/-! ### calls by keywords alone -/
section
variable {X : Cx} {k : Nat} {ps : List Str} {sp : Sp} {x : Str} {p pos : Pos} {t : TA} {W : WX} {B : FuncData → Prop} {ks : List Str} {kws : List Keyword} {g : List Value → List Value → List Value} {gV : List V → List V → List V} {CY : CXT} {f : Addr} {fd : FuncData} {E : XK}
theorem run_kw {pins : List (Addr × Obj)} {σ : L2.St} {H : Hp} {s : Shared} {Q : VK} {ws : List Value} {zs : List V} (F : FnOk X.prog X.w X.K X.mg X.base CY k f fd ps sp) (hr : Room k X.A) (hb : KBn X.K fd ps 0 ks g gV)
    (hx : ∀ e s', CY X.stack H s E e s' → X.xe e s') (I : Inv X pins σ H s) (rz : Vals zs ws) (l2 : zs.length = ks.length) (h : sp (gV [] zs) H Q E) : wpAny (model X.prog X.w) X.A (call (.ref f) [] (ks.zip ws)) (EP X pins σ Q) X.xe s := by
  have l3 : ws.length = ks.length := rz.length.symm.trans l2
  have run := F.run X.A X.stack s H ⟨[], ks.zip ws⟩ (g [] ws) (gV [] zs) Q E hr I.env0 (hb.to s [] ws I.kIn rfl l3) (hb.rel .nil rz) h
  refine wpAny_call (codeAny_mono run fun r s' q => ?_)
  match r, q with
  | .error e, q => exact hx e s' q
  | .ok (.ret u), q => exact I.after q
  | .ok .next, q => exact False.elim q
  | .ok .brk, q => exact False.elim q
  | .ok .cont, q => exact False.elim q
/-- f(k = e, ..) -/
def cKw (m : Nat) (sp : Sp) (gV : List V → List V → List V) (E : L2.St → XK) (t : TA) : TE := fun σ H Q => t σ H fun zs G => zs.length = m ∧ sp (gV [] zs) G Q (E σ)
theorem pe_kO (C : CalO X.prog X.w X.K X.mg X.base x k ps sp B) (hB : ∀ fd, B fd → KBn X.K fd ps 0 ks g gV) (hr : Room k X.A) (hkw : PK X kws t) (hg : Gl X x := by rfl)
    (hall : (backToKw pos (keywordEach kws X.env)).all (·.1.isSome) = true := by rfl) (hks : (backToKw pos (keywordEach kws X.env)).filterMap (·.1) = ks := by rfl) (hdb : (x == ("__debug__" : Str)) = false := by decide)
    (hpl : ((backTo pos (starEach [] X.env)).any (·.1) || (backToKw pos (keywordEach kws X.env)).any (·.1.isNone)) = false := by rfl) : PE X (.Call (.Name x p) [] kws pos) (cKw ks.length sp gV (fun _ => E0) t) := by
  obtain ⟨f, fd, F, hm, hk, _, hb⟩ := C
  refine ⟨fun pins s σ H Q I h => wpAny_Call_Name_kw (ld_glob I hg hm ?_ hdb)⟩
  refine PySem.W.callWith_KW0 (h₀ := X.base) I.ok.mod.kin hk hall (thn (hkw.run pos pins s σ H _ I h) fun ws s2 ⟨zs, G, I2, rz, l2, q⟩ => ⟨I2.kIn, ?_⟩) hpl
  rw [hks]
  exact run_kw F hr (hB fd hb) (fun _ _ z => z.elim) I2 rz l2 q
theorem pe_kX (C : CalX X.prog X.w X.K X.mg X.base x k ps sp B) (hB : ∀ fd, B fd → KBn X.K fd ps 0 ks g gV) (hr : Room k X.A) (tk : Takes X W) (hkw : PK X kws t) (hg : Gl X x := by rfl)
    (hall : (backToKw pos (keywordEach kws X.env)).all (·.1.isSome) = true := by rfl) (hks : (backToKw pos (keywordEach kws X.env)).filterMap (·.1) = ks := by rfl) (hdb : (x == ("__debug__" : Str)) = false := by decide)
    (hpl : ((backTo pos (starEach [] X.env)).any (·.1) || (backToKw pos (keywordEach kws X.env)).any (·.1.isNone)) = false := by rfl) : PE X (.Call (.Name x p) [] kws pos) (cKw ks.length sp gV (WE W) t) := by
  obtain ⟨f, fd, F, hm, hk, _, hb⟩ := C
  refine ⟨fun pins s σ H Q I h => wpAny_Call_Name_kw (ld_glob I hg hm ?_ hdb)⟩
  refine PySem.W.callWith_KW0 (h₀ := X.base) I.ok.mod.kin hk hall (thn (hkw.run pos pins s σ H _ I h) fun ws s2 ⟨zs, G, I2, rz, l2, q⟩ => ⟨I2.kIn, ?_⟩) hpl
  rw [hks]
  exact run_kw F hr (hB fd hb) (fun e s' c => passAt tk σ pins G s2 e s' I2 c) I2 rz l2 q
end
/-! ### built-ins by the values' kinds -/
section
variable {X : Cx}
def rInt2 : List V → Hp → VK → Prop := fun xs H Q => match xs with
  | [.int i] => Q (.int i) H
  | [.bl k] => Q (.int (if k then 1 else 0)) H
  | _ => False
theorem c_int : CallR X (.type "int") rInt2 := fun pins s σ H xs us Q I r q => by
  unfold rInt2 at q
  split at q
  · exact call_int1 pins s σ H _ us Q I r (.inl ⟨_, rfl, q⟩)
  · exact call_int1 pins s σ H _ us Q I r (.inr ⟨_, rfl, q⟩)
  · exact q.elim
def rAbs2 : List V → Hp → VK → Prop := fun xs H Q => match xs with
  | [.int i] => Q (.int (if i < 0 then -i else i)) H
  | _ => False
theorem c_abs : CallR X (.builtin "abs") rAbs2 := fun pins s σ H xs us Q I r q => by
  unfold rAbs2 at q
  split at q
  · exact call_abs pins s σ H _ us Q I r ⟨_, rfl, q⟩
  · exact q.elim
def rLen2 (K : PySem.W.Frag) : List V → Hp → VK → Prop := fun xs H Q => match xs with
  | [.str y] => y.length ≤ sizeLine ∧ Q (.int y.length) H
  | [.ref p] => ∃ ys : List V, (SqL K H p ys ∨ SqT K H p ys) ∧ Q (.int ys.length) H
  | _ => False
theorem c_len : CallR X (.builtin "len") (rLen2 X.K) := fun pins s σ H xs us Q I r q => by
  unfold rLen2 at q
  split at q
  · exact call_len pins s σ H _ us Q I r ⟨_, _, rfl, ⟨q.1, rfl⟩, q.2⟩
  · obtain ⟨ys, h | h, q⟩ := q
    · exact call_len pins s σ H _ us Q I r ⟨_, _, rfl, .inl ⟨ys, h, rfl⟩, q⟩
    · exact call_len pins s σ H _ us Q I r ⟨_, _, rfl, .inr ⟨ys, h, rfl⟩, q⟩
  · exact q.elim
/-- isinstance of plain values and own instances, and one class -/
def rIsi2 (K : PySem.W.Frag) : List V → Hp → VK → Prop := fun xs H Q => ∃ (x c : V) (t cv : Value) (b : Bool), xs = [x, c] ∧ TyOf K H x t ∧ (∀ u, RelV c u → u = cv) ∧ PySem.W.kitOne K t cv = some b ∧ Q (.bl b) H
theorem c_isi : CallR X (.builtin "isinstance") (rIsi2 X.K) := fun pins s σ H xs us Q I r q => by
  obtain ⟨x, c, t, cv, b, rfl, ty, hc, hk, q⟩ := q
  obtain ⟨u, u2, rfl, r1, r2⟩ := vals2 r
  have e2 := hc _ r2
  subst e2
  exact isinst_ok I r1 ty hk fun tk => ⟨.bl b, H, I.tok tk, rfl, q⟩
end
end HX

set_option Elab.async false
set_option linter.all false
set_option maxRecDepth 100000
set_option maxHeartbeats 2000000
namespace HX
open PySem PySem.Spec PyProof.Rows L2

/-! ### the pen: its cells at l, how many were begun, what is left of a great one -/
structure Pn (H : Hp) (p l : Addr) (ns : List Int) (c g : Int) : Prop where
  at_ : H p = some (.lst [.ref l, .int c, .int g])
  cel : H l = some (.lst (ns.map V.int))
  ne : l ≠ p
  c0 : 0 ≤ c
  g0 : 0 ≤ g
/-- all but p is as it was -/
def Kp (p : Addr) (H H' : Hp) : Prop := ∀ b o, b ≠ p → H b = some o → H' b = some o
/-- H without p -/
def Hd (p : Addr) (H : Hp) : Hp := fun b => if b = p then none else H b
theorem Hd.at_ {p b : Addr} {H : Hp} {o : HO} (n : b ≠ p) (e : H b = some o) : Hd p H b = some o := by unfold Hd; rw [if_neg n]; exact e
theorem Hd.un {p b : Addr} {H : Hp} {o : HO} (e : Hd p H b = some o) : b ≠ p ∧ H b = some o := by
  unfold Hd at e
  split at e
  · cases e
  · rename_i n
    exact ⟨n, e⟩
theorem Kp.hd {p : Addr} {H H' : Hp} (k : Kp p H H') : Same (Hd p H) (Hd p H') := fun b o e => Hd.at_ (Hd.un e).1 (k b o (Hd.un e).1 (Hd.un e).2)
theorem Hd.sub {p : Addr} {H : Hp} : Same (Hd p H) H := fun _ _ e => (Hd.un e).2
theorem Kp.refl {p : Addr} {H : Hp} : Kp p H H := fun _ _ _ e => e
theorem Kp.trans {p : Addr} {H H1 H2 : Hp} (a : Kp p H H1) (b : Kp p H1 H2) : Kp p H H2 := fun c o n e => b c o n (a c o n e)
theorem Kp.upd {p : Addr} {H H1 : Hp} {o : HO} (a : Kp p H H1) : Kp p H (L2.upd H1 p o) := fun c u n e => by rw [upd_ne n]; exact a c u n e
theorem Kp.new {p q : Addr} {H H1 : Hp} {o : HO} (a : Kp p H H1) (h : H1 q = none) : Kp p H (L2.upd H1 q o) := fun c u n e => by
  have z := a c u n e
  rw [upd_ne (ne_of_none z h)]
  exact z
theorem Kp.same {p : Addr} {H H1 : Hp} (a : Same H H1) : Kp p H H1 := fun c u _ e => a c u e
theorem Same.new {H H1 : Hp} {q : Addr} {o : HO} (a : Same H H1) (h : H1 q = none) : Same H (L2.upd H1 q o) := fun c u e => by
  have z := a c u e
  rw [upd_ne (ne_of_none z h)]
  exact z
theorem Same.mut {H H1 : Hp} {q : Addr} {o : HO} (a : Same H H1) (h : H q = none) : Same H (L2.upd H1 q o) := fun c u e => by
  rw [upd_ne (ne_of_none e h)]
  exact a c u e
theorem Kp.mut {p : Addr} {H H1 : Hp} {q : Addr} {o : HO} (a : Kp p H H1) (h : H q = none) : Kp p H (L2.upd H1 q o) := fun c u n e => by
  rw [upd_ne (ne_of_none e h)]
  exact a c u n e
theorem Kp.seq {K : PySem.W.Frag} {p a : Addr} {H H1 : Hp} {xs : List V} (k : Kp p H H1) (n : a ≠ p) (h : SqL K H a xs) : SqL K H1 a xs := by
  rcases h with (h | ⟨o, h⟩) | h
  · exact .inl (.inl (k _ _ n h))
  · exact .inl (.inr ⟨o, k _ _ n h⟩)
  · exact .inr h
theorem Kp.seqT {K : PySem.W.Frag} {p a : Addr} {H H1 : Hp} {xs : List V} (k : Kp p H H1) (n : a ≠ p) (h : SqT K H a xs) : SqT K H1 a xs := by
  rcases h with (h | ⟨o, h⟩) | h
  · exact .inl (.inl (k _ _ n h))
  · exact .inl (.inr ⟨o, k _ _ n h⟩)
  · exact .inr h
theorem Pn.put {H H1 : Hp} {p l : Addr} {ns : List Int} {c g c' g' : Int} (P : Pn H p l ns c g) (k : Kp p H H1) (hc : 0 ≤ c') (hg : 0 ≤ g') (e : H1 p = some (.lst [.ref l, .int c', .int g'])) : Pn H1 p l ns c' g' :=
  ⟨e, k _ _ P.ne P.cel, P.ne, hc, hg⟩
theorem Pn.same {H H1 : Hp} {p l : Addr} {ns : List Int} {c g : Int} (P : Pn H p l ns c g) (k : Same H H1) : Pn H1 p l ns c g := P.put (.same k) P.c0 P.g0 (k _ _ P.at_)
theorem Pn.new {H : Hp} {p l q : Addr} {ns : List Int} {c g : Int} {o : HO} (P : Pn H p l ns c g) (h : H q = none) : Pn (L2.upd H q o) p l ns c g := P.same (Same.new (Same.refl H) h)
/-- a pen at p, its cells at l, that has been asked c times at most -/
def Pe (H : Hp) (p l : Addr) (c : Int) : Prop := ∃ ns c0 g, Pn H p l ns c0 g ∧ c0 ≤ c
theorem Pe.mono {H : Hp} {p l : Addr} {c c' : Int} (P : Pe H p l c) (h : c ≤ c') : Pe H p l c' := let ⟨ns, c0, g, q, e⟩ := P; ⟨ns, c0, g, q, Int.le_trans e h⟩
theorem Pe.same {H H1 : Hp} {p l : Addr} {c : Int} (P : Pe H p l c) (k : Same H H1) : Pe H1 p l c := let ⟨ns, c0, g, q, e⟩ := P; ⟨ns, c0, g, q.same k, e⟩
theorem Pe.new {H : Hp} {p l q : Addr} {c : Int} {o : HO} (P : Pe H p l c) (h : H q = none) : Pe (L2.upd H q o) p l c := P.same (Same.new (Same.refl H) h)
theorem Pe.atP {H : Hp} {p l : Addr} {c : Int} (P : Pe H p l c) : ∃ o, H p = some o := let ⟨_, _, _, q, _⟩ := P; ⟨_, q.at_⟩
theorem Pe.atL {H : Hp} {p l : Addr} {c : Int} (P : Pe H p l c) : ∃ o, H l = some o := let ⟨_, _, _, q, _⟩ := P; ⟨_, q.cel⟩
theorem Pe.ne {H : Hp} {p l q : Addr} {c : Int} (P : Pe H p l c) (h : H q = none) : q ≠ p := let ⟨_, e⟩ := P.atP; Ne.symm (ne_of_none e h)
theorem Pe.neL {H : Hp} {p l q : Addr} {c : Int} (P : Pe H p l c) (h : H q = none) : q ≠ l := let ⟨_, e⟩ := P.atL; Ne.symm (ne_of_none e h)
theorem Pe.mut {H : Hp} {p l q : Addr} {c : Int} {o : HO} (P : Pe H p l c) (h : q ≠ p) (h2 : q ≠ l) : Pe (L2.upd H q o) p l c := by
  obtain ⟨ns, c0, g, q0, e⟩ := P
  exact ⟨ns, c0, g, ⟨by rw [upd_ne (Ne.symm h)]; exact q0.at_, by rw [upd_ne (Ne.symm h2)]; exact q0.cel, q0.ne, q0.c0, q0.g0⟩, e⟩
/-- an object that the pen isn't: it is no list of a list and two numbers -/
theorem Pe.ne2 {H : Hp} {p l a : Addr} {c : Int} {o : HO} (P : Pe H p l c) (h : H a = some o) (n : ∀ l c g, o ≠ .lst [.ref l, .int c, .int g]) : a ≠ p := by
  obtain ⟨ns, c0, g, q, _⟩ := P
  exact ne_of h q.at_ (n _ _ _)

/-! ### what the draws promise -/
def spPen (K : PySem.W.Frag) : Sp := fun vs H Q _ => ∃ (a : Addr) (ns : List Int), vs = [.ref a] ∧ SqL K H a (ns.map V.int) ∧ ∀ (p l : Addr) (H' : Hp), H p = none → Same H H' → Pe H' p l 0 → Q (.ref p) H'
def spDraw : Sp := fun vs H Q _ => ∃ (p l : Addr) (c many : Int), vs = [.ref p, .int many] ∧ Pe H p l c ∧ 0 < many ∧ many.natAbs < 2 ^ 250 ∧ c < 1000000 ∧
  ∀ (r : Int) (H' : Hp), 0 ≤ r → r < many → Kp p H H' → Pe H' p l (c + 1) → Q (.int r) H'
/-- one of a text's signs, of a list's or a tuple's items -/
def spPick (K : PySem.W.Frag) : Sp := fun vs H Q _ => ∃ (p l : Addr) (c : Int) (x : V), vs = [.ref p, x] ∧ Pe H p l c ∧ c < 1000000 ∧
  ((∃ z : Str, x = .str z ∧ 0 < z.length ∧ z.length ≤ 1000000 ∧ ∀ (ch : Nat) (H' : Hp), ch ∈ z.cps.toList → Kp p H H' → Pe H' p l (c + 1) → Q (.str ⟨#[ch]⟩) H') ∨
    ∃ (a : Addr) (xs : List V), x = .ref a ∧ a ≠ p ∧ (SqL K H a xs ∨ SqT K H a xs) ∧ 0 < xs.length ∧ xs.length ≤ 1000000 ∧ ∀ (v : V) (H' : Hp), v ∈ xs → Kp p H H' → Pe H' p l (c + 1) → Q v H')

theorem mul_lt {a b x y : Int} (h0 : 0 ≤ x) (h1 : x < a) (h2 : 0 ≤ y) (h3 : y < b) : x * y < a * b := by
  have z1 : x * y ≤ x * b := Int.mul_le_mul_of_nonneg_left (by omega) h0
  have z2 : x * b ≤ (a - 1) * b := Int.mul_le_mul_of_nonneg_right (by omega) (by omega)
  have z3 : (a - 1) * b = a * b - b := by rw [Int.sub_mul]; omega
  omega
theorem dp_ints {K : PySem.W.Frag} {H : Hp} : ∀ ns : List Int, DpAll K H (ns.map V.int) (ns.map PyData.int)
  | [] => .nil
  | n :: ns => .cons (.int n) (dp_ints ns)
theorem can_ints : ∀ ns : List Int, PyData.canLayAll0 (ns.map PyData.int) = true
  | [] => rfl
  | n :: ns => by
    rw [List.map_cons, PyData.canLayAll0, PyData.canLay0, can_ints ns]
    rfl
theorem depth_ints : ∀ ns : List Int, PyData.depthAll (ns.map PyData.int) = 0
  | [] => by simp [PyData.depthAll]
  | n :: ns => by
    have := depth_ints ns
    simp [PyData.depthAll, PyData.depth, this]
theorem shaped_ints (ns : List Int) : SeqAt.shaped (.list (ns.map PyData.int)) = true := by
  unfold SeqAt.shaped
  rw [PyData.canLay0, can_ints, PyData.depth, depth_ints]
  rfl
theorem at_mod {ns : List Int} (c : Int) (h : 0 < (ns.length : Int)) : ∃ z, atI (ns.map V.int) (c % ns.length) = some (.int z) := by
  have h0 := Int.emod_nonneg c (b := (ns.length : Int)) (by omega)
  have h1 := Int.emod_lt_of_pos c h
  obtain ⟨j, hj⟩ : ∃ j : Nat, c % ns.length = (j : Int) := ⟨(c % ns.length).toNat, by omega⟩
  have hlt : j < ns.length := by omega
  refine ⟨ns[j], ?_⟩
  rw [hj]
  exact atI_nat (by rw [List.getElem?_map, List.getElem?_eq_getElem hlt]; rfl)
theorem at_in {α : Type} {xs : List α} {r : Int} (h0 : 0 ≤ r) (h1 : r < xs.length) : ∃ v, atI xs r = some v ∧ v ∈ xs := by
  obtain ⟨j, rfl⟩ : ∃ j : Nat, r = (j : Int) := ⟨r.toNat, by omega⟩
  have hlt : j < xs.length := by omega
  exact ⟨xs[j], atI_nat (List.getElem?_eq_getElem hlt), List.getElem_mem hlt⟩
theorem small_bits {n : Nat} (h : n ≤ 1000000) : (n : Int).natAbs < 2 ^ 250 := Nat.lt_of_le_of_lt (show (n : Int).natAbs ≤ 1000000 by omega) (by decide)
theorem cut_ints (ns : List Int) (lo hi : Option Int) : ∃ ms : List Int, cutV (ns.map V.int) lo hi = ms.map V.int := by
  unfold cutV
  exact ⟨_, by rw [← List.map_drop, ← List.map_take]⟩
theorem size_line_big : 1000000 ≤ sizeLine := by rw [sizeLine_eq]; decide
/-! ### letters -/
def abc : List Nat := ("abcdefghijklmnopqrstuvwxyz" : Str).cps.toList
theorem tl_join1 {a : Str} (ha : TL.tl a = []) : ∀ cs : List Nat, (Txt.join a (cs.map fun c => (⟨#[c]⟩ : Str))).cps.toList = cs := fun cs => by
  show TL.tl _ = cs
  rw [TL.join_eq, TL.tl_join, ha]
  induction cs with
  | nil => rfl
  | cons c cs ih =>
    cases cs with
    | nil => rfl
    | cons d cs =>
      rw [List.map_cons, List.map_cons, List.map_cons, List.map_cons, TL.joinL]
      rw [List.map_cons, List.map_cons] at ih
      rw [ih]
      rfl
def spLetters : Sp := fun vs H Q _ => ∃ (p l : Addr) (c n : Int), vs = [.ref p, .int n] ∧ Pe H p l c ∧ 0 ≤ n ∧ n ≤ 1000 ∧ c + n < 1000000 ∧
  ∀ (z : Str) (H' : Hp), (z.length : Int) = n → (∀ ch ∈ z.cps.toList, ch ∈ abc) → Kp p H H' → Pe H' p l (c + n) → Q (.str z) H'
/-! ### a module's constants -/
theorem p_gs {X : Cx} {x z : Str} {pos : Pos} (h : ∃ t, X.mg x = some (.str z t)) (hg : Gl X x := by rfl) (hd : (x == ("__debug__" : Str)) = false := by decide) : PE X (.Name x pos) (tC (.str z)) := by
  obtain ⟨t, h⟩ := h
  exact pe_glob hg h ⟨t, rfl⟩ hd
theorem p_gi {X : Cx} {x : Str} {i : Int} {pos : Pos} (h : ∃ t, X.mg x = some (.int i t)) (hg : Gl X x := by rfl) (hd : (x == ("__debug__" : Str)) = false := by decide) : PE X (.Name x pos) (tC (.int i)) := by
  obtain ⟨t, h⟩ := h
  exact pe_glob hg h ⟨t, rfl⟩ hd
theorem p_gc {X : Cx} {x : Str} {C : Addr} {pos : Pos} (h : X.mg x = some (.ref C)) (hg : Gl X x := by rfl) (hd : (x == ("__debug__" : Str)) = false := by decide) : PE X (.Name x pos) (tC (.ref C)) := pe_glob hg h rfl hd
/-! ### own error classes, as the text that raises them sees them -/
def ErrC (P : Program) (w : World) (K : PySem.W.Frag) (mg : Str → Option Value) (base : Heap) (x : Str) (C : Addr) (ps : List Str) (sp : Sp) : Prop :=
  ∃ (fI : Addr) (fd : FuncData), RxC K mg x C fI ∧ FnOk P w K mg base CX0 1 fI fd ps sp ∧ Binds K fd ps []
theorem ps_rz {X : Cx} {x : Str} {C : Addr} {ps : List Str} {sp : Sp} {e : Expr} {es : List Expr} {ta : TA} {W : WX} {p pos pos2 : Pos} (Z : ErrC X.prog X.w X.K X.mg X.base x C ps sp) (hc : X.calm = true) (hr : Room 2 X.A) (tk : Takes X W) (he : PA X (e :: es) ta)
    (hg : Gl X x := by rfl) (hdb : (x == ("__debug__" : Str)) = false := by decide) (hs : starEach (e :: es) X.env = (false, eval e X.env) :: starEach es X.env := by rfl) (hpl : (backTo pos (starEach es X.env)).any (·.1) = false := by rfl) :
    PS X (.Raise (some (.Call (.Name x p) (e :: es) [] pos)) none pos2) (fun _ σ H => tMkO C sp [] ta σ H fun cls d G => W cls d σ G) := by
  obtain ⟨fI, fd, T, F, b⟩ := Z
  exact ps_raiseO hc T F b hr tk he hg hdb hs hpl
/-! ### names -/
def isStrD : PyData → Bool
  | .str _ => true
  | _ => false
theorem Da.isStr {K : PySem.W.Frag} {H : Hp} {x : V} {d : PyData} (h : Da H x d) : ∃ t, TyOf K H x t ∧ PySem.W.kitOne K t (.type "str") = some (isStrD d) := by
  cases h with
  | non => exact ⟨_, .non, kit_ty (by show kitB _ _ = some false; decide +kernel)⟩
  | bl b => exact ⟨_, .bl b, kit_ty (by show kitB _ _ = some false; decide +kernel)⟩
  | int i => exact ⟨_, .int i, kit_ty (by show kitB _ _ = some false; decide +kernel)⟩
  | str x => exact ⟨_, .str x, kit_ty (by show kitB _ _ = some true; decide +kernel)⟩
  | lst e _ => exact ⟨_, .lst e, kit_ty (by show kitB _ _ = some false; decide +kernel)⟩
  | tup e _ => exact ⟨_, .tup e, kit_ty (by show kitB _ _ = some false; decide +kernel)⟩
  | dic e _ => exact ⟨_, .dK e, kit_ty (by show kitB _ _ = some false; decide +kernel)⟩
def nameS (z : Str) : Bool := decide (1 ≤ z.length) && (decide (z.length ≤ 8) && z.cps.toList.all fun c => decide (c ∈ abc))
def nameD : PyData → Bool
  | .str z => nameS z
  | _ => false
def shortD : PyData → Prop
  | .str z => z.length ≤ 1000000
  | _ => True
def spIsName : Sp := fun vs H Q _ => ∃ (x : V) (d : PyData), vs = [x] ∧ Da H x d ∧ shortD d ∧ ∀ H', Same H H' → Q (.bl (nameD d)) H'
def spNeedName (C : Addr) : Sp := fun vs H Q E => ∃ (x : V) (d : PyData), vs = [x] ∧ Da H x d ∧ shortD d ∧ (nameD d = true → ∀ H', Same H H' → Q .non H') ∧
  (nameD d = false → ∀ H' dd, Same H H' → H dd = none → H' dd = some (.xd [("value", x)]) → E (.ref C) (some dd) H')
theorem isStr_str {d : PyData} (h : isStrD d = true) : ∃ z, d = .str z := by
  cases d <;> first | exact ⟨_, rfl⟩ | cases h
theorem nameD_not {d : PyData} (h : isStrD d = false) : nameD d = false := by
  cases d <;> first | rfl | cases h
theorem abc_lt {c : Nat} (h : c ∈ abc) : c < 200 := by
  have e : (abc.all fun c => decide (c < 200)) = true := by decide +kernel
  exact of_decide_eq_true (List.all_eq_true.mp e c h)
theorem nameS_true {z : Str} (h1 : 1 ≤ z.length) (h2 : z.length ≤ 8) (h3 : ∀ c ∈ z.cps.toList, c ∈ abc) : nameS z = true := by
  unfold nameS
  rw [decide_eq_true h1, decide_eq_true h2]
  simp only [Bool.true_and]
  rw [List.all_eq_true]
  exact fun c hc => decide_eq_true (h3 c hc)
theorem nameS_false {z : Str} (h : z.length = 0 ∨ 8 < z.length ∨ ∃ c ∈ z.cps.toList, c ∉ abc) : nameS z = false := by
  cases e : nameS z with
  | false => rfl
  | true =>
    unfold nameS at e
    simp only [Bool.and_eq_true, decide_eq_true_eq] at e
    obtain ⟨e1, e2, e3⟩ := e
    rcases h with h | h | ⟨c, hc, h⟩
    · omega
    · omega
    · exact absurd (of_decide_eq_true (List.all_eq_true.mp e3 c hc)) h
theorem cutS_sub (z : Str) (lo hi : Option Int) : (cutS z lo hi).length ≤ z.length ∧ ∀ c ∈ (cutS z lo hi).cps.toList, c ∈ z.cps.toList :=
  ⟨cutS_length z lo hi, fun c hc => List.mem_of_mem_drop (List.mem_of_mem_take hc)⟩
/-- a short text of small signs -/
def OkS (z : Str) : Prop := z.length ≤ 200 ∧ ∀ c ∈ z.cps.toList, c < 200
theorem OkS.app {x y : Str} (hx : OkS x) (hy : OkS y) (h : x.length + y.length ≤ 200) : OkS (x ++ y) :=
  ⟨by rw [Str.length_append]; exact h, fun c hc => by
    have e : c ∈ TL.tl x ++ TL.tl y := by rw [← TL.tl_append]; exact hc
    exact (List.mem_append.mp e).elim (hx.2 c) (hy.2 c)⟩
theorem OkS.sub {x y : Str} (hx : OkS x) (h1 : y.length ≤ x.length) (h2 : ∀ c ∈ y.cps.toList, c ∈ x.cps.toList) : OkS y := ⟨Nat.le_trans h1 hx.1, fun c hc => hx.2 c (h2 c hc)⟩
theorem mem_appL {x y : Str} {c : Nat} (h : c ∈ x.cps.toList) : c ∈ (x ++ y).cps.toList := by
  show c ∈ TL.tl (x ++ y)
  rw [TL.tl_append]
  exact List.mem_append_left _ h
theorem mem_appR {x y : Str} {c : Nat} (h : c ∈ y.cps.toList) : c ∈ (x ++ y).cps.toList := by
  show c ∈ TL.tl (x ++ y)
  rw [TL.tl_append]
  exact List.mem_append_right _ h
theorem okS_one {c : Nat} (h : c < 200) : OkS ⟨#[c]⟩ := ⟨by show 1 ≤ 200; decide, fun x hx => by rw [List.mem_singleton.mp hx]; exact h⟩
theorem len_tl (z : Str) : z.length = z.cps.toList.length := by simp [Str.length]
end HX

set_option Elab.async false
set_option linter.all false
set_option maxRecDepth 100000
set_option maxHeartbeats 2000000
namespace PySem
namespace HXK
open Builtin Builtin.ObjectAttr HandSPX

/-! ### an own exception made by keywords alone: C(k = e, ..) -/
section
variable {M : Model} {prog : Program} {w : World} {A : Around} {E : Value → Shared → Prop} {R : Result → Shared → Prop} {h : Heap} {g : Array GenState} {dr : Drawn} {tk : Nat} {os : OsState}
variable {nm q : Str} {C N fI : Addr} {bs bm bB : List Value} {sn : List Str} {sub : List Value} {ab : Bool} {col : Option Bool} {dd : Option Addr} {k0 k1 k2 k3 k5 : Option Value} {B nI iI : String} {kw : List (Str × Value)}
theorem kwx_check (Fx : ExcBaseFacts B nI iI bB) (hT : ∀ X : String, bm.contains (.type X) = bB.contains (.type X)) {Q : Unit → Shared → Prop}
    (hC : h.get? C = some (excClassObj nm q C N bs bm true sn sub ab col dd k0 k1 k2 k3 k5 nI)) (hkw : kw.length ≤ 2) (z : Q () ⟨h, g, dr, tk, os⟩) : wpAny M A (checkBuiltinCall nI ⟨[.ref C], kw⟩) Q E ⟨h, g, dr, tk, os⟩ := by
  have c1 : (Value.ref C :: bm).contains (.type B) = true := by rw [List.contains_cons, hT, Fx.hasB, Bool.or_true]
  have st := Fx.noStar
  simp only [checkBuiltinCall, Fx.newKind, Fx.newSplit, Fx.newRow]
  repeat (first | refine wpAny_loadPart_at hC ?_ | (refine wpAny_isSubtype_exc hC ?_; rw [c1]) | refine wpAny_staticBase_exc hC ?_ | refine wpAny_madeBy_exc hC ?_ | simp only [bne_self_eq_false, Bool.false_eq_true, if_false] | wp_step)
  exact z
theorem kwx_new (Fx : ExcBaseFacts B nI iI bB) (hT : ∀ X : String, bm.contains (.type X) = bB.contains (.type X))
    (hC : h.get? C = some (excClassObj nm q C N bs bm true sn sub ab col dd k0 k1 k2 k3 k5 nI))
    (z : R (.ok (.ret (.ref (h.objs.size + 1)))) ⟨(h.push (PySem.W.kdv_tup [])).push (excO C h.objs.size), g, dr, tk, os⟩) :
    codeAny (model prog w) A (.builtin nI ⟨[.ref C], kw⟩) R ⟨h, g, dr, tk, os⟩ := by
  have ends := Fx.ends
  have c1 : (Value.ref C :: bm).contains (.type B) = true := by rw [List.contains_cons, hT, Fx.hasB, Bool.or_true]
  have c2 : (Value.ref C :: bm).contains (.type "AttributeError") = false := by rw [List.contains_cons, hT, Fx.noAttr]; rfl
  have c3 : (Value.ref C :: bm).contains (.type "NameError") = false := by rw [List.contains_cons, hT, Fx.noName]; rfl
  have hrest : ([] : List Value).length ≤ sizeLine := Nat.zero_le _
  refine codeAny_builtinAt Fx.entry ?_
  unfold Builtin.«BaseException.__new__»
  refine wpAt_bind ?_
  show wpAt _ _ _ (stack >>= _) _ _ _
  refine wpAt_bind (wpAt_stack fun p below => wpAt_of_wpAny ?_)
  wp_walk
  refine wpAt_of_wpAny ?_
  rw [Fx.owner]
  repeat (first | with_reducible refine wpAny_madeHere_exc Fx.canon hC ?_ | with_reducible refine wpAny_loadPart_at hC ?_ | (with_reducible refine wpAny_isSubtype_exc hC ?_; first | rw [c1] | rw [c2] | rw [c3]) | wp_step)
  show R _ _
  rw [Heap.size_push]
  exact z
theorem kwx_type (Fx : ExcBaseFacts B nI iI bB) (hT : ∀ X : String, bm.contains (.type X) = bB.contains (.type X)) {Q : Fin → Shared → Prop} (hl : kw.length ≤ 2)
    (hC : h.get? C = some (excClassObj nm q C N bs bm true sn sub ab col dd k0 k1 k2 k3 k5 nI))
    (i0 : PySem.W.Looks (model prog w) h (typeLookup (.ref C) "__init__") (some (.ref fI))) (b0 : ∀ self, PySem.W.Looks (model prog w) h (bindSpecial (.ref fI) self) (.ref fI, [self]))
    (z : codeAny (model prog w) A (.call (.ref fI) ⟨[.ref (h.objs.size + 1)], kw⟩)
      (fun r s' => match r with | .ok (.ret v) => v = .none ∧ Q (.done (.ret (.ref (h.objs.size + 1)))) s' | .ok _ => False | .error e => E e s')
      ⟨(h.push (PySem.W.kdv_tup [])).push (excO C h.objs.size), g, dr, tk, os⟩) :
    wpAny (model prog w) A (Builtin.«type.__call__» ⟨[.ref C], kw⟩) Q E ⟨h, g, dr, tk, os⟩ := by
  repeat (first | with_reducible refine wpAny_loadPart_at hC ?_ | with_reducible refine wpAny_madeBy_exc hC ?_ | wp_step)
  refine codeAny_call_builtin_code (Code.quiet_builtin _ Fx.quiet) (kwx_check Fx hT hC hl ?_)
  refine kwx_new Fx hT hC ?_
  show wpAny _ _ _ _ _ _
  have old : ∀ b o, h.get? b = some o → ((h.push (PySem.W.kdv_tup [])).push (excO C h.objs.size)).get? b = some o := fun b o e => Heap.get?_push_of_some _ (Heap.get?_push_of_some _ e)
  have hC1 := old _ _ hC
  have hx : ((h.push (PySem.W.kdv_tup [])).push (excO C h.objs.size)).get? (h.objs.size + 1) = some (excO C h.objs.size) := by heap_get
  have own : (Value.ref C :: bm).contains (.ref C) = true := by simp
  have i1 := i0.keeps old
  have b1 := (b0 (.ref (h.objs.size + 1))).keeps old
  unfold isInstance
  repeat (first | with_reducible refine wpAny_loadPart_at hx ?_ | (with_reducible refine wpAny_isSubtype_exc hC1 ?_; rw [own]) | wp_step)
  show wpAny _ _ (typeLookup (.ref C) _) _ _ _
  refine i1.at ?_
  refine wpAny_holding (wpAny_bind (b1.at ?_))
  refine wpAny_bind (wpAny_call (codeAny_mono z fun r s' z => ?_))
  rcases r with e | (v | _ | _ | _) <;> first | exact z | exact z.elim | skip
  obtain ⟨rfl, z⟩ := z
  first
    | exact wpAny_pure (wpAny_pure z)
    | (wp_walk; exact z)
theorem kwx_tc {Q : Unit → Shared → Prop} (hl : kw.length ≤ 2) (hC : h.get? C = some (excClassObj nm q C N bs bm true sn sub ab col dd k0 k1 k2 k3 k5 nI))
    (z : Q () ⟨h, g, dr, tk, os⟩) : wpAny M A (checkBuiltinCall "type.__call__" ⟨[.ref C], kw⟩) Q E ⟨h, g, dr, tk, os⟩ := by
  have f3 := tc_sub
  have ty : (⟨h, g, dr, tk, os⟩ : Shared).TypeIs (.ref C) "type" := ⟨_, hC, rfl⟩
  simp only [checkBuiltinCall, tc_kind, tc_split]
  repeat (any_goals (first | assumption | with_reducible refine wpAny_loadPart_at hC ?_ | with_reducible refine wpAny_onRaise ?_ | with_reducible refine wpAny_map ?_ | wp_step))
theorem kwx_call (Fx : ExcBaseFacts B nI iI bB) (hT : ∀ X : String, bm.contains (.type X) = bB.contains (.type X)) (hl : kw.length ≤ 2)
    (hC : h.get? C = some (excClassObj nm q C N bs bm true sn sub ab col dd k0 k1 k2 k3 k5 nI))
    (i0 : PySem.W.Looks (model prog w) h (typeLookup (.ref C) "__init__") (some (.ref fI))) (b0 : ∀ self, PySem.W.Looks (model prog w) h (bindSpecial (.ref fI) self) (.ref fI, [self]))
    (z : codeAny (model prog w) (A.under (.builtin "type.__call__" ⟨[.ref C], kw⟩)) (.call (.ref fI) ⟨[.ref (h.objs.size + 1)], kw⟩) (PySem.W.InitBack (h.objs.size + 1) R)
      ⟨(h.push (PySem.W.kdv_tup [])).push (excO C h.objs.size), g, dr, tk, os⟩) :
    codeAny (model prog w) A (.call (.ref C) ⟨[], kw⟩) R ⟨h, g, dr, tk, os⟩ := by
  have f1 := tc_lookup
  have f2 := tc_bind (.ref C)
  have ty : (⟨h, g, dr, tk, os⟩ : Shared).TypeIs (.ref C) "type" := ⟨_, hC, rfl⟩
  refine codeAny_of_tree ?_
  show wpAny _ _ (callAny (.ref C) _) _ _ _
  repeat (any_goals (first | assumption | with_reducible refine wpAny_loadPart_at hC ?_ | wp_step))
  refine ⟨rfl, ?_⟩
  refine codeAny_call_builtin_at (Code.quiet_builtin _ (by decide +kernel)) entry_typeCall (kwx_tc hl hC (kwx_type Fx hT hl hC i0 b0 ?_))
  refine codeAny_mono z fun r s' z => ?_
  rcases r with e | (v | _ | _ | _) <;> exact z
end
end HXK
end PySem

set_option Elab.async false
set_option linter.all false
set_option maxRecDepth 100000
set_option maxHeartbeats 2000000
namespace HX
open PySem PySem.Spec PyProof.Rows L2

/-! ### an own exception as a value: at e, of the class at C, its fields fs -/
def Er (H : Hp) (e C : Addr) (fs : List (Str × V)) : Prop := ∃ od : Option Addr, H e = some (exT e (.ref C) od) ∧ ((∃ d, od = some d ∧ H d = some (.xd fs)) ∨ (od = none ∧ fs = []))
theorem Er.mo {H H' : Hp} {e C : Addr} {fs : List (Str × V)} (m : Same H H') : Er H e C fs → Er H' e C fs
  | ⟨od, h, q⟩ => ⟨od, m _ _ h, q.elim (fun ⟨d, a, b⟩ => .inl ⟨d, a, m _ _ b⟩) .inr⟩
section
variable {X : Cx} {x f g : Str} {C fI : Addr} {fd : FuncData} {k : Nat} {e e1 e2 : Expr} {es : List Expr} {te te1 te2 : TE} {ta : TA} {p pos : Pos} {ps : List Str} {sp : Sp}
/-- what the maker's end gives the value's reader -/
def QV (H1 : Hp) (C a : Addr) (Q : VK) : VK := fun v H2 => v = .non ∧ ∃ d fs, H2 a = some (exo a C (some d)) ∧ H2 d = some (exd d fs) ∧ H1 d = none ∧ Q (.ref a) (upd (upd (del H2 a) d (.xd fs)) a (exT a (.ref C) (some d)))
theorem end_xv {pins : List (Addr × Obj)} {σ : L2.St} {H1 H2 : Hp} {Q : VK} {hp hp2 h2 : Heap} {g1 g2 : Array GenState} {d1 d2 : Drawn} {t1 t2 : Nat} {os1 os2 : OsState} {a C d : Addr} {fs : List (Str × V)} (I1 : Inv X pins σ H1 ⟨hp, g1, d1, t1, os1⟩)
    (ha : hp.objs.size ≤ a) (k : ∀ b o, hp.get? b = some o → hp2.get? b = some o) (un : Un (frs X.stack) [] (upd H1 a (exo a C none)) H2 hp2 h2) (hok : HOk X.prog X.w H2 h2) (ho : os2 = os1) (hb : AllBare g2)
    (ea : H2 a = some (exo a C (some d))) (ed : H2 d = some (exd d fs)) (hd1 : H1 d = none) (q : Q (.ref a) (upd (upd (del H2 a) d (.xd fs)) a (exT a (.ref C) (some d)))) : EP X pins σ Q (.ref a) ⟨h2, g2, d2, t2, os2⟩ := by
  obtain ⟨t0, G, J, kG, ge, hoe, na⟩ := mk_end0 (d2 := d2) (t2 := t2) I1 ha k un hok ho hb ea ed hd1
  exact ⟨.ref a, _, J.laidN (t' := t2) kG ge na (exT_ok hoe ⟨rfl, rfl⟩ rfl), rfl, q⟩
theorem pe_xv {R : List V → Hp → VK → Prop} (imp : ∀ vs H1 Q, R vs H1 Q → vs.length ≤ 1000 ∧ ∀ a, H1 a = none → sp (.ref a :: vs) (upd H1 a (exo a C none)) (QV H1 C a Q) fun _ _ _ => False) (T : RxC X.K X.mg x C fI) (Fi : FnOk X.prog X.w X.K X.mg X.base CX0 k fI fd ps sp) (b : Binds X.K fd ps []) (hr : Room (k + 1) X.A) (ha : PA X (e :: es) ta) (hg : Gl X x)
    (hdb : (x == ("__debug__" : Str)) = false := by decide) (hs : starEach (e :: es) X.env = (false, eval e X.env) :: starEach es X.env := by rfl) (hpl : (backTo pos (starEach es X.env)).any (·.1) = false := by rfl) :
    PE X (.Call (.Name x p) (e :: es) [] pos) (fun σ H Q => ta σ H fun vs H1 => R vs H1 Q) := by
  refine ⟨fun pins s σ H Q I h => ?_⟩
  obtain ⟨nm, q, N, bs, bm, sn, sub, ab, col, dd, k0, k1, k2, k3, k5, hC, hbm⟩ := T.o.cls
  refine wpAny_Call_Name_kw (ld_glob I hg T.gC ?_ hdb)
  refine PySem.W.callWith_K (h₀ := X.base) I.ok.mod.kin T.o.kC (thn (ha.run pos pins s σ H _ I h) fun us s1 ⟨vs, H1, I1, r1, qR⟩ => ⟨I1.kIn, ?_⟩) hs hpl
  obtain ⟨hz, q1⟩ := imp _ _ _ qR
  show wpAny _ _ (call (.ref C) us) _ _ _
  obtain ⟨hp, gn, dr, tk, os⟩ := s1
  have z1 : hp.objs.size ≤ hp.objs.size + 1 := Nat.le_succ _
  have hn : H1 (hp.objs.size + 1) = none := I1.hok.fresh z1
  have hq := q1 (hp.objs.size + 1) hn
  have old : ∀ b o, hp.get? b = some o → ((hp.push (PySem.W.kdv_tup us)).push (PySem.HandSPX.excO C hp.objs.size)).get? b = some o := fun b o z => Heap.get?_push_of_some _ (Heap.get?_push_of_some _ z)
  have at_ : ((hp.push (PySem.W.kdv_tup us)).push (PySem.HandSPX.excO C hp.objs.size)).get? (hp.objs.size + 1) = some (PySem.HandSPX.excO C hp.objs.size) := by heap_get
  have I2 : Inv X pins σ (upd H1 (hp.objs.size + 1) (exo (hp.objs.size + 1) C none)) ⟨(hp.push (PySem.W.kdv_tup us)).push (PySem.HandSPX.excO C hp.objs.size), gn, dr, tk, os⟩ :=
    I1.laid (t' := tk) (a := hp.objs.size + 1) (o := exo (hp.objs.size + 1) C none) (h' := (hp.push (PySem.W.kdv_tup us)).push (PySem.HandSPX.excO C hp.objs.size)) old z1 (exo_ok at_)
  have r2 : Vals (V.ref (hp.objs.size + 1) :: vs) (Value.ref (hp.objs.size + 1) :: us) := .cons rfl r1
  have hl : ((Value.ref (hp.objs.size + 1) :: us) ++ []).length = ps.length := by
    rw [List.append_nil, ← r2.length]
    exact Fi.len _ _ _ _ hq
  have hus : us.length ≤ sizeLine := by
    rw [← Paired.length r1, sizeLine_eq]
    omega
  have bd := b (Shared.mk _ gn dr tk os) (Value.ref (hp.objs.size + 1) :: us) I2.kIn hl
  rw [List.append_nil] at bd
  refine wpAny_call (PySem.HandSPX.call_own F.excBase_ValueError (fun Y => PySem.HandSPX.refsVE_contains Y bm hbm) (I1.kIn _ _ hC) (PySem.W.looks_findIn I1.kIn T.iC) (fun self => PySem.W.bind_fn I1.kIn self T.tI) hus
    (codeAny_mono (Fi.run _ X.stack _ _ ⟨Value.ref (hp.objs.size + 1) :: us, []⟩ (Value.ref (hp.objs.size + 1) :: us) _ _ (fun _ _ _ => False) (hr.make C us []) (I2.env0.make C us []) bd r2 hq) fun r s' hq' => ?_))
  match r, hq' with
  | .error er, hq' => exact False.elim hq'
  | .ok .next, hq' => exact False.elim hq'
  | .ok .brk, hq' => exact False.elim hq'
  | .ok .cont, hq' => exact False.elim hq'
  | .ok (.ret u), hq' =>
    obtain ⟨v, H2, os2, bare2, un2, hok2, rv, ev, d, fs, ea, ed, hd1, q2⟩ := hq'
    subst ev
    obtain ⟨h2, g2, d2, t2, os'⟩ := s'
    exact ⟨rv, end_xv I1 z1 old un2 hok2 os2 bare2 ea ed hd1 q2⟩
theorem pe_xk {R : List V → Hp → VK → Prop} {ks : List Str} {kws : List Keyword} {gg : List Value → List Value → List Value} {gV : List V → List V → List V} (imp : ∀ zs H1 Q, R zs H1 Q → zs.length = ks.length ∧ ∀ a, H1 a = none → sp (gV [.ref a] zs) (upd H1 a (exo a C none)) (QV H1 C a Q) fun _ _ _ => False) (T : RxC X.K X.mg x C fI) (Fi : FnOk X.prog X.w X.K X.mg X.base CX0 k fI fd ps sp) (b : KBn X.K fd ps 1 ks gg gV) (hks2 : ks.length ≤ 2) (hr : Room (k + 1) X.A) (hkw : PK X kws ta) (hg : Gl X x)
    (hdb : (x == ("__debug__" : Str)) = false := by decide) (hall : (backToKw pos (keywordEach kws X.env)).all (·.1.isSome) = true := by rfl) (hks : (backToKw pos (keywordEach kws X.env)).filterMap (·.1) = ks := by rfl)
    (hpl : ((backTo pos (starEach [] X.env)).any (·.1) || (backToKw pos (keywordEach kws X.env)).any (·.1.isNone)) = false := by rfl) :
    PE X (.Call (.Name x p) [] kws pos) (fun σ H Q => ta σ H fun zs H1 => R zs H1 Q) := by
  refine ⟨fun pins s σ H Q I h => ?_⟩
  obtain ⟨nm, q, N, bs, bm, sn, sub, ab, col, dd, k0, k1, k2, k3, k5, hC, hbm⟩ := T.o.cls
  refine wpAny_Call_Name_kw (ld_glob I hg T.gC ?_ hdb)
  refine PySem.W.callWith_KW0 (h₀ := X.base) I.ok.mod.kin T.o.kC hall (thn (hkw.run pos pins s σ H _ I h) fun ws s1 ⟨zs, H1, I1, rz, qR⟩ => ⟨I1.kIn, ?_⟩) hpl
  obtain ⟨l1, q1⟩ := imp _ _ _ qR
  rw [hks]
  show wpAny _ _ (call (.ref C) [] (ks.zip ws)) _ _ _
  obtain ⟨hp, gn, dr, tk, os⟩ := s1
  have z1 : hp.objs.size ≤ hp.objs.size + 1 := Nat.le_succ _
  have hn : H1 (hp.objs.size + 1) = none := I1.hok.fresh z1
  have hq := q1 (hp.objs.size + 1) hn
  have old : ∀ b o, hp.get? b = some o → ((hp.push (PySem.W.kdv_tup [])).push (PySem.HandSPX.excO C hp.objs.size)).get? b = some o := fun b o z => Heap.get?_push_of_some _ (Heap.get?_push_of_some _ z)
  have at_ : ((hp.push (PySem.W.kdv_tup [])).push (PySem.HandSPX.excO C hp.objs.size)).get? (hp.objs.size + 1) = some (PySem.HandSPX.excO C hp.objs.size) := by heap_get
  have I2 : Inv X pins σ (upd H1 (hp.objs.size + 1) (exo (hp.objs.size + 1) C none)) ⟨(hp.push (PySem.W.kdv_tup [])).push (PySem.HandSPX.excO C hp.objs.size), gn, dr, tk, os⟩ :=
    I1.laid (t' := tk) (a := hp.objs.size + 1) (o := exo (hp.objs.size + 1) C none) (h' := (hp.push (PySem.W.kdv_tup [])).push (PySem.HandSPX.excO C hp.objs.size)) old z1 (exo_ok at_)
  have lw : ws.length = ks.length := rz.length.symm.trans l1
  have lkw : (ks.zip ws).length ≤ 2 := by
    rw [List.length_zip, lw, Nat.min_self]
    exact hks2
  have bd := b.to (Shared.mk _ gn dr tk os) [Value.ref (hp.objs.size + 1)] ws I2.kIn rfl lw
  have r2 := b.rel (vs := [V.ref (hp.objs.size + 1)]) (us := [Value.ref (hp.objs.size + 1)]) (.cons rfl .nil) rz
  refine wpAny_call (PySem.HXK.kwx_call F.excBase_ValueError (fun Y => PySem.HandSPX.refsVE_contains Y bm hbm) lkw (I1.kIn _ _ hC) (PySem.W.looks_findIn I1.kIn T.iC) (fun self => PySem.W.bind_fn I1.kIn self T.tI)
    (codeAny_mono (Fi.run _ X.stack _ _ ⟨[Value.ref (hp.objs.size + 1)], ks.zip ws⟩ (gg [Value.ref (hp.objs.size + 1)] ws) _ _ (fun _ _ _ => False) (hr.make C [] (ks.zip ws)) (I2.env0.make C [] (ks.zip ws)) bd r2 hq) fun r s' hq' => ?_))
  match r, hq' with
  | .error er, hq' => exact False.elim hq'
  | .ok .next, hq' => exact False.elim hq'
  | .ok .brk, hq' => exact False.elim hq'
  | .ok .cont, hq' => exact False.elim hq'
  | .ok (.ret u), hq' =>
    obtain ⟨v, H2, os2, bare2, un2, hok2, rv, ev, d, fs, ea, ed, hd1, q2⟩ := hq'
    subst ev
    obtain ⟨h2, g2, d2, t2, os'⟩ := s'
    exact ⟨rv, end_xv I1 z1 old un2 hok2 os2 bare2 ea ed hd1 q2⟩
/-- C(), no own __init__, kept -/
def tX0 (C : Addr) : TE := fun _ H Q => ∀ a H', Same H H' → H a = none → Er H' a C [] → Q (.ref a) H'
theorem pe_x0 {bmB : List Value} {B newId initId : String} (Fx : ExcBaseFacts B newId initId bmB) (q : PySem.W.excIn X.K C bmB newId = true) (gC : X.mg x = some (.ref C)) (kC : PySem.W.keepIn X.K (.ref C) = true) (hg : Gl X x) (hdb : (x == ("__debug__" : Str)) = false := by decide) :
    PE X (.Call (.Name x p) [] [] pos) (tX0 C) := by
  refine ⟨fun pins s σ H Q I h => ?_⟩
  refine wpAny_Call_Name_kw (ld_glob I hg gC ?_ hdb)
  refine PySem.W.callWith_KW0 (h₀ := X.base) I.ok.mod.kin kC rfl ?_ rfl
  refine PyProof.Rows.kwAll_nil ⟨I.kIn, ?_⟩
  show wpAny _ _ (call (.ref C) []) _ _ _
  obtain ⟨bm, N, nm, qn, bs, hdct, sn, sub, ab, col, dd, k0, k1, k2, k3, k5, mN, hC, hN, hni, T⟩ := exc_obj I.kIn q
  refine wpAny_call_exc_subT Fx T hC hN hni (fun h' a hm => ?_) (Nat.zero_le _)
  have hn : H a = none := I.hok.gone hm.new
  obtain ⟨t, ht, _, _⟩ := hm.there
  exact ⟨.ref a, upd H a (exT a (.ref C) none), I.laidN hm.keeps hm.new hn (exT_ok ht ⟨rfl, rfl⟩ rfl), rfl, h a _ (Same.new (Same.refl _) hn) hn ⟨none, upd_same, .inr ⟨rfl, rfl⟩⟩⟩
/-! ### .. by their fields -/
def R1 (C : Addr) (f : Str) : List V → Hp → VK → Prop := fun vs H1 Q => ∃ v, vs = [v] ∧ ∀ a H', Same H1 H' → H1 a = none → Er H' a C [(f, v)] → Q (.ref a) H'
def R2 (C : Addr) (f g : Str) : List V → Hp → VK → Prop := fun vs H1 Q => ∃ v u, vs = [v, u] ∧ ∀ a H', Same H1 H' → H1 a = none → Er H' a C [(g, u), (f, v)] → Q (.ref a) H'
def R2s (C : Addr) (f g : Str) : List V → Hp → VK → Prop := fun vs H1 Q => ∃ v u, vs = [u, v] ∧ ∀ a H', Same H1 H' → H1 a = none → Er H' a C [(g, u), (f, v)] → Q (.ref a) H'
def sw {α : Type} : List α → List α
  | [a, b] => [b, a]
  | _ => []
theorem sw_vals {vs : List V} {us : List Value} (r : Vals vs us) : Vals (sw vs) (sw us) := by
  cases r with
  | nil => exact .nil
  | cons r1 r =>
    cases r with
    | nil => exact .nil
    | cons r2 r =>
      cases r with
      | nil => exact .cons r2 (.cons r1 .nil)
      | cons _ _ => exact .nil
theorem same_xv {H1 : Hp} {a d : Addr} {o1 o2 u : HO} {H2 : Hp} (na : H1 a = none) (nd : H1 d = none) (e : ∀ b, b ≠ a → b ≠ d → H2 b = H1 b) : Same H1 (upd (upd (del H2 a) d u) a o2) := fun b o z => by
  have n1 := ne_of_none z na
  have n2 := ne_of_none z nd
  rw [upd_ne n1, upd_ne n2, del_ne n1, e b n1 n2]
  exact z
theorem imp1 {C : Addr} {f : Str} (vs : List V) (H1 : Hp) (Q : VK) (h : R1 C f vs H1 Q) : vs.length ≤ 1000 ∧ ∀ a, H1 a = none → spI1 C f (.ref a :: vs) (upd H1 a (exo a C none)) (QV H1 C a Q) fun _ _ _ => False := by
  obtain ⟨v, rfl, k⟩ := h
  refine ⟨by show 1 ≤ 1000; decide, fun a na => ⟨a, v, rfl, upd_same, fun dx nx ne => ⟨rfl, dx, _, upd_same, by rw [upd_ne ne, upd_same], ?_, k a _ (same_xv (o1 := .own 0) na ?_ fun b n1 n2 => ?_) na ?_⟩⟩⟩
  · rw [upd_ne ne] at nx
    exact nx
  · rw [upd_ne ne] at nx
    exact nx
  · rw [upd_ne n1, upd_ne n2, upd_ne n1]
  · exact ⟨some dx, upd_same, .inl ⟨dx, rfl, by rw [upd_ne ne, upd_same]⟩⟩
theorem imp2 {C : Addr} {f g : Str} (vs : List V) (H1 : Hp) (Q : VK) (h : R2 C f g vs H1 Q) : vs.length ≤ 1000 ∧ ∀ a, H1 a = none → spI2 C f g (.ref a :: vs) (upd H1 a (exo a C none)) (QV H1 C a Q) fun _ _ _ => False := by
  obtain ⟨v, u, rfl, k⟩ := h
  refine ⟨by show 2 ≤ 1000; decide, fun a na => ⟨a, v, u, rfl, upd_same, fun dx nx ne => ⟨rfl, dx, _, by rw [upd_ne (Ne.symm ne), upd_same], upd_same, ?_, k a _ (same_xv (o1 := .own 0) na ?_ fun b n1 n2 => ?_) na ?_⟩⟩⟩
  · rw [upd_ne ne] at nx
    exact nx
  · rw [upd_ne ne] at nx
    exact nx
  · rw [upd_ne n2, upd_ne n1, upd_ne n2, upd_ne n1]
  · exact ⟨some dx, upd_same, .inl ⟨dx, rfl, by rw [upd_ne ne, upd_same]⟩⟩
end
/-- an error class of one field, of two -/
def Er1 (P : Program) (w : World) (K : PySem.W.Frag) (mg : Str → Option Value) (base : Heap) (x : Str) (C : Addr) (f : Str) : Prop :=
  ∃ (fI : Addr) (fd : FuncData), RxC K mg x C fI ∧ FnOk P w K mg base CX0 1 fI fd ["self", f] (spI1 C f) ∧ Binds K fd ["self", f] [] ∧ KBn K fd ["self", f] 1 [f] (fun us ws => us ++ ws) (fun vs zs => vs ++ zs)
def Er2 (P : Program) (w : World) (K : PySem.W.Frag) (mg : Str → Option Value) (base : Heap) (x : Str) (C : Addr) (f g : Str) : Prop :=
  ∃ (fI : Addr) (fd : FuncData), RxC K mg x C fI ∧ FnOk P w K mg base CX0 1 fI fd ["self", f, g] (spI2 C f g) ∧ Binds K fd ["self", f, g] [] ∧ KBn K fd ["self", f, g] 1 [g, f] (fun us ws => us ++ sw ws) (fun vs zs => vs ++ sw zs)
section
variable {X : Cx} {x f g : Str} {C : Addr} {e e2 : Expr} {te te2 : TE} {ta : TA} {kws : List Keyword} {p pos : Pos}
theorem pe_e1 (Z : Er1 X.prog X.w X.K X.mg X.base x C f) (hr : Room 2 X.A) (ha : PA X [e] ta) (hg : Gl X x := by rfl)
    (hdb : (x == ("__debug__" : Str)) = false := by decide) (hs : starEach [e] X.env = (false, eval e X.env) :: starEach [] X.env := by rfl) (hpl : (backTo pos (starEach [] X.env)).any (·.1) = false := by rfl) :
    PE X (.Call (.Name x p) [e] [] pos) (fun σ H Q => ta σ H fun vs H1 => R1 C f vs H1 Q) := by
  obtain ⟨fI, fd, T, Fi, b, _⟩ := Z
  exact pe_xv imp1 T Fi b hr ha hg hdb hs hpl
theorem pe_e2 (Z : Er2 X.prog X.w X.K X.mg X.base x C f g) (hr : Room 2 X.A) (ha : PA X [e, e2] ta) (hg : Gl X x := by rfl)
    (hdb : (x == ("__debug__" : Str)) = false := by decide) (hs : starEach [e, e2] X.env = (false, eval e X.env) :: starEach [e2] X.env := by rfl) (hpl : (backTo pos (starEach [e2] X.env)).any (·.1) = false := by rfl) :
    PE X (.Call (.Name x p) [e, e2] [] pos) (fun σ H Q => ta σ H fun vs H1 => R2 C f g vs H1 Q) := by
  obtain ⟨fI, fd, T, Fi, b, _⟩ := Z
  exact pe_xv imp2 T Fi b hr ha hg hdb hs hpl
theorem pe_e1k (Z : Er1 X.prog X.w X.K X.mg X.base x C f) (hr : Room 2 X.A) (hkw : PK X kws ta) (hg : Gl X x := by rfl)
    (hdb : (x == ("__debug__" : Str)) = false := by decide) (hall : (backToKw pos (keywordEach kws X.env)).all (·.1.isSome) = true := by rfl) (hks : (backToKw pos (keywordEach kws X.env)).filterMap (·.1) = [f] := by rfl)
    (hpl : ((backTo pos (starEach [] X.env)).any (·.1) || (backToKw pos (keywordEach kws X.env)).any (·.1.isNone)) = false := by rfl) :
    PE X (.Call (.Name x p) [] kws pos) (fun σ H Q => ta σ H fun vs H1 => R1 C f vs H1 Q) := by
  obtain ⟨fI, fd, T, Fi, _, b⟩ := Z
  refine pe_xk (fun zs H1 Q h => ?_) T Fi b (by show 1 ≤ 2; decide) hr hkw hg hdb hall hks hpl
  have q := (imp1 zs H1 Q h).2
  obtain ⟨v, rfl, _⟩ := h
  exact ⟨rfl, q⟩
theorem pe_e2k (Z : Er2 X.prog X.w X.K X.mg X.base x C f g) (hr : Room 2 X.A) (hkw : PK X kws ta) (hg : Gl X x := by rfl)
    (hdb : (x == ("__debug__" : Str)) = false := by decide) (hall : (backToKw pos (keywordEach kws X.env)).all (·.1.isSome) = true := by rfl) (hks : (backToKw pos (keywordEach kws X.env)).filterMap (·.1) = [g, f] := by rfl)
    (hpl : ((backTo pos (starEach [] X.env)).any (·.1) || (backToKw pos (keywordEach kws X.env)).any (·.1.isNone)) = false := by rfl) :
    PE X (.Call (.Name x p) [] kws pos) (fun σ H Q => ta σ H fun vs H1 => R2s C f g vs H1 Q) := by
  obtain ⟨fI, fd, T, Fi, _, b⟩ := Z
  refine pe_xk (fun zs H1 Q h => ?_) T Fi b (by show 2 ≤ 2; decide) hr hkw hg hdb hall hks hpl
  obtain ⟨v, u, rfl, q⟩ := h
  exact ⟨rfl, (imp2 [v, u] H1 Q ⟨v, u, rfl, q⟩).2⟩
theorem Er.at_ {G : Hp} {a C : Addr} {fs : List (Str × V)} (h : Er G a C fs) (n : fs ≠ []) : ∃ d, G a = some (exT a (.ref C) (some d)) ∧ G d = some (.xd fs) := by
  obtain ⟨od, e, q⟩ := h
  rcases q with ⟨d, rfl, z⟩ | ⟨_, z⟩
  · exact ⟨d, e, z⟩
  · exact absurd z n
end
end HX

set_option Elab.async false
set_option linter.all false
set_option maxRecDepth 100000
set_option maxHeartbeats 2000000
namespace HX
open PySem PySem.Spec PyProof.Rows L2

/-! ### new lists that are not sys.modules -/
section
variable {X : Cx} {es : List Expr} {t : TA} {pos : Pos}
def tLstS (t : TA) : TE := fun σ H Q => t σ H fun xs G => xs.length ≤ sizeLine ∧ ∀ p, G p = none → p ≠ sysModules → Q (.ref p) (upd G p (.lst xs))
theorem pe_lstS (h : PA X es t) : PE X (.List es pos) (tLstS t) := by
  refine ⟨fun pins s σ H Q I k => wpAny_List_spliced (thn (h.run pos pins s σ H _ I k) fun us s1 ⟨xs, G, J, r, z, q⟩ => ⟨by rw [← r.length]; exact z, ?_⟩)⟩
  have nw : G s1.heap.objs.size = none := J.hok.fresh (Nat.le_refl _)
  exact ⟨.ref s1.heap.objs.size, upd G s1.heap.objs.size (.lst xs), J.laid (t' := s1.toks) (fun b u e => Heap.get?_push_of_some _ e) (Nat.le_refl _) ⟨z, us, 0, r, Heap.get?_push_size _ rfl⟩, rfl, q _ nw (Ne.symm (Nat.ne_of_lt J.big))⟩
def rSlLS (K : PySem.W.Frag) : V → Option Int → Option Int → Hp → VK → Prop := fun x lo hi H Q => ∃ a xs, x = .ref a ∧ SqL K H a xs ∧ ∀ p, H p = none → p ≠ sysModules → Q (.ref p) (upd H p (.lst (cutV xs lo hi)))
theorem sl_listS : SlR X (rSlLS X.K) := by
  intro pins s σ H x v vl vu lo hi sl Q I rx hs pl pu h
  obtain ⟨a, xs, rfl, hx, q⟩ := h
  obtain ⟨T, id, z1, z2, z3⟩ := sl_list pins s σ H (.ref a) v vl vu lo hi sl (fun v G => ∃ p, v = .ref p ∧ G = upd H p (.lst (cutV xs lo hi)) ∧ H p = none) I rx hs pl pu ⟨a, xs, rfl, hx, fun p n => ⟨p, rfl, rfl, n⟩⟩
  cases rx
  obtain ⟨its, r, ht, hz⟩ := I.list hx
  have hlen := r.length
  refine ⟨"list", _, F.slot_list_getitem.lookup, ht.isList.typeIs, wpAny_getItem_list_slice ht.isList hs pl pu .none (by simp) ?_ (by rw [List.size_toArray]; omega)⟩
  rw [slicePick_cut, ← hlen]
  exact ⟨.ref s.heap.objs.size, _, I.laid (t' := s.toks) (o := .lst (cutV xs lo hi)) (fun b ob q => Heap.get?_push_of_some _ q) (Nat.le_refl _)
    ⟨Nat.le_trans (cutV_length xs lo hi) hz, _, 0, (r.drop (HT.sIx xs.length 0 lo)).take (HT.sIx xs.length xs.length hi - HT.sIx xs.length 0 lo), Heap.get?_push_size _ rfl⟩, rfl, q _ (I.hok.fresh (Nat.le_refl _)) (Ne.symm (Nat.ne_of_lt I.big))⟩
end

/-! ### values that are drawn, of any kind -/
/-- data that repr can show in a list, beside another -/
structure OkT (d : PyData) : Prop where
  sh : d.showable = true
  dp : d.depth ≤ 30
  lv : d.leavesShort 1000 = true
  wt : d.weight ≤ 1000
theorem OkT.l1 {d : PyData} (h : OkT d) : OkD (.list [d]) := by
  obtain ⟨h1, h2, h3, h4⟩ := h
  refine ⟨?_, ?_, ?_, ?_⟩
  · simp [PyData.showable, PyData.showableAll, h1]
  · simp [PyData.depth, PyData.depthAll]; omega
  · simp [PyData.leavesShort, PyData.leavesShortAll, h3]
  · simp [PyData.weight, PyData.weightAll]; omega
theorem OkT.l2 {d e : PyData} (h : OkT d) (k : OkT e) : OkD (.list [d, e]) := by
  obtain ⟨h1, h2, h3, h4⟩ := h
  obtain ⟨k1, k2, k3, k4⟩ := k
  refine ⟨?_, ?_, ?_, ?_⟩
  · simp [PyData.showable, PyData.showableAll, h1, k1]
  · simp [PyData.depth, PyData.depthAll]; omega
  · simp [PyData.leavesShort, PyData.leavesShortAll, h3, k3]
  · simp [PyData.weight, PyData.weightAll]; omega
theorem okD_nil : OkD (.list []) := ⟨by decide +kernel, by decide +kernel, by decide +kernel, by decide +kernel⟩
theorem okT_by {d : PyData} (e : (d.showable && decide (d.depth ≤ 30) && d.leavesShort 1000 && decide (d.weight ≤ 1000)) = true) : OkT d := by
  simp only [Bool.and_eq_true, decide_eq_true_eq] at e
  exact ⟨e.1.1.1, e.1.1.2, e.1.2, e.2⟩
theorem kpN {H : Hp} {q b : Addr} {o u : HO} (e : H b = some u) (h : H q = none) : L2.upd H q o b = some u := by rw [upd_ne (ne_of_none e h)]; exact e
theorem kp2 {H : Hp} {q b : Addr} {o o' u : HO} (e : H b = some u) (h : H q = none) : L2.upd (L2.upd H q o) q o' b = some u := by rw [upd_ne (ne_of_none e h)]; exact kpN e h
theorem Same.upN {H G : Hp} {l : Addr} {o : HO} (s : Same H G) (n : H l = none) : Same H (L2.upd G l o) := fun c u e => by rw [upd_ne (ne_of_none e n)]; exact s c u e
/-- isinstance(e, c) of an own exception's value -/
def rIsE (K : PySem.W.Frag) : List V → Hp → VK → Prop := fun xs H Q => ∃ (a D : Addr) (fs : List (Str × V)) (c : V) (cv : Value) (b : Bool), xs = [.ref a, c] ∧ Er H a D fs ∧ ExC K D ∧ (∀ u, RelV c u → u = cv) ∧ PySem.W.kitOne K (.ref D) cv = some b ∧ Q (.bl b) H
theorem call_isE {X : Cx} : CallR X (.builtin "isinstance") (rIsE X.K) := fun pins s σ H xs us Q I r h => by
  obtain ⟨a, D, fs, c, cv, b, rfl, ⟨od, e, q⟩, T, hc, hk, z⟩ := h
  refine call_isX pins s σ H _ us Q I r ⟨a, D, od, c, cv, b, rfl, e, fun dd ed => ?_, T, hc, hk, z⟩
  rcases q with ⟨d, e1, e2⟩ | ⟨e1, _⟩
  · rw [ed] at e1
    cases e1
    exact ⟨_, e2⟩
  · rw [ed] at e1
    cases e1
theorem okT_int {i : Int} (h : i.natAbs < 2 ^ 900) : OkT (.int i) := by
  have hl : i.natAbs.log2 < 900 := by
    by_cases z : i.natAbs = 0
    · rw [z]
      decide
    · exact (Nat.log2_lt z).mpr h
  have e := int_text_length_le (a := i) (k := 900) (by decide) hl
  refine ⟨by show decide (i.natAbs.log2 < 1920) = true; exact decide_eq_true (by omega), by show 0 ≤ 30; decide, ?_, by simp only [PyData.weight]; split <;> omega⟩
  show decide ((PyData.shown (.int i)).length ≤ 1000) = true
  refine decide_eq_true ?_
  show (Str.ofString (toString i)).length ≤ 1000
  rw [PySem.ofString_length]
  omega
end HX

set_option Elab.async false
set_option linter.all false
set_option maxRecDepth 100000
set_option maxHeartbeats 2000000
/-! ### + - * // % of an own instance and an int -/
namespace PySem
namespace HXO
open W Builtin PyProof.Rows
section
variable {prog : Program} {w : World} {A : Around} {E : Value → Shared → Prop} {s : Shared} {K : Frag} {x C f g : Addr} {ox : Obj} {od : Option Obj}
theorem headed {K : Frag} {C : Addr} (h : selfFirst K C = true) : ∃ cd rest, clsIn K C = some cd ∧ cd.mro = .ref C :: rest := by
  obtain ⟨d, e1, e2⟩ := any_some h
  rcases hq : d.mro with _ | ⟨a, l⟩
  · rw [hq] at e2
    cases e2
  · rw [hq, List.head?_cons] at e2
    cases (beq_iff_eq.mp e2)
    exact ⟨d, l, e1, hq⟩
theorem slotPy {M : Model} {h : Heap} {nm : String} (X : K.In h) (hs : findIn K (.ref C) (PySem.dunder nm) = some (some (.ref f))) (hr : findIn K (.ref C) (PySem.dunderR nm) = some (some (.ref g))) : Looks M h (numberSlotInPython (.ref C) nm) true := by
  intro A Q E s k q
  unfold numberSlotInPython
  refine wpAny_bind (looks_findIn X hs A _ E s k ?_)
  refine wpAny_bind (wpAny_pure ?_)
  refine wpAny_bind (looks_findIn X hr A _ E s k ?_)
  refine wpAny_bind (wpAny_pure ?_)
  exact wpAny_pure q
theorem binL {op : Operator} {b : Value} {r : Option Value} {Q : Value → Shared → Prop} (X : K.In s.heap) (I : InstAt s.heap x ox C od) (hb : typeOf b = pure (.type "int")) (hc : selfFirst K C = true)
    (fU : fillsNumberSlot (.type "int") op.info.2 = pure true) (rU : typeLookup (.type "int") (PySem.dunderR op.info.2) = pure r) (hsub : isSubtype (.type "int") (.ref C) = pure false)
    (hs : findIn K (.ref C) (PySem.dunder op.info.2) = some (some (.ref f))) (hr : findIn K (.ref C) (PySem.dunderR op.info.2) = some (some (.ref g))) (hf : isFn K (.ref f) = true)
    (h : wpAny (model prog w) A (call (.ref f) [.ref x, b]) (W.CmpBack Q) E s) : wpAny (model prog w) A (binaryOp op (.ref x) b) Q E s := by
  obtain ⟨cd, rest, hcd, hm⟩ := headed hc
  rcases hi : op.info with ⟨sg, nm⟩
  rw [hi] at fU rU hs hr
  dsimp only at fU rU hs hr
  simp only [binaryOp, hi]
  refine wpAny_holding (wpAny_bind ?_)
  simp only [binaryOp1]
  refine wpAny_bind (I.type.here (wpAny_bind (wpAny_of_eq hb (wpAny_bind ((fills_K X hcd hm hs).here ?_)))))
  have ne : (Value.ref C == Value.type "int") = false := by simp
  simp only [ne, Bool.false_eq_true, if_false]
  refine wpAny_bind (wpAny_of_eq fU ?_)
  simp only [Bool.and_self, if_true]
  refine wpAny_bind (wpAny_of_eq hsub ?_)
  simp only [Bool.false_eq_true, if_false, Bool.not_false, Bool.and_self, if_true]
  refine wpAny_bind ((slotPy X hs hr).here ?_)
  have hpy : numberSlotInPython (.type "int") nm = pure false := rfl
  simp only [if_true, hpy, pure_bind, Bool.not_false, rU]
  refine wpAny_bind (m := tryMethod (Value.ref x) _ b) ?_
  unfold tryMethod
  refine wpAny_bind (special_fn X I hs (beq_iff_eq.mp hf) (wpAny_mono h (fun v s2 hv => ?_) fun _ _ z => z))
  cases v <;> first | exact hv.elim | exact (wpAny_pure (wpAny_pure (wpAny_pure hv)))
theorem binE {op : Operator} {y : Addr} {oy : Obj} {oe : Option Obj} {Q : Value → Shared → Prop} (X : K.In s.heap) (I : InstAt s.heap x ox C od) (J : InstAt s.heap y oy C oe) (hc : selfFirst K C = true)
    (hs : findIn K (.ref C) (PySem.dunder op.info.2) = some (some (.ref f)))
    (hf : isFn K (.ref f) = true)
    (h : wpAny (model prog w) A (call (.ref f) [.ref x, .ref y]) (W.CmpBack Q) E s) : wpAny (model prog w) A (binaryOp op (.ref x) (.ref y)) Q E s := by
  obtain ⟨cd, rest, hcd, hm⟩ := headed hc
  rcases hi : op.info with ⟨sg, nm⟩
  rw [hi] at hs
  dsimp only at hs
  simp only [binaryOp, hi]
  refine wpAny_holding (wpAny_bind ?_)
  simp only [binaryOp1]
  refine wpAny_bind (I.type.here (wpAny_bind (J.type.here (wpAny_bind ((fills_K X hcd hm hs).here ?_)))))
  simp only [beq_self_eq_true, if_true, pure_bind, Bool.and_false, Bool.false_eq_true, if_false, Bool.false_and]
  refine wpAny_bind (m := tryMethod (.ref x) _ (.ref y)) ?_
  unfold tryMethod
  refine wpAny_bind (special_fn X I hs (beq_iff_eq.mp hf) (wpAny_mono h (fun v s2 hv => ?_) fun _ _ z => z))
  cases v <;> first | exact hv.elim | exact (wpAny_pure (wpAny_pure (wpAny_pure hv)))
theorem fillsI {M : Model} {h : Heap} {nm : String} {ad : Bool} {cd : ClassData} {rest : List Value} (X : K.In h) (hc : clsIn K C = some cd) (hm : cd.mro = .ref C :: rest) (hs : findIn K (.ref C) (PySem.dunderI nm) = some (some (.ref f))) : Looks M h (fillsInplaceSlot (.ref C) nm ad) true := by
  intro A Q E s k q
  unfold fillsInplaceSlot
  refine wpAny_bind ((looks_clsIn X hc).andThen (f := fun d => pure d.mro) .now A _ E s k ?_)
  rw [hm, List.anyM_cons]
  refine wpAny_bind ?_
  refine wpAny_bind (looks_findIn X hs A _ E s k ?_)
  dsimp only
  rw [if_pos (show (!ownNameWrapper (.ref f) (PySem.dunderI nm)) = true from rfl)]
  refine wpAny_pure ?_
  rw [if_pos rfl]
  exact wpAny_pure q
theorem binI {op : Operator} {b : Value} {Q : Value → Shared → Prop} (X : K.In s.heap) (I : InstAt s.heap x ox C od) (hc : selfFirst K C = true)
    (hs : findIn K (.ref C) (PySem.dunderI op.info.2) = some (some (.ref f))) (hf : isFn K (.ref f) = true)
    (h : wpAny (model prog w) A (call (.ref f) [.ref x, b]) (W.CmpBack Q) E s) : wpAny (model prog w) A (inplaceOp op (.ref x) b) Q E s := by
  obtain ⟨cd, rest, hcd, hm⟩ := headed hc
  unfold inplaceOp
  refine wpAny_holding ?_
  dsimp only
  refine wpAny_bind (I.type.here (wpAny_bind ((fillsI X hcd hm hs).here ?_)))
  show wpAny _ _ (if true = true then _ else _) _ _ _
  rw [if_pos rfl]
  refine wpAny_bind (m := tryMethod (Value.ref x) _ b) ?_
  unfold tryMethod
  refine wpAny_bind (special_fn X I hs (beq_iff_eq.mp hf) (wpAny_mono h (fun v s2 hv => ?_) fun _ _ z => z))
  cases v <;> first | exact hv.elim | exact wpAny_pure (wpAny_bind (wpAny_rule (wpAny_pure hv)))
theorem unN {Q : Value → Shared → Prop} (X : K.In s.heap) (I : InstAt s.heap x ox C od) (hs : findIn K (.ref C) "__neg__" = some (some (.ref f))) (hf : isFn K (.ref f) = true)
    (h : wpAny (model prog w) A (call (.ref f) [.ref x]) Q E s) : wpAny (model prog w) A (unaryOp .USub (.ref x)) Q E s := by
  unfold unaryOp
  refine wpAny_holding ?_
  dsimp only
  rw [if_neg (by decide)]
  exact wpAny_bind (special_fn X I hs (beq_iff_eq.mp hf) (wpAny_mono h (fun v s' hv => wpAny_pure hv) fun _ _ e => e))
theorem unA {Q : Value → Shared → Prop} (X : K.In s.heap) (I : InstAt s.heap x ox C od) (hs : findIn K (.ref C) "__abs__" = some (some (.ref f))) (hf : isFn K (.ref f) = true)
    (h : wpAny (model prog w) A.in1 (call (.ref f) [.ref x]) Q E s) : wpAny (model prog w) A (call (.builtin "abs") [.ref x]) Q E s := by
  refine Calls.call_function_entry kind_abs plain_abs entry_abs (args_abs _) ?_
  unfold Builtin.«abs»
  refine wpAny_bind (m := oneArg "abs" _) (wpAny_pure ?_)
  refine wpAny_bind (special_fn X I hs (beq_iff_eq.mp hf) (wpAny_mono h (fun v s' hv => ?_) fun _ _ e => e))
  exact wpAny_pure ⟨v, rfl, hv⟩
/-- v o x, v an int: the int's own method refuses, x's reflected one is called -/
theorem binR {op : Operator} {a : Value} {idl : String} {Q : Value → Shared → Prop} (X : K.In s.heap) (I : InstAt s.heap x ox C od) (ta : typeOf a = pure (.type "int")) (ha : s.TypeIs a "int") (hc : selfFirst K C = true)
    (fU : fillsNumberSlot (.type "int") op.info.2 = pure true) (hsub : subIn K (.ref C) (.type "int") = some false) (hl : Slot "int" (PySem.dunder op.info.2) idl)
    (hN : ∀ Q : Value → Shared → Prop, Q .notImplemented s → wpAny (model prog w) A (call (.builtin idl) [a, .ref x]) Q E s)
    (hs : findIn K (.ref C) (PySem.dunder op.info.2) = some (some (.ref f))) (hr : findIn K (.ref C) (PySem.dunderR op.info.2) = some (some (.ref g))) (hg : isFn K (.ref g) = true)
    (h : wpAny (model prog w) A (call (.ref g) [.ref x, a]) (W.CmpBack Q) E s) : wpAny (model prog w) A (binaryOp op a (.ref x)) Q E s := by
  obtain ⟨cd, rest, hcd, hm⟩ := headed hc
  rcases hi : op.info with ⟨sg, nm⟩
  rw [hi] at fU hl hs hr
  dsimp only at fU hl hs hr
  simp only [binaryOp, hi]
  refine wpAny_holding (wpAny_bind ?_)
  simp only [binaryOp1]
  refine wpAny_bind (wpAny_of_eq ta (wpAny_bind (I.type.here (wpAny_bind (wpAny_of_eq fU ?_)))))
  have ne : (Value.type "int" == Value.ref C) = false := by simp
  simp only [ne, Bool.false_eq_true, if_false]
  refine wpAny_bind ((fills_K X hcd hm hs).here ?_)
  simp only [Bool.and_self, if_true]
  refine wpAny_bind ((looks_subIn X hsub).here ?_)
  have hpy : numberSlotInPython (.type "int") nm = pure false := rfl
  simp only [Bool.false_eq_true, if_false, Bool.not_false, Bool.and_self, if_true, hpy, pure_bind]
  refine wpAny_bind (m := tryMethod a _ (.ref x)) ?_
  unfold tryMethod
  refine wpAny_bind (wpAny_callSpecial?_slot ha hl (hN _ ?_))
  refine wpAny_pure ?_
  refine wpAny_bind (wpAny_bind (special_fn X I hr (beq_iff_eq.mp hg) (wpAny_mono h (fun v s' hv => ?_) fun _ _ e => e)))
  cases v <;> first | exact hv.elim | exact wpAny_pure (wpAny_bind (wpAny_rule (wpAny_pure (wpAny_pure hv))))
theorem ni_add {i : Int} {t : Tok} {dx : Addr} {Q : Value → Shared → Prop} (hx : s.heap.get? x = some (instObj C dx)) (h : Q .notImplemented s) : wpAny (model prog w) A (call (.builtin "int.__add__") [.int i t, .ref x]) Q E s := by
  refine wpAny_call (codeAny_call_builtin F.slot_int_add.plain F.entry_int_add (F.slot_int_add.check _ _ _ _ _ _ _ _ (typeIs_int s i t) (F.args_int_add_2 _ _) ?_))
  unfold Builtin.«int.__add__»
  refine (by (repeat (first | with_reducible refine wpAny_loadPart_at hx ?_ | with_reducible refine wpAny_load hx ?_ | wp_step)); exact h)
theorem ni_sub {i : Int} {t : Tok} {dx : Addr} {Q : Value → Shared → Prop} (hx : s.heap.get? x = some (instObj C dx)) (h : Q .notImplemented s) : wpAny (model prog w) A (call (.builtin "int.__sub__") [.int i t, .ref x]) Q E s := by
  refine wpAny_call (codeAny_call_builtin F.slot_int_sub.plain F.entry_int_sub (F.slot_int_sub.check _ _ _ _ _ _ _ _ (typeIs_int s i t) (F.args_int_sub_2 _ _) ?_))
  unfold Builtin.«int.__sub__»
  refine (by (repeat (first | with_reducible refine wpAny_loadPart_at hx ?_ | with_reducible refine wpAny_load hx ?_ | wp_step)); exact h)
theorem ni_mul {i : Int} {t : Tok} {dx : Addr} {Q : Value → Shared → Prop} (hx : s.heap.get? x = some (instObj C dx)) (h : Q .notImplemented s) : wpAny (model prog w) A (call (.builtin "int.__mul__") [.int i t, .ref x]) Q E s := by
  refine wpAny_call (codeAny_call_builtin F.slot_int_mul.plain F.entry_int_mul (F.slot_int_mul.check _ _ _ _ _ _ _ _ (typeIs_int s i t) (F.args_int_mul_2 _ _) ?_))
  unfold Builtin.«int.__mul__»
  refine (by (repeat (first | with_reducible refine wpAny_loadPart_at hx ?_ | with_reducible refine wpAny_load hx ?_ | wp_step)); exact h)
theorem ni_floordiv {i : Int} {t : Tok} {dx : Addr} {Q : Value → Shared → Prop} (hx : s.heap.get? x = some (instObj C dx)) (h : Q .notImplemented s) : wpAny (model prog w) A (call (.builtin "int.__floordiv__") [.int i t, .ref x]) Q E s := by
  refine wpAny_call (codeAny_call_builtin F.slot_int_floordiv.plain F.entry_int_floordiv (F.slot_int_floordiv.check _ _ _ _ _ _ _ _ (typeIs_int s i t) (F.args_int_floordiv_2 _ _) ?_))
  unfold Builtin.«int.__floordiv__»
  refine (by (repeat (first | with_reducible refine wpAny_loadPart_at hx ?_ | with_reducible refine wpAny_load hx ?_ | wp_step)); exact h)
theorem ni_mod {i : Int} {t : Tok} {dx : Addr} {Q : Value → Shared → Prop} (hx : s.heap.get? x = some (instObj C dx)) (h : Q .notImplemented s) : wpAny (model prog w) A (call (.builtin "int.__mod__") [.int i t, .ref x]) Q E s := by
  refine wpAny_call (codeAny_call_builtin F.slot_int_mod.plain F.entry_int_mod (F.slot_int_mod.check _ _ _ _ _ _ _ _ (typeIs_int s i t) (F.args_int_mod_2 _ _) ?_))
  unfold Builtin.«int.__mod__»
  refine (by (repeat (first | with_reducible refine wpAny_loadPart_at hx ?_ | with_reducible refine wpAny_load hx ?_ | wp_step)); exact h)
end
theorem int_not (C : Addr) : isSubtype (.type "int") (.ref C) = pure false := by rfl
/-- what an int's operator does beside an own instance -/
structure IntOp (op : Operator) (idl : String) : Prop where
  fU : fillsNumberSlot (.type "int") op.info.2 = pure true
  rU : ∃ r, typeLookup (.type "int") (PySem.dunderR op.info.2) = pure r
  sl : Slot "int" (PySem.dunder op.info.2) idl
  ni : ∀ {prog : Program} {w : World} {A : Around} {E : Value → Shared → Prop} {s : Shared} {x C dx : Addr} {i : Int} {t : Tok} {Q : Value → Shared → Prop}, s.heap.get? x = some (instObj C dx) → Q .notImplemented s → wpAny (model prog w) A (call (.builtin idl) [.int i t, .ref x]) Q E s
theorem io_add : IntOp .Add "int.__add__" := ⟨F.fills_int_add, ⟨_, F.slot_int_radd.lookup⟩, F.slot_int_add, ni_add⟩
theorem io_sub : IntOp .Sub "int.__sub__" := ⟨F.fills_int_sub, ⟨_, F.slot_int_rsub.lookup⟩, F.slot_int_sub, ni_sub⟩
theorem io_mul : IntOp .Mult "int.__mul__" := ⟨F.fills_int_mul, ⟨_, F.slot_int_rmul.lookup⟩, F.slot_int_mul, ni_mul⟩
theorem io_fdiv : IntOp .FloorDiv "int.__floordiv__" := ⟨F.fills_int_floordiv, ⟨_, F.slot_int_rfloordiv.lookup⟩, F.slot_int_floordiv, ni_floordiv⟩
theorem io_mod : IntOp .Mod "int.__mod__" := ⟨F.fills_int_mod, ⟨_, F.slot_int_rmod.lookup⟩, F.slot_int_mod, ni_mod⟩
/-- a class with both methods of an operator -/
structure OwnOp (K : Frag) (C : Addr) (op : Operator) (f g : Addr) : Prop where
  first : selfFirst K C = true
  sub : subIn K (.ref C) (.type "int") = some false
  hs : findIn K (.ref C) (PySem.dunder op.info.2) = some (some (.ref f))
  hr : findIn K (.ref C) (PySem.dunderR op.info.2) = some (some (.ref g))
  hf : isFn K (.ref f) = true
  hg : isFn K (.ref g) = true
end HXO
end PySem
namespace HX
open PySem PySem.Spec PyProof.Rows L2
/-- an instance of the class at C is tracked at a -/
def IsI (C : Addr) (H : Hp) (a : Addr) : Prop := ∃ dx fs, H a = some (.ins C dx fs)
/-- x o y of own instances and ints -/
def rOw (C : Addr) (r0 : L2.R2) (spF spG : Sp) (E : XK) : L2.R2 := fun x y H Q => match x, y with
  | .ref a, .ref b => IsI C H a ∧ IsI C H b ∧ spF [.ref a, .ref b] H Q E
  | .ref a, .int j => IsI C H a ∧ spF [.ref a, .int j] H Q E
  | .int i, .ref b => IsI C H b ∧ spG [.ref b, .int i] H Q E
  | .int i, .int j => r0 (.int i) (.int j) H Q
  | _, _ => False
section
variable {X : Cx} {pins : List (Addr × Obj)} {σ : L2.St} {H : Hp} {s : Shared} {a C : Addr}
theorem inst_at (I : Inv X pins σ H s) (h : IsI C H a) : ∃ dx od, PySem.W.InstAt s.heap a (PySem.W.instObj C dx) C (some od) ∧ s.heap.get? a = some (PySem.W.instObj C dx) := by
  obtain ⟨dx, fs, e⟩ := h
  obtain ⟨_, _, ne, ho, mA, ns, _, _⟩ := (show ObjOk X.prog X.w H s.heap a (.ins C dx fs) from I.hok a _ e)
  obtain ⟨od, z, _⟩ := (ObjM.mk ho ns ne).look
  exact ⟨dx, od, z, ho⟩
theorem ep_own {Q : VK} {u : Value} {s' : Shared} (h : EP X pins σ Q u s') : PySem.W.CmpBack (EP X pins σ Q) u s' := by
  obtain ⟨v, G, J, r, q⟩ := id h
  cases u <;> first | exact h | (cases v <;> first | exact r.elim | (obtain ⟨_, r⟩ := r; cases r) | cases r)
/-- the operator, where both methods keep a promise -/
theorem op_ow {op : Operator} {idl : String} {r0 : L2.R2} {f g : Addr} {ff fg : FuncData} {pf pg : List Str} {spF spG : Sp} {CY : CXT} {k : Nat} {E : XK} (io : PySem.HXO.IntOp op idl) (h0 : OpR X (binaryOp op) r0) (O : PySem.HXO.OwnOp X.K C op f g)
    (Ff : FnOk X.prog X.w X.K X.mg X.base CY k f ff pf spF) (Fg : FnOk X.prog X.w X.K X.mg X.base CY k g fg pg spG) (bf : Binds X.K ff pf []) (bg : Binds X.K fg pg []) (hr : Room k X.A) (hx : Passes CY X E) : OpR X (binaryOp op) (rOw C r0 spF spG E) := by
  intro pins s σ H x y v u Q I rx ry q
  unfold rOw at q
  split at q
  · obtain ⟨i1, i2, q⟩ := q
    cases rx
    cases ry
    obtain ⟨dx, od, J, ho⟩ := inst_at I i1
    obtain ⟨dy, od2, J2, ho2⟩ := inst_at I i2
    rename_i a b
    have rv : Vals [V.ref a, V.ref b] [Value.ref a, Value.ref b] := .cons rfl (.cons rfl .nil)
    exact PySem.HXO.binE I.kIn J J2 O.first O.hs O.hf (wpAny_mono (run_fn Ff hr bf .nil hx I rv (by rw [List.append_nil]; exact q)) (fun u s' h => ep_own h) fun _ _ z => z)
  · obtain ⟨i1, q⟩ := q
    cases rx
    obtain ⟨t, rfl⟩ := (show ∃ t, u = Value.int _ t from ry)
    obtain ⟨dx, od, J, ho⟩ := inst_at I i1
    obtain ⟨r, rU⟩ := io.rU
    rename_i a j
    have rv : Vals [V.ref a, V.int j] [Value.ref a, Value.int j t] := .cons rfl (.cons ⟨t, rfl⟩ .nil)
    refine PySem.HXO.binL I.kIn J rfl O.first io.fU rU (PySem.HXO.int_not C) O.hs O.hr O.hf (wpAny_mono (run_fn Ff hr bf .nil hx I rv (by rw [List.append_nil]; exact q)) (fun u s' h => ep_own h) fun _ _ z => z)
  · obtain ⟨i1, q⟩ := q
    cases ry
    obtain ⟨t, rfl⟩ := (show ∃ t, v = Value.int _ t from rx)
    obtain ⟨dx, od, J, ho⟩ := inst_at I i1
    rename_i j a
    have rv : Vals [V.ref a, V.int j] [Value.ref a, Value.int j t] := .cons rfl (.cons ⟨t, rfl⟩ .nil)
    refine PySem.HXO.binR I.kIn J rfl (typeIs_int s _ t) O.first io.fU O.sub io.sl (fun Q z => io.ni ho z) O.hs O.hr O.hg (wpAny_mono (run_fn Fg hr bg .nil hx I rv (by rw [List.append_nil]; exact q)) (fun u s' h => ep_own h) fun _ _ z => z)
  · exact h0 pins s σ H _ _ v u Q I rx ry q
  · exact q.elim
/-- x o= y, by an own method -/
def rIo (C : Addr) (sp : Sp) (E : XK) : TIp := fun x y H Q => ∃ a, x = .ref a ∧ IsI C H a ∧ sp [.ref a, y] H Q E
theorem ip_ow {op : Operator} {f : Addr} {fd : FuncData} {ps : List Str} {sp : Sp} {CY : CXT} {k : Nat} {E : XK} (first : PySem.W.selfFirst X.K C = true) (hs : PySem.W.findIn X.K (.ref C) (PySem.dunderI op.info.2) = some (some (.ref f))) (hf : PySem.W.isFn X.K (.ref f) = true)
    (Fi : FnOk X.prog X.w X.K X.mg X.base CY k f fd ps sp) (b : Binds X.K fd ps []) (hr : Room k X.A) (hx : Passes CY X E) : PIp X op (rIo C sp E) := by
  intro pins s σ H x y v u Q I rx ry q
  obtain ⟨a, rfl, i1, q⟩ := q
  cases rx
  obtain ⟨dx, od, J, ho⟩ := inst_at I i1
  have rv : Vals [V.ref a, y] [Value.ref a, u] := .cons rfl (.cons ry .nil)
  exact PySem.HXO.binI I.kIn J first hs hf (wpAny_mono (run_fn Fi hr b .nil hx I rv (by rw [List.append_nil]; exact q)) (fun u s' h => ep_own h) fun _ _ z => z)
/-- -x, of an own instance or an int -/
def rNg (C : Addr) (sp : Sp) (E : XK) : V → Hp → VK → Prop := fun x H Q => match x with
  | .ref a => IsI C H a ∧ sp [.ref a] H Q E
  | .int i => Q (.int (-i)) H
  | _ => False
theorem un_ow {f : Addr} {fd : FuncData} {ps : List Str} {sp : Sp} {CY : CXT} {k : Nat} {E : XK} (hs : PySem.W.findIn X.K (.ref C) "__neg__" = some (some (.ref f))) (hf : PySem.W.isFn X.K (.ref f) = true)
    (Fi : FnOk X.prog X.w X.K X.mg X.base CY k f fd ps sp) (b : Binds X.K fd ps []) (hr : Room k X.A) (hx : Passes CY X E) : UnR X (unaryOp .USub) (rNg C sp E) := by
  intro pins s σ H x v Q I rx q
  unfold rNg at q
  split at q
  · obtain ⟨i1, q⟩ := q
    cases rx
    obtain ⟨dx, od, J, ho⟩ := inst_at I i1
    rename_i a
    have rv : Vals [V.ref a] [Value.ref a] := .cons rfl .nil
    exact PySem.HXO.unN I.kIn J hs hf (run_fn Fi hr b .nil hx I rv (by rw [List.append_nil]; exact q))
  · exact un_neg pins s σ H _ v Q I rx ⟨_, rfl, q⟩
  · exact q.elim
end
end HX

set_option Elab.async false
set_option linter.all false
set_option maxRecDepth 100000
set_option maxHeartbeats 2000000
namespace HX
open PySem PySem.Spec PyProof.Rows L2

/-! ### C.m(..), m a static method: its record at p, its def at g -/
structure SMet (K : PySem.W.Frag) (C : Addr) (mc : Value) (m : Str) (p g : Addr) : Prop where
  rd : ClX.CRead K C mc
  at_ : PySem.W.findCls K (.ref C) mc m = some (.get (.builtin "staticmethod.__get__") (.ref p) .none (.ref C))
  rc : ∃ rest, PySem.W.recIn K p "staticmethod" = some (.ref g :: rest)
  kp : PySem.W.keepIn K (.ref g) = true
def tSM (C : Addr) (sp : Sp) (E : XK) (ta : TE) (t : TA) : TE := fun σ H Q => ta σ H fun x H1 => x = .ref C ∧ t σ H1 fun vs H2 => sp vs H2 Q E
def tSMK (C : Addr) (m : Nat) (sp : Sp) (gV : List V → List V → List V) (E : XK) (ta : TE) (t : TA) : TE := fun σ H Q => ta σ H fun x H1 => x = .ref C ∧ t σ H1 fun zs H2 => zs.length = m ∧ sp (gV [] zs) H2 Q E
section
variable {X : Cx} {CY : CXT} {k : Nat} {C p g : Addr} {mc : Value} {sp : Sp} {E : XK} {o e : Expr} {es : List Expr} {m : Str} {pos apos : Pos} {ta : TE} {t : TA} {pl : Sem Bool} {fd : FuncData} {ps : List Str} {pins : List (Addr × Obj)} {σ : L2.St} {H : Hp} {s : Shared} {A : Around}
theorem getm_sm {Ex : Value → Shared → Prop} {Q : Value × List Value → Shared → Prop} (I : Inv X pins σ H s) (c : SMet X.K C mc m p g) (h : ∀ s', Inv X pins σ H s' → Q (.ref g, []) s') : wpAny (model X.prog X.w) A (getMethod (.ref C) m pl) Q Ex s := by
  obtain ⟨rest, hp⟩ := c.rc
  refine PySem.W.method_cls I.kIn c.rd.ga (PySem.W.cls_bind I.kIn c.rd.rd c.at_ ?_)
  exact wpAny_call (PySem.W.sm_get (s := { s with toks := s.toks + 1 }) I.kIn hp (PySem.W.handed_on rfl (h _ (I.tok _))))
theorem pe_sm (he : PE X o ta) (c : SMet X.K C mc m p g) (Fm : FnOk X.prog X.w X.K X.mg X.base CY k g fd ps sp) (b : Binds X.K fd ps []) (hr : Room k X.A) (hx : Passes CY X E) (ha : PA X (e :: es) t)
    (hst : starEach (e :: es) X.env = (false, eval e X.env) :: starEach es X.env := by rfl) (hpl : (backTo pos (starEach es X.env)).any (·.1) = false := by rfl)
    (ht : eval (.Call (.Attribute o m apos) (e :: es) [] pos) X.env = (do
      let v ← eval o X.env
      standAt apos.atName
      let (f, first) ← holding [v] (getMethod v m pl)
      callWith pos f first (backTo pos (starEach (e :: es) X.env)) (backToKw pos (keywordEach [] X.env))) := by rfl) : PE X (.Call (.Attribute o m apos) (e :: es) [] pos) (tSM C sp E ta t) := by
  refine ⟨fun pins s σ H Q I h => PySem.W.methodCall_KW (pl := pl) (thn (he.run pins s σ H _ I h) fun u s1 ⟨x, H1, I1, rx, ex, q⟩ => ?_) ht⟩
  subst ex
  obtain rfl : u = Value.ref C := rx
  refine getm_sm I1 c fun s2 I2 => ?_
  refine PySem.W.callWith_K (h₀ := X.base) I2.ok.mod.kin c.kp (thn (ha.run pos pins s2 σ H1 _ I2 q) fun us s3 ⟨vs, H2, I3, rv, q2⟩ => ⟨I3.kIn, ?_⟩) hst hpl
  exact run_fn Fm hr b .nil hx I3 rv (by rw [List.append_nil]; exact q2)
theorem pe_smk {ks : List Str} {kws : List Keyword} {gg : List Value → List Value → List Value} {gV : List V → List V → List V} (he : PE X o ta) (c : SMet X.K C mc m p g) (Fm : FnOk X.prog X.w X.K X.mg X.base CY k g fd ps sp) (b : KBn X.K fd ps 0 ks gg gV) (hr : Room k X.A) (hx : Passes CY X E) (hkw : PK X kws t)
    (hall : (backToKw pos (keywordEach kws X.env)).all (·.1.isSome) = true := by rfl) (hks : (backToKw pos (keywordEach kws X.env)).filterMap (·.1) = ks := by rfl)
    (hpl : ((backTo pos (starEach [] X.env)).any (·.1) || (backToKw pos (keywordEach kws X.env)).any (·.1.isNone)) = false := by rfl)
    (ht : eval (.Call (.Attribute o m apos) [] kws pos) X.env = (do
      let v ← eval o X.env
      standAt apos.atName
      let (f, first) ← holding [v] (getMethod v m pl)
      callWith pos f first (backTo pos (starEach [] X.env)) (backToKw pos (keywordEach kws X.env))) := by rfl) : PE X (.Call (.Attribute o m apos) [] kws pos) (tSMK C ks.length sp gV E ta t) := by
  refine ⟨fun pins s σ H Q I h => PySem.W.methodCall_KW (pl := pl) (thn (he.run pins s σ H _ I h) fun u s1 ⟨x, H1, I1, rx, ex, q⟩ => ?_) ht⟩
  subst ex
  obtain rfl : u = Value.ref C := rx
  refine getm_sm I1 c fun s2 I2 => ?_
  refine PySem.W.callWith_KW0 (h₀ := X.base) I2.ok.mod.kin c.kp hall (thn (hkw.run pos pins s2 σ H1 _ I2 q) fun ws s3 ⟨zs, H2, I3, rz, l2, q2⟩ => ⟨I3.kIn, ?_⟩) hpl
  rw [hks]
  exact run_kw Fm hr b (fun e s' z => hx _ _ _ _ _ _ I3 z) I3 rz l2 q2
/-- abs(x) of an own instance, an int -/
def rAb (C : Addr) (sp : Sp) (E : XK) : List V → Hp → VK → Prop := fun xs H Q => match xs with
  | [.ref a] => IsI C H a ∧ sp [.ref a] H Q E
  | [.int i] => Q (.int (if i < 0 then -i else i)) H
  | _ => False
theorem call_ab {f : Addr} (hs : PySem.W.findIn X.K (.ref C) "__abs__" = some (some (.ref f))) (hf : PySem.W.isFn X.K (.ref f) = true) (Fi : FnOk X.prog X.w X.K X.mg X.base CY k f fd ps sp) (b : Binds X.K fd ps []) (hr : Room (k + 1) X.A) (hx : Passes CY X E) :
    CallR X (.builtin "abs") (rAb C sp E) := by
  intro pins s σ H xs us Q I r q
  unfold rAb at q
  split at q
  · obtain ⟨i1, q⟩ := q
    obtain ⟨u, rfl, ru⟩ := vals1 r
    cases ru
    obtain ⟨dx, od, J, ho⟩ := inst_at I i1
    rename_i a
    have rv : Vals [V.ref a] [Value.ref a] := .cons rfl .nil
    have hl : ([Value.ref a] ++ []).length = ps.length := by
      rw [List.append_nil, ← rv.length]
      exact Fi.len _ _ _ _ q
    have bd := b s [Value.ref a] I.kIn hl
    rw [List.append_nil] at bd
    refine PySem.HXO.unA I.kIn J hs hf (wpAny_call (codeAny_mono (Fi.run X.A.in1 X.stack s H ⟨[Value.ref a], []⟩ [Value.ref a] [V.ref a] Q E hr.in1 I.env0.in1 bd rv q) fun z s' hq => ?_))
    match z, hq with
    | .error e, hq => exact hx pins σ H s e s' I hq
    | .ok (.ret u), hq => exact I.after hq
    | .ok .next, hq => exact False.elim hq
    | .ok .brk, hq => exact False.elim hq
    | .ok .cont, hq => exact False.elim hq
  · exact call_abs pins s σ H _ us Q I r ⟨_, rfl, q⟩
  · exact q.elim
/-- what is never come to -/
theorem ps_dead {st : Stmt} : PS X st fun _ _ _ => False := ⟨fun _ _ _ _ _ _ h => h.elim⟩
theorem pe_dead : PE X e fun _ _ _ => False := ⟨fun _ _ _ _ _ _ h => h.elim⟩
end
end HX

set_option Elab.async false
set_option linter.all false
set_option maxRecDepth 100000
set_option maxHeartbeats 2000000
namespace HX
open PySem PySem.Spec PyProof.Rows L2

/-! ### the lowest terms of p / q -/
def gcdZ (p q : Int) : Int := ((Nat.gcd p.natAbs q.natAbs : Nat) : Int)
def sgZ (q : Int) : Int := if q < 0 then -1 else 1
def nT (p q : Int) : Int := (sgZ q * p) / gcdZ p q
def nB (p q : Int) : Int := (sgZ q * q) / gcdZ p q
/-- t / b stands in lowest terms -/
def Low (t b : Int) : Prop := 0 < b ∧ Nat.gcd t.natAbs b.natAbs = 1
theorem gcdZ_pos {p q : Int} (h : q ≠ 0) : 0 < gcdZ p q := by
  have : 0 < Nat.gcd p.natAbs q.natAbs := Nat.gcd_pos_of_pos_right _ (by omega)
  unfold gcdZ
  omega
theorem gcdZ_p (p q : Int) : gcdZ p q ∣ p := Int.ofNat_dvd_left.mpr (Nat.gcd_dvd_left _ _)
theorem gcdZ_q (p q : Int) : gcdZ p q ∣ q := Int.ofNat_dvd_left.mpr (Nat.gcd_dvd_right _ _)
theorem sgZ_sq (q : Int) : sgZ q = 1 ∨ sgZ q = -1 := by
  unfold sgZ
  split
  · exact .inr rfl
  · exact .inl rfl
theorem nT_mul {p q : Int} : gcdZ p q * nT p q = sgZ q * p := Int.mul_ediv_cancel' (Int.dvd_trans (gcdZ_p p q) (Int.dvd_mul_left _ _))
theorem nB_mul {p q : Int} : gcdZ p q * nB p q = sgZ q * q := Int.mul_ediv_cancel' (Int.dvd_trans (gcdZ_q p q) (Int.dvd_mul_left _ _))
theorem sgZ_abs {q : Int} : sgZ q * q = (q.natAbs : Int) := by
  unfold sgZ
  split <;> omega
theorem nB_pos {p q : Int} (h : q ≠ 0) : 0 < nB p q := by
  have g := gcdZ_pos (p := p) h
  have e := nB_mul (p := p) (q := q)
  rw [sgZ_abs] at e
  rcases Int.lt_or_le 0 (nB p q) with z | z
  · exact z
  · have := Int.mul_nonpos_of_nonneg_of_nonpos (Int.le_of_lt g) z
    omega
theorem cross {p q : Int} (h : q ≠ 0) : nT p q * q = p * nB p q := by
  have g := gcdZ_pos (p := p) h
  have e1 := nT_mul (p := p) (q := q)
  have e2 := nB_mul (p := p) (q := q)
  have s : sgZ q ≠ 0 := by rcases sgZ_sq q with z | z <;> rw [z] <;> decide
  refine Int.eq_of_mul_eq_mul_left (Int.ne_of_gt g) ?_
  calc gcdZ p q * (nT p q * q) = (gcdZ p q * nT p q) * q := by rw [Int.mul_assoc]
    _ = sgZ q * p * q := by rw [e1]
    _ = p * (sgZ q * q) := by rw [Int.mul_comm (sgZ q) p, Int.mul_assoc]
    _ = p * (gcdZ p q * nB p q) := by rw [e2]
    _ = gcdZ p q * (p * nB p q) := by rw [Int.mul_left_comm]
theorem low_n {p q : Int} (h : q ≠ 0) : Low (nT p q) (nB p q) := by
  refine ⟨nB_pos h, ?_⟩
  have g := gcdZ_pos (p := p) h
  have e1 := congrArg Int.natAbs (nT_mul (p := p) (q := q))
  have e2 := congrArg Int.natAbs (nB_mul (p := p) (q := q))
  have sg : (sgZ q).natAbs = 1 := by rcases sgZ_sq q with z | z <;> rw [z] <;> rfl
  rw [Int.natAbs_mul, Int.natAbs_mul, sg, Nat.one_mul] at e1 e2
  have gg : (gcdZ p q).natAbs = Nat.gcd p.natAbs q.natAbs := rfl
  rw [gg] at e1 e2
  have e3 := Nat.gcd_mul_left (Nat.gcd p.natAbs q.natAbs) (nT p q).natAbs (nB p q).natAbs
  rw [e1, e2] at e3
  have g2 : 0 < Nat.gcd p.natAbs q.natAbs := Nat.gcd_pos_of_pos_right _ (by omega)
  exact Nat.eq_of_mul_eq_mul_left g2 (by rw [Nat.mul_one]; exact e3.symm)
/-- two fractions in lowest terms that are equal are the same -/
theorem low_unique {t b t' b' : Int} (h : Low t b) (h' : Low t' b') (e : t * b' = t' * b) : t = t' ∧ b = b' := by
  obtain ⟨p, g⟩ := h
  obtain ⟨p', g'⟩ := h'
  have e' := congrArg Int.natAbs e
  rw [Int.natAbs_mul, Int.natAbs_mul] at e'
  have d1 : b.natAbs ∣ b'.natAbs := by
    have : b.natAbs ∣ t.natAbs * b'.natAbs := ⟨t'.natAbs, by rw [e', Nat.mul_comm]⟩
    exact (Nat.Coprime.dvd_of_dvd_mul_left (Nat.Coprime.symm g) this)
  have d2 : b'.natAbs ∣ b.natAbs := by
    have : b'.natAbs ∣ t'.natAbs * b.natAbs := ⟨t.natAbs, by rw [← e', Nat.mul_comm]⟩
    exact (Nat.Coprime.dvd_of_dvd_mul_left (Nat.Coprime.symm g') this)
  have eb : b = b' := by
    have := Nat.dvd_antisymm d1 d2
    omega
  subst eb
  exact ⟨Int.eq_of_mul_eq_mul_right (by omega) e, rfl⟩
theorem n_unique {p q t b : Int} (hq : q ≠ 0) (h : Low t b) (e : t * q = p * b) : nT p q = t ∧ nB p q = b := by
  refine low_unique (low_n hq) h ?_
  have c := cross (p := p) hq
  refine Int.eq_of_mul_eq_mul_left hq ?_
  calc q * (nT p q * b) = (nT p q * q) * b := by rw [← Int.mul_assoc, Int.mul_comm q]
    _ = p * nB p q * b := by rw [c]
    _ = (p * b) * nB p q := by rw [Int.mul_right_comm]
    _ = t * q * nB p q := by rw [e]
    _ = q * (t * nB p q) := by rw [Int.mul_comm t q, Int.mul_assoc]
theorem low_int (i : Int) : Low i 1 := ⟨by decide, by simp⟩
theorem low_neg {t b : Int} (h : Low t b) : Low (-t) b := ⟨h.1, by rw [Int.natAbs_neg]; exact h.2⟩
theorem low_abs {t b : Int} (h : Low t b) : Low (if t < 0 then -t else t) b := by split; exact low_neg h; exact h
theorem n_self {t b : Int} (h : Low t b) : nT t b = t ∧ nB t b = b := n_unique (by have := h.1; omega) h rfl
theorem nT_le {p q : Int} (h : q ≠ 0) : (nT p q).natAbs ≤ p.natAbs := by
  have e1 := congrArg Int.natAbs (nT_mul (p := p) (q := q))
  have sg : (sgZ q).natAbs = 1 := by rcases sgZ_sq q with z | z <;> rw [z] <;> rfl
  rw [Int.natAbs_mul, Int.natAbs_mul, sg, Nat.one_mul] at e1
  have g := gcdZ_pos (p := p) h
  have : 1 ≤ (gcdZ p q).natAbs := by omega
  calc (nT p q).natAbs = 1 * (nT p q).natAbs := (Nat.one_mul _).symm
    _ ≤ (gcdZ p q).natAbs * (nT p q).natAbs := Nat.mul_le_mul_right _ this
    _ = p.natAbs := e1
theorem nB_le {p q : Int} (h : q ≠ 0) : (nB p q).natAbs ≤ q.natAbs := by
  have e1 := congrArg Int.natAbs (nB_mul (p := p) (q := q))
  have sg : (sgZ q).natAbs = 1 := by rcases sgZ_sq q with z | z <;> rw [z] <;> rfl
  rw [Int.natAbs_mul, Int.natAbs_mul, sg, Nat.one_mul] at e1
  have g := gcdZ_pos (p := p) h
  have : 1 ≤ (gcdZ p q).natAbs := by omega
  calc (nB p q).natAbs = 1 * (nB p q).natAbs := (Nat.one_mul _).symm
    _ ≤ (gcdZ p q).natAbs * (nB p q).natAbs := Nat.mul_le_mul_right _ this
    _ = q.natAbs := e1
/-- the divisor of the program: the gcd with the sign of q -/
theorem fdiv_sg {p q z : Int} (h : q ≠ 0) (d : gcdZ p q ∣ z) : z.fdiv (if q < 0 then -(gcdZ p q) else gcdZ p q) = (sgZ q * z) / gcdZ p q := by
  have g := gcdZ_pos (p := p) h
  obtain ⟨k, rfl⟩ := d
  unfold sgZ
  split
  · have e : gcdZ p q * k = -(gcdZ p q) * -k := (Int.neg_mul_neg _ _).symm
    have e2 : -1 * (gcdZ p q * k) = gcdZ p q * -k := by rw [Int.neg_one_mul, Int.mul_neg]
    rw [e2, Int.mul_ediv_cancel_left _ (Int.ne_of_gt g), e, Int.mul_fdiv_cancel_left _ (by omega)]
  · rw [Int.one_mul, Int.fdiv_eq_ediv_of_nonneg _ (Int.le_of_lt g)]
/-- floor division of a fraction in lowest terms is that of p by q -/
theorem floor_n {p q : Int} (h : q ≠ 0) : nT p q / nB p q = p.fdiv q := by
  have g := gcdZ_pos (p := p) h
  have e1 := nT_mul (p := p) (q := q)
  have e2 := nB_mul (p := p) (q := q)
  have b := nB_pos (p := p) h
  have z : (gcdZ p q * nT p q) / (gcdZ p q * nB p q) = nT p q / nB p q := Int.mul_ediv_mul_of_pos _ _ g
  have pos : 0 ≤ sgZ q * q := by rw [sgZ_abs]; omega
  rw [← z, e1, e2, ← Int.fdiv_eq_ediv_of_nonneg _ pos]
  rcases sgZ_sq q with s | s
  · rw [s, Int.one_mul, Int.one_mul]
  · rw [s, Int.neg_one_mul, Int.neg_one_mul, Int.neg_fdiv_neg]
end HX

set_option Elab.async false
set_option linter.all false
set_option maxRecDepth 100000
set_option maxHeartbeats 2000000
namespace HX
open PySem PySem.Spec PyProof.Rows L2

/-! ### one side alone -/
def rOwL (C : Addr) (sp : Sp) (E : XK) : L2.R2 := fun x y H Q => match x, y with
  | .ref a, .ref b => IsI C H a ∧ IsI C H b ∧ sp [.ref a, .ref b] H Q E
  | .ref a, .int j => IsI C H a ∧ sp [.ref a, .int j] H Q E
  | _, _ => False
def rOwR (C : Addr) (r0 : L2.R2) (sp : Sp) (E : XK) : L2.R2 := fun x y H Q => match x, y with
  | .int i, .ref b => IsI C H b ∧ sp [.ref b, .int i] H Q E
  | .int i, .int j => r0 (.int i) (.int j) H Q
  | _, _ => False
section
variable {X : Cx} {C f g : Addr} {fd : FuncData} {ps : List Str} {sp : Sp} {CY : CXT} {k : Nat} {E : XK} {op : Operator} {idl : String} {r0 : L2.R2}
theorem op_owL (io : PySem.HXO.IntOp op idl) (O : PySem.HXO.OwnOp X.K C op f g) (Ff : FnOk X.prog X.w X.K X.mg X.base CY k f fd ps sp) (bf : Binds X.K fd ps []) (hr : Room k X.A) (hx : Passes CY X E) : OpR X (binaryOp op) (rOwL C sp E) := by
  intro pins s σ H x y v u Q I rx ry q
  unfold rOwL at q
  split at q
  · obtain ⟨i1, i2, q⟩ := q
    cases rx
    cases ry
    obtain ⟨dx, od, J, ho⟩ := inst_at I i1
    obtain ⟨dy, od2, J2, ho2⟩ := inst_at I i2
    rename_i a b
    have rv : Vals [V.ref a, V.ref b] [Value.ref a, Value.ref b] := .cons rfl (.cons rfl .nil)
    exact PySem.HXO.binE I.kIn J J2 O.first O.hs O.hf (wpAny_mono (run_fn Ff hr bf .nil hx I rv (by rw [List.append_nil]; exact q)) (fun u s' h => ep_own h) fun _ _ z => z)
  · obtain ⟨i1, q⟩ := q
    cases rx
    obtain ⟨t, rfl⟩ := (show ∃ t, u = Value.int _ t from ry)
    obtain ⟨dx, od, J, ho⟩ := inst_at I i1
    obtain ⟨r, rU⟩ := io.rU
    rename_i a j
    have rv : Vals [V.ref a, V.int j] [Value.ref a, Value.int j t] := .cons rfl (.cons ⟨t, rfl⟩ .nil)
    exact PySem.HXO.binL I.kIn J rfl O.first io.fU rU (PySem.HXO.int_not C) O.hs O.hr O.hf (wpAny_mono (run_fn Ff hr bf .nil hx I rv (by rw [List.append_nil]; exact q)) (fun u s' h => ep_own h) fun _ _ z => z)
  · exact q.elim
theorem op_owR (io : PySem.HXO.IntOp op idl) (h0 : OpR X (binaryOp op) r0) (O : PySem.HXO.OwnOp X.K C op f g) (Fg : FnOk X.prog X.w X.K X.mg X.base CY k g fd ps sp) (bg : Binds X.K fd ps []) (hr : Room k X.A) (hx : Passes CY X E) : OpR X (binaryOp op) (rOwR C r0 sp E) := by
  intro pins s σ H x y v u Q I rx ry q
  unfold rOwR at q
  split at q
  · obtain ⟨i1, q⟩ := q
    cases ry
    obtain ⟨t, rfl⟩ := (show ∃ t, v = Value.int _ t from rx)
    obtain ⟨dx, od, J, ho⟩ := inst_at I i1
    rename_i j a
    have rv : Vals [V.ref a, V.int j] [Value.ref a, Value.int j t] := .cons rfl (.cons ⟨t, rfl⟩ .nil)
    exact PySem.HXO.binR I.kIn J rfl (typeIs_int s _ t) O.first io.fU O.sub io.sl (fun Q z => io.ni ho z) O.hs O.hr O.hg (wpAny_mono (run_fn Fg hr bg .nil hx I rv (by rw [List.append_nil]; exact q)) (fun u s' h => ep_own h) fun _ _ z => z)
  · exact h0 pins s σ H _ _ v u Q I rx ry q
  · exact q.elim
/-- // by any int but 0, below 2 ^ 9000 -/
def CDivZ (_ j : Int) : Prop := j ≠ 0 ∧ j.natAbs.log2 < 9000
theorem o_fdivZ : OpR X (binaryOp .FloorDiv) (rI2 CDivZ fun i j => .int (i.fdiv j)) := opC (opI fun _ _ _ _ _ _ _ hc q => floordiv_int hc.1 q (.inl (PyProof.noPylong_of_log2 hc.2)))
theorem o_mulW : OpR X (binaryOp .Mult) (rI2 CMulW fun i j => .int (i * j)) := opC op_mulW
end

/-! ### amounts: top t, bottom b -/
def afs (t b : Int) : List (Str × V) := [("top", .int t), ("bottom", .int b)]
def Am (A : Addr) (H : Hp) (a : Addr) (t b : Int) : Prop := ∃ dx, H a = some (.ins A dx (afs t b))
/-- an amount or an int -/
def Nu (A : Addr) (H : Hp) (v : V) (t b : Int) : Prop := (∃ a, v = .ref a ∧ Am A H a t b) ∨ (v = .int t ∧ b = 1)
/-- fewer than n bits -/
def Sm (n : Nat) (i : Int) : Prop := i.natAbs < 2 ^ n
theorem Am.mo {A : Addr} {H G : Hp} {a : Addr} {t b : Int} (s : Same H G) : Am A H a t b → Am A G a t b := fun ⟨dx, e⟩ => ⟨dx, s _ _ e⟩
theorem Nu.mo {A : Addr} {H G : Hp} {v : V} {t b : Int} (s : Same H G) : Nu A H v t b → Nu A G v t b := fun h => h.elim (fun ⟨a, e, z⟩ => .inl ⟨a, e, z.mo s⟩) .inr
theorem Am.isI {A : Addr} {H : Hp} {a : Addr} {t b : Int} (h : Am A H a t b) : IsI A H a := let ⟨dx, e⟩ := h; ⟨dx, _, e⟩
/-- a new amount is the answer -/
def QA (A : Addr) (H : Hp) (Q : VK) (t b : Int) : Prop := ∀ r G, H r = none → Same H G → Am A G r t b → Q (.ref r) G
theorem QA.mo {A : Addr} {H G : Hp} {Q : VK} {t b : Int} (s : Same H G) (h : QA A H Q t b) : QA A G Q t b := fun r G' n s' a => h r G' (s.free n) (s.trans s') a
theorem Sm.mono {m n : Nat} {i : Int} (h : Sm m i) (le : m ≤ n) : Sm n i := Nat.lt_of_lt_of_le h (Nat.pow_le_pow_right (by decide) le)
theorem Sm.mul {m n : Nat} {i j : Int} (h : Sm m i) (k : Sm n j) : Sm (m + n) (i * j) := wide_lt h k
theorem Sm.add {n : Nat} {i j : Int} (h : Sm n i) (k : Sm n j) : Sm (n + 1) (i + j) := by
  unfold Sm at *
  rw [Nat.pow_succ]
  omega
theorem Sm.neg {n : Nat} {i : Int} (h : Sm n i) : Sm n (-i) := by
  unfold Sm at *
  rw [Int.natAbs_neg]
  exact h
theorem Sm.cMul {m n : Nat} {i j : Int} (h : Sm m i) (k : Sm n j) (hm : 0 < m := by decide) (hn : 0 < n := by decide) (le : m + n ≤ 1000000 := by decide) : CMulW i j := wide_mul h k hm hn le
theorem Sm.cDiv {n : Nat} {i j : Int} (h : Sm n j) (z : j ≠ 0) (hn : 0 < n := by decide) (le : n ≤ 9000 := by decide) : CDivZ i j := ⟨z, Nat.lt_of_lt_of_le (PySem.Flt.log2_lt_of hn h) le⟩
theorem Sm.nT {n : Nat} {p q : Int} (h : Sm n p) (z : q ≠ 0) : Sm n (nT p q) := Nat.lt_of_le_of_lt (nT_le z) h
theorem Sm.nB {n : Nat} {p q : Int} (h : Sm n q) (z : q ≠ 0) : Sm n (nB p q) := Nat.lt_of_le_of_lt (nB_le z) h
theorem sm_one : Sm 1 1 := by unfold Sm; decide

/-! ### what the parts of Amount promise -/
def spIsInt (A : Addr) : Sp := fun vs H Q _ => ∃ v, vs = [v] ∧ (((∃ i, v = .int i) ∧ Q (.bl true) H) ∨ ∃ a, v = .ref a ∧ IsI A H a ∧ Q (.bl false) H)
def spInit (A : Addr) : Sp := fun vs H Q _ => ∃ (x dx : Addr) (p q : Int), vs = [.ref x, .int p, .int q] ∧ H x = some (.ins A dx []) ∧ q ≠ 0 ∧ Sm 900 p ∧ Sm 900 q ∧
  ∀ G, (∀ b o, b ≠ x → H b = some o → G b = some o) → G x = some (.ins A dx (afs (nT p q) (nB p q))) → Q .non G
def spIsNum (A : Addr) : Sp := fun vs H Q _ => ∃ v t b, vs = [v] ∧ Nu A H v t b ∧ Q (.bl true) H
def spOf (A : Addr) : Sp := fun vs H Q _ => ∃ v t b, vs = [v] ∧ Nu A H v t b ∧ Sm 900 t ∧ ∀ r G, Same H G → Am A G r t b → Q (.ref r) G
/-- self and a number: a new amount -/
def spBin (A : Addr) (n : Nat) (p q : Int → Int → Int → Int → Int) : Sp := fun vs H Q _ => ∃ (a : Addr) (v : V) (t b c d : Int), vs = [.ref a, v] ∧ Am A H a t b ∧ Nu A H v c d ∧ Low t b ∧ Low c d ∧ Sm n t ∧ Sm n b ∧ Sm n c ∧ Sm n d ∧ q t b c d ≠ 0 ∧ QA A H Q (nT (p t b c d) (q t b c d)) (nB (p t b c d) (q t b c d))
theorem mkA {A : Addr} {H : Hp} {Q : VK} {E : XK} {p q : Int} (z : q ≠ 0) (sp : Sm 900 p) (sq : Sm 900 q) (k : QA A H Q (nT p q) (nB p q)) : ∀ x dx, H x = none → H dx = none → dx ≠ x →
    spInit A (.ref x :: [.int p, .int q]) (upd (upd H dx (.own x)) x (.ins A dx [])) (fun v H2 => v = .non ∧ Q (.ref x) H2) E := fun x dx nx nd ne =>
  ⟨x, dx, p, q, rfl, upd_same, z, sp, sq, fun G kp gx => ⟨rfl, k x G nx (fun b o e => kp b o (ne_of_none e nx) (by rw [upd_ne (ne_of_none e nx), upd_ne (ne_of_none e nd)]; exact e)) ⟨dx, gx⟩⟩⟩
end HX

set_option Elab.async false
set_option linter.all false
set_option maxRecDepth 100000
set_option maxHeartbeats 2000000
/-! ### comparisons of own instances -/
namespace PySem
namespace HXC
open W Builtin PyProof.Rows
section
variable {prog : Program} {w : World} {A : Around} {E : Value → Shared → Prop} {s : Shared} {K : Frag} {x C f : Addr} {ox : Obj} {od : Option Obj}
theorem try_own {b : Value} {name : Str} {Q : Value → Shared → Prop} (X : K.In s.heap) (I : InstAt s.heap x ox C od) (hs : findIn K (.ref C) name = some (some (.ref f))) (hf : isFn K (.ref f) = true)
    (h : wpAny (model prog w) A (call (.ref f) [.ref x, b]) (W.CmpBack Q) E s) : wpAny (model prog w) A (tryCompare (.ref x) name b) (fun r s2 => ∃ v, r = some v ∧ Q v s2) E s := by
  unfold tryCompare
  refine wpAny_bind (ifBound_K X I hs hf (wpAny_mono h (fun v s2 hv => ?_) fun _ _ z => z))
  cases v <;> first | exact hv.elim | exact (wpAny_pure ⟨_, rfl, hv⟩)
/-- x o b, b of a built-in type -/
theorem cmL {op : CmpOp} {b : Value} {T : String} {Q : Value → Shared → Prop} (hu : A.units < cLine) (X : K.In s.heap) (I : InstAt s.heap x ox C od) (hb : s.TypeIs b T) (hsub : isSubtype (.type T) (.ref C) = pure false)
    (hs : findIn K (.ref C) (cmpInfo op).2.1 = some (some (.ref f))) (hf : isFn K (.ref f) = true)
    (h : wpAny (model prog w) A (call (.ref f) [.ref x, b]) (W.CmpBack Q) E s) : wpAny (model prog w) A (richCompare op (.ref x) b) Q E s := by
  have one := try_own X I hs hf h
  unfold richCompare
  simp only [oneThing_ref]
  refine wpAny_holding (wpAny_bind (wpAny_cRoomFor hu ?_))
  refine wpAny_bind (I.type.here (wpAny_bind (wpAny_typeOf hb ?_)))
  have ne : (Value.ref C != Value.type T) = true := by simp
  rw [if_pos ne]
  refine wpAny_bind (wpAny_of_eq hsub ?_)
  simp only [Bool.false_eq_true, if_false]
  refine wpAny_bind (wpAny_mono one (fun r s2 z => ?_) fun _ _ z => z)
  obtain ⟨v, rfl, hq⟩ := z
  exact (wpAny_pure hq)
/-- x o y of one class -/
theorem cmE {op : CmpOp} {y : Addr} {oy : Obj} {oe : Option Obj} {Q : Value → Shared → Prop} (hu : A.units < cLine) (X : K.In s.heap) (I : InstAt s.heap x ox C od) (J : InstAt s.heap y oy C oe)
    (hs : findIn K (.ref C) (cmpInfo op).2.1 = some (some (.ref f))) (hf : isFn K (.ref f) = true)
    (h : wpAny (model prog w) A (call (.ref f) [.ref x, .ref y]) (W.CmpBack Q) E s) : wpAny (model prog w) A (richCompare op (.ref x) (.ref y)) Q E s := by
  have one := try_own X I hs hf h
  unfold richCompare
  simp only [oneThing_ref]
  refine wpAny_holding (wpAny_bind (wpAny_cRoomFor hu ?_))
  refine wpAny_bind (I.type.here (wpAny_bind (J.type.here ?_)))
  have ne : (Value.ref C != Value.ref C) = false := by simp
  rw [if_neg (by rw [ne]; decide)]
  refine wpAny_bind (wpAny_pure ?_)
  simp only [Bool.false_eq_true, if_false]
  refine wpAny_bind (wpAny_mono one (fun r s2 z => ?_) fun _ _ z => z)
  obtain ⟨v, rfl, hq⟩ := z
  exact (wpAny_pure hq)
/-- v o x, v an int -/
theorem cmR {op : CmpOp} {i : Int} {t : Tok} {idl : String} {Q : Value → Shared → Prop} (hu : A.units < cLine) (X : K.In s.heap) (I : InstAt s.heap x ox C od) (hsub : subIn K (.ref C) (.type "int") = some false) (sl : Slot "int" (cmpInfo op).2.1 idl)
    (hN : ∀ Q : Value → Shared → Prop, Q .notImplemented s → wpAny (model prog w) A (call (.builtin idl) [.int i t, .ref x]) Q E s)
    (hs : findIn K (.ref C) (cmpInfo op).2.2 = some (some (.ref f))) (hf : isFn K (.ref f) = true)
    (h : wpAny (model prog w) A (call (.ref f) [.ref x, .int i t]) (W.CmpBack Q) E s) : wpAny (model prog w) A (richCompare op (.int i t) (.ref x)) Q E s := by
  have one := try_own X I hs hf h
  have hO : oneThing? op (.int i t) (.ref x) = none := by rfl
  unfold richCompare
  simp only [hO]
  refine wpAny_holding (wpAny_bind (wpAny_cRoomFor hu ?_))
  refine wpAny_bind (wpAny_of_eq (show typeOf (.int i t) = pure (.type "int") from rfl) (wpAny_bind (I.type.here ?_)))
  have ne : (Value.type "int" != Value.ref C) = true := by simp
  rw [if_pos ne]
  refine wpAny_bind ((looks_subIn X hsub).here ?_)
  simp only [Bool.false_eq_true, if_false, Bool.not_false, if_true]
  refine wpAny_bind (m := tryCompare (.int i t) _ (.ref x)) ?_
  unfold tryCompare
  refine wpAny_bind (wpAny_callSpecialIfBound?_slot (typeIs_int s i t) sl (hN _ ?_))
  refine (wpAny_pure ?_)
  refine wpAny_bind (wpAny_mono one (fun r s2 z => ?_) fun _ _ z => z)
  obtain ⟨v, rfl, hq⟩ := z
  exact (wpAny_pure hq)
theorem nc_lt {i : Int} {t : Tok} {dx : Addr} {Q : Value → Shared → Prop} (hx : s.heap.get? x = some (instObj C dx)) (h : Q .notImplemented s) : wpAny (model prog w) A (call (.builtin "int.__lt__") [.int i t, .ref x]) Q E s := by
  refine wpAny_call (codeAny_call_builtin F.slot_int_lt.plain F.entry_int_lt (F.slot_int_lt.check _ _ _ _ _ _ _ _ (typeIs_int s i t) (F.args_int_lt_2 _ _) ?_))
  unfold Builtin.«int.__lt__»
  refine (by (repeat (first | with_reducible refine wpAny_loadPart_at hx ?_ | with_reducible refine wpAny_load hx ?_ | wp_step)); exact h)
theorem nc_le {i : Int} {t : Tok} {dx : Addr} {Q : Value → Shared → Prop} (hx : s.heap.get? x = some (instObj C dx)) (h : Q .notImplemented s) : wpAny (model prog w) A (call (.builtin "int.__le__") [.int i t, .ref x]) Q E s := by
  refine wpAny_call (codeAny_call_builtin F.slot_int_le.plain F.entry_int_le (F.slot_int_le.check _ _ _ _ _ _ _ _ (typeIs_int s i t) (F.args_int_le_2 _ _) ?_))
  unfold Builtin.«int.__le__»
  refine (by (repeat (first | with_reducible refine wpAny_loadPart_at hx ?_ | with_reducible refine wpAny_load hx ?_ | wp_step)); exact h)
theorem nc_gt {i : Int} {t : Tok} {dx : Addr} {Q : Value → Shared → Prop} (hx : s.heap.get? x = some (instObj C dx)) (h : Q .notImplemented s) : wpAny (model prog w) A (call (.builtin "int.__gt__") [.int i t, .ref x]) Q E s := by
  refine wpAny_call (codeAny_call_builtin F.slot_int_gt.plain F.entry_int_gt (F.slot_int_gt.check _ _ _ _ _ _ _ _ (typeIs_int s i t) (F.args_int_gt_2 _ _) ?_))
  unfold Builtin.«int.__gt__»
  refine (by (repeat (first | with_reducible refine wpAny_loadPart_at hx ?_ | with_reducible refine wpAny_load hx ?_ | wp_step)); exact h)
theorem nc_ge {i : Int} {t : Tok} {dx : Addr} {Q : Value → Shared → Prop} (hx : s.heap.get? x = some (instObj C dx)) (h : Q .notImplemented s) : wpAny (model prog w) A (call (.builtin "int.__ge__") [.int i t, .ref x]) Q E s := by
  refine wpAny_call (codeAny_call_builtin F.slot_int_ge.plain F.entry_int_ge (F.slot_int_ge.check _ _ _ _ _ _ _ _ (typeIs_int s i t) (F.args_int_ge_2 _ _) ?_))
  unfold Builtin.«int.__ge__»
  refine (by (repeat (first | with_reducible refine wpAny_loadPart_at hx ?_ | with_reducible refine wpAny_load hx ?_ | wp_step)); exact h)
theorem nc_eq {i : Int} {t : Tok} {dx : Addr} {Q : Value → Shared → Prop} (hx : s.heap.get? x = some (instObj C dx)) (h : Q .notImplemented s) : wpAny (model prog w) A (call (.builtin "int.__eq__") [.int i t, .ref x]) Q E s := by
  refine wpAny_call (codeAny_call_builtin F.slot_int_eq.plain F.entry_int_eq (F.slot_int_eq.check _ _ _ _ _ _ _ _ (typeIs_int s i t) (F.args_int_eq_2 _ _) ?_))
  unfold Builtin.«int.__eq__»
  refine (by (repeat (first | with_reducible refine wpAny_loadPart_at hx ?_ | with_reducible refine wpAny_load hx ?_ | wp_step)); exact h)
end
end HXC
end PySem
namespace HX
open PySem PySem.Spec PyProof.Rows L2
/-- a class's methods of a comparison: f of o, g of its mirror -/
structure CmpO (K : PySem.W.Frag) (C : Addr) (op : CmpOp) (f g : Addr) (idl : String) : Prop where
  sub : PySem.W.subIn K (.ref C) (.type "int") = some false
  hs : PySem.W.findIn K (.ref C) (cmpInfo op).2.1 = some (some (.ref f))
  hr : PySem.W.findIn K (.ref C) (cmpInfo op).2.2 = some (some (.ref g))
  hf : PySem.W.isFn K (.ref f) = true
  hg : PySem.W.isFn K (.ref g) = true
  rich : ∀ a b, compareOp op a b = richCompare op a b
  sl : Slot "int" (cmpInfo op).2.1 idl
  ni : ∀ {prog : Program} {w : World} {A : Around} {E : Value → Shared → Prop} {s : Shared} {x C dx : Addr} {i : Int} {t : Tok} {Q : Value → Shared → Prop}, s.heap.get? x = some (PySem.W.instObj C dx) → Q .notImplemented s → wpAny (model prog w) A (call (.builtin idl) [.int i t, .ref x]) Q E s
theorem op_cm {X : Cx} {C f g : Addr} {op : CmpOp} {idl : String} {r0 : L2.R2} {ff fg : FuncData} {pf pg : List Str} {spF spG : Sp} {CY : CXT} {k : Nat} {E : XK} (h0 : OpR X (compareOp op) r0) (O : CmpO X.K C op f g idl)
    (Ff : FnOk X.prog X.w X.K X.mg X.base CY k f ff pf spF) (Fg : FnOk X.prog X.w X.K X.mg X.base CY k g fg pg spG) (bf : Binds X.K ff pf []) (bg : Binds X.K fg pg []) (hr : Room k X.A) (hx : Passes CY X E) : OpR X (compareOp op) (rOw C r0 spF spG E) := by
  intro pins s σ H x y v u Q I rx ry q
  have hu := hr.units0
  unfold rOw at q
  split at q
  · obtain ⟨i1, i2, q⟩ := q
    cases rx
    cases ry
    obtain ⟨dx, od, J, ho⟩ := inst_at I i1
    obtain ⟨dy, od2, J2, ho2⟩ := inst_at I i2
    rename_i a b
    have rv : Vals [V.ref a, V.ref b] [Value.ref a, Value.ref b] := .cons rfl (.cons rfl .nil)
    rw [O.rich]
    exact PySem.HXC.cmE hu I.kIn J J2 O.hs O.hf (wpAny_mono (run_fn Ff hr bf .nil hx I rv (by rw [List.append_nil]; exact q)) (fun u s2 h => ep_own h) fun _ _ z => z)
  · obtain ⟨i1, q⟩ := q
    cases rx
    obtain ⟨t, rfl⟩ := (show ∃ t, u = Value.int _ t from ry)
    obtain ⟨dx, od, J, ho⟩ := inst_at I i1
    rename_i a j
    have rv : Vals [V.ref a, V.int j] [Value.ref a, Value.int j t] := .cons rfl (.cons ⟨t, rfl⟩ .nil)
    rw [O.rich]
    exact PySem.HXC.cmL hu I.kIn J (typeIs_int s _ t) (PySem.HXO.int_not C) O.hs O.hf (wpAny_mono (run_fn Ff hr bf .nil hx I rv (by rw [List.append_nil]; exact q)) (fun u s2 h => ep_own h) fun _ _ z => z)
  · obtain ⟨i1, q⟩ := q
    cases ry
    obtain ⟨t, rfl⟩ := (show ∃ t, v = Value.int _ t from rx)
    obtain ⟨dx, od, J, ho⟩ := inst_at I i1
    rename_i j a
    have rv : Vals [V.ref a, V.int j] [Value.ref a, Value.int j t] := .cons rfl (.cons ⟨t, rfl⟩ .nil)
    rw [O.rich]
    exact PySem.HXC.cmR hu I.kIn J O.sub O.sl (fun Q z => O.ni ho z) O.hr O.hg (wpAny_mono (run_fn Fg hr bg .nil hx I rv (by rw [List.append_nil]; exact q)) (fun u s2 h => ep_own h) fun _ _ z => z)
  · exact h0 pins s σ H _ _ v u Q I rx ry q
  · exact q.elim
theorem cmpO_lt {K : PySem.W.Frag} {C f g : Addr} (sub : PySem.W.subIn K (.ref C) (.type "int") = some false) (hs : PySem.W.findIn K (.ref C) "__lt__" = some (some (.ref f))) (hr : PySem.W.findIn K (.ref C) "__gt__" = some (some (.ref g))) (hf : PySem.W.isFn K (.ref f) = true) (hg : PySem.W.isFn K (.ref g) = true) : CmpO K C .Lt f g "int.__lt__" := ⟨sub, hs, hr, hf, hg, fun _ _ => rfl, F.slot_int_lt, PySem.HXC.nc_lt⟩
theorem cmpO_le {K : PySem.W.Frag} {C f g : Addr} (sub : PySem.W.subIn K (.ref C) (.type "int") = some false) (hs : PySem.W.findIn K (.ref C) "__le__" = some (some (.ref f))) (hr : PySem.W.findIn K (.ref C) "__ge__" = some (some (.ref g))) (hf : PySem.W.isFn K (.ref f) = true) (hg : PySem.W.isFn K (.ref g) = true) : CmpO K C .LtE f g "int.__le__" := ⟨sub, hs, hr, hf, hg, fun _ _ => rfl, F.slot_int_le, PySem.HXC.nc_le⟩
theorem cmpO_gt {K : PySem.W.Frag} {C f g : Addr} (sub : PySem.W.subIn K (.ref C) (.type "int") = some false) (hs : PySem.W.findIn K (.ref C) "__gt__" = some (some (.ref f))) (hr : PySem.W.findIn K (.ref C) "__lt__" = some (some (.ref g))) (hf : PySem.W.isFn K (.ref f) = true) (hg : PySem.W.isFn K (.ref g) = true) : CmpO K C .Gt f g "int.__gt__" := ⟨sub, hs, hr, hf, hg, fun _ _ => rfl, F.slot_int_gt, PySem.HXC.nc_gt⟩
theorem cmpO_ge {K : PySem.W.Frag} {C f g : Addr} (sub : PySem.W.subIn K (.ref C) (.type "int") = some false) (hs : PySem.W.findIn K (.ref C) "__ge__" = some (some (.ref f))) (hr : PySem.W.findIn K (.ref C) "__le__" = some (some (.ref g))) (hf : PySem.W.isFn K (.ref f) = true) (hg : PySem.W.isFn K (.ref g) = true) : CmpO K C .GtE f g "int.__ge__" := ⟨sub, hs, hr, hf, hg, fun _ _ => rfl, F.slot_int_ge, PySem.HXC.nc_ge⟩
theorem cmpO_eq {K : PySem.W.Frag} {C f : Addr} (sub : PySem.W.subIn K (.ref C) (.type "int") = some false) (hs : PySem.W.findIn K (.ref C) "__eq__" = some (some (.ref f))) (hf : PySem.W.isFn K (.ref f) = true) : CmpO K C .Eq f f "int.__eq__" := ⟨sub, hs, hs, hf, hf, fun _ _ => rfl, F.slot_int_eq, PySem.HXC.nc_eq⟩
end HX

set_option Elab.async false
set_option linter.all false
set_option maxRecDepth 100000
set_option maxHeartbeats 2000000
namespace HX
open PySem PySem.Spec PyProof.Rows L2 NumText

/-! ### figures -/
def ofL (l : List Nat) : Str := ⟨l.toArray⟩
theorem ofL_cps (l : List Nat) : (ofL l).cps.toList = l := by simp [ofL]
theorem ofL_of (x : Str) : ofL x.cps.toList = x := by cases x; simp [ofL]
theorem ofL_inj {l k : List Nat} (h : ofL l = ofL k) : l = k := by
  have := congrArg (fun x => x.cps.toList) h
  simpa [ofL] using this
theorem ofL_len (l : List Nat) : (ofL l).length = l.length := by simp [ofL, Str.length]
theorem ofL_app (l k : List Nat) : ofL l ++ ofL k = ofL (l ++ k) := by
  show Str.mk (l.toArray ++ k.toArray) = _
  simp [ofL]
/-- the figures of a number -/
def dg (n : Nat) : List Nat := (Nat.toDigits 10 n).map Char.toNat
theorem dg_ne (n : Nat) : dg n ≠ [] := by
  unfold dg
  intro h
  exact Nat.toDigits_ne_nil (List.map_eq_nil_iff.mp h)
theorem dg_all (n : Nat) : AllDigits (dg n) := by
  intro c hc
  obtain ⟨d, hd, rfl⟩ := List.mem_map.mp hc
  have h := Nat.isDigit_of_mem_toDigits (b := 10) (by decide) (by decide) hd
  unfold Char.isDigit at h
  simp only [Bool.and_eq_true, decide_eq_true_eq, ge_iff_le] at h
  exact ⟨by have := h.1; exact this, by have := h.2; exact this⟩
theorem val_map (l : List Char) (hl : ∀ c ∈ l, 48 ≤ c.toNat) : ∀ a : Nat, (l.map Char.toNat).foldl (fun acc c => acc * 10 + (c - 48)) a = Nat.ofDigitChars 10 l a := by
  induction l with
  | nil => intro a; rfl
  | cons c l ih =>
    intro a
    rw [List.map_cons, List.foldl_cons, Nat.ofDigitChars_cons, ih (fun d hd => hl d (List.mem_cons_of_mem _ hd))]
    congr 1
    show a * 10 + (c.toNat - 48) = 10 * a + (c.toNat - '0'.toNat)
    rw [Nat.mul_comm]
    rfl
theorem dg_val (n : Nat) : digitsVal (dg n) = n := by
  unfold digitsVal dg
  rw [val_map _ (fun c hc => by
    have h := Nat.isDigit_of_mem_toDigits (b := 10) (by decide) (by decide) hc
    unfold Char.isDigit at h
    simp only [Bool.and_eq_true, decide_eq_true_eq, ge_iff_le] at h
    exact h.1)]
  exact Nat.ofDigitChars_ten_toDigits
theorem dg_len {n k : Nat} (h : 0 < k) : (dg n).length ≤ k ↔ n < 10 ^ k := by
  unfold dg
  rw [List.length_map]
  exact Nat.length_toDigits_le_iff (by decide) h
theorem dg_inj {m n : Nat} (h : dg m = dg n) : m = n := by
  have := congrArg digitsVal h
  rwa [dg_val, dg_val] at this
/-- the signs of an int's text -/
def it (i : Int) : List Nat := if i < 0 then 45 :: dg i.natAbs else dg i.natAbs
theorem it_text (i : Int) : Str.ofString (toString i) = ofL (it i) := by
  rw [Str.ofString_eq_toList]
  show Str.mk _ = Str.mk _
  congr 2
  unfold it
  match i with
  | .ofNat n =>
    rw [if_neg (show ¬ Int.ofNat n < 0 from Int.not_lt.mpr (Int.natCast_nonneg n))]
    show (Nat.repr n).toList.map Char.toNat = dg n
    rw [Nat.toList_repr]
    rfl
  | .negSucc n =>
    rw [if_pos (Int.negSucc_lt_zero n)]
    show (("-" ++ Nat.repr (n + 1)) : String).toList.map Char.toNat = 45 :: dg (n + 1)
    rw [String.toList_append, Nat.toList_repr]
    rfl
theorem it_len {i : Int} {k : Nat} (h : 0 < k) (hi : i.natAbs < 10 ^ k) : (it i).length ≤ k + 1 := by
  have := (dg_len (n := i.natAbs) h).mpr hi
  unfold it
  split
  · rw [List.length_cons]; omega
  · omega
theorem it_47 (i : Int) : 47 ∉ it i := by
  unfold it
  have h := dg_all i.natAbs
  split
  · intro m
    rcases List.mem_cons.mp m with z | z
    · cases z
    · have := h _ z; omega
  · intro m
    have := h _ m
    omega
theorem it_inj {i j : Int} (h : it i = it j) : i = j := by
  have hd : ∀ n m : Nat, ¬ (45 :: dg n = dg m) := fun n m e => by
    have := dg_all m 45 (by rw [← e]; exact List.mem_cons_self ..)
    omega
  unfold it at h
  split at h
  · rename_i a
    split at h
    · rename_i b
      have := dg_inj (List.cons_inj_right 45 |>.mp h)
      omega
    · exact absurd h (hd _ _)
  · rename_i a
    split at h
    · exact absurd h.symm (hd _ _)
    · have := dg_inj h
      omega
theorem it_read {i : Int} {k : Nat} (h0 : 0 < k) (h4 : k ≤ 600) (hi : i.natAbs < 10 ^ k) : PySem.intText? (ofL (it i)) = some i := by
  have hl := it_len h0 hi
  by_cases h : i < 0
  · have e : it i = 45 :: dg i.natAbs := if_pos h
    rw [intText_neg (x := ofL (it i)) (cs := dg i.natAbs) (by rw [ofL_cps, e]) (dg_all _) (dg_ne _) (by rw [ofL_len]; omega), dg_val]
    congr 1
    omega
  · have e : it i = dg i.natAbs := if_neg h
    rw [intText_digits (x := ofL (it i)) (by rw [ofL_cps, e]; exact dg_all _) (by rw [ofL_cps, e]; exact dg_ne _) (by rw [ofL_len]; omega), ofL_cps, e, dg_val]
    congr 1
    omega

/-! ### parted at the first stroke -/
theorem at_slash (l : List Nat) (i : Nat) : StrLaws.At (ofL l) "/" (ofL l).length i ↔ l[i]? = some 47 := by
  have e : ("/" : Str) = ⟨#[47]⟩ := by decide +kernel
  unfold StrLaws.At
  rw [e, ofL_len]
  constructor
  · rintro ⟨h1, h2⟩
    have h1 : i + 1 ≤ l.length := h1
    unfold Builtin.Str.subAt at h2
    have h3 := congrArg Array.toList (eq_of_beq h2)
    have h4 : (l.drop i).take 1 = [47] := by
      have : ((ofL l).cps.extract i (i + 1)).toList = [47] := h3
      simpa [ofL, List.take_drop] using this
    have h5 : ((l.drop i).take 1)[0]? = some 47 := by rw [h4]; rfl
    simpa using h5
  · intro h
    have hi : i < l.length := by
      rcases Nat.lt_or_ge i l.length with z | z
      · exact z
      · rw [List.getElem?_eq_none z] at h
        cases h
    refine ⟨hi, ?_⟩
    unfold Builtin.Str.subAt
    refine beq_iff_eq.mpr ?_
    show (ofL l).cps.extract i (i + 1) = #[47]
    apply Array.toList_inj.mp
    have h6 : (l.drop i).take 1 = [47] := by
      rw [List.getElem?_eq_getElem hi] at h
      have h7 : l.drop i = l[i] :: l.drop (i + 1) := List.drop_eq_getElem_cons hi
      rw [h7, Option.some.inj h]
      rfl
    simpa [ofL, List.take_drop] using h6
theorem part_no {l : List Nat} (h : 47 ∉ l) : Txt.partition (ofL l) "/" = (ofL l, Str.empty, Str.empty) := by
  unfold Txt.partition
  rcases StrLaws.occ_head (ofL l) "/" 1 (Nat.le_refl 1) with ⟨h0, hn⟩ | ⟨i, r, h0, hi, hn⟩
  · rw [h0]
  · exact absurd (List.mem_of_getElem? ((at_slash l i).mp hi)) h
theorem part_at {pre post : List Nat} (h : 47 ∉ pre) : Txt.partition (ofL (pre ++ 47 :: post)) "/" = (ofL pre, ("/" : Str), ofL post) := by
  have e : ("/" : Str) = ⟨#[47]⟩ := by decide +kernel
  have at0 : (pre ++ 47 :: post)[pre.length]? = some 47 := by simp
  unfold Txt.partition
  rcases StrLaws.occ_head (ofL (pre ++ 47 :: post)) "/" 1 (Nat.le_refl 1) with ⟨h0, hn⟩ | ⟨i, r, h0, hi, hn⟩
  · exact absurd ((at_slash _ _).mpr at0) (hn _)
  · have hi' := (at_slash _ _).mp hi
    have ei : i = pre.length := by
      rcases Nat.lt_trichotomy i pre.length with z | z | z
      · rw [List.getElem?_append_left z] at hi'
        exact absurd (List.mem_of_getElem? hi') h
      · exact z
      · exact absurd ((at_slash _ _).mpr at0) (hn _ z)
    subst ei
    rw [h0]
    have l1 : (("/" : Str)).length = 1 := by rw [e]; rfl
    show (Builtin.Str.strSub (ofL (pre ++ 47 :: post)) 0 pre.length, ("/" : Str), Builtin.Str.strSub (ofL (pre ++ 47 :: post)) (pre.length + ("/" : Str).length) (ofL (pre ++ 47 :: post)).length) = _
    have a1 : Builtin.Str.strSub (ofL (pre ++ 47 :: post)) 0 pre.length = ofL pre := by
      refine StrLaws.mk_of_toList ?_
      rw [StrLaws.strSub_toList, ofL_cps]
      simp
    have a2 : Builtin.Str.strSub (ofL (pre ++ 47 :: post)) (pre.length + ("/" : Str).length) (ofL (pre ++ 47 :: post)).length = ofL post := by
      refine StrLaws.mk_of_toList ?_
      rw [StrLaws.strSub_toList, ofL_cps, l1, ofL_len]
      have e2 : (pre ++ 47 :: post).drop (pre.length + 1) = post := by simp
      rw [e2]
      exact List.take_of_length_le (by rw [List.length_append, List.length_cons]; omega)
    rw [a1, a2]
theorem prefix_minus (l : List Nat) : Txt.removeprefix (ofL l) "-" = match l with
    | 45 :: r => ofL r
    | _ => ofL l := by
  have e : ("-" : Str) = ⟨#[45]⟩ := by decide +kernel
  have l1 : (("-" : Str)).length = 1 := by rw [e]; rfl
  rw [StrLaws.removeprefix_eq, l1, ofL_len, ofL_cps]
  have sub : Builtin.Str.subAt (ofL l) "-" 0 = decide (l.take 1 = [45]) := by
    unfold Builtin.Str.subAt
    rw [e]
    show ((ofL l).cps.extract 0 (0 + 1) == #[45]) = _
    rw [Bool.eq_iff_iff, beq_iff_eq, decide_eq_true_eq, ← Array.toList_inj]
    simp [ofL]
  rw [sub]
  match l with
  | [] => rfl
  | c :: r =>
    by_cases hc : c = 45
    · subst hc
      simp [ofL]
    · have h1 : decide ((c :: r).take 1 = [45]) = false := decide_eq_false (by simp [hc])
      rw [h1, Bool.and_false, if_neg (by decide)]
      split
      · rename_i q z
        cases z
        exact absurd rfl hc
      · rfl
/-- the figures of a text, as the program asks -/
theorem figs_of {l : List Nat} : (Txt.isascii (ofL l) && Txt.isdigit (ofL l)) = true ↔ AllDigits l ∧ l ≠ [] := by
  unfold Txt.isascii Txt.isdigit
  rw [Bool.and_eq_true, Bool.and_eq_true, ← Array.all_toList, ← Array.all_toList, List.all_eq_true, List.all_eq_true, ofL_cps, ofL_len]
  have cls : ∀ c, c < 128 → (Unicode.isDigit c = true ↔ 48 ≤ c ∧ c ≤ 57) := by
    have h : ∀ c, c < 128 → Unicode.isDigit c = decide (48 ≤ c ∧ c ≤ 57) := by decide +kernel
    intro c hc
    rw [h c hc, decide_eq_true_eq]
  constructor
  · rintro ⟨h1, h2, h3⟩
    refine ⟨fun c hc => (cls c (of_decide_eq_true (h1 c hc))).mp (h3 c hc), fun z => ?_⟩
    rw [z] at h2
    exact absurd h2 (by decide)
  · rintro ⟨h1, h2⟩
    refine ⟨fun c hc => decide_eq_true (by have := h1 c hc; omega), decide_eq_true (List.length_pos_iff.mpr h2), fun c hc => (cls c (by have := h1 c hc; omega)).mpr (h1 c hc)⟩
end HX

set_option Elab.async false
set_option linter.all false
set_option maxRecDepth 100000
set_option maxHeartbeats 2000000
/-! ### != of own instances without a method of their own for it, their text, their truth -/
namespace PySem
namespace HXN
open W Builtin PyProof.Rows
section
variable {prog : Program} {w : World} {A : Around} {E : Value → Shared → Prop} {s : Shared} {K : Frag} {x C f : Addr} {ox : Obj} {od : Option Obj}
theorem bound_ne {M : Model} {args : List Value} {Q : Option Value → Shared → Prop} (X : K.In s.heap) (I : InstAt s.heap x ox C od) (hn : findIn K (.ref C) "__ne__" = some (some (.builtin "object.__ne__")))
    (z : wpAny M A (call (.builtin "object.__ne__") (.ref x :: args)) (fun v => Q (some v)) E s) : wpAny M A (callSpecialIfBound? (.ref x) "__ne__" args) Q E s := by
  simp only [callSpecialIfBound?, bindSpecialIfBound?]
  refine wpAny_holding (wpAny_bind (wpAny_bind (wpAny_bind (I.type.here ((looks_findIn X hn).here ?_)))))
  refine wpAny_bind (wpAny_askSetting (wpAny_ite ?_))
  have after : wpAny M A (call (.builtin "object.__ne__") ([.ref x] ++ args) >>= fun v => pure (some v)) Q E s := wpAny_bind (wpAny_mono z (fun v s1 q => wpAny_pure q) fun _ _ q => q)
  split
  · exact wpAny_bind (wpAny_of_eq (PySem.F.cmp_object.ne.bind _) (wpAny_pure (by exact after)))
  · exact wpAny_tryCatch (wpAny_bind (wpAny_of_eq (PySem.F.cmp_object.ne.bind _) (wpAny_pure (by exact after))))
theorem ne_does {b : Value} {Q : Fin → Shared → Prop} (hu : A.units < cLine) (X : K.In s.heap) (I : InstAt s.heap x ox C od) (hs : findIn K (.ref C) "__eq__" = some (some (.ref f))) (hf : isFn K (.ref f) = true)
    (z : wpAny (model prog w) A (call (.ref f) [.ref x, b]) (fun v s1 => ∃ c, v = .bool c ∧ Q (.done (.ret (.bool (!c)))) s1) E s) : wpAny (model prog w) A (Builtin.«object.__ne__» ⟨[.ref x, b], []⟩) Q E s := by
  unfold Builtin.«object.__ne__»
  repeat (first
    | with_reducible refine wpAny_cRoomFor hu ?_
    | (refine wpAny_bind (m := callSpecialIfBound? (.ref x) (Str.ofString "__eq__") [b]) (ifBound_K X I hs hf (wpAny_mono z (fun r s1 q => by
          obtain ⟨c, rfl, q⟩ := q
          repeat (first | exact q | exact wpAny_pure q | exact wpAny_truthy_bool q | (refine wpAny_bind (m := truthy (.bool _)) (wpAny_truthy_bool ?_)) | wp_step)) fun _ _ q => q)))
    | wp_step)
theorem try_ne {b : Value} {Q : Value → Shared → Prop} (hu : A.in1.units < cLine) (X : K.In s.heap) (I : InstAt s.heap x ox C od) (hm : mroIn K C (.type "object") = some true) (hn : findIn K (.ref C) "__ne__" = some (some (.builtin "object.__ne__")))
    (hs : findIn K (.ref C) "__eq__" = some (some (.ref f))) (hf : isFn K (.ref f) = true)
    (z : wpAny (model prog w) A.in1 (call (.ref f) [.ref x, b]) (fun v s1 => ∃ c, v = .bool c ∧ Q (.bool (!c)) s1) E s) : wpAny (model prog w) A (tryCompare (.ref x) "__ne__" b) (fun r s1 => ∃ v, r = some v ∧ Q v s1) E s := by
  unfold tryCompare
  refine wpAny_bind (bound_ne X I hn (wpAny_call (codeAny_call_builtin PySem.F.cmp_object.ne.plain PySem.F.cmpEntry_ne (check_slot PySem.F.cmpKind_ne PySem.F.cmpSplit_ne (I.type.andThen (looks_mroIn X hm)) (PySem.F.cmpArgs_ne _ _)
    (ne_does (A := A.in1) hu X I hs hf (wpAny_mono z (fun v s1 q => ?_) fun _ _ q => q))))))
  obtain ⟨c, rfl, q⟩ := q
  exact ⟨c, rfl, wpAny_pure ⟨_, rfl, q⟩⟩
/-- x o b, by what the first method says -/
theorem oL {op : CmpOp} {b : Value} {T : String} {Q : Value → Shared → Prop} (hu : A.units < cLine) (I : InstAt s.heap x ox C od) (hb : s.TypeIs b T) (hsub : isSubtype (.type T) (.ref C) = pure false)
    (one : wpAny (model prog w) A (tryCompare (.ref x) (cmpInfo op).2.1 b) (fun r s2 => ∃ v, r = some v ∧ Q v s2) E s) : wpAny (model prog w) A (richCompare op (.ref x) b) Q E s := by
  unfold richCompare
  simp only [oneThing_ref]
  refine wpAny_holding (wpAny_bind (wpAny_cRoomFor hu ?_))
  refine wpAny_bind (I.type.here (wpAny_bind (wpAny_typeOf hb ?_)))
  have ne : (Value.ref C != Value.type T) = true := by simp
  rw [if_pos ne]
  refine wpAny_bind (wpAny_of_eq hsub ?_)
  simp only [Bool.false_eq_true, if_false]
  refine wpAny_bind (wpAny_mono one (fun r s2 z => ?_) fun _ _ z => z)
  obtain ⟨v, rfl, hq⟩ := z
  exact (wpAny_pure hq)
theorem oE {op : CmpOp} {y : Addr} {oy : Obj} {oe : Option Obj} {Q : Value → Shared → Prop} (hu : A.units < cLine) (I : InstAt s.heap x ox C od) (J : InstAt s.heap y oy C oe)
    (one : wpAny (model prog w) A (tryCompare (.ref x) (cmpInfo op).2.1 (.ref y)) (fun r s2 => ∃ v, r = some v ∧ Q v s2) E s) : wpAny (model prog w) A (richCompare op (.ref x) (.ref y)) Q E s := by
  unfold richCompare
  simp only [oneThing_ref]
  refine wpAny_holding (wpAny_bind (wpAny_cRoomFor hu ?_))
  refine wpAny_bind (I.type.here (wpAny_bind (J.type.here ?_)))
  have ne : (Value.ref C != Value.ref C) = false := by simp
  rw [if_neg (by rw [ne]; decide)]
  refine wpAny_bind (wpAny_pure ?_)
  simp only [Bool.false_eq_true, if_false]
  refine wpAny_bind (wpAny_mono one (fun r s2 z => ?_) fun _ _ z => z)
  obtain ⟨v, rfl, hq⟩ := z
  exact (wpAny_pure hq)
theorem oR {op : CmpOp} {i : Int} {t : Tok} {idl : String} {Q : Value → Shared → Prop} (hu : A.units < cLine) (X : K.In s.heap) (I : InstAt s.heap x ox C od) (hsub : subIn K (.ref C) (.type "int") = some false) (sl : Slot "int" (cmpInfo op).2.1 idl)
    (hN : ∀ Q : Value → Shared → Prop, Q .notImplemented s → wpAny (model prog w) A (call (.builtin idl) [.int i t, .ref x]) Q E s)
    (one : wpAny (model prog w) A (tryCompare (.ref x) (cmpInfo op).2.2 (.int i t)) (fun r s2 => ∃ v, r = some v ∧ Q v s2) E s) : wpAny (model prog w) A (richCompare op (.int i t) (.ref x)) Q E s := by
  have hO : oneThing? op (.int i t) (.ref x) = none := by rfl
  unfold richCompare
  simp only [hO]
  refine wpAny_holding (wpAny_bind (wpAny_cRoomFor hu ?_))
  refine wpAny_bind (wpAny_of_eq (show typeOf (.int i t) = pure (.type "int") from rfl) (wpAny_bind (I.type.here ?_)))
  have ne : (Value.type "int" != Value.ref C) = true := by simp
  rw [if_pos ne]
  refine wpAny_bind ((looks_subIn X hsub).here ?_)
  simp only [Bool.false_eq_true, if_false, Bool.not_false, if_true]
  refine wpAny_bind (m := tryCompare (.int i t) _ (.ref x)) ?_
  unfold tryCompare
  refine wpAny_bind (wpAny_callSpecialIfBound?_slot (typeIs_int s i t) sl (hN _ ?_))
  refine (wpAny_pure ?_)
  refine wpAny_bind (wpAny_mono one (fun r s2 z => ?_) fun _ _ z => z)
  obtain ⟨v, rfl, hq⟩ := z
  exact (wpAny_pure hq)
theorem nc_ne {i : Int} {t : Tok} {dx : Addr} {Q : Value → Shared → Prop} (hx : s.heap.get? x = some (instObj C dx)) (h : Q .notImplemented s) : wpAny (model prog w) A (call (.builtin "int.__ne__") [.int i t, .ref x]) Q E s := by
  refine wpAny_call (codeAny_call_builtin F.slot_int_ne.plain F.entry_int_ne (F.slot_int_ne.check _ _ _ _ _ _ _ _ (typeIs_int s i t) (F.args_int_ne_2 _ _) ?_))
  unfold Builtin.«int.__ne__»
  refine (by (repeat (first | with_reducible refine wpAny_loadPart_at hx ?_ | with_reducible refine wpAny_load hx ?_ | wp_step)); exact h)
/-- bool(x) -/
theorem truth_own {M : Model} {Q : Bool → Shared → Prop} (X : K.In s.heap) (I : InstAt s.heap x ox C od) (hs : findIn K (.ref C) "__bool__" = some (some (.ref f))) (hf : isFn K (.ref f) = true)
    (z : wpAny M A (call (.ref f) [.ref x]) (W.BoolBack Q) E s) : wpAny M A (truthy (.ref x)) Q E s := by
  unfold truthy
  refine wpAny_bind (m := callSpecial? (.ref x) (Str.ofString "__bool__")) (special_fn X I hs (beq_iff_eq.mp hf) (wpAny_mono z (fun r s1 q => ?_) fun _ _ q => q))
  cases r <;> first | exact q.elim | skip
  exact wpAny_pure q
theorem bool_own {Q : Value → Shared → Prop} (X : K.In s.heap) (I : InstAt s.heap x ox C od) (hs : findIn K (.ref C) "__bool__" = some (some (.ref f))) (hf : isFn K (.ref f) = true)
    (z : wpAny (model prog w) A.in1.in1 (call (.ref f) [.ref x]) (W.BoolBack fun c s1 => Q (.bool c) s1) E s) : wpAny (model prog w) A (call (.type "bool") [.ref x]) Q E s := by
  refine callType_codes (T := "bool") (Bi := Builtin.«object.__init__») (Q₁ := fun r s₁ => ∃ c, r = .bool c ∧ Q r s₁) PySem.F.called_bool (PySem.F.typeCall_bool_1 _) PySem.F.entry_object_init ?_ ?_
  · refine codeAny_of_tree ?_
    show wpAny _ A.in1.in1 (do checkBuiltinCall "bool.__new__" ⟨[.type "bool", .ref x], []⟩; again (.builtin "bool.__new__" ⟨[.type "bool", .ref x], []⟩)) _ _ s
    refine wpAny_bind (wpAny_of_eq (PySem.F.newCall_bool_1 _) (wpAny_pure ⟨plainId_quiet (by decide +kernel) _, codeAny_builtin PySem.F.entry_bool_new ?_⟩))
    rw [Around.under_plainId (by decide +kernel) _]
    have f1 := PySem.F.conv_sub_bool
    have z2 := truth_own (Q := fun c s1 => Q (.bool c) s1) X I hs hf z
    repeat (any_goals (first | assumption | (refine wpAny_bind (m := truthy (.ref x)) (wpAny_mono z2 (fun c s1 q => ?_) fun _ _ q => q)) | wp_step))
    all_goals first | exact ⟨_, rfl, q⟩ | exact ⟨_, rfl, ‹_›⟩ | skip
  · rintro obj s₁ ⟨c, rfl, hq⟩
    exact ⟨rfl, PySem.F.args_object_init_2 _ _, object_init_meets PySem.F.called_bool.init.lookup PySem.F.called_bool.made (by decide) prog w A.in1 _ s₁ ⟨rfl, rfl, hq⟩⟩
end
end HXN
end PySem
namespace HX
open PySem PySem.Spec PyProof.Rows L2
section
variable {X : Cx} {C f : Addr} {fd : FuncData} {ps : List Str} {sp : Sp} {CY : CXT} {k : Nat} {E : XK}
/-- a def called from within a built-in of the model -/
theorem run_at {A' : Around} {pins : List (Addr × Obj)} {σ : L2.St} {H : Hp} {s : Shared} {Q : VK} {us : List Value} {vs : List V} (Fi : FnOk X.prog X.w X.K X.mg X.base CY k f fd ps sp) (b : Binds X.K fd ps []) (hr : Room k A') (e0 : Env0 X.prog X.w X.K X.mg X.base A' X.stack s H)
    (hx : Passes CY X E) (I : Inv X pins σ H s) (r : Vals vs us) (h : sp vs H Q E) : wpAny (model X.prog X.w) A' (call (.ref f) us) (EP X pins σ Q) X.xe s := by
  have hl : (us ++ []).length = ps.length := by
    rw [List.append_nil, ← r.length]
    exact Fi.len _ _ _ _ h
  have bd := b s us I.kIn hl
  rw [List.append_nil] at bd
  refine wpAny_call (codeAny_mono (Fi.run A' X.stack s H ⟨us, []⟩ us vs Q E hr e0 bd r h) fun z s' hq => ?_)
  match z, hq with
  | .error e, hq => exact hx pins σ H s e s' I hq
  | .ok (.ret u), hq => exact I.after hq
  | .ok .next, hq => exact False.elim hq
  | .ok .brk, hq => exact False.elim hq
  | .ok .cont, hq => exact False.elim hq
/-- x != y of own instances and ints, by == -/
structure RNw (C : Addr) (r0 : L2.R2) (sp : Sp) (E : XK) (x y : V) (H : Hp) (Q : VK) : Prop where
  go : rOw C (fun x y H _ => r0 x y H Q) sp sp E x y H fun v G => ∃ c, v = .bl c ∧ Q (.bl (!c)) G
def rNw (C : Addr) (r0 : L2.R2) (sp : Sp) (E : XK) : L2.R2 := fun x y H Q => RNw C r0 sp E x y H Q
theorem ep_not {pins : List (Addr × Obj)} {σ : L2.St} {Q : VK} {u : Value} {s' : Shared} (h : EP X pins σ (fun v G => ∃ c, v = .bl c ∧ Q (.bl (!c)) G) u s') : ∃ c, u = .bool c ∧ EP X pins σ Q (.bool (!c)) s' := by
  obtain ⟨v, G, J, r, c, rfl, q⟩ := h
  exact ⟨c, r, .bl (!c), G, J, rfl, q⟩
theorem op_new {r0 : L2.R2} (h0 : OpR X (compareOp .NotEq) r0) (hsub : PySem.W.subIn X.K (.ref C) (.type "int") = some false) (hm : PySem.W.mroIn X.K C (.type "object") = some true) (hn : PySem.W.findIn X.K (.ref C) "__ne__" = some (some (.builtin "object.__ne__")))
    (hs : PySem.W.findIn X.K (.ref C) "__eq__" = some (some (.ref f))) (hf : PySem.W.isFn X.K (.ref f) = true) (Fi : FnOk X.prog X.w X.K X.mg X.base CY k f fd ps sp) (b : Binds X.K fd ps []) (hr : Room (k + 1) X.A) (hx : Passes CY X E) : OpR X (compareOp .NotEq) (rNw C r0 sp E) := by
  intro pins s σ H x y v u Q I rx ry q
  have hu := hr.units0
  have hu1 := (hr.in1).units0
  have rich : ∀ a b, compareOp .NotEq a b = richCompare .NotEq a b := fun _ _ => rfl
  replace q := q.go
  unfold rOw at q
  split at q
  · obtain ⟨i1, i2, q⟩ := q
    cases rx
    cases ry
    obtain ⟨dx, od, J, ho⟩ := inst_at I i1
    obtain ⟨dy, od2, J2, ho2⟩ := inst_at I i2
    rename_i a b'
    have rv : Vals [V.ref a, V.ref b'] [Value.ref a, Value.ref b'] := .cons rfl (.cons rfl .nil)
    rw [rich]
    exact PySem.HXN.oE hu J J2 (PySem.HXN.try_ne hu1 I.kIn J hm hn hs hf (wpAny_mono (run_at Fi b hr.in1 I.env0.in1 hx I rv q) (fun u s2 h => ep_not h) fun _ _ z => z))
  · obtain ⟨i1, q⟩ := q
    cases rx
    obtain ⟨t, rfl⟩ := (show ∃ t, u = Value.int _ t from ry)
    obtain ⟨dx, od, J, ho⟩ := inst_at I i1
    rename_i a j
    have rv : Vals [V.ref a, V.int j] [Value.ref a, Value.int j t] := .cons rfl (.cons ⟨t, rfl⟩ .nil)
    rw [rich]
    exact PySem.HXN.oL hu J (typeIs_int s _ t) (PySem.HXO.int_not C) (PySem.HXN.try_ne hu1 I.kIn J hm hn hs hf (wpAny_mono (run_at Fi b hr.in1 I.env0.in1 hx I rv q) (fun u s2 h => ep_not h) fun _ _ z => z))
  · obtain ⟨i1, q⟩ := q
    cases ry
    obtain ⟨t, rfl⟩ := (show ∃ t, v = Value.int _ t from rx)
    obtain ⟨dx, od, J, ho⟩ := inst_at I i1
    rename_i j a
    have rv : Vals [V.ref a, V.int j] [Value.ref a, Value.int j t] := .cons rfl (.cons ⟨t, rfl⟩ .nil)
    rw [rich]
    exact PySem.HXN.oR hu I.kIn J hsub PySem.F.slot_int_ne (fun Q z => PySem.HXN.nc_ne ho z) (PySem.HXN.try_ne hu1 I.kIn J hm hn hs hf (wpAny_mono (run_at Fi b hr.in1 I.env0.in1 hx I rv q) (fun u s2 h => ep_not h) fun _ _ z => z))
  · exact h0 pins s σ H _ _ v u Q I rx ry q
  · exact q.elim
/-- the type of a plain value in the model's words -/
theorem typeIs_of {K : PySem.W.Frag} {pins : List (Addr × Obj)} {σ : L2.St} {H : Hp} {s : Shared} {y : V} {v : Value} {T : String} (I : Inv X pins σ H s) (r : RelV y v) (ty : TyOf K H y (.type T)) : s.TypeIs v T := by
  cases ty with
  | non => cases (show v = Value.none from r); exact rfl
  | bl b => cases (show v = Value.bool b from r); exact rfl
  | int i => obtain ⟨t, rfl⟩ := (show ∃ t, v = Value.int i t from r); exact typeIs_int s i t
  | str z => obtain ⟨t, rfl⟩ := (show ∃ t, v = Value.str z t from r); exact typeIs_str s z t
  | flt z => obtain ⟨t, rfl⟩ := (show ∃ t, v = Value.float z t from r); exact rfl
  | @lst a xs e =>
    cases (show v = Value.ref a from r)
    obtain ⟨_, _, n, _, h1⟩ := (show ObjOk X.prog X.w H s.heap a (.lst xs) from I.hok a _ e)
    exact ⟨_, h1, rfl⟩
  | @frz a ob xs e =>
    cases (show v = Value.ref a from r)
    obtain ⟨_, _, _, n, _, h1⟩ := (show ObjOk X.prog X.w H s.heap a (.frz ob (.lst xs)) from I.hok a _ e)
    exact ⟨_, h1, rfl⟩
  | @tup a xs e =>
    cases (show v = Value.ref a from r)
    obtain ⟨_, _, _, p⟩ := (show ObjOk X.prog X.w H s.heap a (.tup xs) from I.hok a _ e)
    obtain ⟨o, h1, h2, _⟩ := p
    exact ⟨o, h1, h2⟩
  | @dK a kvs e =>
    cases (show v = Value.ref a from r)
    obtain ⟨_, _, vs, _, p⟩ := (show ObjOk X.prog X.w H s.heap a (.dK kvs) from I.hok a _ e)
    obtain ⟨o, es, ep, h1, h2, _⟩ := p
    exact ⟨o, h1, h2.1⟩
  | @dT a kvs e =>
    cases (show v = Value.ref a from r)
    obtain ⟨_, _, xs, _, o, es, ep, h1, h2, _⟩ := (show ObjOk X.prog X.w H s.heap a (.dT kvs) from I.hok a _ e)
    exact ⟨o, h1, h2.1⟩
/-- x == y, y a plain value -/
def rEqO (K : PySem.W.Frag) (C : Addr) (sp : Sp) (E : XK) : L2.R2 := fun x y H Q => ∃ (a : Addr) (T : String), x = .ref a ∧ IsI C H a ∧ TyOf K H y (.type T) ∧ isSubtype (.type T) (.ref C) = pure false ∧ sp [.ref a, y] H Q E
theorem op_eqO (hs : PySem.W.findIn X.K (.ref C) "__eq__" = some (some (.ref f))) (hf : PySem.W.isFn X.K (.ref f) = true) (Fi : FnOk X.prog X.w X.K X.mg X.base CY k f fd ps sp) (b : Binds X.K fd ps []) (hr : Room k X.A) (hx : Passes CY X E) :
    OpR X (compareOp .Eq) (rEqO X.K C sp E) := by
  intro pins s σ H x y v u Q I rx ry q
  obtain ⟨a, T, rfl, i1, ty, hT, q⟩ := q
  cases rx
  obtain ⟨dx, od, J, ho⟩ := inst_at I i1
  rw [show compareOp .Eq (Value.ref a) u = richCompare .Eq (Value.ref a) u from rfl]
  exact PySem.HXC.cmL hr.units0 I.kIn J (typeIs_of I ry ty) hT hs hf (wpAny_mono (run_fn Fi hr b .nil hx I (show Vals [V.ref a, y] [Value.ref a, u] from .cons rfl (.cons ry .nil)) (by rw [List.append_nil]; exact q)) (fun u s2 h => ep_own h) fun _ _ z => z)
/-- str(x) of an own instance, an int -/
def rStrO (C : Addr) (sp : Sp) (E : XK) : List V → Hp → VK → Prop := fun xs H Q => match xs with
  | [.ref a] => IsI C H a ∧ sp [.ref a] H (fun v G => ∃ z, v = .str z ∧ Q v G) E
  | [.int i] => i.natAbs.log2 < 1920 ∧ Q (.str (toString i)) H
  | _ => False
theorem call_strO (hs : PySem.W.findIn X.K (.ref C) "__str__" = some (some (.ref f))) (hf : PySem.W.isFn X.K (.ref f) = true) (Fi : FnOk X.prog X.w X.K X.mg X.base CY k f fd ps sp) (b : Binds X.K fd ps []) (hr : Room (k + 2) X.A) (hx : Passes CY X E) :
    CallR X (.type "str") (rStrO C sp E) := by
  intro pins s σ H xs us Q I r q
  unfold rStrO at q
  split at q
  · obtain ⟨i1, q⟩ := q
    obtain ⟨u, rfl, ru⟩ := vals1 r
    cases ru
    obtain ⟨dx, od, J, ho⟩ := inst_at I i1
    rename_i a
    refine PySem.W.kso_call hr.in1.in1.units0 I.kIn J hs hf (wpAny_mono (run_at Fi b hr.in1.in1 I.env0.in1.in1 hx I (show Vals [V.ref a] [Value.ref a] from .cons rfl .nil) q) (fun u s2 h => ?_) fun _ _ z => z)
    obtain ⟨v, G, J2, rv, z, rfl, qz⟩ := h
    obtain ⟨t, rfl⟩ := (show ∃ t, u = Value.str z t from rv)
    exact ⟨.str z, G, J2, ⟨t, rfl⟩, qz⟩
  · exact call_str_int pins s σ H _ us Q I r ⟨_, rfl, q.1, q.2⟩
  · exact q.elim
/-- bool(x) of an own instance -/
def rBoolO (C : Addr) (sp : Sp) (E : XK) : List V → Hp → VK → Prop := fun xs H Q => ∃ a, xs = [.ref a] ∧ IsI C H a ∧ sp [.ref a] H (fun v G => ∃ c, v = .bl c ∧ Q v G) E
theorem call_boolO (hs : PySem.W.findIn X.K (.ref C) "__bool__" = some (some (.ref f))) (hf : PySem.W.isFn X.K (.ref f) = true) (Fi : FnOk X.prog X.w X.K X.mg X.base CY k f fd ps sp) (b : Binds X.K fd ps []) (hr : Room (k + 2) X.A) (hx : Passes CY X E) :
    CallR X (.type "bool") (rBoolO C sp E) := by
  intro pins s σ H xs us Q I r q
  obtain ⟨a, rfl, i1, q⟩ := q
  obtain ⟨u, rfl, ru⟩ := vals1 r
  cases ru
  obtain ⟨dx, od, J, ho⟩ := inst_at I i1
  refine PySem.HXN.bool_own I.kIn J hs hf (wpAny_mono (run_at Fi b hr.in1.in1 I.env0.in1.in1 hx I (show Vals [V.ref a] [Value.ref a] from .cons rfl .nil) q) (fun u s2 h => ?_) fun _ _ z => z)
  obtain ⟨v, G, J2, rv, c, rfl, qz⟩ := h
  cases (show u = Value.bool c from rv)
  exact ⟨.bl c, G, J2, rfl, qz⟩
/-- not x of an own instance -/
def rNotO (C : Addr) (sp : Sp) (E : XK) (te : TE) : TE := fun σ H Q => te σ H fun x G => ∃ a, x = .ref a ∧ IsI C G a ∧ sp [.ref a] G (fun v G2 => ∃ c, v = .bl c ∧ Q (.bl (!c)) G2) E
theorem e_notO {e : Expr} {ta : TE} {pos : Pos} (hs : PySem.W.findIn X.K (.ref C) "__bool__" = some (some (.ref f))) (hf : PySem.W.isFn X.K (.ref f) = true) (Fi : FnOk X.prog X.w X.K X.mg X.base CY k f fd ps sp) (b : Binds X.K fd ps []) (hr : Room k X.A) (hx : Passes CY X E) (ha : PE X e ta) :
    PE X (.UnaryOp .Not e pos) (rNotO C sp E ta) := by
  refine ⟨fun pins s σ H Q I h => UnaryOp_ (thn (ha.run pins s σ H _ I h) fun v s1 ⟨x, G, I1, r1, a, ex, i1, z⟩ => ?_)⟩
  subst ex
  cases r1
  obtain ⟨dx, od, J, ho⟩ := inst_at I1 i1
  refine not_of (PySem.HXN.truth_own I1.kIn J hs hf (wpAny_mono (run_fn Fi hr b .nil hx I1 (show Vals [V.ref a] [Value.ref a] from .cons rfl .nil) (by rw [List.append_nil]; exact z)) (fun u s2 h => ?_) fun _ _ z => z))
  obtain ⟨v, G2, J2, rv, c, rfl, qz⟩ := h
  cases (show u = Value.bool c from rv)
  exact ⟨.bl (!c), G2, J2, rfl, qz⟩
end
/-- the built-in types are below no own class -/
theorem sub_non (C : Addr) : isSubtype (.type "NoneType") (.ref C) = pure false := by rfl
theorem sub_bl (C : Addr) : isSubtype (.type "bool") (.ref C) = pure false := by rfl
theorem sub_str (C : Addr) : isSubtype (.type "str") (.ref C) = pure false := by rfl
theorem sub_lst (C : Addr) : isSubtype (.type "list") (.ref C) = pure false := by rfl
theorem sub_tup (C : Addr) : isSubtype (.type "tuple") (.ref C) = pure false := by rfl
theorem sub_dic (C : Addr) : isSubtype (.type "dict") (.ref C) = pure false := by rfl
end HX

set_option Elab.async false
set_option linter.all false
set_option maxRecDepth 100000
set_option maxHeartbeats 2000000
namespace HX
open PySem PySem.Spec PyProof.Rows L2 NumText

/-! ### a class that a local name holds, made -/
def tMakeL (i : Nat) (C : Addr) (sp : Sp) (dvs : List V) (E : XK) (t : TA) : TE := fun σ H Q => σ[i]? = some (some (.ref C)) ∧ tMake C sp dvs E t σ H Q
theorem pe_makeL {X : Cx} {CY : CXT} {C f : Addr} {k i : Nat} {fd : FuncData} {ps : List Str} {sp : Sp} {ds : List Value} {dvs : List V} {E : XK} {t : TA} {x : Str} {p pos : Pos} {e : Expr} {es : List Expr} (M : Mk X.K C f) (F : FnOk X.prog X.w X.K X.mg X.base CY k f fd ps sp) (hr : Room (k + 1) X.A) (hb : Binds X.K fd ps ds) (hd : Vals dvs ds) (hx : Passes CY X E)
    (ha : PA X (e :: es) t) (hN : X.N[i]? = some x := by rfl) (hv : Vis X.env.scope x := by first | exact Or.inl rfl | exact Or.inr (Or.inl rfl) | exact Or.inr (Or.inr rfl)) (hdb : (x == ("__debug__" : Str)) = false := by decide) (hcd : (x == ("__classdict__" : Str)) = false := by decide)
    (he : starEach (e :: es) X.env = (false, eval e X.env) :: starEach es X.env := by rfl) (hpl : (backTo pos (starEach es X.env)).any (·.1) = false := by rfl) :
    PE X (.Call (.Name x p) (e :: es) [] pos) (tMakeL i C sp dvs E t) := by
  refine ⟨fun pins s σ H Q I h => ?_⟩
  refine wpAny_Call_Name_kw (thn ((pe_var hN hv hdb hcd).run pins s σ H (fun v G => v = .ref C ∧ G = H) I ⟨_, h.1, rfl, rfl⟩) fun u s0 ⟨v, G, I0, rv, ev, eG⟩ => ?_)
  subst ev
  subst eG
  obtain rfl : u = Value.ref C := rv
  refine PySem.W.callWith_K (h₀ := X.base) I0.ok.mod.kin M.kp (thn (ha.run pos pins s0 σ G _ I0 h.2) fun us s1 ⟨vs, H1, I1, r, q⟩ => ⟨I1.kIn, ?_⟩) he hpl
  exact run_make M F hr hb hd hx I1 r q

/-! ### the text of a fraction -/
def atx (t b : Int) : List Nat := if b = 1 then it t else it t ++ 47 :: it b
/-- what read takes -/
def RT (l : List Nat) (t b : Int) : Prop := Low t b ∧ t.natAbs < 10 ^ 200 ∧ b.natAbs < 10 ^ 200 ∧ l = atx t b
/-- above, stroke, below -/
def pt3 (l : List Nat) : List Nat × List Nat × List Nat := match l with
  | [] => ([], [], [])
  | c :: r => if c = 47 then ([], [47], r) else (c :: (pt3 r).1, (pt3 r).2.1, (pt3 r).2.2)
theorem pt3_no : ∀ {l : List Nat}, 47 ∉ l → pt3 l = (l, [], [])
  | [], _ => rfl
  | c :: r, h => by
    have h1 : ¬ c = 47 := fun z => h (by rw [z]; exact List.mem_cons_self ..)
    have h2 := pt3_no (l := r) (fun z => h (List.mem_cons_of_mem _ z))
    show (if c = 47 then _ else _) = _
    rw [if_neg h1, h2]
theorem pt3_at : ∀ {pre post : List Nat}, 47 ∉ pre → pt3 (pre ++ 47 :: post) = (pre, [47], post)
  | [], post, _ => by
    show (if (47 : Nat) = 47 then _ else _) = _
    rw [if_pos rfl]
  | c :: r, post, h => by
    have h1 : ¬ c = 47 := fun z => h (by rw [z]; exact List.mem_cons_self ..)
    have h2 := pt3_at (pre := r) (post := post) (fun z => h (List.mem_cons_of_mem _ z))
    have e : pt3 (c :: r ++ 47 :: post) = (c :: (pt3 (r ++ 47 :: post)).1, (pt3 (r ++ 47 :: post)).2.1, (pt3 (r ++ 47 :: post)).2.2) := if_neg h1
    rw [e, h2]
theorem split47 {l : List Nat} (h : 47 ∈ l) : ∃ pre post, l = pre ++ 47 :: post ∧ 47 ∉ pre := by
  obtain ⟨pre, post, e, n⟩ := List.eq_append_cons_of_mem h
  exact ⟨pre, post, e, n⟩
theorem part3 (l : List Nat) : Txt.partition (ofL l) "/" = (ofL (pt3 l).1, ofL (pt3 l).2.1, ofL (pt3 l).2.2) := by
  by_cases h : 47 ∈ l
  · obtain ⟨pre, post, rfl, n⟩ := split47 h
    rw [part_at n, pt3_at n]
    have e : ("/" : Str) = ofL [47] := by decide +kernel
    rw [e]
  · rw [part_no h, pt3_no h]
    rfl
theorem atx_parts (t b : Int) : pt3 (atx t b) = if b = 1 then (it t, [], []) else (it t, [47], it b) := by
  unfold atx
  split
  · exact pt3_no (it_47 t)
  · exact pt3_at (it_47 t)
theorem ofL_nil {l : List Nat} : (ofL l = ("" : Str)) ↔ l = [] := by
  have e : ("" : Str) = ofL [] := by decide +kernel
  rw [e]
  exact ⟨ofL_inj, fun h => by rw [h]⟩
/-- the part without its sign -/
def unm (l : List Nat) : List Nat := match l with
  | 45 :: r => r
  | _ => l
theorem unm_eq (l : List Nat) : Txt.removeprefix (ofL l) "-" = ofL (unm l) := by
  rw [prefix_minus]
  match l with
  | [] => rfl
  | c :: r =>
    by_cases h : c = 45
    · subst h
      rfl
    · have e : unm (c :: r) = c :: r := by
        unfold unm
        split
        · rename_i q z
          cases z
          exact absurd rfl h
        · rfl
      rw [e]
      split
      · rename_i q z
        cases z
        exact absurd rfl h
      · rfl
theorem unm_it (i : Int) : unm (it i) = dg i.natAbs := by
  unfold it
  split
  · rfl
  · unfold unm
    split
    · rename_i r e
      have := dg_all i.natAbs 45 (by rw [e]; exact List.mem_cons_self ..)
      omega
    · rfl
/-- the figures that the program lets -/
def figB (l : List Nat) : Bool := Txt.isascii (ofL l) && (Txt.isdigit (ofL l) && decide (l.length ≤ 200))
theorem figB_iff {l : List Nat} : figB l = true ↔ AllDigits l ∧ l ≠ [] ∧ l.length ≤ 200 := by
  unfold figB
  rw [← Bool.and_assoc, Bool.and_eq_true, figs_of, decide_eq_true_eq, and_assoc]
theorem figB_dg {n : Nat} (h : n < 10 ^ 200) : figB (dg n) = true := figB_iff.mpr ⟨dg_all n, dg_ne n, (dg_len (by decide)).mpr h⟩
theorem atx_len {t b : Int} (ht : t.natAbs < 10 ^ 200) (hb : b.natAbs < 10 ^ 200) : (atx t b).length ≤ 403 := by
  have h1 := it_len (by decide) ht
  have h2 := it_len (by decide) hb
  unfold atx
  split
  · omega
  · rw [List.length_append, List.length_cons]
    omega
end HX

set_option Elab.async false
set_option linter.all false
set_option maxRecDepth 100000
set_option maxHeartbeats 2000000
namespace HX
open PySem PySem.Spec PyProof.Rows L2 NumText

/-! ### texts of wide ints -/
/-- what of the text says that sys.set_int_max_str_digits was never called -/
structure NoDg (K : PySem.W.Frag) : Prop where
  ok : PySem.W.nsOkIn K cStatics = true
  no : PySem.W.nsIn K cStatics "sys.int_max_str_digits" = some none
theorem NoDg.at_ {K : PySem.W.Frag} {h : Heap} (N : NoDg K) (X : K.In h) : h.NoDigits := ⟨h.nsMap cStatics, .of_isNs (PySem.W.isNs_of_in X N.ok), PySem.W.nsMap_none_of_in X N.ok N.no⟩
section
variable {X : Cx}
theorem call_str_intW {k : Nat} (N : NoDg X.K) (hr : Room k X.A) : CallR X (.type "str") (fun xs H Q => ∃ i, xs = [.int i] ∧ i.natAbs < 10 ^ 4300 ∧ Q (.str (toString i)) H) := by
  intro pins s σ H xs us Q I r h
  obtain ⟨i, rfl, hz, q⟩ := h
  obtain ⟨u, rfl, t, rfl⟩ := vals1 r
  exact str_of_int_or hr.hd (N.at_ I.kIn) (fun _ => ⟨.str _, H, I.tok _, ⟨_, rfl⟩, q⟩) (fun z => absurd z (Nat.not_le.mpr hz))
/-- {x}: an int, wide -/
def tFmtW (te : TE) : TE := fun σ H Q => te σ H fun x H1 => ∃ i : Int, x = .int i ∧ i.natAbs < 10 ^ 4300 ∧ Q (.str (toString i)) H1
theorem pe_fmtW {k : Nat} {e : Expr} {te : TE} {pos : Pos} (N : NoDg X.K) (hr : Room k X.A) (he : PE X e te) : PE X (.FormattedValue e (-1) none pos) (tFmtW te) := by
  refine ⟨fun pins s σ H Q I h => ?_⟩
  refine wpAny_FormattedValue_plain (thn (he.run pins s σ H _ I h) fun v s1 hv => ?_)
  obtain ⟨x, H1, I1, r1, i, rfl, hz, q⟩ := hv
  obtain ⟨t, rfl⟩ := r1
  exact formatField_int hr.hd (N.at_ I1.kIn) (fun _ => ⟨.str (toString i), H1, I1.tok _, ⟨_, rfl⟩, q⟩) (fun z => absurd z (Nat.not_le.mpr hz))
end
theorem wide_sm {n : Nat} {i : Int} (h : i.natAbs < 2 ^ n) (le : n ≤ 12900 := by decide) : i.natAbs < 10 ^ 4300 := Nat.lt_of_lt_of_le (Nat.lt_of_lt_of_le h (Nat.pow_le_pow_right (by decide) le)) pow_lo
end HX

set_option Elab.async false
set_option linter.all false
set_option maxRecDepth 100000
set_option maxHeartbeats 2000000
namespace HX
open PySem PySem.Spec PyProof.Rows L2 NumText

/-! ### what a text of a fraction says -/
theorem fold_lt : ∀ (l : List Nat), AllDigits l → ∀ a : Nat, l.foldl (fun acc c => acc * 10 + (c - 48)) a + 1 ≤ (a + 1) * 10 ^ l.length
  | [], _, a => by
    show a + 1 ≤ (a + 1) * 10 ^ 0
    omega
  | c :: l, h, a => by
    have h2 := h c (List.mem_cons_self ..)
    have ih := fold_lt l (fun d hd => h d (List.mem_cons_of_mem _ hd)) (a * 10 + (c - 48))
    show l.foldl _ (a * 10 + (c - 48)) + 1 ≤ _
    rw [List.length_cons, Nat.pow_succ, Nat.mul_comm (10 ^ l.length) 10, ← Nat.mul_assoc]
    exact Nat.le_trans ih (Nat.mul_le_mul_right _ (by omega))
theorem digitsVal_lt {l : List Nat} (h : AllDigits l) : digitsVal l < 10 ^ l.length := by
  have := fold_lt l h 0
  unfold digitsVal
  omega
theorem unm_id {l : List Nat} (h : ∀ r, l ≠ 45 :: r) : unm l = l := by
  unfold unm
  split
  · rename_i r
    exact absurd rfl (h r)
  · rfl
theorem pow_len {l : List Nat} (h : AllDigits l) (hl : l.length ≤ 200) : digitsVal l < 10 ^ 200 := Nat.lt_of_lt_of_le (digitsVal_lt h) (Nat.pow_le_pow_right (by decide) hl)
/-- the int of a text of figures, with or without minus -/
def sv (l : List Nat) : Int := match l with
  | 45 :: r => -(digitsVal r : Int)
  | _ => digitsVal l
theorem sv_it (t : Int) : sv (it t) = t := by
  unfold it
  split
  · show -(digitsVal (dg t.natAbs) : Int) = t
    rw [dg_val]
    omega
  · unfold sv
    split
    · rename_i r e
      have := dg_all t.natAbs 45 (by rw [e]; exact List.mem_cons_self ..)
      omega
    · rw [dg_val]
      omega
theorem sv_read {l : List Nat} (h : figB (unm l) = true) : PySem.intText? (ofL l) = some (sv l) := by
  obtain ⟨h1, h2, h3⟩ := figB_iff.mp h
  unfold sv
  split
  · rename_i r
    have h1 : AllDigits r := h1
    have h3 : r.length ≤ 200 := h3
    rw [intText_neg (x := ofL (45 :: r)) (cs := r) (ofL_cps _) h1 h2 (by rw [ofL_len, List.length_cons]; omega)]
  · rename_i ne
    have e : unm l = l := by
      unfold unm
      split
      · rename_i r
        exact absurd rfl (ne r)
      · rfl
    rw [e] at h1 h2 h3
    rw [intText_digits (x := ofL l) (by rw [ofL_cps]; exact h1) (by rw [ofL_cps]; exact h2) (by rw [ofL_len]; omega), ofL_cps]
theorem sv_abs (l : List Nat) : (sv l).natAbs = digitsVal (unm l) := by
  unfold sv
  split
  · rename_i r
    show (-(digitsVal r : Int)).natAbs = digitsVal r
    omega
  · rename_i ne
    rw [unm_id (fun r z => ne r z)]
    omega
theorem sv_lt {l : List Nat} (h : figB (unm l) = true) : (sv l).natAbs < 10 ^ 200 := by
  obtain ⟨h1, h2, h3⟩ := figB_iff.mp h
  rw [sv_abs l]
  exact pow_len h1 h3
/-- as the program reads -/
def below (l : List Nat) : List Nat := if (pt3 l).2.1 = [] then [49] else (pt3 l).2.2
def okF (l : List Nat) : Prop := figB (unm (pt3 l).1) = true ∧ figB (below l) = true ∧ digitsVal (below l) ≠ 0
def rdP (l : List Nat) : Int := nT (sv (pt3 l).1) (digitsVal (below l))
def rdQ (l : List Nat) : Int := nB (sv (pt3 l).1) (digitsVal (below l))
open Classical in
noncomputable def rdv (l : List Nat) : Option (Int × Int) := if okF l ∧ atx (rdP l) (rdQ l) = l then some (rdP l, rdQ l) else none
theorem rdv_rt {l : List Nat} {t b : Int} (h : rdv l = some (t, b)) : RT l t b := by
  unfold rdv at h
  split at h
  · rename_i c
    obtain ⟨⟨h1, h2, h3⟩, h4⟩ := c
    cases h
    have qz : ((digitsVal (below l) : Nat) : Int) ≠ 0 := by omega
    have lt2 : digitsVal (below l) < 10 ^ 200 := let ⟨a, _, b⟩ := figB_iff.mp h2; pow_len a b
    exact ⟨low_n qz, Nat.lt_of_le_of_lt (nT_le qz) (sv_lt h1), Nat.lt_of_le_of_lt (nB_le qz) (by simpa using lt2), h4.symm⟩
  · cases h
theorem fig_one : figB [49] = true ∧ digitsVal [49] = 1 := by
  constructor
  · exact figB_iff.mpr ⟨fun c hc => by rcases List.mem_singleton.mp hc with rfl; exact ⟨by decide, by decide⟩, by decide, by decide⟩
  · decide
theorem rt_rdv {l : List Nat} {t b : Int} (h : RT l t b) : rdv l = some (t, b) := by
  obtain ⟨lo, ht, hb, rfl⟩ := h
  have b0 := lo.1
  have e3 := atx_parts t b
  have u := n_self lo
  have bz : b ≠ 0 := by omega
  have main : (pt3 (atx t b)).1 = it t ∧ figB (below (atx t b)) = true ∧ ((digitsVal (below (atx t b)) : Nat) : Int) = b := by
    rw [e3]
    unfold below
    rw [e3]
    by_cases b1 : b = 1
    · rw [if_pos b1]
      exact ⟨rfl, fig_one.1, by show ((digitsVal [49] : Nat) : Int) = b; rw [fig_one.2, b1]; rfl⟩
    · rw [if_neg b1]
      have eB : it b = dg b.natAbs := if_neg (by omega)
      refine ⟨rfl, ?_, ?_⟩
      · show figB (if ([47] : List Nat) = [] then [49] else it b) = true
        rw [if_neg (by decide), eB]
        exact figB_dg hb
      · show ((digitsVal (if ([47] : List Nat) = [] then [49] else it b) : Nat) : Int) = b
        rw [if_neg (by decide), eB, dg_val]
        omega
  have eP : rdP (atx t b) = t ∧ rdQ (atx t b) = b := by
    unfold rdP rdQ
    rw [main.1, main.2.2, sv_it]
    exact u
  unfold rdv
  rw [if_pos ⟨⟨by rw [main.1, unm_it]; exact figB_dg ht, main.2.1, by have := main.2.2; omega⟩, by rw [eP.1, eP.2]⟩, eP.1, eP.2]
theorem rdv_none {l : List Nat} : rdv l = none ↔ ¬ (okF l ∧ atx (rdP l) (rdQ l) = l) := by
  unfold rdv
  split
  · rename_i c
    exact ⟨fun z => (nomatch z), fun z => absurd c z⟩
  · rename_i c
    exact ⟨fun _ => c, fun _ => rfl⟩
open Classical in
/-- figures as the law reads them -/
noncomputable def fgs (l : List Nat) : Option Nat := if (1 ≤ l.length ∧ l.length ≤ 200 ∧ AllDigits l) ∧ ¬ (1 < l.length ∧ l.take 1 = [48]) then some (digitsVal l) else none
theorem fgs_dg {n : Nat} (h : n < 10 ^ 200) : fgs (dg n) = some n := by
  have hl := (dg_len (n := n) (k := 200) (by decide)).mpr h
  have h1 : 1 ≤ (dg n).length := List.length_pos_iff.mpr (dg_ne n)
  have h2 : ¬ (1 < (dg n).length ∧ (dg n).take 1 = [48]) := by
    rintro ⟨a, b⟩
    obtain ⟨c, r, e⟩ : ∃ c r, dg n = c :: r := List.exists_cons_of_length_pos (by omega)
    rw [e] at a b
    have c48 : c = 48 := by simpa using b
    subst c48
    have v := dg_val n
    rw [e, digitsVal_zero] at v
    have ad : AllDigits r := fun d hd => dg_all n d (by rw [e]; exact List.mem_cons_of_mem _ hd)
    have r0 : 0 < r.length := by rw [List.length_cons] at a; omega
    have lt := digitsVal_lt ad
    rw [v] at lt
    have := (dg_len (n := n) r0).mpr lt
    rw [e, List.length_cons] at this
    omega
  unfold fgs
  rw [if_pos ⟨⟨h1, hl, dg_all n⟩, h2⟩, dg_val]
theorem fgs_some {l : List Nat} {n : Nat} (h : fgs l = some n) : n < 10 ^ 200 := by
  unfold fgs at h
  split at h
  · rename_i c
    cases h
    exact pow_len c.1.2.2 c.1.2.1
  · cases h
/-- the law's own reader -/
noncomputable def lTop (l : List Nat) : Option Nat := fgs (pt3 (unm l)).1
noncomputable def lBot (l : List Nat) : Option Nat := if (pt3 (unm l)).2.1 = [] then some 1 else fgs (pt3 (unm l)).2.2
def sgn (l : List Nat) (n : Nat) : Int := if unm l = l then (n : Int) else 0 - (n : Int)
noncomputable def lrd (l : List Nat) : Option (Int × Int) := match lTop l, lBot l with
  | some t, some b => if b = 0 then none else if atx (nT (sgn l t) b) (nB (sgn l t) b) = l then some (nT (sgn l t) b, nB (sgn l t) b) else none
  | _, _ => none
theorem lrd_rt {l : List Nat} {t b : Int} (h : lrd l = some (t, b)) : RT l t b := by
  unfold lrd at h
  split at h
  · rename_i p q e1 e2
    split at h
    · cases h
    · rename_i qz
      split at h
      · rename_i c
        cases h
        have lt1 := fgs_some e1
        have lt2 : q < 10 ^ 200 := by
          unfold lBot at e2
          split at e2
          · cases e2; exact Nat.one_lt_pow (by decide) (by decide)
          · exact fgs_some e2
        have z : ((q : Nat) : Int) ≠ 0 := by omega
        have sl : (sgn l p).natAbs = p := by unfold sgn; split <;> omega
        exact ⟨low_n z, Nat.lt_of_le_of_lt (nT_le z) (by rw [sl]; exact lt1), Nat.lt_of_le_of_lt (nB_le z) (by simpa using lt2), c.symm⟩
      · cases h
  · cases h
theorem rt_lrd {l : List Nat} {t b : Int} (h : RT l t b) : lrd l = some (t, b) := by
  obtain ⟨lo, ht, hb, rfl⟩ := h
  have b0 := lo.1
  have u := n_self lo
  have bz : b ≠ 0 := by omega
  have eB : it b = dg b.natAbs := if_neg (by omega)
  have n47 : 47 ∉ dg t.natAbs := fun m => by have := dg_all _ _ m; omega
  -- the plain text
  have hp : unm (atx t b) = (if b = 1 then dg t.natAbs else dg t.natAbs ++ 47 :: it b) ∧ sgn (atx t b) t.natAbs = t := by
    by_cases t0 : t < 0
    · have e : it t = 45 :: dg t.natAbs := if_pos t0
      have e2 : atx t b = 45 :: (if b = 1 then dg t.natAbs else dg t.natAbs ++ 47 :: it b) := by
        unfold atx
        rw [e]
        split <;> rfl
      have e3 : unm (atx t b) = (if b = 1 then dg t.natAbs else dg t.natAbs ++ 47 :: it b) := by
        rw [e2]
        rfl
      refine ⟨e3, ?_⟩
      have ne : unm (atx t b) ≠ atx t b := fun z => by
        have := congrArg List.length z
        rw [e3, e2, List.length_cons] at this
        omega
      unfold sgn
      rw [if_neg ne]
      omega
    · have e : it t = dg t.natAbs := if_neg t0
      have e2 : atx t b = (if b = 1 then dg t.natAbs else dg t.natAbs ++ 47 :: it b) := by
        unfold atx
        rw [e]
      have ne : ∀ r, atx t b ≠ 45 :: r := fun r z => by
        have m : 45 ∈ dg t.natAbs ∨ dg t.natAbs = [] := by
          rw [e2] at z
          split at z
          · exact .inl (by rw [z]; exact List.mem_cons_self ..)
          · cases hd : dg t.natAbs with
            | nil => exact .inr rfl
            | cons c r2 =>
              rw [hd] at z
              have : c = 45 := (List.cons.inj z).1
              exact .inl (by rw [this]; exact List.mem_cons_self ..)
        rcases m with m | m
        · have := dg_all _ _ m
          omega
        · exact dg_ne _ m
      have e3 := unm_id ne
      refine ⟨by rw [e3, e2], ?_⟩
      unfold sgn
      rw [if_pos e3]
      omega
  have parts : pt3 (unm (atx t b)) = if b = 1 then (dg t.natAbs, [], []) else (dg t.natAbs, [47], it b) := by
    rw [hp.1]
    split
    · exact pt3_no n47
    · exact pt3_at n47
  have e1 : lTop (atx t b) = some t.natAbs := by
    unfold lTop
    rw [parts]
    split <;> exact fgs_dg ht
  have e2 : lBot (atx t b) = some b.natAbs := by
    unfold lBot
    rw [parts]
    by_cases b1 : b = 1
    · rw [if_pos b1]
      show some 1 = _
      rw [b1]
      rfl
    · rw [if_neg b1]
      show (if ([47] : List Nat) = [] then some 1 else fgs (it b)) = _
      rw [if_neg (by decide), eB]
      exact fgs_dg hb
  have eb : ((b.natAbs : Nat) : Int) = b := by omega
  unfold lrd
  rw [e1, e2]
  show (if b.natAbs = 0 then none else _) = _
  rw [if_neg (by omega), hp.2, eb, u.1, u.2, if_pos rfl]
theorem lrd_eq (l : List Nat) : lrd l = rdv l := by
  cases h : rdv l with
  | some x =>
    obtain ⟨t, b⟩ := x
    exact rt_lrd (rdv_rt h)
  | none =>
    cases h2 : lrd l with
    | some x =>
      obtain ⟨t, b⟩ := x
      rw [rt_rdv (lrd_rt h2)] at h
      cases h
    | none => rfl
end HX

set_option Elab.async false
set_option linter.all false
set_option maxRecDepth 100000
set_option maxHeartbeats 2000000
namespace HX
open PySem PySem.Spec PyProof.Rows L2

/-! ### repr of a list: the list itself may stand anywhere, what is in it not at sys.modules -/
theorem shows_list {P : Program} {w : World} {hp : Heap} {b : Addr} {ob : Obj} {its : Array Value} {k : Nat} {ds : List PyData} {as : List Addr} (g1 : hp.get? b = some ob) (g2 : ob.cls = .type "list") (g3 : ob.data = .seq its k) (g4 : ReadsAll hp its.toList ds as)
    (sh : (PyData.list ds).showable = true) (ns : sysModules ∉ as) (sz : (PyData.list ds).shown.length ≤ sizeLine) : ShowsBy P w hp b (.list ds) "list" "list.__repr__" := by
  have sz2 : (listText (PyData.shownAll ds)).length ≤ sizeLine := by simpa only [PyData.shown] using sz
  have sh2 : PyData.showableAll ds = true := by simpa [PyData.showable] using sh
  obtain ⟨cs, c1, c2⟩ := ReprAllK.of_readsAll (prog := P) (w := w) g4 sh2 (fun _ => ns) (fun t ht => Nat.le_trans (listText_mem_le ht) sz2)
  have out : b ∉ cs := not_mem_of_deeper (Reads.list g1 g2 g3 g4) (by simp only [PyData.depth]; omega) c1
  exact {
    slotRepr := F.slot_list_repr.toG
    slotStr := F.slot_list_str
    slotFmt := F.slot_list_format
    typeIs := fun s kp => ⟨ob, kp _ _ g1, g2⟩
    call := fun A E s Q hg hu kp hQ => by
      simp only [PyData.depth] at hu
      simp only [PyData.shown] at hQ
      obtain ⟨li⟩ := its
      cases li with
      | cons y r => exact call_list_reprK g1 g2 g3 out (by simpa using c2.length_eq) (fun i z e => c2.item i z (by simpa using e)) hg (fun z _ => Clear.nil z) hu kp hQ sz2
      | nil =>
        have g5 : ReadsAll hp [] ds as := g4
        cases g5
        simp only [PyData.shownAll, listText_nil] at hQ
        exact call_list_repr_empty ⟨ob, kp _ _ g1, g2⟩ (kp _ _ g1) g3 (hQ s.heap _ _ fun _ _ e => e) }
/-- repr of a list of data, at any address -/
def rReprL : List V → Hp → VK → Prop := fun xs H Q => ∃ (a : Addr) (vs : List V) (ds : List PyData), xs = [.ref a] ∧ H a = some (.lst vs) ∧ Das H vs ds ∧ OkD (.list ds) ∧ Q (.str (PyData.list ds).shown) H
theorem call_reprL {X : Cx} (gd : X.A.guards = some []) (hu : X.A.units + 64 < cLine) : CallR X (.builtin "repr") rReprL := by
  intro pins s σ H xs us Q I r h
  obtain ⟨a, vs, ds, rfl, ha, hd, ok, q⟩ := h
  obtain ⟨u, rfl, ru⟩ := vals1 r
  cases ru
  obtain ⟨its, rv, ⟨o, n, ho, hc, _, hda⟩, _⟩ := I.list (SqL.of ha)
  obtain ⟨as, hr, ns⟩ := Das.reads I hd rv
  have S := shows_list (P := X.prog) (w := X.w) ho hc hda (by simpa using hr) ok.sh ns ok.len
  have dp := ok.dp
  exact call_repr_slot (by omega) (S.typeIs s fun _ _ e => e) S.slotRepr (S.call X.A.in1 X.xe s _ gd (by show X.A.units + 1 + (PyData.list ds).depth < cLine; omega) (fun _ _ e => e) fun h' t tk k => ⟨_, _, rfl, .str (PyData.list ds).shown, H, I.kept k, ⟨_, rfl⟩, q⟩)
end HX

set_option Elab.async false
set_option linter.all false
set_option maxRecDepth 100000
set_option maxHeartbeats 4000000
namespace HX
open PySem PySem.Spec PyProof.Rows L2
section
variable {X : Cx}
/-- C() is raised, C an own class of errors without an own __init__ -/
theorem pmk_c0 {C : Addr} {bmB : List Value} {B newId initId : String} {x : Str} {p pos : Pos} (Fx : ExcBaseFacts B newId initId bmB) (q : PySem.W.excIn X.K C bmB newId = true) (gC : X.mg x = some (.ref C)) (kC : PySem.W.keepIn X.K (.ref C) = true) (r : Raises X (.ref C)) (hg : Gl X x)
    (hdb : (x == ("__debug__" : Str)) = false := by decide) : PMk X (.Call (.Name x p) [] [] pos) (fun _ H Q => Q (.ref C) none H) := fun pins s σ H Q I h => by
  refine wpAny_Call_Name_kw (ld_glob I hg gC ?_ hdb)
  refine PySem.W.callWith_KW0 (h₀ := X.base) I.ok.mod.kin kC rfl ?_ rfl
  refine PyProof.Rows.kwAll_nil ⟨I.kIn, ?_⟩
  show wpAny _ _ (call (.ref C) []) _ _ _
  obtain ⟨bm, N, nm, qn, bs, hdct, sn, sub, ab, col, dd, k0, k1, k2, k3, k5, mN, hC, hN, hni, T⟩ := exc_obj I.kIn q
  refine wpAny_call_exc_subT Fx T hC hN hni (fun h' a hm => ?_) (Nat.zero_le _)
  exact mk_of I hm r h (I.hok.gone hm.new)
end
/-- all but the pen's list and the tables of code stays -/
def Kt (p : Addr) (H G : Hp) : Prop := ∀ b o, b ≠ p → H b = some o → (∀ ps, o ≠ .tbl ps) → G b = some o
theorem Kt.refl {p : Addr} {H : Hp} : Kt p H H := fun _ _ _ e _ => e
theorem Kt.trans {p : Addr} {H G J : Hp} (a : Kt p H G) (b : Kt p G J) : Kt p H J := fun c o n e t => b c o n (a c o n e t) t
theorem Kt.kp {p : Addr} {H G : Hp} (k : Kp p H G) : Kt p H G := fun c o n e _ => k c o n e
theorem Kt.same {p : Addr} {H G : Hp} (k : Same H G) : Kt p H G := fun c o _ e _ => k c o e
theorem Kt.extN {p : Addr} {H G : Hp} (k : LamX.ExtN H G) : Kt p H G := fun c o _ e t => k c o e t
theorem Pe.extN {H G : Hp} {p l : Addr} {c : Int} (P : Pe H p l c) (k : LamX.ExtN H G) : Pe G p l c :=
  let ⟨ns, c0, g, q, e⟩ := P
  ⟨ns, c0, g, ⟨k _ _ q.at_ (fun _ z => by cases z), k _ _ q.cel (fun _ z => by cases z), q.ne, q.c0, q.g0⟩, e⟩
theorem Tabs.kp {T : List (Addr × Str)} {H G : Hp} {p : Addr} {o : HO} (t : LamX.Tabs T H) (hp : H p = some o) (nt : ∀ ps, o ≠ .tbl ps) (nc : ∀ q, o ≠ LamX.CodeO p q) (k : Kp p H G) : LamX.Tabs T G := fun x hx => by
  obtain ⟨ps, h1, h2, h3⟩ := t x hx
  refine ⟨ps, k _ _ (fun z => by rw [z, hp] at h1; exact nt _ (Option.some.inj h1)) h1, h2, fun pos cv hc => ?_⟩
  obtain ⟨c, e1, e2⟩ := h3 pos cv hc
  exact ⟨c, e1, k _ _ (fun z => by rw [z] at e2; rw [hp] at e2; exact nc _ (Option.some.inj e2)) e2⟩
end HX

set_option Elab.async false
set_option linter.all false
set_option maxRecDepth 100000
set_option maxHeartbeats 4000000
namespace HX
open PySem PySem.Spec PyProof.Rows L2
section
variable {X : Cx}
/-- errors are caught in a state of the def's own length -/
theorem takes_len {W : WX} (t : Takes X W) : Takes X (fun c d σ H => σ.length = X.N.length → W c d σ H) := fun u s' h => by
  obtain ⟨a, B, sI, pins, σ, H, cls, d, e, I, r1, r2, r3, r4, r5, r6, w⟩ := h
  exact t u s' ⟨a, B, sI, pins, σ, H, cls, d, e, I, r1, r2, r3, r4, r5, r6, w I.len⟩
/-- isinstance(e, (A, B, ..)) of a kept error -/
def rIsXT (K : PySem.W.Frag) : List V → Hp → VK → Prop := fun xs H Q => ∃ (a D tp : Addr) (d : Option Addr) (cs : List V) (us : List Value) (b : Bool), xs = [.ref a, .ref tp] ∧ H a = some (exT a (.ref D) d) ∧ (∀ dd, d = some dd → ∃ fs, H dd = some (.xd fs)) ∧ ExC K D ∧ H tp = some (.tup cs) ∧ (∀ ws, Vals cs ws → ws = us) ∧
  PySem.W.kitAny K (.ref D) us = some b ∧ Q (.bl b) H
theorem call_isXT : CallR X (.builtin "isinstance") (rIsXT X.K) := by
  intro pins s σ H xs us Q I r h
  obtain ⟨a, D, tp, d, cs, us', b, rfl, ea, ed, T, et, hu, hk, q⟩ := h
  obtain ⟨u, u2, rfl, r1, r2⟩ := vals2 r
  cases r1
  cases r2
  obtain ⟨its, rv, ⟨o, ho, hc, n, hd⟩, _⟩ := I.tuple (SqT.of et)
  have e2 := hu _ rv
  subst e2
  obtain ⟨oe, vs, z1, z2, z3⟩ := exT_at I.hok ea
  have hcl : (PySem.W.clsIn X.K D).isSome = true := by
    obtain ⟨cd, z, _⟩ := PySem.W.any_some T.hd
    rw [z]
    rfl
  obtain ⟨oc, odd, odt, osl⟩ := o
  dsimp only at hc hd
  subst hc
  subst hd
  cases d with
  | none => exact PySem.W.kia_tup (PySem.W.kitx_exc hcl T.ga T.gg T.sub T.ha T.hn T.ht T.hm) I.kIn (instAt_of0 z1 z2 z3) ho hk (fun z => nomatch z) fun tk => ⟨.bl b, H, I.kept (t' := tk) fun _ _ z => z, rfl, q⟩
  | some dd =>
    obtain ⟨fs, ed⟩ := ed dd rfl
    obtain ⟨mA, ⟨od, _, _, ho2, _⟩, _⟩ := (show ObjOk X.prog X.w H s.heap dd (.xd fs) from I.hok dd _ ed)
    exact PySem.W.kia_tup (PySem.W.kitx_exc hcl T.ga T.gg T.sub T.ha T.hn T.ht T.hm) I.kIn (instAt_of z1 z2 z3 ho2) ho hk (fun z => nomatch z) fun tk => ⟨.bl b, H, I.kept (t' := tk) fun _ _ z => z, rfl, q⟩
theorem vals_refs {cs : List Addr} {ws : List Value} (r : Vals (cs.map V.ref) ws) : ws = cs.map Value.ref := by
  induction cs generalizing ws with
  | nil => cases r; rfl
  | cons c cs ih =>
    cases r with
    | cons r1 r2 =>
      rw [ih r2]
      cases r1
      rfl
end
end HX

set_option Elab.async false
set_option linter.all false
set_option maxRecDepth 100000
set_option maxHeartbeats 4000000
namespace HX
open PySem PySem.Spec PyProof.Rows L2
/-- a heap without the pen's list, one more list, and the tables of code -/
def noTab : Option HO → Option HO
  | some (.tbl _) => none
  | x => x
def Hz (p q : Addr) (H : Hp) : Hp := fun b => if b = p ∨ b = q then none else noTab (H b)
/-- all but these stays -/
def Kz (p q : Addr) (H G : Hp) : Prop := ∀ b o, b ≠ p → b ≠ q → H b = some o → (∀ ps, o ≠ .tbl ps) → G b = some o
theorem noTab_some {x : Option HO} {o : HO} (h : noTab x = some o) : x = some o ∧ ∀ ps, o ≠ .tbl ps := by
  unfold noTab at h
  split at h
  · cases h
  · rename_i hn
    exact ⟨h, fun ps z => hn ps (by rw [← z]; exact h)⟩
theorem Hz.un {p q b : Addr} {H : Hp} {o : HO} (h : Hz p q H b = some o) : b ≠ p ∧ b ≠ q ∧ H b = some o ∧ ∀ ps, o ≠ .tbl ps := by
  unfold Hz at h
  split at h
  · cases h
  · rename_i hn
    obtain ⟨h1, h2⟩ := noTab_some h
    exact ⟨fun z => hn (.inl z), fun z => hn (.inr z), h1, h2⟩
theorem Hz.at_ {p q b : Addr} {H : Hp} {o : HO} (h1 : b ≠ p) (h2 : b ≠ q) (h : H b = some o) (ht : ∀ ps, o ≠ .tbl ps) : Hz p q H b = some o := by
  unfold Hz
  rw [if_neg (fun z => z.elim h1 h2), h]
  unfold noTab
  split
  · rename_i ps hp
    exact absurd (Option.some.inj hp) (ht ps)
  · rfl
theorem Hz.sub {p q : Addr} {H : Hp} : Same (Hz p q H) H := fun b o h => (Hz.un h).2.2.1
theorem Kz.hz {p q : Addr} {H G : Hp} (k : Kz p q H G) : Same (Hz p q H) (Hz p q G) := fun b o h =>
  let ⟨h1, h2, h3, h4⟩ := Hz.un h
  Hz.at_ h1 h2 (k b o h1 h2 h3 h4) h4
theorem Hz.turn {p q q' : Addr} {H : Hp} (n : H q' = none) : Same (Hz p q H) (Hz p q' H) := fun b o h =>
  let ⟨h1, _, h3, h4⟩ := Hz.un h
  Hz.at_ h1 (ne_of_none h3 n) h3 h4
theorem Kz.kp {p q : Addr} {H G : Hp} (k : Kp p H G) : Kz p q H G := fun b o n _ e _ => k b o n e
theorem Kz.same {p q : Addr} {H G : Hp} (k : Same H G) : Kz p q H G := fun b o _ _ e _ => k b o e
theorem Kz.extN {p q : Addr} {H G : Hp} (k : LamX.ExtN H G) : Kz p q H G := fun b o _ _ e t => k b o e t
theorem Kz.upd {p q : Addr} {H : Hp} {o : HO} : Kz p q H (L2.upd H q o) := fun b u _ n e _ => by rw [upd_ne n]; exact e
theorem Kz.new {p q r : Addr} {H : Hp} {o : HO} (n : H r = none) : Kz p q H (L2.upd H r o) := fun b u _ _ e _ => by rw [upd_ne (ne_of_none e n)]; exact e
theorem Kz.trans {p q : Addr} {H G J : Hp} (a : Kz p q H G) (b : Kz p q G J) : Kz p q H J := fun c o h1 h2 e t => b c o h1 h2 (a c o h1 h2 e t) t
theorem Kz.refl {p q : Addr} {H : Hp} : Kz p q H H := fun _ _ _ _ e _ => e
theorem Tabs.kz {T : List (Addr × Str)} {H G : Hp} {p l : Addr} {c : Int} (t : LamX.Tabs T H) (P : Pe H p l c) (k : Kp p H G) : LamX.Tabs T G := by
  obtain ⟨ns, c0, g, q, _⟩ := P
  exact Tabs.kp t q.at_ (fun _ z => by cases z) (fun _ z => by unfold LamX.CodeO at z; cases z) k
theorem Tabs.put {T : List (Addr × Str)} {H : Hp} {q : Addr} {xs : List V} {o : HO} (t : LamX.Tabs T H) (h : H q = some (.lst xs)) : LamX.Tabs T (L2.upd H q o) := fun x hx => by
  obtain ⟨ps, h1, h2, h3⟩ := t x hx
  refine ⟨ps, by rw [upd_ne (fun z => by rw [z, h] at h1; cases h1)]; exact h1, h2, fun pos cv hc => ?_⟩
  obtain ⟨c, e1, e2⟩ := h3 pos cv hc
  exact ⟨c, e1, by rw [upd_ne (fun z => by rw [z, h] at e2; unfold LamX.CodeO at e2; cases e2)]; exact e2⟩
/-- data that repr can show, by a look -/
theorem okD_by {d : PyData} (e : (d.showable && decide (d.depth ≤ 60) && d.leavesShort 1000 && decide (d.weight ≤ 10000)) = true) : OkD d := by
  simp only [Bool.and_eq_true, decide_eq_true_eq] at e
  exact ⟨e.1.1.1, e.1.1.2, e.1.2, e.2⟩
end HX

set_option Elab.async false
set_option linter.all false
set_option maxRecDepth 100000
set_option maxHeartbeats 2000000
namespace HX
open PySem PySem.Spec PyProof.Rows L2

/-! ### the least common multiple -/
def lcmZ (p q : Int) : Int := ((Nat.lcm p.natAbs q.natAbs : Nat) : Int)
theorem lcmZ_pos {p q : Int} (hp : 0 < p) (hq : 0 < q) : 0 < lcmZ p q := by
  have : 0 < Nat.lcm p.natAbs q.natAbs := Nat.lcm_pos (by omega) (by omega)
  unfold lcmZ
  omega
theorem lcmZ_p (p q : Int) : p ∣ lcmZ p q := Int.ofNat_dvd_right.mpr (Nat.dvd_lcm_left _ _)
theorem lcmZ_q (p q : Int) : q ∣ lcmZ p q := Int.ofNat_dvd_right.mpr (Nat.dvd_lcm_right _ _)
theorem lcm_le_mul (m n : Nat) : m.lcm n ≤ m * n := by
  unfold Nat.lcm
  exact Nat.div_le_self _ _
theorem lcmZ_le {p q : Int} (hp : 0 < p) (hq : 0 < q) : lcmZ p q ≤ p * q := by
  have h := lcm_le_mul p.natAbs q.natAbs
  have e : ((p.natAbs * q.natAbs : Nat) : Int) = p * q := by
    rw [Int.natCast_mul, Int.natAbs_of_nonneg (Int.le_of_lt hp), Int.natAbs_of_nonneg (Int.le_of_lt hq)]
  unfold lcmZ
  rw [← e]
  exact Int.ofNat_le.mpr h
def rLcm : List V → Hp → VK → Prop := fun vs H Q => ∃ a b : Int, vs = [.int a, .int b] ∧ Sm 3000 a ∧ Sm 3000 b ∧ Q (.int (lcmZ a b)) H
theorem cr_lcm {X : Cx} : CallR X (.builtin "math.lcm") rLcm := by
  intro pins s σ H vs us Q I r h
  obtain ⟨a, b, rfl, ha, hb, q⟩ := h
  obtain ⟨t, u, rfl⟩ := Vals.int2 r
  have one : (1 : Nat) < 2 ^ 3000 := Nat.one_lt_two_pow (by decide)
  have l0 : (max 1 a.natAbs).log2 ≤ 2999 := PySem.W.mg_log (Nat.max_lt.mpr ⟨one, ha⟩)
  have l1 : (max a.natAbs b.natAbs).log2 ≤ 2999 := PySem.W.mg_log (Nat.max_lt.mpr ⟨ha, hb⟩)
  have l2 : (Nat.lcm a.natAbs b.natAbs).log2 ≤ 5999 := PySem.W.mg_log (Nat.lt_of_le_of_lt (lcm_le_mul _ _) (by
    have z := Nat.mul_lt_mul'' ha hb
    rw [← Nat.pow_add] at z
    exact z))
  have e1 : Nat.lcm 1 a.natAbs = a.natAbs := by simp [Nat.lcm]
  have g := PySem.W.mg_run_lcm a t b u (by omega) (by omega) (by
    rw [e1, Int.natAbs_natCast]
    exact Nat.lt_of_le_of_lt l2 (by decide))
  rw [e1] at g
  exact PySem.call_function_meets PySem.W.MGF.kind_lcm PySem.W.MGF.plain_lcm PySem.W.MGF.entry_lcm (PySem.W.MGF.args_lcm _ _) g.meets ⟨.int _, H, I.tok _, ⟨_, rfl⟩, q⟩

/-! ### sums of fractions over one bottom -/
def sopS (s : Int × Int) (x : Int × Int × Int) : Int × Int :=
  if x.2.1 = s.2 then (s.1 + x.1 * x.2.2, s.2) else (s.1 * (lcmZ s.2 x.2.1 / s.2) + x.1 * x.2.2 * (lcmZ s.2 x.2.1 / x.2.1), lcmZ s.2 x.2.1)
def sopV (ps : List (Int × Int × Int)) : Int × Int := ps.foldl sopS (0, 1)
def stepK (s : Int × Int) (x : Int × Int × Int) : Int × Int := (nT (s.1 * x.2.1 + x.1 * x.2.2 * s.2) (s.2 * x.2.1), nB (s.1 * x.2.1 + x.1 * x.2.2 * s.2) (s.2 * x.2.1))
def totK (ps : List (Int × Int × Int)) : Int × Int := ps.foldl stepK (0, 1)
theorem sopV_snoc (ps : List (Int × Int × Int)) (x : Int × Int × Int) : sopV (ps ++ [x]) = sopS (sopV ps) x := by
  unfold sopV
  rw [List.foldl_append]
  rfl
theorem totK_snoc (ps : List (Int × Int × Int)) (x : Int × Int × Int) : totK (ps ++ [x]) = stepK (totK ps) x := by
  unfold totK
  rw [List.foldl_append]
  rfl
/-- s as the loop has it, u the same in lowest terms -/
structure OkSop (n κ i : Nat) (s u : Int × Int) : Prop where
  pos : 0 < s.2
  b1 : Sm (1 + (n + κ + 1) * i) s.1
  b2 : Sm (1 + n * i) s.2
  low : Low u.1 u.2
  eq : s.1 * u.2 = u.1 * s.2
theorem OkSop.nil (n κ : Nat) : OkSop n κ 0 (0, 1) (0, 1) := ⟨by decide, (by unfold Sm; simp), (by unfold Sm; simp), low_int 0, rfl⟩
theorem sm_le {n : Nat} {i j : Int} (h : Sm n j) (h0 : 0 ≤ i) (h1 : i ≤ j) : Sm n i := by
  unfold Sm at *
  omega
/-- what is multiplied by on the way to one bottom -/
theorem quo_le {p q : Int} (hp : 0 < p) (hq : 0 < q) : 0 ≤ lcmZ p q / p ∧ lcmZ p q / p ≤ q ∧ 0 ≤ lcmZ p q / q ∧ lcmZ p q / q ≤ p := by
  have h := lcmZ_pos hp hq
  have le := lcmZ_le hp hq
  refine ⟨Int.ediv_nonneg (Int.le_of_lt h) (Int.le_of_lt hp), ?_, Int.ediv_nonneg (Int.le_of_lt h) (Int.le_of_lt hq), ?_⟩
  · exact Int.ediv_le_of_le_mul hp (by rw [Int.mul_comm]; exact le)
  · exact Int.ediv_le_of_le_mul hq le
theorem OkSop.step {n κ i : Nat} {s u : Int × Int} {t b k : Int} (h : OkSop n κ i s u) (lo : Low t b) (St : Sm n t) (Sb : Sm n b) (Sk : Sm κ k) : OkSop n κ (i + 1) (sopS s (t, b, k)) (stepK u (t, b, k)) := by
  obtain ⟨hp, h1, h2, hl, he⟩ := h
  have b0 : 0 < b := lo.1
  have u0 : 0 < u.2 := hl.1
  have qz : u.2 * b ≠ 0 := Int.mul_ne_zero (by omega) (by omega)
  have Stk := St.mul Sk
  have w1 : (n + κ + 1) * (i + 1) = (n + κ + 1) * i + (n + κ + 1) := Nat.mul_succ _ _
  have w2 : n * (i + 1) = n * i + n := Nat.mul_succ _ _
  have w3 : n * i ≤ (n + κ + 1) * i := Nat.mul_le_mul_right _ (by omega)
  obtain ⟨q1, q2, q3, q4⟩ := quo_le hp b0
  have key : 0 < (sopS s (t, b, k)).2 ∧ Sm (1 + (n + κ + 1) * (i + 1)) (sopS s (t, b, k)).1 ∧ Sm (1 + n * (i + 1)) (sopS s (t, b, k)).2 ∧
      (sopS s (t, b, k)).1 * (u.2 * b) = (u.1 * b + t * k * u.2) * (sopS s (t, b, k)).2 := by
    by_cases e : b = s.2
    · have ee : sopS s (t, b, k) = (s.1 + t * k, s.2) := if_pos e
      rw [ee]
      refine ⟨hp, ?_, h2.mono (by omega), ?_⟩
      · have z : Sm ((1 + (n + κ + 1) * i + n + κ) + 1) (s.1 + t * k) := (h1.mono (by omega)).add (Stk.mono (by omega))
        exact z.mono (by omega)
      · show (s.1 + t * k) * (u.2 * b) = (u.1 * b + t * k * u.2) * s.2
        rw [← e] at he ⊢
        grind
    · have ee : sopS s (t, b, k) = (s.1 * (lcmZ s.2 b / s.2) + t * k * (lcmZ s.2 b / b), lcmZ s.2 b) := if_neg e
      rw [ee]
      have m1 : Sm (1 + (n + κ + 1) * i + n) (s.1 * (lcmZ s.2 b / s.2)) := h1.mul (sm_le Sb q1 q2)
      have m2 : Sm (n + κ + (1 + n * i)) (t * k * (lcmZ s.2 b / b)) := Stk.mul (sm_le h2 q3 q4)
      have m3 : Sm (1 + n * i + n) (lcmZ s.2 b) := sm_le (h2.mul Sb) (Int.le_of_lt (lcmZ_pos hp b0)) (lcmZ_le hp b0)
      refine ⟨lcmZ_pos hp b0, ?_, m3.mono (by omega), ?_⟩
      · have z : Sm ((1 + (n + κ + 1) * i + n + κ) + 1) (s.1 * (lcmZ s.2 b / s.2) + t * k * (lcmZ s.2 b / b)) := (m1.mono (by omega)).add (m2.mono (by omega))
        exact z.mono (by omega)
      · have d1 : lcmZ s.2 b = s.2 * (lcmZ s.2 b / s.2) := (Int.mul_ediv_cancel' (lcmZ_p _ _)).symm
        have d2 : lcmZ s.2 b = b * (lcmZ s.2 b / b) := (Int.mul_ediv_cancel' (lcmZ_q _ _)).symm
        show (s.1 * (lcmZ s.2 b / s.2) + t * k * (lcmZ s.2 b / b)) * (u.2 * b) = (u.1 * b + t * k * u.2) * lcmZ s.2 b
        generalize lcmZ s.2 b / s.2 = x at *
        generalize lcmZ s.2 b / b = y at *
        generalize lcmZ s.2 b = S at *
        grind
  obtain ⟨k1, k2, k3, k4⟩ := key
  refine ⟨k1, k2, k3, low_n qz, ?_⟩
  show (sopS s (t, b, k)).1 * nB (u.1 * b + t * k * u.2) (u.2 * b) = nT (u.1 * b + t * k * u.2) (u.2 * b) * (sopS s (t, b, k)).2
  have c := cross (p := u.1 * b + t * k * u.2) qz
  generalize nB (u.1 * b + t * k * u.2) (u.2 * b) = y at *
  generalize nT (u.1 * b + t * k * u.2) (u.2 * b) = x at *
  refine Int.eq_of_mul_eq_mul_right qz ?_
  generalize u.1 * b + t * k * u.2 = P at *
  generalize u.2 * b = R at *
  grind
theorem OkSop.fin {n κ i : Nat} {s u : Int × Int} (h : OkSop n κ i s u) : nT s.1 s.2 = u.1 ∧ nB s.1 s.2 = u.2 := by
  have sz : s.2 ≠ 0 := by have := h.pos; omega
  refine low_unique (low_n sz) h.low ?_
  have c := cross (p := s.1) sz
  have e := h.eq
  refine Int.eq_of_mul_eq_mul_right sz ?_
  generalize nT s.1 s.2 = x at *
  generalize nB s.1 s.2 = y at *
  grind
/-- a pair of an amount and an integer -/
def PrK (n κ : Nat) (A : Addr) (H : Hp) (v : V) (x : Int × Int × Int) : Prop := ∃ q r, v = .ref q ∧ H q = some (.tup [.ref r, .int x.2.2]) ∧ Am A H r x.1 x.2.1 ∧ Low x.1 x.2.1 ∧ Sm n x.1 ∧ Sm n x.2.1 ∧ Sm κ x.2.2
inductive PrKL (n κ : Nat) (A : Addr) (H : Hp) : List V → List (Int × Int × Int) → Prop
  | nil : PrKL n κ A H [] []
  | cons {v : V} {vs : List V} {x : Int × Int × Int} {ps : List (Int × Int × Int)} : PrK n κ A H v x → PrKL n κ A H vs ps → PrKL n κ A H (v :: vs) (x :: ps)
section
variable {n κ : Nat} {A : Addr} {H G : Hp}
theorem PrK.mo {v : V} {x : Int × Int × Int} (s : Same H G) : PrK n κ A H v x → PrK n κ A G v x := fun ⟨q, r, e, h, a, z⟩ => ⟨q, r, e, s _ _ h, a.mo s, z⟩
theorem PrKL.mo (s : Same H G) : ∀ {vs : List V} {ps : List (Int × Int × Int)}, PrKL n κ A H vs ps → PrKL n κ A G vs ps
  | _, _, .nil => .nil
  | _, _, .cons h r => .cons (h.mo s) (r.mo s)
theorem PrKL.len : ∀ {vs : List V} {ps : List (Int × Int × Int)}, PrKL n κ A H vs ps → vs.length = ps.length
  | _, _, .nil => rfl
  | _, _, .cons _ r => by rw [List.length_cons, List.length_cons, r.len]
theorem PrKL.at_ : ∀ {vs : List V} {ps : List (Int × Int × Int)} {i : Nat} {v : V}, PrKL n κ A H vs ps → vs[i]? = some v → ∃ x, ps[i]? = some x ∧ PrK n κ A H v x
  | _, _, _, _, .nil, e => by simp at e
  | _, _, 0, v, .cons h r, e => by
    simp at e
    subst e
    exact ⟨_, rfl, h⟩
  | _, _, i + 1, v, .cons h r, e => by
    obtain ⟨x, h1, h2⟩ := r.at_ (i := i) (v := v) (by simpa using e)
    exact ⟨x, by simpa using h1, h2⟩
theorem PrKL.snoc {v : V} {x : Int × Int × Int} (h : PrK n κ A H v x) : ∀ {vs : List V} {ps : List (Int × Int × Int)}, PrKL n κ A H vs ps → PrKL n κ A H (vs ++ [v]) (ps ++ [x])
  | _, _, .nil => .cons h .nil
  | _, _, .cons h' r => .cons h' (r.snoc h)
theorem upd_far' {D b : Addr} {o o' u : HO} (e : H b = some u) (d : H D = some o) (n : u ≠ o) : L2.upd H D o' b = some u := by
  rw [upd_ne (fun z => n (by rw [z, d] at e; exact (Option.some.inj e).symm))]
  exact e
theorem PrK.updL {D : Addr} {xs : List V} {o : HO} (d : H D = some (.lst xs)) {v : V} {x : Int × Int × Int} : PrK n κ A H v x → PrK n κ A (L2.upd H D o) v x := fun ⟨q, r, e, h, ⟨dx, a⟩, z⟩ =>
  ⟨q, r, e, upd_far' h d (fun z => by cases z), ⟨dx, upd_far' a d (fun z => by cases z)⟩, z⟩
theorem PrKL.updL {D : Addr} {xs : List V} {o : HO} (d : H D = some (.lst xs)) : ∀ {vs : List V} {ps : List (Int × Int × Int)}, PrKL n κ A H vs ps → PrKL n κ A (L2.upd H D o) vs ps
  | _, _, .nil => .nil
  | _, _, .cons h r => .cons (h.updL d) (r.updL d)
end
/-- sum_of_products -/
def spSop (K : PySem.W.Frag) (A : Addr) : Sp := fun vs H Q _ => ∃ (n κ : Nat) (a : Addr) (xs : List V) (ps : List (Int × Int × Int)), vs = [.ref a] ∧ SqL K H a xs ∧ PrKL n κ A H xs ps ∧ 0 < n ∧ 0 < κ ∧ 1 + (n + κ + 1) * ps.length ≤ 880 ∧ QA A H Q (totK ps).1 (totK ps).2
end HX

set_option Elab.async false
set_option linter.all false
set_option maxRecDepth 100000
set_option maxHeartbeats 4000000
namespace LW
open PySem PySem.Spec PyProof.Rows L2 HX
def top (i : Nat) : Stmt := PySem.Challenge.pw_holeshift_k04_sums_of_gaps_and_wrong_par.main.body.getD i (.Pass ⟨0, 0, 0, 0⟩)

abbrev s__wall : Stmt := top 1
abbrev n__wall : List Str := ["k"]
theorem sc__wall : FnScope n__wall ["k"] (defScope s__wall) := ⟨rfl, rfl, rfl, by decide +kernel, rfl, by decide +kernel, by decide +kernel⟩

abbrev s_BadName_init : Stmt := inClass (top 6) 0
abbrev n_BadName_init : List Str := ["self", "value"]
theorem sc_BadName_init : FnScope n_BadName_init ["self", "value"] (defScope s_BadName_init) := ⟨rfl, rfl, rfl, by decide +kernel, rfl, by decide +kernel, by decide +kernel⟩

abbrev s_BadAmount_init : Stmt := inClass (top 7) 0
abbrev n_BadAmount_init : List Str := ["self", "value"]
theorem sc_BadAmount_init : FnScope n_BadAmount_init ["self", "value"] (defScope s_BadAmount_init) := ⟨rfl, rfl, rfl, by decide +kernel, rfl, by decide +kernel, by decide +kernel⟩

abbrev s_BadItem_init : Stmt := inClass (top 8) 0
abbrev n_BadItem_init : List Str := ["self", "part"]
theorem sc_BadItem_init : FnScope n_BadItem_init ["self", "part"] (defScope s_BadItem_init) := ⟨rfl, rfl, rfl, by decide +kernel, rfl, by decide +kernel, by decide +kernel⟩

abbrev s_BadGaps_init : Stmt := inClass (top 9) 0
abbrev n_BadGaps_init : List Str := ["self", "value"]
theorem sc_BadGaps_init : FnScope n_BadGaps_init ["self", "value"] (defScope s_BadGaps_init) := ⟨rfl, rfl, rfl, by decide +kernel, rfl, by decide +kernel, by decide +kernel⟩

abbrev s_BadText_init : Stmt := inClass (top 10) 0
abbrev n_BadText_init : List Str := ["self", "line", "word"]
theorem sc_BadText_init : FnScope n_BadText_init ["self", "line", "word"] (defScope s_BadText_init) := ⟨rfl, rfl, rfl, by decide +kernel, rfl, by decide +kernel, by decide +kernel⟩

abbrev s_is_int : Stmt := top 14
abbrev n_is_int : List Str := ["value"]
theorem sc_is_int : FnScope n_is_int ["value"] (defScope s_is_int) := ⟨rfl, rfl, rfl, by decide +kernel, rfl, by decide +kernel, by decide +kernel⟩

abbrev s_is_int_within : Stmt := top 15
abbrev n_is_int_within : List Str := ["value", "least", "most"]
theorem sc_is_int_within : FnScope n_is_int_within ["value", "least", "most"] (defScope s_is_int_within) := ⟨rfl, rfl, rfl, by decide +kernel, rfl, by decide +kernel, by decide +kernel⟩

abbrev s_sum_of_products : Stmt := top 16
abbrev n_sum_of_products : List Str := ["pairs", "top", "bottom", "amount", "times", "shared"]
theorem sc_sum_of_products : FnScope n_sum_of_products ["pairs"] (defScope s_sum_of_products) := ⟨rfl, rfl, rfl, by decide +kernel, rfl, by decide +kernel, by decide +kernel⟩

abbrev s__is_figures : Stmt := top 17
abbrev n__is_figures : List Str := ["text"]
theorem sc__is_figures : FnScope n__is_figures ["text"] (defScope s__is_figures) := ⟨rfl, rfl, rfl, by decide +kernel, rfl, by decide +kernel, by decide +kernel⟩

abbrev s_Amount_init : Stmt := inClass (top 18) 0
abbrev n_Amount_init : List Str := ["self", "top", "bottom", "shared"]
theorem sc_Amount_init : FnScope n_Amount_init ["self", "top", "bottom"] (defScope s_Amount_init) := ⟨rfl, rfl, rfl, by decide +kernel, rfl, by decide +kernel, by decide +kernel⟩

abbrev s_Amount_is_number : Stmt := inClass (top 18) 1
abbrev n_Amount_is_number : List Str := ["value"]
theorem sc_Amount_is_number : FnScope n_Amount_is_number ["value"] (defScope s_Amount_is_number) := ⟨rfl, rfl, rfl, by decide +kernel, rfl, by decide +kernel, by decide +kernel⟩

abbrev s_Amount_of : Stmt := inClass (top 18) 2
abbrev n_Amount_of : List Str := ["number"]
theorem sc_Amount_of : FnScope n_Amount_of ["number"] (defScope s_Amount_of) := ⟨rfl, rfl, rfl, by decide +kernel, rfl, by decide +kernel, by decide +kernel⟩

abbrev s_Amount_total : Stmt := inClass (top 18) 3
abbrev n_Amount_total : List Str := ["numbers"]
theorem sc_Amount_total : FnScope n_Amount_total ["numbers"] (defScope s_Amount_total) := ⟨rfl, rfl, rfl, by decide +kernel, rfl, by decide +kernel, by decide +kernel⟩

abbrev s_Amount_read : Stmt := inClass (top 18) 4
abbrev n_Amount_read : List Str := ["cls", "text", "above", "stroke", "below", "amount"]
theorem sc_Amount_read : FnScope n_Amount_read ["cls", "text"] (defScope s_Amount_read) := ⟨rfl, rfl, rfl, by decide +kernel, rfl, by decide +kernel, by decide +kernel⟩

abbrev s_Amount_str : Stmt := inClass (top 18) 5
abbrev n_Amount_str : List Str := ["self"]
theorem sc_Amount_str : FnScope n_Amount_str ["self"] (defScope s_Amount_str) := ⟨rfl, rfl, rfl, by decide +kernel, rfl, by decide +kernel, by decide +kernel⟩

abbrev s_Amount_is_whole : Stmt := inClass (top 18) 6
abbrev n_Amount_is_whole : List Str := ["self"]
theorem sc_Amount_is_whole : FnScope n_Amount_is_whole ["self"] (defScope s_Amount_is_whole) := ⟨rfl, rfl, rfl, by decide +kernel, rfl, by decide +kernel, by decide +kernel⟩

abbrev s_Amount_over : Stmt := inClass (top 18) 7
abbrev n_Amount_over : List Str := ["self", "number", "divisor"]
theorem sc_Amount_over : FnScope n_Amount_over ["self", "number"] (defScope s_Amount_over) := ⟨rfl, rfl, rfl, by decide +kernel, rfl, by decide +kernel, by decide +kernel⟩

abbrev s_Amount_add : Stmt := inClass (top 18) 8
abbrev n_Amount_add : List Str := ["self", "other"]
theorem sc_Amount_add : FnScope n_Amount_add ["self", "other"] (defScope s_Amount_add) := ⟨rfl, rfl, rfl, by decide +kernel, rfl, by decide +kernel, by decide +kernel⟩

abbrev s_Amount_radd : Stmt := inClass (top 18) 9
abbrev n_Amount_radd : List Str := ["self", "other"]
theorem sc_Amount_radd : FnScope n_Amount_radd ["self", "other"] (defScope s_Amount_radd) := ⟨rfl, rfl, rfl, by decide +kernel, rfl, by decide +kernel, by decide +kernel⟩

abbrev s_Amount_iadd : Stmt := inClass (top 18) 10
abbrev n_Amount_iadd : List Str := ["self", "other"]
theorem sc_Amount_iadd : FnScope n_Amount_iadd ["self", "other"] (defScope s_Amount_iadd) := ⟨rfl, rfl, rfl, by decide +kernel, rfl, by decide +kernel, by decide +kernel⟩

abbrev s_Amount_sub : Stmt := inClass (top 18) 11
abbrev n_Amount_sub : List Str := ["self", "other"]
theorem sc_Amount_sub : FnScope n_Amount_sub ["self", "other"] (defScope s_Amount_sub) := ⟨rfl, rfl, rfl, by decide +kernel, rfl, by decide +kernel, by decide +kernel⟩

abbrev s_Amount_rsub : Stmt := inClass (top 18) 12
abbrev n_Amount_rsub : List Str := ["self", "other"]
theorem sc_Amount_rsub : FnScope n_Amount_rsub ["self", "other"] (defScope s_Amount_rsub) := ⟨rfl, rfl, rfl, by decide +kernel, rfl, by decide +kernel, by decide +kernel⟩

abbrev s_Amount_isub : Stmt := inClass (top 18) 13
abbrev n_Amount_isub : List Str := ["self", "other"]
theorem sc_Amount_isub : FnScope n_Amount_isub ["self", "other"] (defScope s_Amount_isub) := ⟨rfl, rfl, rfl, by decide +kernel, rfl, by decide +kernel, by decide +kernel⟩

abbrev s_Amount_mul : Stmt := inClass (top 18) 14
abbrev n_Amount_mul : List Str := ["self", "other"]
theorem sc_Amount_mul : FnScope n_Amount_mul ["self", "other"] (defScope s_Amount_mul) := ⟨rfl, rfl, rfl, by decide +kernel, rfl, by decide +kernel, by decide +kernel⟩

abbrev s_Amount_rmul : Stmt := inClass (top 18) 15
abbrev n_Amount_rmul : List Str := ["self", "other"]
theorem sc_Amount_rmul : FnScope n_Amount_rmul ["self", "other"] (defScope s_Amount_rmul) := ⟨rfl, rfl, rfl, by decide +kernel, rfl, by decide +kernel, by decide +kernel⟩

abbrev s_Amount_imul : Stmt := inClass (top 18) 16
abbrev n_Amount_imul : List Str := ["self", "other"]
theorem sc_Amount_imul : FnScope n_Amount_imul ["self", "other"] (defScope s_Amount_imul) := ⟨rfl, rfl, rfl, by decide +kernel, rfl, by decide +kernel, by decide +kernel⟩

abbrev s_Amount_floordiv : Stmt := inClass (top 18) 17
abbrev n_Amount_floordiv : List Str := ["self", "other", "quotient"]
theorem sc_Amount_floordiv : FnScope n_Amount_floordiv ["self", "other"] (defScope s_Amount_floordiv) := ⟨rfl, rfl, rfl, by decide +kernel, rfl, by decide +kernel, by decide +kernel⟩

abbrev s_Amount_rfloordiv : Stmt := inClass (top 18) 18
abbrev n_Amount_rfloordiv : List Str := ["self", "other"]
theorem sc_Amount_rfloordiv : FnScope n_Amount_rfloordiv ["self", "other"] (defScope s_Amount_rfloordiv) := ⟨rfl, rfl, rfl, by decide +kernel, rfl, by decide +kernel, by decide +kernel⟩

abbrev s_Amount_ifloordiv : Stmt := inClass (top 18) 19
abbrev n_Amount_ifloordiv : List Str := ["self", "other"]
theorem sc_Amount_ifloordiv : FnScope n_Amount_ifloordiv ["self", "other"] (defScope s_Amount_ifloordiv) := ⟨rfl, rfl, rfl, by decide +kernel, rfl, by decide +kernel, by decide +kernel⟩

abbrev s_Amount_mod : Stmt := inClass (top 18) 20
abbrev n_Amount_mod : List Str := ["self", "other"]
theorem sc_Amount_mod : FnScope n_Amount_mod ["self", "other"] (defScope s_Amount_mod) := ⟨rfl, rfl, rfl, by decide +kernel, rfl, by decide +kernel, by decide +kernel⟩

abbrev s_Amount_rmod : Stmt := inClass (top 18) 21
abbrev n_Amount_rmod : List Str := ["self", "other"]
theorem sc_Amount_rmod : FnScope n_Amount_rmod ["self", "other"] (defScope s_Amount_rmod) := ⟨rfl, rfl, rfl, by decide +kernel, rfl, by decide +kernel, by decide +kernel⟩

abbrev s_Amount_imod : Stmt := inClass (top 18) 22
abbrev n_Amount_imod : List Str := ["self", "other"]
theorem sc_Amount_imod : FnScope n_Amount_imod ["self", "other"] (defScope s_Amount_imod) := ⟨rfl, rfl, rfl, by decide +kernel, rfl, by decide +kernel, by decide +kernel⟩

abbrev s_Amount_neg : Stmt := inClass (top 18) 23
abbrev n_Amount_neg : List Str := ["self"]
theorem sc_Amount_neg : FnScope n_Amount_neg ["self"] (defScope s_Amount_neg) := ⟨rfl, rfl, rfl, by decide +kernel, rfl, by decide +kernel, by decide +kernel⟩

abbrev s_Amount_abs : Stmt := inClass (top 18) 24
abbrev n_Amount_abs : List Str := ["self"]
theorem sc_Amount_abs : FnScope n_Amount_abs ["self"] (defScope s_Amount_abs) := ⟨rfl, rfl, rfl, by decide +kernel, rfl, by decide +kernel, by decide +kernel⟩

abbrev s_Amount_bool : Stmt := inClass (top 18) 25
abbrev n_Amount_bool : List Str := ["self"]
theorem sc_Amount_bool : FnScope n_Amount_bool ["self"] (defScope s_Amount_bool) := ⟨rfl, rfl, rfl, by decide +kernel, rfl, by decide +kernel, by decide +kernel⟩

abbrev s_Amount_eq : Stmt := inClass (top 18) 26
abbrev n_Amount_eq : List Str := ["self", "other"]
theorem sc_Amount_eq : FnScope n_Amount_eq ["self", "other"] (defScope s_Amount_eq) := ⟨rfl, rfl, rfl, by decide +kernel, rfl, by decide +kernel, by decide +kernel⟩

abbrev s_Amount_lt : Stmt := inClass (top 18) 27
abbrev n_Amount_lt : List Str := ["self", "other", "number"]
theorem sc_Amount_lt : FnScope n_Amount_lt ["self", "other"] (defScope s_Amount_lt) := ⟨rfl, rfl, rfl, by decide +kernel, rfl, by decide +kernel, by decide +kernel⟩

abbrev s_Amount_le : Stmt := inClass (top 18) 28
abbrev n_Amount_le : List Str := ["self", "other", "number"]
theorem sc_Amount_le : FnScope n_Amount_le ["self", "other"] (defScope s_Amount_le) := ⟨rfl, rfl, rfl, by decide +kernel, rfl, by decide +kernel, by decide +kernel⟩

abbrev s_Amount_gt : Stmt := inClass (top 18) 29
abbrev n_Amount_gt : List Str := ["self", "other", "number"]
theorem sc_Amount_gt : FnScope n_Amount_gt ["self", "other"] (defScope s_Amount_gt) := ⟨rfl, rfl, rfl, by decide +kernel, rfl, by decide +kernel, by decide +kernel⟩

abbrev s_Amount_ge : Stmt := inClass (top 18) 30
abbrev n_Amount_ge : List Str := ["self", "other", "number"]
theorem sc_Amount_ge : FnScope n_Amount_ge ["self", "other"] (defScope s_Amount_ge) := ⟨rfl, rfl, rfl, by decide +kernel, rfl, by decide +kernel, by decide +kernel⟩

abbrev s_is_name : Stmt := top 21
abbrev n_is_name : List Str := ["value"]
theorem sc_is_name : FnScope n_is_name ["value"] (defScope s_is_name) := ⟨rfl, rfl, rfl, by decide +kernel, rfl, by decide +kernel, by decide +kernel⟩

abbrev s_need_name : Stmt := top 22
abbrev n_need_name : List Str := ["value"]
theorem sc_need_name : FnScope n_need_name ["value"] (defScope s_need_name) := ⟨rfl, rfl, rfl, by decide +kernel, rfl, by decide +kernel, by decide +kernel⟩

abbrev s_wrong_part : Stmt := top 24
abbrev n_wrong_part : List Str := ["parts", "account", "part"]
theorem sc_wrong_part : FnScope n_wrong_part ["parts"] (defScope s_wrong_part) := ⟨rfl, rfl, rfl, by decide +kernel, rfl, by decide +kernel, by decide +kernel⟩

abbrev s_Linear_init : Stmt := inClass (top 25) 2
abbrev n_Linear_init : List Str := ["self", "parts", "wrong", "account"]
theorem sc_Linear_init : FnScope n_Linear_init ["self", "parts"] (defScope s_Linear_init) := ⟨rfl, rfl, rfl, by decide +kernel, rfl, by decide +kernel, by decide +kernel⟩

abbrev s_Linear_accounts : Stmt := inClass (top 25) 3
abbrev n_Linear_accounts : List Str := ["self"]
theorem sc_Linear_accounts : FnScope n_Linear_accounts ["self"] (defScope s_Linear_accounts) := ⟨rfl, rfl, rfl, by decide +kernel, rfl, by decide +kernel, by decide +kernel⟩

abbrev s_Linear_getitem : Stmt := inClass (top 25) 4
abbrev n_Linear_getitem : List Str := ["self", "account"]
theorem sc_Linear_getitem : FnScope n_Linear_getitem ["self", "account"] (defScope s_Linear_getitem) := ⟨rfl, rfl, rfl, by decide +kernel, rfl, by decide +kernel, by decide +kernel⟩

abbrev s_Linear_iter : Stmt := inClass (top 25) 5
abbrev n_Linear_iter : List Str := ["self"]
theorem sc_Linear_iter : FnScope n_Linear_iter ["self"] (defScope s_Linear_iter) := ⟨rfl, rfl, rfl, by decide +kernel, rfl, by decide +kernel, by decide +kernel⟩

abbrev s_Linear_contains : Stmt := inClass (top 25) 6
abbrev n_Linear_contains : List Str := ["self", "account"]
theorem sc_Linear_contains : FnScope n_Linear_contains ["self", "account"] (defScope s_Linear_contains) := ⟨rfl, rfl, rfl, by decide +kernel, rfl, by decide +kernel, by decide +kernel⟩

abbrev s_Linear_len : Stmt := inClass (top 25) 7
abbrev n_Linear_len : List Str := ["self"]
theorem sc_Linear_len : FnScope n_Linear_len ["self"] (defScope s_Linear_len) := ⟨rfl, rfl, rfl, by decide +kernel, rfl, by decide +kernel, by decide +kernel⟩

abbrev s_Linear_sum_of : Stmt := inClass (top 25) 8
abbrev n_Linear_sum_of : List Str := ["self", "gaps", "account", "part"]
theorem sc_Linear_sum_of : FnScope n_Linear_sum_of ["self", "gaps"] (defScope s_Linear_sum_of) := ⟨rfl, rfl, rfl, by decide +kernel, rfl, by decide +kernel, by decide +kernel⟩

abbrev s_Linear_sum_in : Stmt := inClass (top 25) 9
abbrev n_Linear_sum_in : List Str := ["self", "numbers"]
theorem sc_Linear_sum_in : FnScope n_Linear_sum_in ["self", "numbers"] (defScope s_Linear_sum_in) := ⟨rfl, rfl, rfl, by decide +kernel, rfl, by decide +kernel, by decide +kernel⟩

abbrev s_Linear_neg : Stmt := inClass (top 25) 10
abbrev n_Linear_neg : List Str := ["self", "account", "part"]
theorem sc_Linear_neg : FnScope n_Linear_neg ["self"] (defScope s_Linear_neg) := ⟨rfl, rfl, rfl, by decide +kernel, rfl, by decide +kernel, by decide +kernel⟩

abbrev s_Linear_eq : Stmt := inClass (top 25) 11
abbrev n_Linear_eq : List Str := ["self", "other"]
theorem sc_Linear_eq : FnScope n_Linear_eq ["self", "other"] (defScope s_Linear_eq) := ⟨rfl, rfl, rfl, by decide +kernel, rfl, by decide +kernel, by decide +kernel⟩

abbrev s__ascending_names : Stmt := top 27
abbrev n__ascending_names : List Str := ["values", "key", "names", "name"]
theorem sc__ascending_names : FnScope n__ascending_names ["values"] (defScope s__ascending_names) := ⟨rfl, rfl, rfl, by decide +kernel, rfl, by decide +kernel, by decide +kernel⟩

abbrev s__read_gap : Stmt := top 28
abbrev n__read_gap : List Str := ["word", "at", "gap"]
theorem sc__read_gap : FnScope n__read_gap ["word", "at"] (defScope s__read_gap) := ⟨rfl, rfl, rfl, by decide +kernel, rfl, by decide +kernel, by decide +kernel⟩

abbrev s_gaps_of : Stmt := top 29
abbrev n_gaps_of : List Str := ["amounts", "made", "account", "gap"]
theorem sc_gaps_of : FnScope n_gaps_of ["amounts"] (defScope s_gaps_of) := ⟨rfl, rfl, rfl, by decide +kernel, rfl, by decide +kernel, by decide +kernel⟩

abbrev s_Gaps_init : Stmt := inClass (top 30) 0
abbrev n_Gaps_init : List Str := ["self", "values", "told", "account", "gap"]
theorem sc_Gaps_init : FnScope n_Gaps_init ["self", "values"] (defScope s_Gaps_init) := ⟨rfl, rfl, rfl, by decide +kernel, rfl, by decide +kernel, by decide +kernel⟩

abbrev s_Gaps_lone : Stmt := inClass (top 30) 1
abbrev n_Gaps_lone : List Str := ["account", "number"]
theorem sc_Gaps_lone : FnScope n_Gaps_lone ["account", "number"] (defScope s_Gaps_lone) := ⟨rfl, rfl, rfl, by decide +kernel, rfl, by decide +kernel, by decide +kernel⟩

abbrev s_Gaps_read : Stmt := inClass (top 30) 2
abbrev n_Gaps_read : List Str := ["cls", "text", "words", "told", "account", "at", "word"]
theorem sc_Gaps_read : FnScope n_Gaps_read ["cls", "text"] (defScope s_Gaps_read) := ⟨rfl, rfl, rfl, by decide +kernel, rfl, by decide +kernel, by decide +kernel⟩

abbrev s_Gaps_str : Stmt := inClass (top 30) 3
abbrev n_Gaps_str : List Str := ["self", "account", "gap"]
theorem sc_Gaps_str : FnScope n_Gaps_str ["self"] (defScope s_Gaps_str) := ⟨rfl, rfl, rfl, by decide +kernel, rfl, by decide +kernel, by decide +kernel⟩

abbrev s_Gaps_accounts : Stmt := inClass (top 30) 4
abbrev n_Gaps_accounts : List Str := ["self"]
theorem sc_Gaps_accounts : FnScope n_Gaps_accounts ["self"] (defScope s_Gaps_accounts) := ⟨rfl, rfl, rfl, by decide +kernel, rfl, by decide +kernel, by decide +kernel⟩

abbrev s_Gaps_hole : Stmt := inClass (top 30) 5
abbrev n_Gaps_hole : List Str := ["self"]
theorem sc_Gaps_hole : FnScope n_Gaps_hole ["self"] (defScope s_Gaps_hole) := ⟨rfl, rfl, rfl, by decide +kernel, rfl, by decide +kernel, by decide +kernel⟩

abbrev s_Gaps_getitem : Stmt := inClass (top 30) 6
abbrev n_Gaps_getitem : List Str := ["self", "account"]
theorem sc_Gaps_getitem : FnScope n_Gaps_getitem ["self", "account"] (defScope s_Gaps_getitem) := ⟨rfl, rfl, rfl, by decide +kernel, rfl, by decide +kernel, by decide +kernel⟩

abbrev s_Gaps_iter : Stmt := inClass (top 30) 7
abbrev n_Gaps_iter : List Str := ["self"]
theorem sc_Gaps_iter : FnScope n_Gaps_iter ["self"] (defScope s_Gaps_iter) := ⟨rfl, rfl, rfl, by decide +kernel, rfl, by decide +kernel, by decide +kernel⟩

abbrev s_Gaps_contains : Stmt := inClass (top 30) 8
abbrev n_Gaps_contains : List Str := ["self", "value"]
theorem sc_Gaps_contains : FnScope n_Gaps_contains ["self", "value"] (defScope s_Gaps_contains) := ⟨rfl, rfl, rfl, by decide +kernel, rfl, by decide +kernel, by decide +kernel⟩

abbrev s_Gaps_len : Stmt := inClass (top 30) 9
abbrev n_Gaps_len : List Str := ["self"]
theorem sc_Gaps_len : FnScope n_Gaps_len ["self"] (defScope s_Gaps_len) := ⟨rfl, rfl, rfl, by decide +kernel, rfl, by decide +kernel, by decide +kernel⟩

abbrev s_Gaps_eq : Stmt := inClass (top 30) 10
abbrev n_Gaps_eq : List Str := ["self", "other"]
theorem sc_Gaps_eq : FnScope n_Gaps_eq ["self", "other"] (defScope s_Gaps_eq) := ⟨rfl, rfl, rfl, by decide +kernel, rfl, by decide +kernel, by decide +kernel⟩

abbrev s_Gaps_add : Stmt := inClass (top 30) 11
abbrev n_Gaps_add : List Str := ["self", "other", "accounts", "account"]
theorem sc_Gaps_add : FnScope n_Gaps_add ["self", "other"] (defScope s_Gaps_add) := ⟨rfl, rfl, rfl, by decide +kernel, rfl, by decide +kernel, by decide +kernel⟩

abbrev s_Gaps_iadd : Stmt := inClass (top 30) 12
abbrev n_Gaps_iadd : List Str := ["self", "other"]
theorem sc_Gaps_iadd : FnScope n_Gaps_iadd ["self", "other"] (defScope s_Gaps_iadd) := ⟨rfl, rfl, rfl, by decide +kernel, rfl, by decide +kernel, by decide +kernel⟩

abbrev s_Gaps_sub : Stmt := inClass (top 30) 13
abbrev n_Gaps_sub : List Str := ["self", "other"]
theorem sc_Gaps_sub : FnScope n_Gaps_sub ["self", "other"] (defScope s_Gaps_sub) := ⟨rfl, rfl, rfl, by decide +kernel, rfl, by decide +kernel, by decide +kernel⟩

abbrev s_Gaps_isub : Stmt := inClass (top 30) 14
abbrev n_Gaps_isub : List Str := ["self", "other"]
theorem sc_Gaps_isub : FnScope n_Gaps_isub ["self", "other"] (defScope s_Gaps_isub) := ⟨rfl, rfl, rfl, by decide +kernel, rfl, by decide +kernel, by decide +kernel⟩

abbrev s_Gaps_mul : Stmt := inClass (top 30) 15
abbrev n_Gaps_mul : List Str := ["self", "other", "account", "gap"]
theorem sc_Gaps_mul : FnScope n_Gaps_mul ["self", "other"] (defScope s_Gaps_mul) := ⟨rfl, rfl, rfl, by decide +kernel, rfl, by decide +kernel, by decide +kernel⟩

abbrev s_Gaps_rmul : Stmt := inClass (top 30) 16
abbrev n_Gaps_rmul : List Str := ["self", "other"]
theorem sc_Gaps_rmul : FnScope n_Gaps_rmul ["self", "other"] (defScope s_Gaps_rmul) := ⟨rfl, rfl, rfl, by decide +kernel, rfl, by decide +kernel, by decide +kernel⟩

abbrev s_Gaps_imul : Stmt := inClass (top 30) 17
abbrev n_Gaps_imul : List Str := ["self", "other"]
theorem sc_Gaps_imul : FnScope n_Gaps_imul ["self", "other"] (defScope s_Gaps_imul) := ⟨rfl, rfl, rfl, by decide +kernel, rfl, by decide +kernel, by decide +kernel⟩

abbrev s_Gaps_neg : Stmt := inClass (top 30) 18
abbrev n_Gaps_neg : List Str := ["self"]
theorem sc_Gaps_neg : FnScope n_Gaps_neg ["self"] (defScope s_Gaps_neg) := ⟨rfl, rfl, rfl, by decide +kernel, rfl, by decide +kernel, by decide +kernel⟩

abbrev s_Gaps_over : Stmt := inClass (top 30) 19
abbrev n_Gaps_over : List Str := ["self", "number"]
theorem sc_Gaps_over : FnScope n_Gaps_over ["self", "number"] (defScope s_Gaps_over) := ⟨rfl, rfl, rfl, by decide +kernel, rfl, by decide +kernel, by decide +kernel⟩

abbrev s_Gaps_behind : Stmt := inClass (top 30) 20
abbrev n_Gaps_behind : List Str := ["self", "shift", "number"]
theorem sc_Gaps_behind : FnScope n_Gaps_behind ["self", "shift", "number"] (defScope s_Gaps_behind) := ⟨rfl, rfl, rfl, by decide +kernel, rfl, by decide +kernel, by decide +kernel⟩

abbrev s__law_pen : Stmt := top 32
abbrev n__law_pen : List Str := ["_law_script"]
theorem sc__law_pen : FnScope n__law_pen ["_law_script"] (defScope s__law_pen) := ⟨rfl, rfl, rfl, by decide +kernel, rfl, by decide +kernel, by decide +kernel⟩

abbrev s__law_draw : Stmt := top 33
abbrev n__law_draw : List Str := ["_law_pen_here", "_law_many", "_law_digit", "_law_begun", "_law_lone", "_law_great", "_law_mixed"]
theorem sc__law_draw : FnScope n__law_draw ["_law_pen_here", "_law_many"] (defScope s__law_draw) := ⟨rfl, rfl, rfl, by decide +kernel, rfl, by decide +kernel, by decide +kernel⟩

abbrev s__law_pick : Stmt := top 34
abbrev n__law_pick : List Str := ["_law_pen_here", "_law_some"]
theorem sc__law_pick : FnScope n__law_pick ["_law_pen_here", "_law_some"] (defScope s__law_pick) := ⟨rfl, rfl, rfl, by decide +kernel, rfl, by decide +kernel, by decide +kernel⟩

abbrev s__law_accounts : Stmt := top 35
abbrev n__law_accounts : List Str := ["_law_pen_here", "_law_many", "_law_left", "_law_spot"]
theorem sc__law_accounts : FnScope n__law_accounts ["_law_pen_here", "_law_many"] (defScope s__law_accounts) := ⟨rfl, rfl, rfl, by decide +kernel, rfl, by decide +kernel, by decide +kernel⟩

abbrev s__law_fraction : Stmt := top 36
abbrev n__law_fraction : List Str := ["_law_pen_here", "_law_top"]
theorem sc__law_fraction : FnScope n__law_fraction ["_law_pen_here"] (defScope s__law_fraction) := ⟨rfl, rfl, rfl, by decide +kernel, rfl, by decide +kernel, by decide +kernel⟩

abbrev s__law_sum : Stmt := top 37
abbrev n__law_sum : List Str := ["_law_parts", "_law_told", "_law_top", "_law_bottom", "_law_owner", "_law_one", "_law_two"]
theorem sc__law_sum : FnScope n__law_sum ["_law_parts", "_law_told"] (defScope s__law_sum) := ⟨rfl, rfl, rfl, by decide +kernel, rfl, by decide +kernel, by decide +kernel⟩

abbrev s__law_sums_right : Stmt := top 38
abbrev n__law_sums_right : List Str := ["_law_pen_here", "_law_owners", "_law_parts", "_law_told", "_law_made", "_law_pairs", "_law_gaps_so", "_law_found", "_law_due", "_law_owner"]
theorem sc__law_sums_right : FnScope n__law_sums_right ["_law_pen_here"] (defScope s__law_sums_right) := ⟨rfl, rfl, rfl, by decide +kernel, rfl, by decide +kernel, by decide +kernel⟩

abbrev s__law_heard : Stmt := top 39
abbrev n__law_heard : List Str := ["_law_thing", "_law_caught", "error"]
theorem sc__law_heard : FnScope n__law_heard ["_law_thing"] (defScope s__law_heard) := ⟨rfl, rfl, rfl, by decide +kernel, rfl, by decide +kernel, by decide +kernel⟩

abbrev s__law_refused_right : Stmt := top 40
abbrev n__law_refused_right : List Str := ["_law_pen_here", "_law_thing", "_law_parts", "_law_bad", "_law_key", "_law_base", "_law_worse", "_law_owner"]
theorem sc__law_refused_right : FnScope n__law_refused_right ["_law_pen_here"] (defScope s__law_refused_right) := ⟨rfl, rfl, rfl, by decide +kernel, rfl, by decide +kernel, by decide +kernel⟩

abbrev s_law : Stmt := top 41
abbrev n_law : List Str := ["_law_script", "_law_pen_here", "_law_turn"]
theorem sc_law : FnScope n_law ["_law_script"] (defScope s_law) := ⟨rfl, rfl, rfl, by decide +kernel, rfl, by decide +kernel, by decide +kernel⟩

/-- what the module's names are -/
structure Txt (K : PySem.W.Frag) (mg : Str → Option Value) : Prop where
  b_int : mg "int" = none
  b_len : mg "len" = none
  b_abs : mg "abs" = none
  b_list : mg "list" = none
  b_range : mg "range" = none
  b_isinstance : mg "isinstance" = none
  b_repr : mg "repr" = none
  b_bool : mg "bool" = none
/-- .. the class Amount -/
structure AmC (K : PySem.W.Frag) (mg : Str → Option Value) (A fI pO gO pN gN : Addr) (mc : Value) : Prop where
  g_Amount : mg "Amount" = some (.ref A)
  gcd : mg "gcd" = some (.builtin "math.gcd")
  cls : Cls K A
  nT : NoAttr K A "top"
  nB : NoAttr K A "bottom"
  mkr : Mk K A fI
  ha : PySem.W.findIn K (.ref A) "__class__" = some (some (.builtin "object.__class__"))
  hn : PySem.W.specialIn K (.builtin "object.__class__") "__get__" = some (some (.builtin "getset_descriptor.__get__"))
  ht : PySem.W.takesIn K (.builtin "object.__class__") = some true
  hm : PySem.W.mroIn K A (.type "object") = some true
  kI : PySem.W.kitOne K (.ref A) (.type "int") = some false
  kA : PySem.W.kitOne K (.type "int") (.ref A) = some false
  sO : SMet K A mc "of" pO gO
  sN : SMet K A mc "is_number" pN gN

section
variable {P : Program} {w : World} {K : PySem.W.Frag} {mg : Str → Option Value} {base : Heap}

theorem funD_ok {x qual : Str} {prm : Arguments} {body : List Stmt} {scope : Scope} {dvs : List V} {kws : List (Str × V)} {f : Addr} {fd : FuncData} {N ps : List Str} {k : Nat} {sp : Sp} (F : FunD K x qual prm body scope dvs kws f fd) (S : FnScope N ps scope) (ln : ∀ vs H Q E, sp vs H Q E → vs.length = ps.length)
    (hb : ∀ (cdv : Value) (A : Around) (outer : List Env) (s : Shared) (H : Hp) (vs : List V) (Q : VK) (E : XK), Room k (A.deeper (envOfC qual scope s.heap.objs.size f cdv)) → sp vs H Q E →
      ∃ t, PSs (cxOf CX0 P w K mg base N qual scope f cdv A outer s H E).nox body t ∧ t { nx := fun _ H' => Q .non H', rt := Q } (start N vs) H) : FnOk P w K mg base CX0 (k + 1) f fd ps sp := by
  refine F.ok S ln fun cdv A outer s H vs Q E hr hsp => ?_
  obtain ⟨t, h, q⟩ := hb cdv A outer s H vs Q E hr hsp
  exact ⟨t, h.nox, q⟩

def spInit (A : Addr) : Sp := fun vs H Q _ => ∃ (x dx : Addr) (p q : Int), vs = [.ref x, .int p, .int q] ∧ H x = some (.ins A dx []) ∧ q ≠ 0 ∧ Sm 9000 p ∧ Sm 9000 q ∧
  ∀ G, (∀ b o, b ≠ x → H b = some o → G b = some o) → G x = some (.ins A dx (afs (nT p q) (nB p q))) → Q .non G
def spOf (A : Addr) : Sp := fun vs H Q _ => ∃ v t b, vs = [v] ∧ Nu A H v t b ∧ Sm 9000 t ∧ ∀ r G, Same H G → Am A G r t b → Q (.ref r) G
theorem mkA {A : Addr} {H : Hp} {Q : VK} {E : XK} {p q : Int} (z : q ≠ 0) (sp : Sm 9000 p) (sq : Sm 9000 q) (k : QA A H Q (nT p q) (nB p q)) : ∀ x dx, H x = none → H dx = none → dx ≠ x →
    spInit A (.ref x :: [.int p, .int q]) (upd (upd H dx (.own x)) x (.ins A dx [])) (fun v H2 => v = .non ∧ Q (.ref x) H2) E := fun x dx nx nd ne =>
  ⟨x, dx, p, q, rfl, upd_same, z, sp, sq, fun G kp gx => ⟨rfl, k x G nx (fun b o e => kp b o (ne_of_none e nx) (by rw [upd_ne (ne_of_none e nx), upd_ne (ne_of_none e nd)]; exact e)) ⟨dx, gx⟩⟩⟩
theorem mkR {A : Addr} {H : Hp} {R : Addr → Hp → Prop} {E : XK} {p q : Int} (z : q ≠ 0) (sp : Sm 9000 p) (sq : Sm 9000 q) (k : ∀ r G, H r = none → Same H G → Am A G r (nT p q) (nB p q) → R r G) : ∀ x dx, H x = none → H dx = none → dx ≠ x →
    spInit A (.ref x :: [.int p, .int q]) (upd (upd H dx (.own x)) x (.ins A dx [])) (fun v H2 => v = .non ∧ R x H2) E := fun x dx nx nd ne =>
  ⟨x, dx, p, q, rfl, upd_same, z, sp, sq, fun G kp gx => ⟨rfl, k x G nx (fun b o e => kp b o (ne_of_none e nx) (by rw [upd_ne (ne_of_none e nx), upd_ne (ne_of_none e nd)]; exact e)) ⟨dx, gx⟩⟩⟩

theorem kit_self (K : PySem.W.Frag) (C : Addr) : PySem.W.kitOne K (.ref C) (.ref C) = some true := by
  unfold PySem.W.kitOne
  rw [if_pos (by simp)]

theorem ok_is_int {A fI pO gO pN gN f : Addr} {mc : Value} {fd : FuncData} (F : Fun K "is_int" "is_int" s_is_int f fd) (T : Txt K mg) (U : AmC K mg A fI pO gO pN gN mc) : FnOk P w K mg base CX0 1 f fd ["value"] (spIsInt A) := by
  refine F.ok sc_is_int (fun vs H Q E h => ?_) (fun cdv A' outer s H vs Q E hr h => ?_)
  · obtain ⟨v, rfl, _⟩ := h
    rfl
  · obtain ⟨v, rfl, k⟩ := h
    refine ⟨_, (pss_one (ps_ret (e_and (pe_callB c_isi (by rfl) T.b_isinstance (by decide +kernel) (pa_cons (pc 0) (pa_cons (pe_bltn (v := .ty "int") (u := .type "int") (by rfl) T.b_int (by decide +kernel) rfl) pa_nil))) (pe_one (e_not (pe_callB c_isi (by rfl) T.b_isinstance (by decide +kernel) (pa_cons (pc 0) (pa_cons (pe_bltn (v := .ty "bool") (u := .type "bool") (by rfl) T.b_bool (by decide +kernel) rfl) pa_nil)))))))), ?_⟩
    rcases k with ⟨⟨i, rfl⟩, k⟩ | ⟨a, rfl, ⟨dx, fs, e⟩, k⟩
    · exact ⟨_, _, _, _, true, rfl, .int i, (fun u r => r), rfl, ⟨fun _ => ⟨_, _, _, _, false, rfl, .int i, (fun u r => r), rfl, k⟩, fun h => absurd h (by decide)⟩⟩
    · exact ⟨_, _, _, _, false, rfl, .ins e U.cls U.ha U.hn U.ht U.hm, (fun u r => r), U.kI, ⟨fun h => absurd h (by decide), fun _ => k⟩⟩

theorem ok_init {A fI pO gO pN gN f : Addr} {mc : Value} {fd : FuncData} (F : FunD K "__init__" "Amount.__init__" (defArgs s_Amount_init) (defBody s_Amount_init) (defScope s_Amount_init) [.int 1] [] f fd) (T : Txt K mg) (U : AmC K mg A fI pO gO pN gN mc) (cI : CalO P w K mg base "is_int" 1 ["value"] (spIsInt A) (fun _ => True)) : FnOk P w K mg base CX0 2 f fd ["self", "top", "bottom"] (spInit A) := by
  refine funD_ok F sc_Amount_init (fun vs H Q E h => ?_) (fun cdv A' outer s H vs Q E hr h => ?_)
  · obtain ⟨x, dx, p, q, rfl, _⟩ := h
    rfl
  · obtain ⟨x, dx, p, q, rfl, hx, qz, sp, sq, k⟩ := h
    refine ⟨_, (pss_cons (s_if (pt_not (t_val (pe_cO cI (hr.mono (by decide)) (pa_cons (pc 1) pa_nil)))) (pss_one ps_dead) pss_nil)
    (pss_cons (s_if (pt_not (t_val (pe_cO cI (hr.mono (by decide)) (pa_cons (pc 2) pa_nil)))) (pss_one ps_dead) pss_nil)
    (pss_cons (s_if (t_cmp (o_eq hr.units) (pc 2) pe_int) (pss_one ps_dead) pss_nil)
    (pss_cons (ps_set (i := 3) sc_Amount_init.nd rfl (Or.inl rfl) (e_if (t_cmp o_gt (pc 2) pe_int) (pe_callBfun cr_gcd rfl U.gcd (pa_cons (pc 1) (pa_cons (pc 2) pa_nil))) (pe_un un_neg (pe_callBfun cr_gcd rfl U.gcd (pa_cons (pc 1) (pa_cons (pc 2) pa_nil))))))
    (pss_cons (ps_fld (pc 0) (pe_op o_fdivZ (pc 1) (pc 3)) (by rfl))
    (pss_one (ps_fld (pc 0) (pe_op o_fdivZ (pc 2) (pc 3)) (by rfl)))))))), ?_⟩
    have g0 := gcdZ_pos (p := p) qz
    have gS : Sm 9000 (gcdZ p q) := by
      have z : Nat.gcd p.natAbs q.natAbs ≤ q.natAbs := Nat.gcd_le_right _ (by omega)
      exact Nat.lt_of_le_of_lt z sq
    refine ⟨_, rfl, .inl ⟨⟨p, rfl⟩, ⟨fun h => absurd h (by decide), fun _ => ⟨_, rfl, .inl ⟨⟨q, rfl⟩, ⟨fun h => absurd h (by decide), fun _ => ⟨fun h => absurd h (by simp [qz]), fun _ => ⟨fun c => ⟨p, q, rfl, ?_⟩, fun c => ⟨p, q, rfl, _, rfl, ?_⟩⟩⟩⟩⟩⟩⟩⟩⟩
    · have c := of_decide_eq_true c
      have e1 := fdiv_sg qz (gcdZ_p p q)
      have e2 := fdiv_sg qz (gcdZ_q p q)
      rw [if_neg (by omega)] at e1 e2
      refine ⟨gS.cDiv (by omega), x, A, dx, _, rfl, hx, U.cls, U.nT, by decide, gS.cDiv (by omega), x, A, dx, _, rfl, upd_same, U.cls, U.nB, by show 1 < 1000; decide, k _ (fun b o n e => by rw [upd_ne n, upd_ne n]; exact e) ?_⟩
      rw [upd_same]
      show some (HO.ins A dx [("top", V.int (p.fdiv (gcdZ p q))), ("bottom", V.int (q.fdiv (gcdZ p q)))]) = _
      rw [e1, e2]
      rfl
    · have c := of_decide_eq_false c
      have e1 := fdiv_sg qz (gcdZ_p p q)
      have e2 := fdiv_sg qz (gcdZ_q p q)
      rw [if_pos (by omega)] at e1 e2
      refine ⟨(gS.neg).cDiv (by omega), x, A, dx, _, rfl, hx, U.cls, U.nT, by decide, (gS.neg).cDiv (by omega), x, A, dx, _, rfl, upd_same, U.cls, U.nB, by show 1 < 1000; decide, k _ (fun b o n e => by rw [upd_ne n, upd_ne n]; exact e) ?_⟩
      rw [upd_same]
      show some (HO.ins A dx [("top", V.int (p.fdiv (-gcdZ p q))), ("bottom", V.int (q.fdiv (-gcdZ p q)))]) = _
      rw [e1, e2]
      rfl

theorem ok_is_number {A fI pO gO pN gN f : Addr} {mc : Value} {fd : FuncData} (F : Fun K "is_number" "Amount.is_number" s_Amount_is_number f fd) (T : Txt K mg) (U : AmC K mg A fI pO gO pN gN mc) (cI : CalO P w K mg base "is_int" 1 ["value"] (spIsInt A) (fun _ => True)) : FnOk P w K mg base CX0 2 f fd ["value"] (spIsNum A) := by
  refine F.ok sc_Amount_is_number (fun vs H Q E h => ?_) (fun cdv A' outer s H vs Q E hr h => ?_)
  · obtain ⟨v, t, b, rfl, _⟩ := h
    rfl
  · obtain ⟨v, t, b, rfl, n, k⟩ := h
    refine ⟨_, (pss_one (ps_ret (e_or (pe_cO cI (hr.mono (by decide)) (pa_cons (pc 0) pa_nil)) (pe_one (pe_callB c_isi (by rfl) T.b_isinstance (by decide +kernel) (pa_cons (pc 0) (pa_cons (p_gc U.g_Amount) pa_nil))))))), ?_⟩
    rcases n with ⟨a, rfl, dx, e⟩ | ⟨rfl, rfl⟩
    · exact ⟨_, rfl, .inr ⟨a, rfl, ⟨dx, _, e⟩, ⟨fun h => absurd h (by decide), fun _ => ⟨_, _, _, _, true, rfl, .ins e U.cls U.ha U.hn U.ht U.hm, (fun u r => r), kit_self K A, k⟩⟩⟩⟩
    · exact ⟨_, rfl, .inl ⟨⟨t, rfl⟩, ⟨fun _ => k, fun h => absurd h (by decide)⟩⟩⟩

theorem ok_of {A fI pO gO pN gN f : Addr} {mc : Value} {fd : FuncData} (F : Fun K "of" "Amount.of" s_Amount_of f fd) (T : Txt K mg) (U : AmC K mg A fI pO gO pN gN mc) {fdI : FuncData} (FI : FnOk P w K mg base CX0 2 fI fdI ["self", "top", "bottom"] (spInit A)) {ds : List Value} (bI1 : Binds K fdI ["self", "top", "bottom"] ds) (vI1 : Vals [V.int 1] ds) (bI2 : Binds K fdI ["self", "top", "bottom"] []) : FnOk P w K mg base CX0 4 f fd ["number"] (spOf A) := by
  refine F.ok sc_Amount_of (fun vs H Q E h => ?_) (fun cdv A' outer s H vs Q E hr h => ?_)
  · obtain ⟨v, t, b, rfl, _⟩ := h
    rfl
  · obtain ⟨v, t, b, rfl, n, st, k⟩ := h
    refine ⟨_, (pss_cons (s_if (t_val (pe_callB c_isi (by rfl) T.b_isinstance (by decide +kernel) (pa_cons (pc 0) (pa_cons (p_gc U.g_Amount) pa_nil)))) (pss_one (ps_ret (pc 0))) pss_nil)
    (pss_one (ps_ret (pe_make U.mkr FI (hr.mono (by decide)) rfl U.g_Amount bI1 vI1 pass0 (pa_cons (pc 0) pa_nil))))), ?_⟩
    rcases n with ⟨a, rfl, dx, e⟩ | ⟨rfl, rfl⟩
    · exact ⟨_, _, _, _, true, rfl, .ins e U.cls U.ha U.hn U.ht U.hm, (fun u r => r), kit_self K A, ⟨fun _ => k a H (Same.refl _) ⟨dx, e⟩, fun h => absurd h (by decide)⟩⟩
    · refine ⟨_, _, _, _, false, rfl, .int t, (fun u r => r), U.kA, ⟨fun h => absurd h (by decide), fun _ => ?_⟩⟩
      have e := n_self (low_int t)
      refine mkA (p := t) (q := 1) (by decide) st (sm_one.mono (by decide)) fun r G n s a => ?_
      rw [e.1, e.2] at a
      exact k r G s a

def pAdd (t b c d : Int) : Int := t * d + c * b
def qBD (_ b _ d : Int) : Int := b * d
def pSub (t b c d : Int) : Int := t * d + -c * b
def pRsub (t b c d : Int) : Int := -t * d + c * b
def pMul (t _ c _ : Int) : Int := t * c
def pOver (t _ _ d : Int) : Int := t * d
def qBC (_ b c _ : Int) : Int := b * c
def spNeg (A : Addr) (g : Int → Int) : Sp := fun vs H Q _ => ∃ (a : Addr) (t b : Int), vs = [.ref a] ∧ Am A H a t b ∧ Low t b ∧ Sm 8600 t ∧ Sm 8600 b ∧ QA A H Q (g t) b
def absI (i : Int) : Int := if i < 0 then -i else i
/-- // : an int -/
def spFl (A : Addr) (p q : Int → Int → Int → Int → Int) : Sp := fun vs H Q _ => ∃ (a : Addr) (v : V) (t b c d : Int), vs = [.ref a, v] ∧ Am A H a t b ∧ Nu A H v c d ∧ Low t b ∧ Low c d ∧ Sm 4300 t ∧ Sm 4300 b ∧ Sm 4300 c ∧ Sm 4300 d ∧ q t b c d ≠ 0 ∧ ∀ G, Same H G → Q (.int ((p t b c d).fdiv (q t b c d))) G

theorem ok_Amount_over {A fI pO gO pN gN f : Addr} {mc : Value} {fd : FuncData} (F : Fun K "over" "Amount.over" s_Amount_over f fd) (T : Txt K mg) (U : AmC K mg A fI pO gO pN gN mc) {fdI : FuncData} (FI : FnOk P w K mg base CX0 2 fI fdI ["self", "top", "bottom"] (spInit A)) {ds : List Value} (bI1 : Binds K fdI ["self", "top", "bottom"] ds) (vI1 : Vals [V.int 1] ds) (bI2 : Binds K fdI ["self", "top", "bottom"] []) {fdO fdN : FuncData} (FO : FnOk P w K mg base CX0 4 gO fdO ["number"] (spOf A)) (bO : Binds K fdO ["number"] []) (FN : FnOk P w K mg base CX0 2 gN fdN ["value"] (spIsNum A)) (bN : Binds K fdN ["value"] []) : FnOk P w K mg base CX0 5 f fd ["self", "number"] (spBin A 4300 pOver qBC) := by
  refine F.ok sc_Amount_over (fun vs H Q E h => ?_) (fun cdv A' outer s H vs Q E hr h => ?_)
  · obtain ⟨a, v, t, b, c, d, rfl, _⟩ := h
    rfl
  · obtain ⟨a, v, t, b, c, d, rfl, am, n, lo, lo2, St, Sb, Sc, Sd, qz, k⟩ := h
    refine ⟨_, (pss_cons (ps_set (i := 2) sc_Amount_over.nd rfl (Or.inl rfl) (pe_sm (p_gc U.g_Amount) U.sO FO bO (hr.mono (by decide)) pass0 (pa_cons (pc 1) pa_nil)))
    (pss_one (ps_ret (pe_make U.mkr FI (hr.mono (by decide)) rfl U.g_Amount bI2 .nil pass0 (pa_cons (pe_op o_mulW (pe_fld (pc 0) rfl) (pe_fld (pc 2) rfl)) (pa_cons (pe_op o_mulW (pe_fld (pc 0) rfl) (pe_fld (pc 2) rfl)) pa_nil)))))), ?_⟩
    refine ⟨rfl, v, c, d, rfl, n, Sc.mono (by decide), fun r G s a2 => ?_⟩
    obtain ⟨dx, e⟩ := am.mo s
    obtain ⟨dr, er⟩ := a2
    exact ⟨a, A, _, _, _, rfl, e, U.cls, U.nT, rfl, r, A, _, _, _, rfl, er, U.cls, U.nB, rfl, St.cMul Sd, a, A, _, _, _, rfl, e, U.cls, U.nB, rfl, r, A, _, _, _, rfl, er, U.cls, U.nT, rfl, Sb.cMul Sc, mkA qz ((St.mul Sd).mono (by decide)) ((Sb.mul Sc).mono (by decide)) (k.mo s)⟩

theorem ok_Amount_add {A fI pO gO pN gN f : Addr} {mc : Value} {fd : FuncData} (F : Fun K "__add__" "Amount.__add__" s_Amount_add f fd) (T : Txt K mg) (U : AmC K mg A fI pO gO pN gN mc) {fdI : FuncData} (FI : FnOk P w K mg base CX0 2 fI fdI ["self", "top", "bottom"] (spInit A)) {ds : List Value} (bI1 : Binds K fdI ["self", "top", "bottom"] ds) (vI1 : Vals [V.int 1] ds) (bI2 : Binds K fdI ["self", "top", "bottom"] []) (cI : CalO P w K mg base "is_int" 1 ["value"] (spIsInt A) (fun _ => True)) : FnOk P w K mg base CX0 5 f fd ["self", "other"] (spBin A 4300 pAdd qBD) := by
  refine F.ok sc_Amount_add (fun vs H Q E h => ?_) (fun cdv A' outer s H vs Q E hr h => ?_)
  · obtain ⟨a, v, t, b, c, d, rfl, _⟩ := h
    rfl
  · obtain ⟨a, v, t, b, c, d, rfl, am, n, lo, lo2, St, Sb, Sc, Sd, qz, k⟩ := h
    refine ⟨_, (pss_cons (s_if (t_val (pe_callB c_isi (by rfl) T.b_isinstance (by decide +kernel) (pa_cons (pc 1) (pa_cons (p_gc U.g_Amount) pa_nil)))) (pss_one (ps_ret (pe_make U.mkr FI (hr.mono (by decide)) rfl U.g_Amount bI2 .nil pass0 (pa_cons (pe_op o_add (pe_op o_mulW (pe_fld (pc 0) rfl) (pe_fld (pc 1) rfl)) (pe_op o_mulW (pe_fld (pc 1) rfl) (pe_fld (pc 0) rfl))) (pa_cons (pe_op o_mulW (pe_fld (pc 0) rfl) (pe_fld (pc 1) rfl)) pa_nil))))) pss_nil)
    (pss_cons (s_if (pt_not (t_val (pe_cO cI (hr.mono (by decide)) (pa_cons (pc 1) pa_nil)))) (pss_one ps_dead) pss_nil)
    (pss_one (ps_ret (pe_make U.mkr FI (hr.mono (by decide)) rfl U.g_Amount bI2 .nil pass0 (pa_cons (pe_op o_add (pe_fld (pc 0) rfl) (pe_op o_mulW (pc 1) (pe_fld (pc 0) rfl))) (pa_cons (pe_fld (pc 0) rfl) pa_nil))))))), ?_⟩
    rcases n with ⟨y, rfl, an⟩ | ⟨rfl, rfl⟩
    · obtain ⟨dx, e⟩ := id am
      obtain ⟨dr, er⟩ := id an
      exact ⟨_, _, _, _, true, rfl, .ins er U.cls U.ha U.hn U.ht U.hm, (fun u r => r), kit_self K A, ⟨fun _ => ⟨a, A, _, _, _, rfl, e, U.cls, U.nT, rfl, y, A, _, _, _, rfl, er, U.cls, U.nB, rfl, St.cMul Sd, y, A, _, _, _, rfl, er, U.cls, U.nT, rfl, a, A, _, _, _, rfl, e, U.cls, U.nB, rfl, Sc.cMul Sb, a, A, _, _, _, rfl, e, U.cls, U.nB, rfl, y, A, _, _, _, rfl, er, U.cls, U.nB, rfl, Sb.cMul Sd, mkA qz (((St.mul Sd).add (Sc.mul Sb)).mono (by decide)) ((Sb.mul Sd).mono (by decide)) k⟩, fun h => absurd h (by decide)⟩⟩
    · obtain ⟨dx, e⟩ := id am
      have bz : b ≠ 0 := by have := lo.1; omega
      refine ⟨_, _, _, _, false, rfl, .int c, (fun u r => r), U.kA, ⟨fun h => absurd h (by decide), fun _ => ⟨_, rfl, .inl ⟨⟨c, rfl⟩, ⟨fun h => absurd h (by decide), fun _ => ⟨a, A, _, _, _, rfl, e, U.cls, U.nT, rfl, a, A, _, _, _, rfl, e, U.cls, U.nB, rfl, Sc.cMul Sb, a, A, _, _, _, rfl, e, U.cls, U.nB, rfl, mkA (p := t + c * b) (q := b) bz ((((St.mono (by decide : 4300 ≤ 8600)).add (Sc.mul Sb))).mono (by decide)) (Sb.mono (by decide)) ?_⟩⟩⟩⟩⟩⟩
      simpa [pAdd, qBD] using k

theorem ok_Amount_mul {A fI pO gO pN gN f : Addr} {mc : Value} {fd : FuncData} (F : Fun K "__mul__" "Amount.__mul__" s_Amount_mul f fd) (T : Txt K mg) (U : AmC K mg A fI pO gO pN gN mc) {fdI : FuncData} (FI : FnOk P w K mg base CX0 2 fI fdI ["self", "top", "bottom"] (spInit A)) {ds : List Value} (bI1 : Binds K fdI ["self", "top", "bottom"] ds) (vI1 : Vals [V.int 1] ds) (bI2 : Binds K fdI ["self", "top", "bottom"] []) (cI : CalO P w K mg base "is_int" 1 ["value"] (spIsInt A) (fun _ => True)) : FnOk P w K mg base CX0 5 f fd ["self", "other"] (spBin A 4300 pMul qBD) := by
  refine F.ok sc_Amount_mul (fun vs H Q E h => ?_) (fun cdv A' outer s H vs Q E hr h => ?_)
  · obtain ⟨a, v, t, b, c, d, rfl, _⟩ := h
    rfl
  · obtain ⟨a, v, t, b, c, d, rfl, am, n, lo, lo2, St, Sb, Sc, Sd, qz, k⟩ := h
    refine ⟨_, (pss_cons (s_if (t_val (pe_callB c_isi (by rfl) T.b_isinstance (by decide +kernel) (pa_cons (pc 1) (pa_cons (p_gc U.g_Amount) pa_nil)))) (pss_one (ps_ret (pe_make U.mkr FI (hr.mono (by decide)) rfl U.g_Amount bI2 .nil pass0 (pa_cons (pe_op o_mulW (pe_fld (pc 0) rfl) (pe_fld (pc 1) rfl)) (pa_cons (pe_op o_mulW (pe_fld (pc 0) rfl) (pe_fld (pc 1) rfl)) pa_nil))))) pss_nil)
    (pss_cons (s_if (pt_not (t_val (pe_cO cI (hr.mono (by decide)) (pa_cons (pc 1) pa_nil)))) (pss_one ps_dead) pss_nil)
    (pss_one (ps_ret (pe_make U.mkr FI (hr.mono (by decide)) rfl U.g_Amount bI2 .nil pass0 (pa_cons (pe_op o_mulW (pe_fld (pc 0) rfl) (pc 1)) (pa_cons (pe_fld (pc 0) rfl) pa_nil))))))), ?_⟩
    rcases n with ⟨y, rfl, an⟩ | ⟨rfl, rfl⟩
    · obtain ⟨dx, e⟩ := id am
      obtain ⟨dr, er⟩ := id an
      exact ⟨_, _, _, _, true, rfl, .ins er U.cls U.ha U.hn U.ht U.hm, (fun u r => r), kit_self K A, ⟨fun _ => ⟨a, A, _, _, _, rfl, e, U.cls, U.nT, rfl, y, A, _, _, _, rfl, er, U.cls, U.nT, rfl, St.cMul Sc, a, A, _, _, _, rfl, e, U.cls, U.nB, rfl, y, A, _, _, _, rfl, er, U.cls, U.nB, rfl, Sb.cMul Sd, mkA qz ((St.mul Sc).mono (by decide)) ((Sb.mul Sd).mono (by decide)) k⟩, fun h => absurd h (by decide)⟩⟩
    · obtain ⟨dx, e⟩ := id am
      have bz : b ≠ 0 := by have := lo.1; omega
      refine ⟨_, _, _, _, false, rfl, .int c, (fun u r => r), U.kA, ⟨fun h => absurd h (by decide), fun _ => ⟨_, rfl, .inl ⟨⟨c, rfl⟩, ⟨fun h => absurd h (by decide), fun _ => ⟨a, A, _, _, _, rfl, e, U.cls, U.nT, rfl, St.cMul Sc, a, A, _, _, _, rfl, e, U.cls, U.nB, rfl, mkA (p := t * c) (q := b) bz ((St.mul Sc).mono (by decide)) (Sb.mono (by decide)) ?_⟩⟩⟩⟩⟩⟩
      simpa [pMul, qBD] using k

theorem ok_Amount_neg {A fI pO gO pN gN f : Addr} {mc : Value} {fd : FuncData} (F : Fun K "__neg__" "Amount.__neg__" s_Amount_neg f fd) (T : Txt K mg) (U : AmC K mg A fI pO gO pN gN mc) {fdI : FuncData} (FI : FnOk P w K mg base CX0 2 fI fdI ["self", "top", "bottom"] (spInit A)) {ds : List Value} (bI1 : Binds K fdI ["self", "top", "bottom"] ds) (vI1 : Vals [V.int 1] ds) (bI2 : Binds K fdI ["self", "top", "bottom"] []) : FnOk P w K mg base CX0 4 f fd ["self"] (spNeg A Neg.neg) := by
  refine F.ok sc_Amount_neg (fun vs H Q E h => ?_) (fun cdv A' outer s H vs Q E hr h => ?_)
  · obtain ⟨a, t, b, rfl, _⟩ := h
    rfl
  · obtain ⟨a, t, b, rfl, ⟨dx, e⟩, lo, St, Sb, k⟩ := h
    refine ⟨_, (pss_one (ps_ret (pe_make U.mkr FI (hr.mono (by decide)) rfl U.g_Amount bI2 .nil pass0 (pa_cons (pe_un un_neg (pe_fld (pc 0) rfl)) (pa_cons (pe_fld (pc 0) rfl) pa_nil))))), ?_⟩
    refine ⟨a, A, _, _, _, rfl, e, U.cls, U.nT, rfl, _, rfl, a, A, _, _, _, rfl, e, U.cls, U.nB, rfl, mkA (p := Neg.neg t) (by have := lo.1; omega) ((St.neg).mono (by decide)) (Sb.mono (by decide)) fun r G n s am => ?_⟩
    have z := n_self (show Low (Neg.neg t) b from low_neg lo)
    rw [z.1, z.2] at am
    exact k r G n s am

theorem sm_abs {n : Nat} {i : Int} (h : Sm n i) : Sm n (absI i) := by
  unfold absI
  split
  · exact h.neg
  · exact h
theorem ok_Amount_abs {A fI pO gO pN gN f : Addr} {mc : Value} {fd : FuncData} (F : Fun K "__abs__" "Amount.__abs__" s_Amount_abs f fd) (T : Txt K mg) (U : AmC K mg A fI pO gO pN gN mc) {fdI : FuncData} (FI : FnOk P w K mg base CX0 2 fI fdI ["self", "top", "bottom"] (spInit A)) {ds : List Value} (bI1 : Binds K fdI ["self", "top", "bottom"] ds) (vI1 : Vals [V.int 1] ds) (bI2 : Binds K fdI ["self", "top", "bottom"] []) : FnOk P w K mg base CX0 4 f fd ["self"] (spNeg A absI) := by
  refine F.ok sc_Amount_abs (fun vs H Q E h => ?_) (fun cdv A' outer s H vs Q E hr h => ?_)
  · obtain ⟨a, t, b, rfl, _⟩ := h
    rfl
  · obtain ⟨a, t, b, rfl, ⟨dx, e⟩, lo, St, Sb, k⟩ := h
    refine ⟨_, (pss_one (ps_ret (pe_make U.mkr FI (hr.mono (by decide)) rfl U.g_Amount bI2 .nil pass0 (pa_cons (pe_callB c_abs (by rfl) T.b_abs (by decide +kernel) (pa_cons (pe_fld (pc 0) rfl) pa_nil)) (pa_cons (pe_fld (pc 0) rfl) pa_nil))))), ?_⟩
    refine ⟨a, A, _, _, _, rfl, e, U.cls, U.nT, rfl, a, A, _, _, _, rfl, e, U.cls, U.nB, rfl, mkA (p := absI t) (by have := lo.1; omega) ((sm_abs St).mono (by decide)) (Sb.mono (by decide)) fun r G n s am => ?_⟩
    have z := n_self (show Low (absI t) b from low_abs lo)
    rw [z.1, z.2] at am
    exact k r G n s am

end
end LW
set_option Elab.async false
set_option linter.all false
set_option maxRecDepth 100000
set_option maxHeartbeats 4000000
namespace LW
open PySem PySem.Spec PyProof.Rows L2 HX NumText
section
variable {P : Program} {w : World} {K : PySem.W.Frag} {mg : Str → Option Value} {base : Heap}

theorem ok_pen {f : Addr} {fd : FuncData} (F : Fun K "_law_pen" "_law_pen" s__law_pen f fd) (T : Txt K mg) : FnOk P w K mg base CX0 1 f fd ["_law_script"] (spPen K) := by
  refine F.ok sc__law_pen (fun vs H Q E h => ?_) (fun cdv A outer s H vs Q E hr h => ?_)
  · obtain ⟨a, ns, rfl, _⟩ := h
    rfl
  · obtain ⟨a, ns, rfl, hs, k⟩ := h
    refine ⟨_, (pss_one (ps_ret (pe_lst (pa_cons (pe_callTy call_list_of (by rfl) T.b_list (by decide +kernel) (pa_cons (pe_slice sl_list (pc 0) po_none (po_some pe_int)) pa_nil)) (pa_cons pe_int (pa_cons pe_int pa_nil)))))), ?_⟩
    refine ⟨_, rfl, a, _, rfl, hs, fun q1 n1 => ⟨q1, _, rfl, .inl (SqL.of upd_same), fun q2 n2 => ⟨by show 3 ≤ sizeLine; decide, fun p n3 => ?_⟩⟩⟩
    obtain ⟨ms, hm⟩ := cut_ints ns none (some 63)
    have s1 : Same H (upd H q1 (.lst (cutV (ns.map V.int) none (some 63)))) := Same.new (Same.refl H) n1
    have s2 := Same.new (o := .lst (cutV (ns.map V.int) none (some 63))) s1 n2
    have s3 := Same.new (o := .lst [.ref q2, .int 0, .int 0]) s2 n3
    refine k p q2 _ (s2.free n3) s3 ⟨ms, 0, 0, ⟨upd_same, ?_, ne_of_none upd_same n3, by decide, by decide⟩, by decide⟩
    rw [upd_ne (ne_of_none upd_same n3), upd_same, hm]

theorem ok_draw {f : Addr} {fd : FuncData} (F : Fun K "_law_draw" "_law_draw" s__law_draw f fd) (T : Txt K mg) : FnOk P w K mg base CX0 1 f fd ["_law_pen_here", "_law_many"] spDraw := by
  refine F.ok sc__law_draw (fun vs H Q E h => ?_) (fun cdv A outer s H vs Q E hr h => ?_)
  · obtain ⟨p, l, c, many, rfl, _⟩ := h
    rfl
  · obtain ⟨p, l, cM, many, rfl, ⟨ns, c, g, Pp, cle⟩, hm, hz, hcM, k⟩ := h
    have hc : c < 1000000 := by omega
    obtain ⟨hp, hl, ne, c0, g0⟩ := id Pp
    refine ⟨_, (pss_cons (s_if (t_cmp o_gt (p_ix (pc 0) pe_int) pe_int) (pss_cons (ps_set (i := 2) sc__law_draw.nd rfl (Or.inl rfl) (pe_op o_mod (pe_callTy c_int (by rfl) T.b_int (by decide +kernel) (pa_cons (p_ix (pc 0) pe_int) pa_nil)) (pc 1)))
    (pss_cons (ps_asg (pe_op o_fdiv (pe_callTy c_int (by rfl) T.b_int (by decide +kernel) (pa_cons (p_ix (pc 0) pe_int) pa_nil)) (pc 1)) (pg_sub (pc 0) pe_int set_list))
    (pss_one (ps_ret (pc 2))))) pss_nil)
    (pss_cons (ps_set (i := 3) sc__law_draw.nd rfl (Or.inl rfl) (p_ix (pc 0) pe_int))
    (s_cut (ps_asg (pe_op o_add (pc 3) pe_int) (pg_sub (pc 0) pe_int set_list))
    (pss_cons (ps_set (i := 4) sc__law_draw.nd rfl (Or.inl rfl) (pe_op o_add (pe_op o_mul pe_int (pc 3)) pe_int))
    (s_cut (s_if (t_cmp (o_ne hr.units) (p_ix (pc 0) pe_int) (pe_lst pa_nil)) (pss_one (ps_set (i := 4) sc__law_draw.nd rfl (Or.inl rfl) (p_ix (p_ix (pc 0) pe_int) (pe_op o_mod (pe_callTy c_int (by rfl) T.b_int (by decide +kernel) (pa_cons (pc 3) pa_nil)) (pe_callB c_len (by rfl) T.b_len (by decide +kernel) (pa_cons (p_ix (pc 0) pe_int) pa_nil)))))) pss_nil)
    (s_cut (s_if (PW.pt (w_and (t_cmp o_lt (pc 3) (pe_callB c_len (by rfl) T.b_len (by decide +kernel) (pa_cons (p_ix (pc 0) pe_int) pa_nil))) (pw_and1 (t_cmp o_ge (pe_callB c_abs (by rfl) T.b_abs (by decide +kernel) (pa_cons (pc 4) pa_nil)) (pe_op o_pow pe_int pe_int))))) (pss_cons (ps_set (i := 5) sc__law_draw.nd rfl (Or.inl rfl) (pe_op o_add (pe_op o_mul pe_int (pe_op o_sub (pe_callB c_abs (by rfl) T.b_abs (by decide +kernel) (pa_cons (pc 4) pa_nil)) (pe_op o_pow pe_int pe_int))) (pe_callTy c_int (by rfl) T.b_int (by decide +kernel) (pa_cons (p_cmp o_lt (pc 4) pe_int) pa_nil))))
    (pss_cons (ps_asg (pe_op o_fdiv (pe_callTy c_int (by rfl) T.b_int (by decide +kernel) (pa_cons (pc 5) pa_nil)) (pc 1)) (pg_sub (pc 0) pe_int set_list))
    (pss_one (ps_ret (pe_op o_mod (pe_callTy c_int (by rfl) T.b_int (by decide +kernel) (pa_cons (pc 5) pa_nil)) (pc 1)))))) pss_nil)
    (s_cut (ps_set (i := 6) sc__law_draw.nd rfl (Or.inl rfl) (pe_op o_mod (pe_callTy c_int (by rfl) T.b_int (by decide +kernel) (pa_cons (pe_op o_pow (pe_op o_add (pe_op o_add (pe_op o_mod (pe_callTy c_int (by rfl) T.b_int (by decide +kernel) (pa_cons (pc 4) pa_nil)) pe_int) (pe_op o_mul pe_int (pc 3))) pe_int) pe_int) pa_nil)) pe_int))
    (s_cut (ps_set (i := 6) sc__law_draw.nd rfl (Or.inl rfl) (pe_op o_mod (pe_callTy c_int (by rfl) T.b_int (by decide +kernel) (pa_cons (pe_op o_pow (pe_op o_add (pe_op o_add (pe_op o_mul (pc 6) (pe_op o_add (pe_op o_mul pe_int (pc 3)) pe_int)) (pe_op o_mul (pe_op o_mul pe_int (pc 3)) (pc 3))) pe_int) pe_int) pa_nil)) pe_int))
    (pss_one (ps_ret (pe_op o_mod (pe_callTy c_int (by rfl) T.b_int (by decide +kernel) (pa_cons (pe_op o_fdiv (pc 6) pe_int) pa_nil)) (pc 1)))))))))))), ?_⟩
    -- what is left of a great cell
    refine ⟨_, _, .inl (SqL.of hp), rfl, fun h => ?_, fun _ => ?_⟩
    · have hg := of_decide_eq_true h
      have q0 : 0 ≤ g / many := Int.ediv_nonneg g0 (Int.le_of_lt hm)
      refine ⟨_, _, .inl (SqL.of hp), rfl, hm, _, _, .inl (SqL.of hp), rfl, wide_div hm hz (by decide) (by decide), p, _, _, 2, rfl, rfl, hp, rfl, ?_⟩
      have kk : Kp p H (upd H p (.lst [.ref l, .int c, .int (g / many)])) := Kp.refl.upd
      exact k (g % many) _ (Int.emod_nonneg _ (by omega)) (Int.emod_lt_of_pos _ hm) kk ⟨ns, c, _, Pp.put kk c0 q0 upd_same, by omega⟩
    · -- one more cell is begun
      refine ⟨_, _, .inl (SqL.of hp), rfl, fun σ G => σ = [some (.ref p), some (.int many), none, some (.int c), none, none, none] ∧ Kp p H G ∧ Pn G p l ns (c + 1) g, ?_, ?_⟩
      · exact ⟨p, _, _, 1, rfl, rfl, hp, rfl, rfl, Kp.refl.upd, Pp.put Kp.refl.upd (by omega) g0 upd_same⟩
      rintro σ H1 ⟨rfl, k1, P1⟩
      -- the cell, if there is one
      refine ⟨.inl (.inl ⟨by decide, by decide⟩), fun σ G => ∃ lone : Int, σ = [some (.ref p), some (.int many), none, some (.int c), some (.int lone), none, none] ∧ Kp p H G ∧ Pn G p l ns (c + 1) g, ?_, ?_⟩
      · refine ⟨_, _, .inl (SqL.of P1.at_), rfl, Nat.zero_le _, fun q nq => ?_⟩
        have k2 : Kp p H1 (upd H1 q (.lst [])) := Kp.refl.new nq
        have P2 : Pn (upd H1 q (.lst [])) p l ns (c + 1) g := P1.new nq
        have hq : upd H1 q (.lst []) q = some (.lst []) := upd_same
        refine ⟨.list (ns.map PyData.int), .list [], .lst (SqL.of P2.cel) (dp_ints ns), .lst (SqL.of hq) .nil, shaped_ints ns, rfl, ?_, ?_⟩
        · intro h
          have hn : ns ≠ [] := by
            intro e
            subst e
            cases h
          have hlen : 0 < (ns.length : Int) := by
            have := List.length_pos_iff.mpr hn
            omega
          obtain ⟨z, hzz⟩ := at_mod (ns := ns) c hlen
          refine ⟨_, _, .inl (SqL.of P2.at_), rfl, _, _, .inl (SqL.of P2.at_), rfl, _, .inl (SqL.of P2.cel), by rw [List.length_map]; exact hlen, _, .int z, .inl (SqL.of P2.cel), ?_, ?_⟩
          · rw [List.length_map]
            exact hzz
          · exact ⟨z, rfl, k1.trans k2, P2⟩
        · intro _
          exact ⟨_, rfl, k1.trans k2, P2⟩
      · rintro σ G ⟨lone, rfl, kG, PG⟩
        -- a great cell
        refine ⟨fun σ G' => σ = [some (.ref p), some (.int many), none, some (.int c), some (.int lone), none, none] ∧ Kp p H G' ∧ Pn G' p l ns (c + 1) g, ?_, ?_⟩
        · refine ⟨_, _, .inl (SqL.of PG.at_), rfl, _, .inl (SqL.of PG.cel), fun h1 => ?_, fun _ => ⟨fun z => Bool.noConfusion z, fun _ => ⟨rfl, kG, PG⟩⟩⟩
          refine ⟨⟨by decide, by decide, by decide⟩, fun h2 => ?_, fun _ => ⟨rfl, kG, PG⟩⟩
          have h2 := of_decide_eq_true h2
          refine ⟨⟨by decide, by decide, by decide⟩, .inl (.inl ⟨by decide, by decide⟩), wide_div hm hz (by decide) (by decide), p, _, _, 2, rfl, rfl, PG.at_, rfl, hm, ?_⟩
          have kk := kG.upd (p := p) (o := .lst [.ref l, .int (c + 1), .int ((2 * ((if lone < 0 then -lone else lone) - 10 ^ (18 : Int).toNat) + (if decide (lone < 0) = true then 1 else 0)) / many)])
          refine k _ _ (Int.emod_nonneg _ (by omega)) (Int.emod_lt_of_pos _ hm) kk ⟨ns, c + 1, _, Pp.put kk (by omega) ?_ upd_same, by omega⟩
          refine Int.ediv_nonneg ?_ (Int.le_of_lt hm)
          have z : (0 : Int) ≤ (if decide (lone < 0) = true then 1 else 0) := by split <;> decide
          omega
        · rintro σ' G' ⟨rfl, kG', PG'⟩
          -- a mix
          have e0 := fun b : Int => Int.emod_nonneg lone (b := b)
          have e1 := fun b : Int => Int.emod_lt_of_pos lone (b := b)
          refine ⟨fun σ G => ∃ m : Int, σ = [some (.ref p), some (.int many), none, some (.int c), some (.int lone), none, some (.int m)] ∧ G = G' ∧ 0 ≤ m ∧ m < 2147483648, ?_, ?_⟩
          · refine ⟨(by show (0 : Int) < _; decide), .inl (.inl ⟨by decide, by decide⟩), ⟨by decide, by decide, by omega⟩, (by show (0 : Int) < _; decide), _, rfl, rfl, Int.emod_nonneg _ (by decide), ?_⟩
            exact Int.lt_trans (Int.emod_lt_of_pos _ (by decide)) (by decide)
          rintro σ G2 ⟨m, rfl, rfl, m0, m1⟩
          refine ⟨fun σ G => ∃ m : Int, σ = [some (.ref p), some (.int many), none, some (.int c), some (.int lone), none, some (.int m)] ∧ G = G2 ∧ 0 ≤ m ∧ m < 2147483648, ?_, ?_⟩
          · have hb : ∀ a b d : Int, 0 ≤ a → a ≤ 1000 → 0 ≤ b → b ≤ 100000 → 0 ≤ d → d ≤ 1000 → (m * (2 * c + a) + b * c * c + d).natAbs < 2 ^ 64 := fun a b d h1 h2 h3 h4 h5 h6 => by
              have y1 := mul_lt (a := 2147483648) (b := 2002000) m0 m1 (show 0 ≤ 2 * c + a by omega) (by omega)
              have y2 := Int.mul_nonneg m0 (show 0 ≤ 2 * c + a by omega)
              have y3 := mul_lt (a := 100001) (b := 1000000) h3 (by omega) c0 hc
              have y4 := Int.mul_nonneg h3 c0
              have y5 := mul_lt (a := 100001000000) (b := 1000000) y4 (by omega) c0 hc
              have y6 := Int.mul_nonneg y4 c0
              omega
            have hb2 : ∀ b : Int, 0 ≤ b → b ≤ 100000 → CMulU (b * c) c := fun b h3 h4 => by
              have y3 := mul_lt (a := 100001) (b := 1000000) h3 (by omega) c0 hc
              have y4 := Int.mul_nonneg h3 c0
              exact .inl (.inl ⟨by omega, by omega⟩)
            refine ⟨.inl (.inl ⟨by decide, by decide⟩), .inl (.inl ⟨by omega, by omega⟩), .inl (.inl ⟨by decide, by decide⟩), hb2 _ (by decide) (by decide), ⟨by decide, by decide, ?_⟩, (by show (0 : Int) < _; decide), _, rfl, rfl, Int.emod_nonneg _ (by decide), ?_⟩
            · exact hb _ _ _ (by decide) (by decide) (by decide) (by decide) (by decide) (by decide)
            · exact Int.lt_trans (Int.emod_lt_of_pos _ (by decide)) (by decide)
          rintro σ G3 ⟨m, rfl, rfl, m0, m1⟩
          refine ⟨wide_div (b := 10) (by decide) (by decide) (by decide) (by decide), hm, ?_⟩
          exact k _ _ (Int.emod_nonneg _ (by omega)) (Int.emod_lt_of_pos _ hm) kG' ⟨ns, c + 1, g, PG', by omega⟩

theorem ok_pick {f : Addr} {fd : FuncData} {B : FuncData → Prop} (F : Fun K "_law_pick" "_law_pick" s__law_pick f fd) (T : Txt K mg) (cD : CalO P w K mg base "_law_draw" 1 ["_law_pen_here", "_law_many"] spDraw B) : FnOk P w K mg base CX0 2 f fd ["_law_pen_here", "_law_some"] (spPick K) := by
  refine F.ok sc__law_pick (fun vs H Q E h => ?_) (fun cdv A outer s H vs Q E hr h => ?_)
  · obtain ⟨p, l, c, x, rfl, _⟩ := h
    rfl
  · obtain ⟨p, l, c, x, rfl, Pp, hc, k⟩ := h
    refine ⟨_, (pss_one (ps_ret (p_ix (pc 1) (pe_cO cD (hr.mono (by decide)) (pa_cons (pc 0) (pa_cons (pe_callB c_len (by rfl) T.b_len (by decide +kernel) (pa_cons (pc 1) pa_nil)) pa_nil)))))), ?_⟩
    rcases k with ⟨z, rfl, h0, h1, k⟩ | ⟨a, xs, rfl, ne, hs, h0, h1, k⟩
    · refine ⟨Nat.le_trans h1 size_line_big, p, l, c, (z.length : Int), rfl, Pp, by omega, small_bits h1, hc, fun r H' r0 r1 kk P' => ?_⟩
      have e : z.length = z.cps.toList.length := by simp [Str.length]
      obtain ⟨ch, h2, h3⟩ := at_in (xs := z.cps.toList) r0 (by rw [← e]; exact r1)
      exact ⟨Nat.le_trans h1 size_line_big, ch, h2, k ch H' h3 kk P'⟩
    · refine ⟨xs, hs, p, l, c, (xs.length : Int), rfl, Pp, by omega, small_bits h1, hc, fun r H' r0 r1 kk P' => ?_⟩
      obtain ⟨v, h2, h3⟩ := at_in (xs := xs) r0 r1
      exact ⟨xs, v, hs.elim (fun z => .inl (kk.seq ne z)) (fun z => .inr (kk.seqT ne z)), h2, k v H' h3 kk P'⟩

structure Txt2 (mg : Str → Option Value) : Prop where
  b_str : mg "str" = none

theorem ok_sop {A fI pO gO pN gN f : Addr} {mc : Value} {fd : FuncData} (F : Fun K "sum_of_products" "sum_of_products" s_sum_of_products f fd) (T : Txt K mg) (U : AmC K mg A fI pO gO pN gN mc) {fdI : FuncData} (FI : FnOk P w K mg base CX0 2 fI fdI ["self", "top", "bottom"] (spInit A)) {ds : List Value} (bI1 : Binds K fdI ["self", "top", "bottom"] ds) (vI1 : Vals [V.int 1] ds) (bI2 : Binds K fdI ["self", "top", "bottom"] []) (hlcm : mg "lcm" = some (.builtin "math.lcm")) : FnOk P w K mg base CX0 6 f fd ["pairs"] (spSop K A) := by
  refine F.ok sc_sum_of_products (fun vs H Q E h => ?_) (fun cdv A' outer s H vs Q E hr h => ?_)
  · obtain ⟨n, κ, a, xs, ps, rfl, _⟩ := h
    rfl
  · obtain ⟨n, κ, a, xs, ps, rfl, hs, pl, n0, k0, ln, k⟩ := h
    refine ⟨_, (pss_cons (ps_asg (pe_tup (pa_cons pe_int (pa_cons pe_int pa_nil))) (pg_tup rfl (pgs_cons (pg_name (i := 1) sc_sum_of_products.nd rfl (Or.inl rfl)) (pgs_cons (pg_name (i := 2) sc_sum_of_products.nd rfl (Or.inl rfl)) pgs_nil))))
    (pss_cons (ps_for PassesOwn.never rfl (pi_list (pc 0)) (pg_tup rfl (pgs_cons (pg_name (i := 3) sc_sum_of_products.nd rfl (Or.inl rfl)) (pgs_cons (pg_name (i := 4) sc_sum_of_products.nd rfl (Or.inl rfl)) pgs_nil))) (pss_one (s_if (t_cmp (o_eq hr.units) (pe_fld (pc 3) rfl) (pc 2)) (pss_one (ps_set (i := 1) sc_sum_of_products.nd rfl (Or.inl rfl) (pe_op o_add (pc 1) (pe_op o_mulW (pe_fld (pc 3) rfl) (pc 4))))) (pss_cons (ps_set (i := 5) sc_sum_of_products.nd rfl (Or.inl rfl) (pe_callBfun cr_lcm rfl hlcm (pa_cons (pc 2) (pa_cons (pe_fld (pc 3) rfl) pa_nil))))
    (pss_cons (ps_set (i := 1) sc_sum_of_products.nd rfl (Or.inl rfl) (pe_op o_add (pe_op o_mulW (pc 1) (pe_op o_fdivZ (pc 5) (pc 2))) (pe_op o_mulW (pe_op o_mulW (pe_fld (pc 3) rfl) (pc 4)) (pe_op o_fdivZ (pc 5) (pe_fld (pc 3) rfl)))))
    (pss_one (ps_set (i := 2) sc_sum_of_products.nd rfl (Or.inl rfl) (pc 5))))))))
    (pss_one (ps_ret (pe_make U.mkr FI (hr.mono (by decide)) rfl U.g_Amount bI2 .nil pass0 (pa_cons (pc 1) (pa_cons (pc 2) pa_nil))))))), ?_⟩
    refine ⟨by show 2 ≤ sizeLine; decide, fun p0 np0 => ⟨p0, _, rfl, SqT.of upd_same, rfl, _, _, rfl, _, _, rfl, rfl, ?_⟩⟩
    have s0 : Same H (L2.upd H p0 (.tup [.int 0, .int 1])) := Same.new (Same.refl H) np0
    have mo : ∀ G, Same H G → SqL K G a xs := fun G s => s.seq hs
    have nl := pl.len
    refine ⟨a, rfl, ⟨xs, mo _ s0⟩, ?_⟩
    refine for_it (walk_list (xs := xs)) (fun i σ G => ∃ w3 w4 w5 : Option V, σ = [some (.ref a), some (.int (sopV (ps.take i)).1), some (.int (sopV (ps.take i)).2), w3, w4, w5] ∧ Same H G ∧ OkSop n κ i (sopV (ps.take i)) (totK (ps.take i))) ⟨none, none, none, rfl, s0, OkSop.nil n κ⟩ (fun i σ G _ ⟨_, _, _, _, s, _⟩ => mo G s) ?_ ?_
    · rintro i v σ G G2 hi ⟨w3, w4, w5, rfl, s, ok⟩ ⟨rfl, em⟩
      obtain ⟨⟨t, b, z⟩, h1, q, r, rfl, hq, ⟨dx, ea⟩, lo, St, Sb, Sz⟩ := pl.at_ em
      have tk : ps.take (i + 1) = ps.take i ++ [(t, b, z)] := by rw [List.take_add_one, h1]; rfl
      have ok2 := ok.step lo St Sb Sz
      have hW : (n + κ + 1) * (i + 1) ≤ (n + κ + 1) * ps.length := Nat.mul_le_mul_left _ (by omega)
      have x1 : (n + κ + 1) * (i + 1) = (n + κ + 1) * i + (n + κ + 1) := Nat.mul_succ _ _
      have x3 : n * i ≤ (n + κ + 1) * i := Nat.mul_le_mul_right _ (by omega)
      have B0 : 0 < (sopV (ps.take i)).2 := ok.pos
      have b0 : 0 < b := lo.1
      have S0 := lcmZ_pos B0 b0
      obtain ⟨q1, q2, q3, q4⟩ := quo_le B0 b0
      have f1 := Int.fdiv_eq_ediv_of_nonneg (lcmZ (sopV (ps.take i)).2 b) (Int.le_of_lt B0)
      have f2 := Int.fdiv_eq_ediv_of_nonneg (lcmZ (sopV (ps.take i)).2 b) (Int.le_of_lt b0)
      have e := s _ _ ea
      refine ⟨q, _, rfl, SqT.of (s _ _ hq), rfl, _, _, rfl, _, _, rfl, rfl, r, A, dx, _, _, rfl, e, U.cls, U.nB, rfl, ⟨fun c => ?_, fun c => ?_⟩⟩
      · have c : b = (sopV (ps.take i)).2 := by simpa using c
        have ee : sopS (sopV (ps.take i)) (t, b, z) = ((sopV (ps.take i)).1 + t * z, (sopV (ps.take i)).2) := if_pos c
        refine ⟨r, A, dx, _, _, rfl, e, U.cls, U.nT, rfl, St.cMul Sz n0 k0 (by omega), some (.ref r), some (.int z), w5, ?_, s, by rw [tk, sopV_snoc, totK_snoc]; exact ok2⟩
        rw [tk, sopV_snoc, ee]
        rfl
      · have c : ¬ b = (sopV (ps.take i)).2 := by simpa using c
        have ee : sopS (sopV (ps.take i)) (t, b, z) = _ := if_neg c
        have m1 := ok.b2.mono (show 1 + n * i ≤ 3000 by omega)
        have d1 : CDivZ (lcmZ (sopV (ps.take i)).2 b) (sopV (ps.take i)).2 := (ok.b2.mono (show 1 + n * i ≤ 3000 by omega)).cDiv (by omega)
        have d2 : CDivZ (lcmZ (sopV (ps.take i)).2 b) b := (Sb.mono (show n ≤ 3000 by omega)).cDiv (Int.ne_of_gt b0)
        refine ⟨r, A, dx, _, _, rfl, e, U.cls, U.nB, rfl, _, _, rfl, m1, Sb.mono (by omega), d1, ?_, r, A, dx, _, _, rfl, e, U.cls, U.nT, rfl, St.cMul Sz n0 k0 (by omega), r, A, dx, _, _, rfl, e, U.cls, U.nB, rfl, d2, ?_, some (.ref r), some (.int z), some (.int (lcmZ (sopV (ps.take i)).2 b)), ?_, s, by rw [tk, sopV_snoc, totK_snoc]; exact ok2⟩
        · rw [f1]
          exact ok.b1.cMul (sm_le Sb q1 q2) (by omega) n0 (by omega)
        · rw [f2]
          exact (St.mul Sz).cMul (sm_le ok.b2 q3 q4) (by omega) (by omega) (by omega)
        · rw [tk, sopV_snoc, ee, ← f1, ← f2]
          rfl
    · rintro σ G ⟨w3, w4, w5, rfl, s, ok⟩
      rw [List.take_of_length_le (by omega)] at ok ⊢
      have f := ok.fin
      have B0 := ok.pos
      have x3 : n * ps.length ≤ (n + κ + 1) * ps.length := Nat.mul_le_mul_right _ (by omega)
      rw [nl] at ok
      refine mkA (by omega) (ok.b1.mono (by omega)) (ok.b2.mono (by omega)) ?_
      rw [f.1, f.2]
      exact k.mo s


end
end LW
set_option Elab.async false
set_option linter.all false
set_option maxRecDepth 100000
set_option maxHeartbeats 2000000
namespace HX
open PySem PySem.Spec PyProof.Rows L2
/-- l.count(x) of plain data -/
def rCntD : V → List V → Hp → VK → Prop := fun x xs H Q => ∃ (p : Addr) (vs : List V) (ds : List PyData) (y : V) (d : PyData), x = .ref p ∧ xs = [y] ∧ H p = some (.lst vs) ∧ Das H vs ds ∧ Da H y d ∧ PyData.plainAll ds = true ∧ d.plain = true ∧ d.depth ≤ 30 ∧
  Q (.int ((ds.countP fun e => PyData.eqv e d : Nat) : Int)) H
theorem mt_countD {X : Cx} (hu : X.A.units + 64 < cLine) : MtR X "list.count" rCntD := by
  intro pins s σ H x xs v us Q I rx rxs h
  obtain ⟨p, vs, ds, y, d, rfl, rfl, hp, hs, hy, p1, p2, dp, q⟩ := h
  cases rx
  obtain ⟨u, rfl, ru⟩ := rxs.one
  obtain ⟨its, rv, hl, _⟩ := I.list (SqL.of hp)
  obtain ⟨as, hr, _⟩ := Das.reads I hs rv
  obtain ⟨bs, hr2, _⟩ := Da.reads I hy ru
  exact PySem.SeqAt.count_list_data hl.isList (by simpa using hr) hr2 p1 p2 (by have : min (PyData.depthAll ds) d.depth ≤ d.depth := Nat.min_le_right _ _; omega) ⟨.int _, H, I.tok _, ⟨_, rfl⟩, q⟩
end HX

set_option Elab.async false
set_option linter.all false
set_option maxRecDepth 100000
set_option maxHeartbeats 2000000
namespace HX
open PySem PySem.Spec PyProof.Rows L2

/-! ### len(x), u in x, x[u] of own instances -/
def rLenO (C : Addr) (sp : Sp) (E : XK) : List V → Hp → VK → Prop := fun xs H Q => ∃ a, xs = [.ref a] ∧ IsI C H a ∧ sp [.ref a] H (fun v G => ∃ n : Int, v = .int n ∧ 0 ≤ n ∧ n < 2 ^ 63 ∧ Q (.int n) G) E
def rInO (C : Addr) (neg : Bool) (sp : Sp) (E : XK) : L2.R2 := fun x y H Q => ∃ a, y = .ref a ∧ IsI C H a ∧ sp [.ref a, x] H (fun v G => ∃ c, v = .bl c ∧ Q (.bl (xor neg c)) G) E
def rIxO (C : Addr) (sp : Sp) (E : XK) : L2.R2 := fun x y H Q => ∃ a, x = .ref a ∧ IsI C H a ∧ sp [.ref a, y] H Q E
section
variable {X : Cx} {C f : Addr} {fd : FuncData} {ps : List Str} {sp : Sp} {CY : CXT} {k : Nat} {E : XK}
theorem call_lenO (hs : PySem.W.findIn X.K (.ref C) "__len__" = some (some (.ref f))) (hf : PySem.W.isFn X.K (.ref f) = true) (Fi : FnOk X.prog X.w X.K X.mg X.base CY k f fd ps sp) (b : Binds X.K fd ps []) (hr : Room (k + 1) X.A) (hx : Passes CY X E) : CallR X (.builtin "len") (rLenO C sp E) := by
  intro pins s σ H xs us Q I r q
  obtain ⟨a, rfl, i1, q⟩ := q
  obtain ⟨u, rfl, ru⟩ := vals1 r
  cases ru
  obtain ⟨dx, od, J, ho⟩ := inst_at I i1
  obtain ⟨m, F⟩ := I.fr
  refine PySem.W.len_K F I.ok.mod.kin J hs hf (wpAny_mono (run_at Fi b hr.in1 I.env0.in1 hx I (show Vals [V.ref a] [Value.ref a] from .cons rfl .nil) q) (fun u s2 h => ?_) fun _ _ z => z)
  obtain ⟨v, G, J2, rv, n, rfl, n0, n1, qz⟩ := h
  obtain ⟨t, rfl⟩ := (show ∃ t, u = Value.int n t from rv)
  exact ⟨⟨n0, n1⟩, .int n, G, J2.tok _, ⟨_, rfl⟩, qz⟩
theorem op_inO (hs : PySem.W.findIn X.K (.ref C) "__contains__" = some (some (.ref f))) (hf : PySem.W.isFn X.K (.ref f) = true) (Fi : FnOk X.prog X.w X.K X.mg X.base CY k f fd ps sp) (b : Binds X.K fd ps []) (hr : Room k X.A) (hx : Passes CY X E) : OpR X (compareOp .In) (rInO C false sp E) := by
  intro pins s σ H x y v u Q I rx ry q
  obtain ⟨a, rfl, i1, q⟩ := q
  cases ry
  obtain ⟨dx, od, J, ho⟩ := inst_at I i1
  obtain ⟨m, F⟩ := I.fr
  refine PySem.W.in_K F I.ok.mod.kin J hs hf (wpAny_mono (run_fn Fi hr b .nil hx I (show Vals [V.ref a, x] [Value.ref a, v] from .cons rfl (.cons rx .nil)) (by rw [List.append_nil]; exact q)) (fun u s2 h => ?_) fun _ _ z => z)
  obtain ⟨v, G, J2, rv, c, rfl, qz⟩ := h
  cases (show u = Value.bool c from rv)
  rw [Bool.false_xor] at qz
  exact wpAny_pure ⟨.bl c, G, J2, rfl, qz⟩
theorem op_notInO (hs : PySem.W.findIn X.K (.ref C) "__contains__" = some (some (.ref f))) (hf : PySem.W.isFn X.K (.ref f) = true) (Fi : FnOk X.prog X.w X.K X.mg X.base CY k f fd ps sp) (b : Binds X.K fd ps []) (hr : Room k X.A) (hx : Passes CY X E) : OpR X (compareOp .NotIn) (rInO C true sp E) := by
  intro pins s σ H x y v u Q I rx ry q
  obtain ⟨a, rfl, i1, q⟩ := q
  cases ry
  obtain ⟨dx, od, J, ho⟩ := inst_at I i1
  obtain ⟨m, F⟩ := I.fr
  refine PySem.W.notIn_K F I.ok.mod.kin J hs hf (wpAny_mono (run_fn Fi hr b .nil hx I (show Vals [V.ref a, x] [Value.ref a, v] from .cons rfl (.cons rx .nil)) (by rw [List.append_nil]; exact q)) (fun u s2 h => ?_) fun _ _ z => z)
  obtain ⟨v, G, J2, rv, c, rfl, qz⟩ := h
  cases (show u = Value.bool c from rv)
  rw [Bool.true_xor] at qz
  exact wpAny_pure ⟨.bl (!c), G, J2, rfl, qz⟩
theorem pe_ixO {a b : Expr} {ta tb : TE} {pos : Pos} (hs : PySem.W.findIn X.K (.ref C) "__getitem__" = some (some (.ref f))) (hf : PySem.W.isFn X.K (.ref f) = true) (hn : PySem.W.fnIn X.K f = true) (Fi : FnOk X.prog X.w X.K X.mg X.base CY k f fd ps sp) (bd : Binds X.K fd ps []) (hr : Room (k + 1) X.A) (hx : Passes CY X E) (ha : PE X a ta) (hb : PE X b tb)
    (hsl : ∀ (o : Addr) (i : Value), subscripted b true (.ref o) i = runValue (.builtin "lifetime.subscript" ⟨[.ref o, i], []⟩) := by intro _ _; with_unfolding_all rfl) : PE X (.Subscript a b pos) (tOp (rIxO C sp E) ta tb) := by
  refine ⟨fun pins s σ H Q I h => ?_⟩
  refine Subscript_ (binT ha hb I h fun v u s2 x y H2 I2 rx ry q => ?_)
  obtain ⟨o, rfl, i1, q⟩ := q
  cases rx
  obtain ⟨dx, od, J, ho⟩ := inst_at I2 i1
  obtain ⟨m, F⟩ := I2.fr
  exact PySem.W.sub_K F I2.ok.mod.kin J hs hn hf (run_at Fi bd hr.in1 I2.env0.in1 hx I2 (show Vals [V.ref o, y] [Value.ref o, u] from .cons rfl (.cons ry .nil)) q) (hsl o u)
end
end HX

set_option Elab.async false
set_option linter.all false
set_option maxRecDepth 100000
set_option maxHeartbeats 2000000
namespace HX
open PySem PySem.Spec PyProof.Rows L2

/-! ### classmethods read off their class: one that may raise, one called by keywords -/
section
variable {X : Cx} {CY : CXT} {k : Nat} {C p g : Addr} {mc : Value} {sp : Sp} {E : XK} {W : WX} {o e : Expr} {es : List Expr} {m : Str} {pos apos : Pos} {ta : TE} {t : TA} {pl : Sem Bool} {fd : FuncData} {ps : List Str} {ks : List Str} {kws : List Keyword} {gg : List Value → List Value → List Value} {gV : List V → List V → List V}
theorem pe_cmethX (he : PE X o ta) (r : ClX.CRead X.K C mc) (c : ClX.CMet X.K C mc m p g) (F : FnR X.prog X.w X.K X.mg X.base (CX X.prog X.w) k g sp) (hr : Room k X.A) (tk : Takes X W) (ha : PA X (e :: es) t)
    (hst : starEach (e :: es) X.env = (false, eval e X.env) :: starEach es X.env := by rfl) (hpl : (backTo pos (starEach es X.env)).any (·.1) = false := by rfl)
    (ht : eval (.Call (.Attribute o m apos) (e :: es) [] pos) X.env = (do
      let ov ← eval o X.env
      standAt apos.atName
      let (f, first) ← holding [ov] (getMethod ov m pl)
      callWith pos f first (backTo pos (starEach (e :: es) X.env)) (backToKw pos (keywordEach [] X.env))) := by rfl) :
    PE X (.Call (.Attribute o m apos) (e :: es) [] pos) (fun σ H Q => ClX.tCMeth C sp (WE W σ) ta t σ H Q) :=
 by
  refine ⟨fun pins s σ H Q I h => PySem.W.methodCall_KW (pl := pl) (thn (he.run pins s σ H _ I h) fun u s1 ⟨x, H1, I1, rx, ex, q⟩ => ?_) ht⟩
  subst ex
  obtain rfl : u = Value.ref C := rx
  refine ClX.getmethcm_ok I1 r c fun s2 I2 => ?_
  refine ClX.callwith_cm I2 (ClX.base_none I1 (Nat.le_refl _)) c.fi (thn (ha.run pos _ s2 σ H1 _ I2 q) fun us s3 ⟨vs, H2, I3, rv, q2⟩ => ⟨⟨ClX.pin_at I3, I3.kIn⟩, ?_⟩) hst hpl
  have run := F X.A X.stack s3 H2 (.ref C :: us) (.ref C :: vs) Q (WE W σ) hr I3.env0 (.cons rfl rv) q2
  have z : wpAny (model X.prog X.w) X.A (call (.ref s1.heap.objs.size) us) (EP X ((s1.heap.objs.size, PySem.W.methodObj (.ref g) (.ref C)) :: pins) σ Q) X.xe s3 := by
    refine wpAny_call (PySem.W.method_call (ClX.pin_at I3) (codeAny_mono run fun r s' q => ?_))
    match r, q with
    | .error e, q => exact passAt tk σ _ _ _ _ _ I3 q
    | .ok (.ret u), q => exact I3.after q
    | .ok .next, q => exact False.elim q
    | .ok .brk, q => exact False.elim q
    | .ok .cont, q => exact False.elim q
  exact thn z fun _ _ y => ClX.unpinE y
/-- C.m(k = e, ..), m a classmethod -/
def tCMK (C : Addr) (n : Nat) (sp : Sp) (gV : List V → List V → List V) (E : XK) (ta : TE) (t : TA) : TE := fun σ H Q => ta σ H fun x H1 => x = .ref C ∧ t σ H1 fun zs H2 => zs.length = n ∧ sp (gV [.ref C] zs) H2 Q E
theorem pe_cmk (he : PE X o ta) (r : ClX.CRead X.K C mc) (c : ClX.CMet X.K C mc m p g) (Fm : FnOk X.prog X.w X.K X.mg X.base CY k g fd ps sp) (b : KBn X.K fd ps 1 ks gg gV) (hr : Room k X.A) (hx : Passes CY X E) (hkw : PK X kws t)
    (hall : (backToKw pos (keywordEach kws X.env)).all (·.1.isSome) = true := by rfl) (hks : (backToKw pos (keywordEach kws X.env)).filterMap (·.1) = ks := by rfl)
    (hpl : ((backTo pos (starEach [] X.env)).any (·.1) || (backToKw pos (keywordEach kws X.env)).any (·.1.isNone)) = false := by rfl)
    (ht : eval (.Call (.Attribute o m apos) [] kws pos) X.env = (do
      let v ← eval o X.env
      standAt apos.atName
      let (f, first) ← holding [v] (getMethod v m pl)
      callWith pos f first (backTo pos (starEach [] X.env)) (backToKw pos (keywordEach kws X.env))) := by rfl) : PE X (.Call (.Attribute o m apos) [] kws pos) (tCMK C ks.length sp gV E ta t) := by
  refine ⟨fun pins s σ H Q I h => PySem.W.methodCall_KW (pl := pl) (thn (he.run pins s σ H _ I h) fun u s1 ⟨x, H1, I1, rx, ex, q⟩ => ?_) ht⟩
  subst ex
  obtain rfl : u = Value.ref C := rx
  refine ClX.getmethcm_ok I1 r c fun s2 I2 => ?_
  have hb := ClX.base_none I1 (Nat.le_refl _)
  refine PySem.W.callWith_of (P := PySem.W.MethP X.K s1.heap.objs.size g (.ref C)) hpl (PySem.W.keeps_M c.fi) (evalArgs_kw2_nil hall (thn (hkw.run pos _ s2 σ H1 _ I2 q) fun ws s3 ⟨zs, H2, I3, rz, l2, q2⟩ => ⟨⟨ClX.pin_at I3, I3.kIn⟩, ?_⟩))
  rw [hks]
  have l3 : ws.length = ks.length := rz.length.symm.trans l2
  have run := Fm.run X.A X.stack s3 H2 ⟨[.ref C], ks.zip ws⟩ (gg [.ref C] ws) (gV [.ref C] zs) Q E hr I3.env0 (b.to s3 [.ref C] ws I3.kIn rfl l3) (b.rel (.cons rfl .nil) rz) q2
  have z : wpAny (model X.prog X.w) X.A (call (.ref s1.heap.objs.size) [] (ks.zip ws)) (EP X ((s1.heap.objs.size, PySem.W.methodObj (.ref g) (.ref C)) :: pins) σ Q) X.xe s3 := by
    refine wpAny_call (PySem.W.method_call (ClX.pin_at I3) (codeAny_mono run fun r s' q => ?_))
    match r, q with
    | .error e, q => exact hx _ _ _ _ _ _ I3 q
    | .ok (.ret u), q => exact I3.after q
    | .ok .next, q => exact False.elim q
    | .ok .brk, q => exact False.elim q
    | .ok .cont, q => exact False.elim q
  exact thn z fun _ _ y => ClX.unpinE y
end
end HX

set_option Elab.async false
set_option linter.all false
set_option maxRecDepth 100000
set_option maxHeartbeats 2000000
namespace HX
open PySem PySem.Spec PyProof.Rows L2

/-! ### own errors inside a try whose clause raises out: defs and errors that fly without a context -/
section
variable {P : Program} {w : World} {K : PySem.W.Frag} {mg : Str → Option Value} {base : Heap}
/-- a def that may raise where the clause raises out again -/
theorem okN {x qual : Str} {st : Stmt} {f : Addr} {fd : FuncData} {N ps : List Str} {k : Nat} {sp : Sp} (F : Fun K x qual st f fd) (S : FnScope N ps (defScope st)) (len : ∀ vs H Q E, sp vs H Q E → vs.length = ps.length)
    (go : ∀ (cdv : Value) (A : Around) (outer : List Env) (s : Shared) (H : Hp) (vs : List V) (Q : VK) (E : XK), Room k (A.deeper (envOfC qual (defScope st) s.heap.objs.size f cdv)) → sp vs H Q E →
      ∃ t, PSs (cxOf (L2N.CX P w) P w K mg base N qual (defScope st) f cdv A outer s H E) (defBody st) t ∧ t { nx := fun _ G => Q .non G, rt := Q } (start N vs) H) : FnOk P w K mg base (L2N.CX P w) (k + 1) f fd ps sp := by
  have ⟨_, _, _, _, _, _, c, _, _, e, lk, hcd⟩ := F.ex
  subst e
  exact fn_of lk hcd S len fun A outer s H vs Q E => go c A outer s H vs Q E
/-- the same def while an exception is handled; here its own may not leave it -/
theorem okH {x qual : Str} {st : Stmt} {f : Addr} {fd : FuncData} {N ps : List Str} {k : Nat} {sp : Sp} (F : Fun K x qual st f fd) (S : FnScope N ps (defScope st)) (len : ∀ vs H Q E, sp vs H Q E → vs.length = ps.length)
    (go : ∀ (cdv : Value) (A : Around) (outer : List Env) (s : Shared) (H : Hp) (vs : List V) (Q : VK) (E : XK) (p : Addr × Obj), sp vs H Q E →
      ∃ t, PSs (L2H.cxH CX0 P w K mg base N qual (defScope st) f cdv A outer s H E p) (defBody st) t ∧ t { nx := fun _ G => Q .non G, rt := Q } (start N vs) H) : L2H.FnH P w K mg base CX0 (k + 1) f fd ps sp := by
  have ⟨_, _, _, _, _, _, c, _, _, e, lk, hcd⟩ := F.ex
  subst e
  exact L2H.fn_ofH lk hcd S len fun A outer s H vs Q E p _ _ => go c A outer s H vs Q E p
variable {C fI : Addr} {fd : FuncData} {qual f g : Str} {st : Stmt}
theorem ok_init2H (F : Fun K "__init__" qual st fI fd) (T : OexC K C) (no : PySem.W.findIn K (.ref C) f = some none) (no2 : PySem.W.findIn K (.ref C) g = some none) (S : FnScope ["self", f, g] ["self", f, g] (defScope st))
    (hb : ∃ p1 p2 p3 p4 q1 q2 q3 q4, defBody st = [.Assign [.Attribute (.Name "self" p1) f p2] (.Name f p3) p4, .Assign [.Attribute (.Name "self" q1) g q2] (.Name g q3) q4])
    (v0 : Vis (defScope st) "self" := by exact Or.inl rfl) (v1 : Vis (defScope st) f := by exact Or.inl rfl) (v2 : Vis (defScope st) g := by exact Or.inl rfl)
    (hd : (f == ("__debug__" : Str)) = false := by decide) (hcd : (f == ("__classdict__" : Str)) = false := by decide)
    (hd2 : (g == ("__debug__" : Str)) = false := by decide) (hcd2 : (g == ("__classdict__" : Str)) = false := by decide) : L2H.FnH P w K mg base CX0 1 fI fd ["self", f, g] (spI2 C f g) := by
  obtain ⟨p1, p2, p3, p4, q1, q2, q3, q4, eb⟩ := hb
  refine okH F S (fun vs H Q E h => ?_) (fun cdv A outer s H vs Q E p h => ?_)
  · obtain ⟨a, v, u, rfl, _⟩ := h
    rfl
  · obtain ⟨a, v, u, rfl, ha, k⟩ := h
    rw [eb]
    refine ⟨_, pss_cons (ps_ost (pe_var (i := 0) rfl v0) (pe_var (i := 1) rfl v1 hd hcd)) (pss_one (ps_ost (pe_var (i := 0) rfl v0) (pe_var (i := 2) rfl v2 hd2 hcd2))), ?_⟩
    refine ⟨v, rfl, _, rfl, a, C, rfl, T, no, .inl ⟨ha, fun dx n ne => ?_⟩⟩
    exact ⟨u, rfl, _, rfl, a, C, rfl, T, no2, .inr ⟨dx, [(f, v)], upd_same, by rw [upd_ne ne, upd_same], by show 1 ≤ 900; decide, k dx n ne⟩⟩
/-- such an error class, made where an exception is handled -/
def ErrH (P : Program) (w : World) (K : PySem.W.Frag) (mg : Str → Option Value) (base : Heap) (x : Str) (C : Addr) (ps : List Str) (sp : Sp) : Prop :=
  ∃ (fI : Addr) (fd : FuncData), RxC K mg x C fI ∧ L2H.FnH P w K mg base CX0 1 fI fd ps sp ∧ Binds K fd ps []
end
section
variable {X : Cx} {x : Str} {C : Addr} {ps : List Str} {sp : Sp} {e : Expr} {es : List Expr} {ta : TA} {W : WX} {p pos pos2 : Pos}
/-- an own error made where nothing is handled flies without a context -/
theorem mkN (Z : ErrC X.prog X.w X.K X.mg X.base x C ps sp) (hr : Room 2 X.A) (he : PA X (e :: es) ta) (hg : Gl X x) (hdb : (x == ("__debug__" : Str)) = false) (hs : starEach (e :: es) X.env = (false, eval e X.env) :: starEach es X.env) (hpl : (backTo pos (starEach es X.env)).any (·.1) = false) :
    L2N.PMk X (.Call (.Name x p) (e :: es) [] pos) (tMkO C sp [] ta) := by
  intro pins s σ H Q I h
  obtain ⟨fI, fd, T, F, b⟩ := Z
  obtain ⟨_, _, _, _, bm, _, _, _, _, _, _, _, _, _, _, hC, hbm⟩ := T.o.cls
  refine wpAny_Call_Name_kw (ld_glob I hg T.gC ?_ hdb)
  refine PySem.W.callWith_K (h₀ := X.base) I.ok.mod.kin T.o.kC (thn (he.run pos pins s σ H _ I h) fun us s1 ⟨vs, H1, I1, rv, small, ask⟩ => ⟨I1.kIn, ?_⟩) hs hpl
  show wpAny _ _ (call (.ref C) us) _ _ _
  obtain ⟨hp, gn, dw, tk, os⟩ := s1
  have ask := ask (hp.objs.size + 1) (I1.hok.fresh (Nat.le_succ _))
  rw [List.append_nil] at ask
  have kp : ∀ b o, hp.get? b = some o → ((hp.push (PySem.W.kdv_tup us)).push (PySem.HandSPX.excO C hp.objs.size)).get? b = some o := fun b o z => Heap.get?_push_of_some _ (Heap.get?_push_of_some _ z)
  have I2 := I1.laid (t' := tk) (a := hp.objs.size + 1) (o := exo (hp.objs.size + 1) C none) (h' := (hp.push (PySem.W.kdv_tup us)).push (PySem.HandSPX.excO C hp.objs.size)) kp (Nat.le_succ _) (exo_ok (by heap_get))
  have rv2 : Vals (V.ref (hp.objs.size + 1) :: vs) (Value.ref (hp.objs.size + 1) :: us) := .cons rfl rv
  have len : (Value.ref (hp.objs.size + 1) :: us ++ []).length = ps.length := by
    rw [List.append_nil]
    exact rv2.length.symm.trans (F.len _ _ _ _ ask)
  have bnd := b _ (Value.ref (hp.objs.size + 1) :: us) I2.kIn len
  rw [List.append_nil] at bnd
  have tiny : us.length ≤ sizeLine := by
    have := Paired.length rv
    rw [sizeLine_eq]
    omega
  have run := F.run _ X.stack _ _ ⟨Value.ref (hp.objs.size + 1) :: us, []⟩ _ _ _ _ (hr.make C us []) (I2.env0.make C us []) bnd rv2 ask
  refine wpAny_call (PySem.HandSPX.call_own PySem.F.excBase_ValueError (fun _ => PySem.HandSPX.refsVE_contains _ bm hbm) (I1.kIn _ _ hC) (PySem.W.looks_findIn I1.kIn T.iC) (fun _ => PySem.W.bind_fn I1.kIn _ T.tI) tiny (codeAny_mono run fun r s' got => ?_))
  match r, got with
  | .error _, got => exact got.elim
  | .ok .next, got => exact got.elim
  | .ok .brk, got => exact got.elim
  | .ok .cont, got => exact got.elim
  | .ok (.ret u), got =>
    obtain ⟨v, H2, ho, hb, un, hok, ru, rfl, d, fs, ea, ed, d1, q⟩ := got
    obtain ⟨h2, g2, d2, t2, os'⟩ := s'
    obtain ⟨_, G, J, kG, ge, at_, na⟩ := mk_end0 (d2 := d2) (t2 := t2) I1 (Nat.le_succ _) kp un hok ho hb ea ed d1
    refine ⟨ru, _, _, _, ⟨G, g2, d2, t2, os'⟩, _, .ref C, some d, rfl, J, kG, ge, at_, ⟨rfl, rfl, fun vs hv => ?_⟩, rfl, rfl, na, rfl, hb, raises_own T.o.exC T.o.tyC, q⟩
    cases hv
    rfl
theorem ps_rzN (Z : ErrC X.prog X.w X.K X.mg X.base x C ps sp) (hc : X.calm = true) (hr : Room 2 X.A) (tk : L2N.Takes X W) (he : PA X (e :: es) ta)
    (hg : Gl X x := by rfl) (hdb : (x == ("__debug__" : Str)) = false := by decide) (hs : starEach (e :: es) X.env = (false, eval e X.env) :: starEach es X.env := by rfl) (hpl : (backTo pos (starEach es X.env)).any (·.1) = false := by rfl) :
    PS X (.Raise (some (.Call (.Name x p) (e :: es) [] pos)) none pos2) (fun _ σ H => tMkO C sp [] ta σ H fun cls d G => W cls d σ G) :=
  L2N.ps_raise hc tk (mkN Z hr he hg hdb hs hpl)
/-- raise C(e, ..) from None, in a clause -/
theorem ps_rzF {j : Nat} {cpos : Pos} (Z : ErrH X.prog X.w X.K X.mg X.base x C ps sp) (hc : L2H.HotC X) (hr : L2H.RoomH 2 X.A) (tk : Takes X W) (he : PA X (e :: es) ta)
    (hg : Gl X x := by rfl) (hdb : (x == ("__debug__" : Str)) = false := by decide) (hs : starEach (e :: es) X.env = (false, eval e X.env) :: starEach es X.env := by rfl) (hpl : (backTo pos (starEach es X.env)).any (·.1) = false := by rfl) :
    PS X (.Raise (some (.Call (.Name x p) (e :: es) [] pos)) (some (.Constant .none j cpos)) pos2) (fun _ σ H => tMkO C sp [] ta σ H fun cls d G => W cls d σ G) := by
  obtain ⟨fI, fd, T, F, b⟩ := Z
  exact L2H.ps_raiseHN hc tk (L2H.pmk5_oexH T.o T.iC T.tI F hr hc b (fun _ _ _ _ _ _ _ z => z.elim) hg T.gC he hdb hs hpl)
end
section
variable {X : Cx} {CY : CXT} {k : Nat} {C p g : Addr} {mc : Value} {sp : Sp} {E : XK} {W : WX} {o e : Expr} {es : List Expr} {m : Str} {pos apos : Pos} {ta : TE} {t : TA} {pl : Sem Bool} {fd : FuncData} {ps : List Str} {ks : List Str} {kws : List Keyword} {gg : List Value → List Value → List Value} {gV : List V → List V → List V}
theorem pe_cmethXN (he : PE X o ta) (r : ClX.CRead X.K C mc) (c : ClX.CMet X.K C mc m p g) (F : FnR X.prog X.w X.K X.mg X.base (L2N.CX X.prog X.w) k g sp) (hr : Room k X.A) (tk : L2N.Takes X W) (ha : PA X (e :: es) t)
    (hst : starEach (e :: es) X.env = (false, eval e X.env) :: starEach es X.env := by rfl) (hpl : (backTo pos (starEach es X.env)).any (·.1) = false := by rfl)
    (ht : eval (.Call (.Attribute o m apos) (e :: es) [] pos) X.env = (do
      let ov ← eval o X.env
      standAt apos.atName
      let (f, first) ← holding [ov] (getMethod ov m pl)
      callWith pos f first (backTo pos (starEach (e :: es) X.env)) (backToKw pos (keywordEach [] X.env))) := by rfl) :
    PE X (.Call (.Attribute o m apos) (e :: es) [] pos) (fun σ H Q => ClX.tCMeth C sp (WE W σ) ta t σ H Q) :=
 by
  refine ⟨fun pins s σ H Q I h => PySem.W.methodCall_KW (pl := pl) (thn (he.run pins s σ H _ I h) fun u s1 ⟨x, H1, I1, rx, ex, q⟩ => ?_) ht⟩
  subst ex
  obtain rfl : u = Value.ref C := rx
  refine ClX.getmethcm_ok I1 r c fun s2 I2 => ?_
  refine ClX.callwith_cm I2 (ClX.base_none I1 (Nat.le_refl _)) c.fi (thn (ha.run pos _ s2 σ H1 _ I2 q) fun us s3 ⟨vs, H2, I3, rv, q2⟩ => ⟨⟨ClX.pin_at I3, I3.kIn⟩, ?_⟩) hst hpl
  have run := F X.A X.stack s3 H2 (.ref C :: us) (.ref C :: vs) Q (WE W σ) hr I3.env0 (.cons rfl rv) q2
  have z : wpAny (model X.prog X.w) X.A (call (.ref s1.heap.objs.size) us) (EP X ((s1.heap.objs.size, PySem.W.methodObj (.ref g) (.ref C)) :: pins) σ Q) X.xe s3 := by
    refine wpAny_call (PySem.W.method_call (ClX.pin_at I3) (codeAny_mono run fun r s' q => ?_))
    match r, q with
    | .error e, q => exact L2N.passAt tk σ _ _ _ _ _ I3 q
    | .ok (.ret u), q => exact I3.after q
    | .ok .next, q => exact False.elim q
    | .ok .brk, q => exact False.elim q
    | .ok .cont, q => exact False.elim q
  exact thn z fun _ _ y => ClX.unpinE y
end
end HX

set_option Elab.async false
set_option linter.all false
set_option maxRecDepth 100000
set_option maxHeartbeats 2000000
namespace HX
open PySem PySem.Spec PyProof.Rows L2

/-! ### a text cut at its blanks, and what a text of gaps says -/
def wds (l : List Nat) : List (List Nat) := TL.spl [32] 0 [] l
theorem spl32 : ∀ (r acc : List Nat), (∀ w ∈ TL.spl [32] 0 acc r, w.length ≤ acc.length + r.length ∧ ∀ c ∈ w, c ∈ acc ∨ c ∈ r) ∧ 1 ≤ (TL.spl [32] 0 acc r).length ∧ (TL.spl [32] 0 acc r).length ≤ r.length + 1
  | [], acc => by
    rw [TL.spl_nil]
    exact ⟨fun w hw => by rw [List.mem_singleton.mp hw]; exact ⟨by simp, fun c h => .inl h⟩, by simp, by simp⟩
  | c :: r, acc => by
    by_cases h : TL.pre [32] (c :: r) = true
    · obtain ⟨i1, i2, i3⟩ := spl32 r []
      rw [TL.spl_hit h]
      refine ⟨fun w hw => ?_, by simp, by simp at i3 ⊢; exact i3⟩
      rcases List.mem_cons.mp hw with e | hw
      · rw [e]
        exact ⟨by omega, fun c h => .inl h⟩
      · obtain ⟨a, b⟩ := i1 w hw
        simp only [List.length_nil, List.length_cons] at a ⊢
        exact ⟨by omega, fun x hx => .inr (List.mem_cons_of_mem _ ((b x hx).elim (fun z => nomatch z) id))⟩
    · have e : TL.spl [32] 0 acc (c :: r) = TL.spl [32] 0 (acc ++ [c]) r := by
        show (if TL.pre [32] (c :: r) = true then _ else _) = _
        rw [if_neg h]
      obtain ⟨i1, i2, i3⟩ := spl32 r (acc ++ [c])
      rw [e]
      refine ⟨fun w hw => ?_, i2, by rw [List.length_cons]; omega⟩
      obtain ⟨a, b⟩ := i1 w hw
      rw [List.length_append, List.length_singleton] at a
      rw [List.length_cons]
      refine ⟨by omega, fun x hx => ?_⟩
      rcases b x hx with z | z
      · rcases List.mem_append.mp z with z | z
        · exact .inl z
        · rw [List.mem_singleton.mp z]
          exact .inr (List.mem_cons_self ..)
      · exact .inr (List.mem_cons_of_mem _ z)
theorem wds_mem {l w : List Nat} (h : w ∈ wds l) : w.length ≤ l.length ∧ ∀ c ∈ w, c ∈ l := by
  obtain ⟨a, b⟩ := (spl32 l []).1 w h
  simp at a
  exact ⟨a, fun c hc => (b c hc).elim (fun z => nomatch z) id⟩
theorem wds_len (l : List Nat) : 1 ≤ (wds l).length ∧ (wds l).length ≤ l.length + 1 := (spl32 l []).2
theorem wds_is (l : List Nat) : Txt.split (ofL l) (Str.ofString " ") = (wds l).map ofL := by
  have e : (Str.ofString " ") = SX.S [32] := by decide +kernel
  rw [e]
  exact SX.split_S (a := l) (by decide) (by decide)
def isNm (l : List Nat) : Bool := decide (1 ≤ l.length ∧ l.length ≤ 8 ∧ ∀ c ∈ l, c ∈ abc)
/-- what a text of gaps says, word after word: the place that is wrong, or the gaps -/
noncomputable def duW : Nat → List Nat → List (List Nat × Int × Int) → List (List Nat) → Nat ⊕ List (List Nat × Int × Int)
  | at_, ah, acc, [] => if at_ % 2 = 1 then .inl at_ else .inr acc
  | at_, ah, acc, w :: ws =>
    if at_ % 2 = 0 then (if isNm w = true ∧ ah < w then duW (at_ + 1) w acc ws else .inl at_)
    else match rdv w with
      | some (t, b) => if t = 0 then .inl at_ else duW (at_ + 1) ah (acc ++ [(ah, t, b)]) ws
      | none => .inl at_
noncomputable def due (l : List Nat) : Nat ⊕ List (List Nat × Int × Int) := if l = [110, 111, 110, 101] then .inr [] else duW 0 [] [] (wds l)
/-- a dict of pairs, by its names -/
inductive KPs (H : Hp) : List (Key × V) → List (List Nat × Int × Int) → Prop
  | nil : KPs H [] []
  | cons {q : Addr} {k : List Nat} {t b : Int} {kvs : List (Key × V)} {ps : List (List Nat × Int × Int)} : H q = some (.tup [.int t, .int b]) → KPs H kvs ps → KPs H ((.inr (ofL k), .ref q) :: kvs) ((k, t, b) :: ps)
theorem KPs.mo {H G : Hp} (s : ∀ q t b, H q = some (.tup [.int t, .int b]) → G q = some (.tup [.int t, .int b])) : ∀ {kvs ps}, KPs H kvs ps → KPs G kvs ps
  | _, _, .nil => .nil
  | _, _, .cons e r => .cons (s _ _ _ e) (r.mo s)
theorem KPs.snoc {H : Hp} {q : Addr} {k : List Nat} {t b : Int} (e : H q = some (.tup [.int t, .int b])) : ∀ {kvs ps}, KPs H kvs ps → KPs H (kvs ++ [(.inr (ofL k), .ref q)]) (ps ++ [(k, t, b)])
  | _, _, .nil => .cons e .nil
  | _, _, .cons e2 r => .cons e2 (r.snoc e)
theorem KPs.len {H : Hp} : ∀ {kvs ps}, KPs H kvs ps → kvs.length = ps.length
  | _, _, .nil => rfl
  | _, _, .cons _ r => by rw [List.length_cons, List.length_cons, r.len]
theorem KPs.out {H : Hp} {k : List Nat} : ∀ {kvs ps}, KPs H kvs ps → (∀ p ∈ ps, p.1 ≠ k) → valV kvs (.inr (ofL k)) = none
  | _, _, .nil, _ => rfl
  | _, _, .cons (k := k2) e r, n => by
    rw [valV_neg (by intro z; exact n _ (List.mem_cons_self ..) (ofL_inj (Sum.inr.inj z)))]
    exact r.out fun p hp => n p (List.mem_cons_of_mem _ hp)
end HX

set_option Elab.async false
set_option linter.all false
set_option maxRecDepth 100000
set_option maxHeartbeats 2000000
namespace HX
open PySem PySem.Spec PyProof.Rows L2

/-! ### a dict against an empty one -/
def rEqE (neg : Bool) : L2.R2 := fun x y H Q => ∃ a b ks, x = .ref a ∧ y = .ref b ∧ H a = some (.dK ks) ∧ H b = some (.dK []) ∧ Q (.bl (xor neg (decide (ks = [])))) H
section
variable {X : Cx}
theorem op_eqE (hu : X.A.units < cLine) : OpR X (compareOp .Eq) (rEqE false) := by
  intro pins s σ H x y v u Q I rx ry h
  obtain ⟨a, b, ks, rfl, rfl, ea, eb, q⟩ := h
  obtain rfl : v = Value.ref a := rx
  obtain rfl : u = Value.ref b := ry
  obtain ⟨_, na, va, ra, da⟩ := (show ObjOk X.prog X.w H s.heap a (.dK ks) from I.hok a _ ea)
  obtain ⟨_, nb, vb, rb, db⟩ := (show ObjOk X.prog X.w H s.heap b (.dK []) from I.hok b _ eb)
  have lb : vb.length = 0 := rb.length.symm
  have la := ra.length
  cases ks with
  | nil =>
    have e0 : va.length = 0 := la.symm
    exact PySem.W.keq_eq (knd := mixKind X.prog X.w) (r := true) na nb da db hu (fun _ => hits_all rb ra fun p z => nomatch z) (fin_bl I q (by simp [e0, lb]))
  | cons p r =>
    have e0 : va.length = r.length + 1 := la.symm
    exact PySem.W.keq_eq (knd := mixKind X.prog X.w) (r := true) na nb da db hu (fun z => absurd z (by omega)) (fin_bl I q (by simp [e0, lb]))
end
theorem KPs.at_ {H : Hp} : ∀ {kvs ps}, KPs H kvs ps → (∀ (i : Nat) (k : Key) (v : V), kvs[i]? = some (k, v) → ∃ n t b, ps[i]? = some (n, t, b) ∧ k = .inr (ofL n))
  | _, _, .nil, i, k, v, e => by simp at e
  | _, _, .cons (k := n) (t := t) (b := b) _ r, 0, k, v, e => by
    simp at e
    exact ⟨n, t, b, rfl, e.1.symm⟩
  | _, _, .cons _ r, i + 1, k, v, e => by
    simp at e
    obtain ⟨n, t, b, x, y⟩ := r.at_ i k v e
    exact ⟨n, t, b, by simpa using x, y⟩
theorem KPs.get {H : Hp} {n : List Nat} {t b : Int} : ∀ {kvs ps}, KPs H kvs ps → (ps.map (·.1)).Nodup → (n, t, b) ∈ ps → ∃ q, valV kvs (.inr (ofL n)) = some (.ref q) ∧ H q = some (.tup [.int t, .int b])
  | _, _, .nil, _, z => nomatch z
  | _, _, .cons (q := q) (k := m) (t := t2) (b := b2) (ps := ps) e r, nd, z => by
    rw [List.map_cons, List.nodup_cons] at nd
    rcases List.mem_cons.mp z with z | z
    · cases z
      exact ⟨q, valV_pos (p := ((Sum.inr (ofL n) : Key), V.ref q)) rfl, e⟩
    · obtain ⟨q2, v2, e2⟩ := r.get nd.2 z
      refine ⟨q2, ?_, e2⟩
      rw [valV_neg (by intro y; exact nd.1 (List.mem_map.mpr ⟨_, z, (ofL_inj (Sum.inr.inj y)).symm⟩))]
      exact v2
end HX

set_option Elab.async false
set_option linter.all false
set_option maxRecDepth 100000
set_option maxHeartbeats 2000000
namespace HX
open PySem PySem.Spec PyProof.Rows L2

/-! ### a dict's comprehension over any walk -/
section
variable {J : It} {n : Nat} {G : Hp → Prop} {Y : Nat → Hp → V → Hp → Prop}
theorem dc_it (wk : Walk J n G Y) {g : TG} {tt : TT} {tk tv : TE} {vs : List Nat} {σ : L2.St} {H1 : Hp} {D : Addr} {Fin : Hp → Prop} (Pv : Nat → Hp → Prop) (h0 : Pv 0 (upd H1 D (.dK []))) (hG : ∀ i H, i ≤ n → Pv i H → G H)
    (hs : ∀ i x H H', i < n → Pv i H → Y i H x H' → g x (wipe σ vs) H' fun σ2 H2 => wipe σ2 vs = wipe σ vs ∧ tt σ2 H2 fun b H3 =>
      if b = true then tk σ2 H3 fun y H4 => tv σ2 H4 fun z H5 => ∃ kvs k, y = kV k ∧ H5 D = some (.dK kvs) ∧ kvs.length < sizeLine ∧ Pv (i + 1) (upd H5 D (.dK (putK kvs k z))) else Pv (i + 1) H3) (hd : ∀ H, Pv n H → Fin H) :
    ∃ W : Nat → Nat → Hp → Prop, (∃ m, W 0 m (upd H1 D (.dK []))) ∧ ∀ i m H, W i m H →
      (J.stop i H ∧ Fin H) ∨ (J.go i H ∧ ∃ Nx : Hp → Prop, (∀ H', Nx H' → ∃ m', m' < m ∧ W (i + 1) m' H') ∧ ∀ x H', J.yld i H x H' → g x (wipe σ vs) H' fun σ2 H2 => wipe σ2 vs = wipe σ vs ∧ tt σ2 H2 fun b H3 =>
        if b = true then tk σ2 H3 fun y H4 => tv σ2 H4 fun z H5 => ∃ kvs k, y = kV k ∧ H5 D = some (.dK kvs) ∧ kvs.length < sizeLine ∧ Nx (upd H5 D (.dK (putK kvs k z))) else Nx H3) := by
  refine ⟨fun i left H => left + i = n ∧ Pv i H, ⟨n, rfl, h0⟩, ?_⟩
  rintro i left H ⟨sum, pv⟩
  have le : i ≤ n := by omega
  have st := hG i H le pv
  rcases Nat.lt_or_ge i n with lt | ge
  · exact .inr ⟨wk.goes i H lt st, Pv (i + 1), fun H' p' => ⟨left - 1, by omega, by omega, p'⟩, fun x H' y => hs i x H H' lt pv (wk.yields i H x H' lt st y)⟩
  · have e : i = n := Nat.le_antisymm le ge
    subst e
    exact .inl ⟨wk.stops H st, hd H pv⟩
end
/-! ### dicts of Amounts, by their names: what a dict told holds -/
/-- R says what stands under a name -/
inductive KRs (R : V → Int → Int → Prop) : List (Key × V) → List (List Nat × Int × Int) → Prop
  | nil : KRs R [] []
  | cons {v : V} {k : List Nat} {t b : Int} {kvs : List (Key × V)} {ps : List (List Nat × Int × Int)} : R v t b → KRs R kvs ps → KRs R ((.inr (ofL k), v) :: kvs) ((k, t, b) :: ps)
section
variable {R S : V → Int → Int → Prop}
theorem KRs.mo (s : ∀ v t b, R v t b → S v t b) : ∀ {kvs ps}, KRs R kvs ps → KRs S kvs ps
  | _, _, .nil => .nil
  | _, _, .cons e r => .cons (s _ _ _ e) (r.mo s)
theorem KRs.snoc {v : V} {k : List Nat} {t b : Int} (e : R v t b) : ∀ {kvs ps}, KRs R kvs ps → KRs R (kvs ++ [(.inr (ofL k), v)]) (ps ++ [(k, t, b)])
  | _, _, .nil => .cons e .nil
  | _, _, .cons e2 r => .cons e2 (r.snoc e)
theorem KRs.len : ∀ {kvs ps}, KRs R kvs ps → kvs.length = ps.length
  | _, _, .nil => rfl
  | _, _, .cons _ r => by rw [List.length_cons, List.length_cons, r.len]
theorem KRs.keys : ∀ {kvs ps}, KRs R kvs ps → kvs.map (·.1) = (ps.map (·.1)).map fun k => (Sum.inr (ofL k) : Key)
  | _, _, .nil => rfl
  | _, _, .cons _ r => by rw [List.map_cons, List.map_cons, List.map_cons, r.keys]
theorem KRs.out {k : List Nat} : ∀ {kvs ps}, KRs R kvs ps → (∀ p ∈ ps, p.1 ≠ k) → valV kvs (.inr (ofL k)) = none
  | _, _, .nil, _ => rfl
  | _, _, .cons e r, n => by
    rw [valV_neg (by intro z; exact n _ (List.mem_cons_self ..) (ofL_inj (Sum.inr.inj z)))]
    exact r.out fun p hp => n p (List.mem_cons_of_mem _ hp)
theorem KRs.get {n : List Nat} {t b : Int} : ∀ {kvs ps}, KRs R kvs ps → (ps.map (·.1)).Nodup → (n, t, b) ∈ ps → ∃ v, valV kvs (.inr (ofL n)) = some v ∧ R v t b
  | _, _, .nil, _, z => nomatch z
  | _, _, .cons (v := v) e r, nd, z => by
    rw [List.map_cons, List.nodup_cons] at nd
    rcases List.mem_cons.mp z with z | z
    · cases z
      exact ⟨v, valV_pos (p := ((Sum.inr (ofL n) : Key), v)) rfl, e⟩
    · obtain ⟨u, u1, u2⟩ := r.get nd.2 z
      refine ⟨u, ?_, u2⟩
      rw [valV_neg (by intro y; exact nd.1 (List.mem_map.mpr ⟨_, z, (ofL_inj (Sum.inr.inj y)).symm⟩))]
      exact u1
theorem KRs.at_ : ∀ {kvs ps}, KRs R kvs ps → ∀ (i : Nat) (k : Key) (v : V), kvs[i]? = some (k, v) → ∃ n t b, ps[i]? = some (n, t, b) ∧ k = .inr (ofL n) ∧ R v t b
  | _, _, .nil, i, k, v, e => by simp at e
  | _, _, .cons (v := u) (k := n) (t := t) (b := b) x _, 0, k, v, e => by
    simp at e
    obtain ⟨rfl, rfl⟩ := e
    exact ⟨n, t, b, rfl, rfl, x⟩
  | _, _, .cons _ r, i + 1, k, v, e => by
    simp at e
    obtain ⟨n, t, b, x, y, z⟩ := r.at_ i k v e
    exact ⟨n, t, b, by simpa using x, y, z⟩
end
end HX

set_option Elab.async false
set_option linter.all false
set_option maxRecDepth 100000
set_option maxHeartbeats 2000000
namespace HX
open PySem PySem.Spec PyProof.Rows L2

/-! ### name = {.. for ..} on one line, the name a local -/
section
variable {X : Cx} {i : Nat} {y : Str} {py : Pos} {kx vx tg iter : Expr} {ifs : List Expr} {scope : Scope} {own : List (Str × Nat)} {pos spos : Pos} {wi : TI} {g : TG} {tt : TT} {tk tv : TE}
/-- of every block that a comprehension of that scope opens in X -/
abbrev InBlk (X : Cx) (scope : Scope) (R : Cx → Prop) : Prop := ∀ (s : Shared) (H : Hp) (C : Addr) (cl : List (Str × Addr)) (fp : List Addr), R (X.blk s H scope (compEnvC scope cl C X.env) fp)
theorem sw_trueD {gs : List Comprehension} {l : Nat} {env : Env} (fk : env.scope.kind = .function) (ly : env.scope.names.lookup y = some .local) (ln : (py.line == pos.line) = true)
    (no : (scope.names.any fun (n, k) => n == y && (k == .local || k == .cell)) = false) : swapsWith (.DictComp kx vx gs scope pos) (some (.Name y py)) l env = pure true := by
  unfold swapsWith
  simp only [show env.kindOf y = some .local from ly, show env.blockKind = .function by unfold Env.blockKind; rw [fk]; rfl, no, Expr.pos, ln]
  rfl
theorem ps_setDc (hc : X.calm = true) (hN : X.N.Nodup) (hy : X.N[i]? = some y) (hyl : X.env.scope.names.lookup y = some .local)
    (sw : swapsWith (.DictComp kx vx [⟨tg, iter, ifs, 0⟩] scope pos) (some (.Name y py)) spos.line X.env = pure true) (pi : PI X tg iter wi) (ok : BlkOk X.N X.env.scope scope own)
    (bg : InBlk X scope fun B => PG B tg g) (bt : InBlk X scope fun B => PTs B ifs tt) (bk : InBlk X scope fun B => PE B kx tk) (bv : InBlk X scope fun B => PE B vx tv)
    (fs : ∀ x, foldedSetIterable iter X.env x = pure x := by intro _; rfl) :
    PS X (.Assign [.Name y py] (.DictComp kx vx [⟨tg, iter, ifs, 0⟩] scope pos) spos) (tAsg (tDc wi g tt tk tv (own.map (·.2))) (gName i)) := by
  refine ⟨fun pins s σ H D I want => ?_⟩
  have want : tDc wi g tt tk tv (own.map (·.2)) σ H (fun v G => gName i v σ G D.nx) := want
  have run := dc_core (pos := pos) (Qf := fun _ s' => SP X pins D .next s') (pos' := firstIterPos [⟨tg, iter, ifs, 0⟩] pos) (use := some (assign (.Name y py) X.env)) hc hN I pi ok bg bt bk bv fs want fun L C s' m G J q hn apart => by
    refine wpAny_assign_Name (store_ok2 (v := V.ref L) J hN hy (.inl hyl) rfl (fun s2 J2 ⟨cell, sb, at_⟩ => ?_) (.inr hyl))
    obtain ⟨a0, a1, a2, a3, a4, a5⟩ := apart
    have ne : C ≠ cell := at_.elim (fun z => by rw [z]; exact a1) fun z e => a4 y cell z e.symm
    exact ⟨m, hn.sameBut sb ne, fun h3 sb3 => ⟨_, G, J2.turned (t' := s2.toks) (fun b o hb e => (sb3.2 b hb).trans e) a0 a1 a3 a4 a5, q⟩⟩
  rw [exec_Assign_Name_used (hs := sw)]
  exact wpAny_bind (wpAny_standAt (wpAny_bind (wpAny_bind (thn run fun _ s' z => wpAny_pure (wpAny_pure z)))))
end
end HX

set_option Elab.async false
set_option linter.all false
set_option maxRecDepth 100000
set_option maxHeartbeats 2000000
/-! ### == of two dicts whose values have an own __eq__ -/
namespace PySem
namespace HXD
open W PySem.Spec PySem.Calls PyProof.Rows PyProof.V
section
variable {prog : Program} {w : World} {K : Type} [DecidableEq K] {knd : KeyKind prog w K} {A : Around} {E : Value → Shared → Prop}
/-- the pairs of one dict, looked for in another one; R tells what == of two values gives -/
inductive Hits (R : Value → Value → Bool → Prop) (kb : List (K × Value)) : List (K × Value) → Bool → Prop
  | nil : Hits R kb [] true
  | miss {k : K} {v : Value} {r : List (K × Value)} : valueAt kb k = none → Hits R kb ((k, v) :: r) false
  | hit {k : K} {v y : Value} {r : List (K × Value)} {e z : Bool} : valueAt kb k = some y → R v y e → Hits R kb r z → Hits R kb ((k, v) :: r) (e && z)
variable {R : Value → Value → Bool → Prop} {J : Shared → Prop} {a b : Addr} {ka kb : List (K × Value)} {oa ob : Obj} {r : Bool}
theorem pairsJ {nm : String} {Q : Bool → Shared → Prop} (la : (a == sysModules) = false) (lb : (b == sysModules) = false) (hJ : ∀ s, J s → s.heap.get? a = some oa ∧ s.heap.get? b = some ob) (da : oa.IsDictOf knd ka) (db : ob.IsDictOf knd kb)
    (turn : ∀ v y e, R v y e → ∀ s, J s → wpAny (model prog w) A (eqBool v y) (fun z s' => z = e ∧ J s') E s) (hits : ka.length = kb.length → Hits R kb ka r) (fin : ∀ s, J s → Q (ka.length == kb.length && r) s) {s : Shared} (j : J s) :
    wpAny (model prog w) A (Builtin.Dict.samePairs nm a b) Q E s := by
  obtain ⟨es, ep, _, hda, hka, hpa, _⟩ := da
  obtain ⟨fs, fp, _, hdb, hkb, hpb, _⟩ := db
  have na : ka.length = es.size := hpa.length.symm.trans Array.length_toList
  have nb : kb.length = fs.size := hpb.length.symm.trans Array.length_toList
  have look : ∀ k, findBy knd.is fs k = valueAt kb k := fun k => (show findBy knd.is fs k = _ by cases fs; simp [findBy]).trans (hpb.find k)
  unfold Builtin.Dict.samePairs Builtin.Dict.showsAll
  rw [if_neg (by rw [la]; exact Bool.false_ne_true : ¬ (a == sysModules) = true), if_neg (by rw [lb]; exact Bool.false_ne_true : ¬ (b == sysModules) = true)]
  refine wpAny_bind (wpAny_pure (wpAny_bind (wpAny_pure (wpAny_bind (wpAny_dictEntries (hJ s j).1 hda ?_)))))
  refine wpAny_bind (wpAny_dictEntries (hJ s j).2 hdb ?_)
  by_cases sz : es.size = fs.size
  · have fin2 : ∀ s2, J s2 → Q r s2 := fun s2 j2 => by
      have := fin s2 j2
      rwa [show (ka.length == kb.length) = true by rw [na, nb, sz]; exact beq_self_eq_true _, Bool.true_and] at this
    have hh := hits (by omega)
    rw [if_neg (by rw [sz]; simp)]
    refine wpAny_bind (wpAny_dictEpoch (hJ s j).1 hda (wpAny_bind ?_))
    (rw [Std.Legacy.Range.forIn_eq_forIn_range']; simp only [Std.Legacy.Range.size, Nat.sub_zero, Nat.add_sub_cancel, Nat.div_one])
    refine wpAny_forIn_list _ (fun rest q s' => J s' ∧ q = (none, ()) ∧ ∃ i, rest = List.range' i (es.size - i) ∧ i ≤ es.size ∧ Hits R kb (ka.drop i) r) _ ?_ ?_ _ _ ⟨j, rfl, 0, by simp, Nat.zero_le _, hh⟩
    · rintro x rest q s1 ⟨j1, rfl, i, e1, le, h1⟩
      have lt : i < es.size := by
        by_cases z : i < es.size
        · exact z
        · rw [show es.size - i = 0 by omega] at e1
          cases e1
      rw [show es.size - i = (es.size - (i + 1)) + 1 by omega, List.range'_succ] at e1
      obtain ⟨rfl, er⟩ := List.cons.inj e1
      have lk : x < ka.length := by omega
      have lt2 : x < es.toList.length := by rw [Array.length_toList]; exact lt
      refine wpAny_bind (wpAny_dictEntries (hJ s1 j1).1 hda ?_)
      rw [Array.getElem?_eq_getElem lt]
      obtain ⟨p1, p2⟩ := hpa.get? (i := x) (e := es[x]) (k := ka[x].1) (v := ka[x].2) (by rw [Array.getElem?_toList]; exact Array.getElem?_eq_getElem lt) (List.getElem?_eq_getElem lk)
      have dr : ka.drop x = (ka[x].1, ka[x].2) :: ka.drop (x + 1) := List.drop_eq_getElem_cons lk
      generalize ka[x].1 = k at p1 dr
      generalize ka[x].2 = v at p2 dr
      obtain ⟨k2, p3, hold⟩ := hka es[x] (Array.getElem_mem lt)
      cases knd.inj _ _ _ p3 p1
      show wpAny _ _ (holding [es[x].key, es[x].val] _ >>= _) _ _ _
      rw [hold]
      refine wpAny_bind (wpAny_holding (wpAny_bind (wpAny_dictFind_of p1 (hJ s1 j1).2 hdb hkb ?_)))
      rw [dr] at h1
      have lk2 := look k
      rw [findBy_of_findIdx?] at lk2
      cases hj : fs.findIdx? fun e => knd.is k e.key with
      | none =>
        rw [hj] at lk2
        have lk2 : none = valueAt kb k := lk2
        refine wpAny_pure ?_
        show wpAny _ _ (if (!false) = true then _ else _) _ _ _
        rw [if_pos (show (!false) = true from by decide)]
        refine wpAny_pure (wpAny_pure ?_)
        cases h1 with
        | miss _ => exact fin2 s1 j1
        | hit e _ _ => rw [← lk2] at e; cases e
      | some n =>
        obtain ⟨hn, _, _⟩ := Array.findIdx?_eq_some_iff_getElem.mp hj
        rw [hj] at lk2
        have lk2 : some fs[n].val = valueAt kb k := by simpa [Array.getElem?_eq_getElem hn] using lk2
        refine wpAny_bind (wpAny_dictEntries (hJ s1 j1).2 hdb ?_)
        rw [Array.getElem?_eq_getElem hn]
        cases h1 with
        | miss e => rw [← lk2] at e; cases e
        | @hit _ _ y _ e z ey hR h2 =>
          rw [← lk2] at ey
          cases ey
          rw [← p2] at hR
          refine wpAny_holding (wpAny_mono (turn _ _ _ hR s1 j1) (fun c s2 hc => ?_) fun _ _ z => z)
          obtain ⟨rfl, j2⟩ := hc
          cases c with
          | false =>
            show wpAny _ _ (if (!false) = true then _ else _) _ _ _
            rw [if_pos (show (!false) = true from by decide)]
            exact wpAny_pure (wpAny_pure (by have := fin2 s2 j2; rwa [Bool.false_and] at this))
          | true =>
            show wpAny _ _ (if (!true) = true then _ else _) _ _ _
            rw [if_neg (by decide)]
            refine wpAny_bind (wpAny_dictEpoch (hJ s2 j2).1 hda ?_)
            rw [if_neg (by simp)]
            rw [Bool.true_and]
            exact wpAny_pure ⟨j2, rfl, x + 1, er, lt, h2⟩
    · rintro q s1 ⟨j1, rfl, i, e1, le, h1⟩
      have ie : i = es.size := by
        by_cases z : i < es.size
        · rw [show es.size - i = (es.size - (i + 1)) + 1 by omega, List.range'_succ] at e1
          cases e1
        · omega
      rw [ie, ← na, List.drop_length] at h1
      cases h1
      exact wpAny_pure (fin2 s1 j1)
  · rw [if_pos (by simpa using sz)]
    refine wpAny_bind (wpAny_rule (wpAny_pure ?_))
    have := fin s j
    rwa [show (ka.length == kb.length) = false by rw [na, nb]; simpa using sz, Bool.false_and] at this
theorem dictsJ {Q : Value → Shared → Prop} (la : (a == sysModules) = false) (lb : (b == sysModules) = false) (hJ : ∀ s, J s → s.heap.get? a = some oa ∧ s.heap.get? b = some ob) (da : oa.IsDictOf knd ka) (db : ob.IsDictOf knd kb) (hu : A.units < cLine)
    (turn : ∀ v y e, R v y e → ∀ s, J s → wpAny (model prog w) A.in1 (eqBool v y) (fun z s' => z = e ∧ J s') E s) (hits : ka.length = kb.length → Hits R kb ka r) (fin : ∀ s, J s → Q (.bool (ka.length == kb.length && r)) s) {s : Shared} (j : J s) :
    wpAny (model prog w) A (compareOp .Eq (.ref a) (.ref b)) Q E s := by
  have ta : s.heap.DictOf knd a ka := Heap.dictOf_iff.mpr ⟨oa, (hJ s j).1, da⟩
  have tb : s.heap.DictOf knd b kb := Heap.dictOf_iff.mpr ⟨ob, (hJ s j).2, db⟩
  refine wpAny_richCompare_same_room (op := .Eq) ta.typeIs tb.typeIs F.slot_dict_eq (wpAny_call_entry F.slot_dict_eq ta.typeIs F.entry_dict_eq ?_ (F.args_dict_eq_2 _ _)) hu
  show wpAny _ _ (Builtin.Dict.dictSlotArgs "__eq__" ⟨[.ref a, .ref b], []⟩ >>= _) _ _ s
  unfold Builtin.Dict.dictSlotArgs
  refine wpAny_bind (wpAny_bind (wpAny_notOrdered_dict ta.typeIs ?_))
  show wpAny _ _ (pure (Value.ref a, Value.ref b)) _ _ s
  refine wpAny_pure (wpAny_bind (wpAny_isInstance (T := "dict") tb.typeIs F.sub_dict_dict ?_))
  simp only [Bool.not_true, Bool.false_eq_true, if_false]
  refine wpAny_bind (wpAny_pure (wpAny_bind (wpAny_pure (wpAny_bind (pairsJ la lb hJ da db turn hits (fun s2 j2 => wpAny_pure ⟨_, rfl, (fun x => nomatch x), ?_⟩) j)))))
  simpa using fin s2 j2
end
end HXD
end PySem
namespace HX
open PySem PySem.Spec PyProof.Rows L2
/-- the values of one dict against those of another; e is what their own __eq__ says -/
inductive DHits (R : Addr → Addr → Bool → Prop) (kb : List (Key × V)) : List (Key × V) → Bool → Prop
  | nil : DHits R kb [] true
  | miss {k : Key} {v : V} {r : List (Key × V)} : valV kb k = none → DHits R kb ((k, v) :: r) false
  | hit {k : Key} {c d : Addr} {r : List (Key × V)} {e z : Bool} : valV kb k = some (.ref d) → R c d e → DHits R kb r z → DHits R kb ((k, .ref c) :: r) (e && z)
/-- what == of two own instances says wherever all but the two dicts stands as in H -/
def EqAtO (C : Addr) (sp : Sp) (E : XK) (H : Hp) (a b : Addr) (c d : Addr) (e : Bool) : Prop := (c = d → e = true) ∧ ∀ G : Hp, (∀ p o, p ≠ a → p ≠ b → H p = some o → G p = some o) → IsI C G c ∧ IsI C G d ∧ sp [.ref c, .ref d] G (fun z G2 => z = .bl e ∧ Same G G2) E
def rEqDO (C : Addr) (sp : Sp) (E : XK) : L2.R2 := fun x y H Q => ∃ (a b : Addr) (ka kb : List (Key × V)) (r : Bool), x = .ref a ∧ y = .ref b ∧ a ≠ b ∧ H a = some (.dK ka) ∧ H b = some (.dK kb) ∧ (ka.length = kb.length → DHits (EqAtO C sp E H a b) kb ka r) ∧ ∀ G, Same H G → Q (.bl (decide (ka.length = kb.length) && r)) G
section
variable {X : Cx} {C f : Addr} {fd : FuncData} {ps : List Str} {sp : Sp} {CY : CXT} {k : Nat} {E : XK}
theorem DHits.low {R : Addr → Addr → Bool → Prop} {kb : List (Key × V)} {vb : List (Key × Value)} (rb : KV kb vb) : ∀ {ka : List (Key × V)} {va : List (Key × Value)} {z : Bool}, DHits R kb ka z → KV ka va → PySem.HXD.Hits (fun v y e => ∃ c d, v = .ref c ∧ y = .ref d ∧ R c d e) vb va z
  | _, _, _, .nil, .nil => .nil
  | _, _, _, .miss (k := k) e, .cons (b := (k2, v2)) ⟨e1, _⟩ _ => by
    cases e1
    exact .miss (RelO.none_of (by rw [← e]; exact rb.val k))
  | _, _, _, .hit (k := k) (c := c) (d := d) e hR t, .cons (b := (k2, v2)) ⟨e1, e2⟩ q => by
    cases e1
    cases e2
    obtain ⟨u, hu, ru⟩ := RelO.some_of (v := .ref d) (o := valueAt vb k) (by rw [← e]; exact rb.val k)
    cases ru
    exact .hit hu ⟨c, d, rfl, rfl, hR⟩ (t.low rb q)
theorem op_eqDO (hs : PySem.W.findIn X.K (.ref C) "__eq__" = some (some (.ref f))) (hf : PySem.W.isFn X.K (.ref f) = true) (Fi : FnOk X.prog X.w X.K X.mg X.base CY k f fd ps sp) (bd : Binds X.K fd ps []) (hr : Room (k + 1) X.A) (hx : Passes CY X E) :
    OpR X (compareOp .Eq) (rEqDO C sp E) := by
  intro pins s σ H x y v u Q I rx ry h
  obtain ⟨a, b, ka, kb, r, rfl, rfl, ab, ea, eb, hits, q⟩ := h
  cases rx
  cases ry
  obtain ⟨oa, I1⟩ := I.lock ea trivial
  obtain ⟨ob, I2⟩ := I1.lock (d := b) (u := .dK kb) (by rw [upd_ne (Ne.symm ab)]; exact eb) trivial
  generalize hL : upd (upd H a (.frz oa (.dK ka))) b (.frz ob (.dK kb)) = L at I2
  have La : L a = some (.frz oa (.dK ka)) := by rw [← hL, upd_ne ab, upd_same]
  have Lb : L b = some (.frz ob (.dK kb)) := by rw [← hL, upd_same]
  obtain ⟨ga, _, na, va, ra, da⟩ := (show ObjOk X.prog X.w L s.heap a (.frz oa (.dK ka)) from I2.hok a _ La)
  obtain ⟨gb, _, nb, vb, rb, db⟩ := (show ObjOk X.prog X.w L s.heap b (.frz ob (.dK kb)) from I2.hok b _ Lb)
  obtain ⟨oa2, g2, da⟩ := Heap.dictOf_iff.mp da
  rw [ga] at g2
  cases g2
  obtain ⟨ob2, g2, db⟩ := Heap.dictOf_iff.mp db
  rw [gb] at g2
  cases g2
  have l1 : ka.length = va.length := ra.length
  have l2 : kb.length = vb.length := rb.length
  refine PySem.HXD.dictsJ (J := fun s' => ∃ G, Inv X pins σ G s' ∧ Same L G) (R := fun v y e => ∃ c d, v = .ref c ∧ y = .ref d ∧ EqAtO C sp E H a b c d e) na nb (fun s' ⟨G, J, sm⟩ => ⟨?_, ?_⟩) da db hr.units0 ?_ (fun e => (hits (by omega)).low rb ra) ?_ ⟨L, I2, Same.refl L⟩
  · exact (show ObjOk X.prog X.w G s'.heap a (.frz oa (.dK ka)) from J.hok a _ (sm _ _ La)).1
  · exact (show ObjOk X.prog X.w G s'.heap b (.frz ob (.dK kb)) from J.hok b _ (sm _ _ Lb)).1
  · rintro v y e ⟨c, d, rfl, rfl, h1, h2⟩ s' ⟨G, J, sm⟩
    by_cases cd : c = d
    · subst cd
      unfold eqBool
      refine wpAny_holding ?_
      refine wpAny_ite_split (fun _ => wpAny_bind (wpAny_rule (wpAny_pure ?_))) (fun hab => absurd (beq_self_eq_true _) hab)
      exact ⟨(h1 rfl).symm, G, J, sm⟩
    · obtain ⟨i1, i2, z⟩ := h2 G fun p o n1 n2 e => sm p o (by rw [← hL, upd_ne n2, upd_ne n1]; exact e)
      obtain ⟨dx, od, Ja, _⟩ := inst_at J i1
      obtain ⟨dy, od2, Jb, _⟩ := inst_at J i2
      refine GQ.eqBool_refG cd (PySem.HXC.cmE hr.in1.units0 J.kIn Ja Jb hs hf (wpAny_mono (run_at Fi bd hr.in1 J.env0.in1 hx J (show Vals [V.ref c, V.ref d] [Value.ref c, Value.ref d] from .cons rfl (.cons rfl .nil)) z) (fun u s2 h => ?_) fun _ _ z => z))
      obtain ⟨v, G2, J2, rv, rfl, sm2⟩ := h
      cases (show u = Value.bool e from rv)
      exact ⟨e, rfl, rfl, G2, J2, sm.trans sm2⟩
  · rintro s' ⟨G, J, sm⟩
    have Gb := sm _ _ Lb
    have J1 := J.unlock Gb (I1.nofrz (d := b) (u := .dK kb) (by rw [upd_ne (Ne.symm ab)]; exact eb) trivial)
    have J0 := J1.unlock (d := a) (od := oa) (u := .dK ka) (by rw [upd_ne ab]; exact sm _ _ La) (I.nofrz ea trivial)
    refine ⟨_, _, J0, ?_, q _ fun p o e => ?_⟩
    · show _ = _
      rw [l1, l2]
      congr 1
    · by_cases pa : p = a
      · rw [pa] at e ⊢
        rw [ea] at e
        cases e
        exact upd_same
      · rw [upd_ne pa]
        by_cases pb : p = b
        · rw [pb] at e ⊢
          rw [eb] at e
          cases e
          exact upd_same
        · rw [upd_ne pb]
          exact sm p o (by rw [← hL, upd_ne pb, upd_ne pa]; exact e)
end
end HX

set_option Elab.async false
set_option linter.all false
set_option maxRecDepth 100000
set_option maxHeartbeats 2000000
/-! ### tuple(d) of a dict -/
namespace PySem
namespace HXD
open W PySem.Spec PySem.Calls PyProof.Rows PyProof.V
section
variable {prog : Program} {w : World} {A : Around} {E : Value → Shared → Prop} {s : Shared} {r : Addr} {n : Nat} {P : Nat → Value → Prop} {OK : Heap → Prop}
theorem new_tupD {Q : Value → Shared → Prop} (S : KdlSrc prog w "dict" r r n P OK) (hh : A.handled = none) (ok : OK s.heap) (hn : n ≤ sizeLine)
    (h : ∀ (h' : Heap) (tk : Nat) (acc : Array Value), (∀ b o, s.heap.get? b = some o → h'.get? b = some o) → ItemsOf P acc n → Q (.ref h'.objs.size) { s with heap := h'.push { cls := .type "tuple", data := .seq acc }, toks := tk }) :
    wpAny (model prog w) A (call (.type "tuple") [.ref r]) Q E s := by
  refine callType_codes (Q₁ := fun obj s₁ => s₁.TypeIs obj "tuple" ∧ Q obj s₁) F.called_tuple (F.typeCall_tuple_1 _) F.entry_object_init (codeAny_of_tree ?_) fun obj s1 z => ⟨z.1, F.args_object_init_2 obj _, object_init_meets F.called_tuple.init.lookup F.called_tuple.made (by decide) prog w A.in1 _ s1 ⟨z.1, rfl, z.2⟩⟩
  show wpAny _ A.in1.in1 (do checkBuiltinCall "tuple.__new__" ⟨[.type "tuple", .ref r], []⟩; again (.builtin "tuple.__new__" ⟨[.type "tuple", .ref r], []⟩)) _ _ s
  refine wpAny_bind (wpAny_of_eq (F.newCall_tuple_1 _) (wpAny_pure ⟨plainId_quiet F.plain_tuple_new _, codeAny_builtin F.entry_tuple_new ?_⟩))
  rw [Around.under_plainId F.plain_tuple_new _]
  have f1 := sub_tuple_self
  have f2 := init_tuple_lookup
  have f3 := madeHere_tuple
  have ty := S.type s ok
  wp_walk using wpAny_typeOf ty, kdu_collect (A := A.in1.in1) S hh ok hn
  intro h' tk acc hk ia
  show wpAny _ _ (Builtin.Tuple.tupleExact acc.toList.toArray >>= fun v => ret v) _ _ _
  unfold Builtin.Tuple.tupleExact
  have ea : acc.toList.toArray = acc := by simp
  refine wpAny_bind (wpAny_newObj_type ?_ (by show acc.toList.toArray.size ≤ sizeLine; rw [ea, ia.1]; exact hn))
  rw [ea]
  exact wpAny_pure ⟨⟨_, Heap.get?_push_size _ rfl, rfl⟩, h h' tk acc hk ia⟩
end
end HXD
end PySem
namespace HX
open PySem PySem.Spec PyProof.Rows L2
section
variable {X : Cx} {C f : Addr} {fd : FuncData} {ps : List Str} {sp : Sp} {CY : CXT} {k : Nat} {E : XK}
def rTupD : List V → Hp → VK → Prop := fun xs H Q => ∃ p kvs, xs = [.ref p] ∧ H p = some (.dK kvs) ∧ ∀ q, H q = none → Q (.ref q) (upd H q (.tup (kvs.map fun kv => kV kv.1)))
theorem call_tuple_dK (hc : X.calm = true) : CallR X (.type "tuple") rTupD := by
  intro pins s σ H xs us Q I r h
  obtain ⟨p, kvs, rfl, hp, q⟩ := h
  obtain ⟨u, rfl, rx⟩ := vals1 r
  obtain rfl : u = Value.ref p := rx
  obtain ⟨z, lo, vs, rk, hd⟩ := (show ObjOk X.prog X.w H s.heap p (.dK kvs) from I.hok p _ hp)
  obtain ⟨ep, dat⟩ := hd.dictAt
  have hl : kvs.length = vs.length := Paired.length rk
  refine PySem.HXD.new_tupD (PySem.W.kdl_dict (knd := mixKind X.prog X.w) (kvs := vs) (ep := ep) lo) (I.ok.hd hc) dat (by omega) fun h' tk acc hk ia => ?_
  have n1 : acc.size = vs.length := ia.1
  have I1 : L2.Inv X pins σ H { s with heap := h' } := I.kept (t' := s.toks) hk
  refine ⟨.ref h'.objs.size, upd H h'.objs.size (.tup (kvs.map fun kv => kV kv.1)), I1.laid (t' := tk) (fun b o e => Heap.get?_push_of_some _ e) (Nat.le_refl _) (show ObjOk X.prog X.w _ _ _ (.tup (kvs.map fun kv => kV kv.1)) from ⟨by rw [List.length_map]; exact z, acc.toList, vals_of_at (by rw [List.length_map]; exact hl.trans (n1.symm.trans Array.length_toList.symm)) fun j x w h1 h2 => ?_, ?_⟩), rfl, q _ (I1.hok.fresh (Nat.le_refl _))⟩
  · obtain ⟨ky, y, hky, hi⟩ := ia.2 j w (by rw [← Array.getElem?_toList]; exact h2)
    have e1 : (kvs.map (·.1))[j]? = some ky := by rw [KV.keys rk, List.getElem?_map, hky]; rfl
    have e2 : (kvs.map fun kv => kV kv.1) = (kvs.map (·.1)).map kV := by rw [List.map_map]; rfl
    rw [e2, List.getElem?_map, e1] at h1
    cases h1
    exact keyIs_rel hi
  · have e3 : acc.toList.toArray = acc := by simp
    rw [e3]
    exact IsTup.new _ _
/-- {x} of an own instance with an own __str__ -/
def tFmtO (C : Addr) (sp : Sp) (E : XK) (te : TE) : TE := fun σ H Q => te σ H fun x G => ∃ a, x = .ref a ∧ IsI C G a ∧ sp [.ref a] G (fun v G2 => ∃ z, v = .str z ∧ Q v G2) E
theorem pe_fmtO {e : Expr} {te : TE} {pos : Pos} (hfm : PySem.W.findIn X.K (.ref C) "__format__" = some (some (.builtin "object.__format__"))) (hm : PySem.W.mroIn X.K C (.type "object") = some true) (hs : PySem.W.findIn X.K (.ref C) "__str__" = some (some (.ref f))) (hf : PySem.W.isFn X.K (.ref f) = true)
    (Fi : FnOk X.prog X.w X.K X.mg X.base CY k f fd ps sp) (b : Binds X.K fd ps []) (hr : Room (k + 1) X.A) (hx : Passes CY X E) (he : PE X e te) : PE X (.FormattedValue e (-1) none pos) (tFmtO C sp E te) := by
  refine ⟨fun pins s σ H Q I h => wpAny_FormattedValue_plain (thn (he.run pins s σ H _ I h) fun v s1 ⟨x, G, I1, r1, a, ex, i1, z⟩ => ?_)⟩
  subst ex
  cases r1
  obtain ⟨dx, od, J, ho⟩ := inst_at I1 i1
  refine PySem.W.kfo_fieldS hr.in1.units0 I1.kIn J hfm hm hs hf (wpAny_mono (run_at Fi b hr.in1 (I1.tok _).env0.in1 hx (I1.tok _) (show Vals [V.ref a] [Value.ref a] from .cons rfl .nil) z) (fun u s2 h => ?_) fun _ _ z => z)
  obtain ⟨v, G2, J2, rv, y, rfl, qz⟩ := h
  obtain ⟨t, rfl⟩ := (show ∃ t, u = Value.str y t from rv)
  exact ⟨.str y, G2, J2, ⟨t, rfl⟩, qz⟩
end
end HX

set_option Elab.async false
set_option linter.all false
set_option maxRecDepth 100000
set_option maxHeartbeats 2000000
namespace HX
open PySem PySem.Spec PyProof.Rows L2
/-! ### a class that a local name holds, made of nothing -/
theorem pe_makeL0 {X : Cx} {CY : CXT} {C f : Addr} {k i : Nat} {fd : FuncData} {ps : List Str} {sp : Sp} {ds : List Value} {dvs : List V} {E : XK} {x : Str} {p pos : Pos} (M : Mk X.K C f) (F : FnOk X.prog X.w X.K X.mg X.base CY k f fd ps sp) (hr : Room (k + 1) X.A) (hb : Binds X.K fd ps ds) (hd : Vals dvs ds) (hx : Passes CY X E)
    (hN : X.N[i]? = some x := by rfl) (hv : Vis X.env.scope x := by first | exact Or.inl rfl | exact Or.inr (Or.inl rfl) | exact Or.inr (Or.inr rfl)) (hdb : (x == ("__debug__" : Str)) = false := by decide) (hcd : (x == ("__classdict__" : Str)) = false := by decide) :
    PE X (.Call (.Name x p) [] [] pos) (tMakeL i C sp dvs E tNil) := by
  refine ⟨fun pins s σ H Q I h => wpAny_Call_Name_kw (thn ((pe_var hN hv hdb hcd).run pins s σ H (fun v G => v = .ref C ∧ G = H) I ⟨_, h.1, rfl, rfl⟩) fun u s0 ⟨v, G, I0, rv, ev, eG⟩ => ?_)⟩
  subst ev
  subst eG
  obtain rfl : u = Value.ref C := rv
  exact PySem.W.callWith_K0 I0.kIn M.kp (run_make (us := []) M F hr hb hd hx I0 .nil h.2)
/-! ### names in order -/
theorem risingS_pw {α : Type} (f : α → List Nat) : ∀ (rs : List α) (p : List Nat), risingS (ofL p) (rs.map fun r => ofL (f r)) = true → (p :: rs.map f).Pairwise (fun a b => ¬ b < a)
  | [], p, _ => List.pairwise_singleton ..
  | r :: rs, p, h => by
    have h : (!ltCps (ofL (f r)).cps.toList (ofL p).cps.toList && risingS (ofL (f r)) (rs.map fun r => ofL (f r))) = true := h
    rw [Bool.and_eq_true, ltCps_eq, ofL_cps, ofL_cps] at h
    have h1 : ¬ f r < p := by simpa using h.1
    have ih := risingS_pw f rs (f r) h.2
    rw [List.map_cons]
    refine List.pairwise_cons.mpr ⟨fun q hq => ?_, ih⟩
    rcases List.mem_cons.mp hq with e | hq
    · rw [e]
      exact h1
    · have h2 := (List.pairwise_cons.mp ih).1 q hq
      exact fun z => h1 (List.lt_of_le_of_lt (List.not_lt.mp h2) z)
theorem sortedS_pw {α : Type} (f : α → List Nat) (rs : List α) (h : sortedS (rs.map fun r => ofL (f r)) = true) : (rs.map f).Pairwise (fun a b => ¬ b < a) := by
  cases rs with
  | nil => exact .nil
  | cons r rs => exact risingS_pw f rs (f r) h
/-- one order alone: two lists with the same pairs, both in the order of their names -/
theorem sorted_one {α : Type} (f : α → List Nat) {rs ps : List α} (pm : rs.Perm ps) (h : sortedS (rs.map fun r => ofL (f r)) = true) (h2 : sortedS (ps.map fun r => ofL (f r)) = true) (nd : (ps.map f).Nodup) : rs = ps := by
  refine List.Perm.eq_of_pairwise (le := fun a b => ¬ f b < f a) (fun a b ha hb h1 h2 => ?_) (List.pairwise_map.mp (sortedS_pw f rs h)) (List.pairwise_map.mp (sortedS_pw f ps h2)) pm
  have e : f a = f b := List.le_antisymm (List.not_lt.mp h1) (List.not_lt.mp h2)
  have hb2 : a ∈ ps := pm.mem_iff.mp ha
  have : ∀ (l : List α), (l.map f).Nodup → a ∈ l → b ∈ l → a = b := fun l => by
    induction l with
    | nil => exact fun _ z => nomatch z
    | cons c l ih =>
      intro n x y
      rw [List.map_cons, List.nodup_cons] at n
      rcases List.mem_cons.mp x with x | x
      · rcases List.mem_cons.mp y with y | y
        · rw [x, y]
        · exact absurd (List.mem_map.mpr ⟨b, y, by rw [← e, x]⟩) n.1
      · rcases List.mem_cons.mp y with y | y
        · exact absurd (List.mem_map.mpr ⟨a, x, by rw [e, y]⟩) n.1
        · exact ih n.2 x y
  exact this ps nd hb2 hb
/-- ascending names are in order -/
theorem asc_sorted {α : Type} (f : α → List Nat) : ∀ (rs : List α), (rs.map f).Pairwise (· < ·) → sortedS (rs.map fun r => ofL (f r)) = true
  | [], _ => rfl
  | r :: rs, h => by
    have go : ∀ (rs : List α) (p : List Nat), (p :: rs.map f).Pairwise (· < ·) → risingS (ofL p) (rs.map fun r => ofL (f r)) = true := fun rs => by
      induction rs with
      | nil => exact fun _ _ => rfl
      | cons r rs ih =>
        intro p h
        rw [List.map_cons] at h
        obtain ⟨h1, h2⟩ := List.pairwise_cons.mp h
        show (!ltCps (ofL (f r)).cps.toList (ofL p).cps.toList && risingS (ofL (f r)) (rs.map fun r => ofL (f r))) = true
        rw [ltCps_eq, ofL_cps, ofL_cps, ih _ h2, Bool.and_true]
        have h3 := h1 (f r) (List.mem_cons_self ..)
        have : ¬ f r < p := List.not_lt.mpr (List.le_of_lt h3)
        simpa using this
    exact go rs (f r) h
theorem asc_nodup {l : List (List Nat)} (h : l.Pairwise (· < ·)) : l.Nodup := h.imp fun h e => by
  rw [e] at h
  exact List.lt_irrefl _ h
end HX

set_option Elab.async false
set_option linter.all false
set_option maxRecDepth 100000
set_option maxHeartbeats 4000000
namespace LW
open PySem PySem.Spec PyProof.Rows L2 HX NumText
section
variable {P : Program} {w : World} {K : PySem.W.Frag} {mg : Str → Option Value} {base : Heap}

theorem low_c : ∀ c, c < 128 → Unicode.isAlpha c = true → (Unicode.isUpper c || Unicode.isTitle c) = false → c ∈ abc := by decide +kernel
theorem low_r : ∀ c ∈ abc, (decide (c < 128) && (Unicode.isAlpha c && (Unicode.isLower c && !(Unicode.isUpper c || Unicode.isTitle c)))) = true := by decide +kernel
theorem low_all {z : Str} (h1 : 1 ≤ z.length) : (z.cps.toList.all fun c => decide (c ∈ abc)) = (Txt.isascii z && (Txt.isalpha z && Txt.islower z)) := by
  have l0 : z.length = z.cps.toList.length := by simp [Str.length]
  rw [Bool.eq_iff_iff]
  unfold Txt.isascii Txt.isalpha Txt.islower
  simp only [Bool.and_eq_true, List.all_eq_true, decide_eq_true_eq, ← Array.all_toList, ← Array.any_toList, List.any_eq_true, Bool.not_eq_true']
  constructor
  · intro h
    have hr : ∀ c ∈ z.cps.toList, c < 128 ∧ Unicode.isAlpha c = true ∧ Unicode.isLower c = true ∧ (Unicode.isUpper c || Unicode.isTitle c) = false := fun c hc => by
      have e := low_r c (h c hc)
      simp only [Bool.and_eq_true, decide_eq_true_eq, Bool.not_eq_true'] at e
      exact ⟨e.1, e.2.1, e.2.2.1, e.2.2.2⟩
    refine ⟨fun c hc => (hr c hc).1, ⟨by omega, fun c hc => (hr c hc).2.1⟩, ?_, ?_⟩
    · cases hz : z.cps.toList with
      | nil =>
        rw [hz] at l0
        simp at l0
        omega
      | cons a l => exact ⟨a, List.mem_cons_self .., (hr a (by rw [hz]; exact List.mem_cons_self ..)).2.2.1⟩
    · rw [List.any_eq_false]
      intro c hc
      rw [(hr c hc).2.2.2]
      exact Bool.false_ne_true
  · rintro ⟨h1, ⟨_, h2⟩, _, h3⟩ c hc
    rw [List.any_eq_false] at h3
    have h4 := h3 c hc
    exact low_c c (h1 c hc) (h2 c hc) (by simpa using h4)
theorem ok_is_name {f : Addr} {fd : FuncData} (F : Fun K "is_name" "is_name" s_is_name f fd) (T : Txt K mg) (T2 : Txt2 mg) (hml : ∃ t, mg "MOST_LETTERS" = some (.int 8 t)) : FnOk P w K mg base CX0 1 f fd ["value"] spIsName := by
  refine F.ok sc_is_name (fun vs H Q E h => ?_) (fun cdv A outer s H vs Q E hr h => ?_)
  · obtain ⟨x, d, rfl, _⟩ := h
    rfl
  · obtain ⟨x, d, rfl, hx, hz, k⟩ := h
    refine ⟨_, (pss_cons (s_if (PW.pt (w_or (pt_not (t_val (pe_callB c_isi (by rfl) T.b_isinstance (by decide +kernel) (pa_cons (pc 0) (pa_cons (pe_bltn (v := .ty "str") (u := .type "str") (by rfl) T2.b_str (by decide +kernel) rfl) pa_nil))))) (pw_or1 (pt_not (t_chain o_le o_le pe_int (pe_callB c_len (by rfl) T.b_len (by decide +kernel) (pa_cons (pc 0) pa_nil)) (p_gi hml)))))) (pss_one (ps_ret pe_bl)) pss_nil)
    (pss_one (ps_ret (e_and (pe_m0 PySem.F.slot_str_isascii PySem.F.type_str_isascii mt_isascii (pc 0)) (e_and (pe_m0 PySem.F.slot_str_isalpha PySem.F.type_str_isalpha mt_isalpha (pc 0)) (pe_one (pe_m0 PySem.F.slot_str_islower PySem.F.type_str_islower mt_islower (pc 0)))))))), ?_⟩
    obtain ⟨t, ty, kt⟩ := hx.isStr (K := K)
    refine ⟨_, _, t, _, _, rfl, ty, (fun u r => r), kt, fun h => ?_, fun h => ?_⟩
    · have h2 : isStrD d = false := by simpa using h
      have e := k H (Same.refl H)
      rw [nameD_not h2] at e
      exact ⟨fun _ => e, fun z => Bool.noConfusion z⟩
    · have h2 : isStrD d = true := by simpa using h
      obtain ⟨z, rfl⟩ := isStr_str h2
      cases hx
      have hz : z.length ≤ 1000000 := hz
      have hz2 := Nat.le_trans hz size_line_big
      have far : nameS z = false → Q (.bl false) H := fun h => by
        have e := k H (Same.refl H)
        rw [show nameD (.str z) = false from h] at e
        exact e
      refine ⟨hz2, fun h1 => ⟨fun h => far ?_, fun h => ?_⟩, fun h1 => ⟨fun _ => far ?_, fun h => Bool.noConfusion h⟩⟩
      · have h3 : ¬ z.length ≤ 8 := by
          intro q
          have q' : (z.length : Int) ≤ 8 := by omega
          rw [decide_eq_true q'] at h
          cases h
        unfold nameS
        rw [decide_eq_false h3]
        simp
      · have h4 : 1 ≤ z.length := by
          have := of_decide_eq_true h1
          omega
        have h3 : z.length ≤ 8 := by
          have q : decide ((z.length : Int) ≤ 8) = true := by simpa using h
          have := of_decide_eq_true q
          omega
        have e := k H (Same.refl H)
        have e7 : nameD (.str z) = (Txt.isascii z && (Txt.isalpha z && Txt.islower z)) := by
          rw [← low_all h4]
          show nameS z = _
          unfold nameS
          rw [decide_eq_true h4, decide_eq_true h3]
          rfl
        rw [e7] at e
        refine ⟨⟨z, rfl⟩, z, rfl, rfl, trivial, ⟨fun h5 => ⟨⟨z, rfl⟩, z, rfl, rfl, trivial, ⟨fun h6 => ⟨⟨z, rfl⟩, z, rfl, rfl, trivial, ?_⟩, fun h6 => ?_⟩⟩, fun h5 => ?_⟩⟩
        · rw [h5, h6] at e
          exact e
        · rw [h5, h6] at e
          exact e
        · rw [h5] at e
          exact e
      · have h3 : ¬ 1 ≤ z.length := by
          intro q
          have q' : (1 : Int) ≤ z.length := by omega
          rw [decide_eq_true q'] at h1
          cases h1
        unfold nameS
        rw [decide_eq_false h3]
        simp

theorem abc_lt : ∀ c ∈ abc, c < 128 := by decide
theorem abc_len : abc.length = 26 := by decide

def Nm (l : List Nat) : Prop := 1 ≤ l.length ∧ l.length ≤ 8 ∧ ∀ c ∈ l, c ∈ abc

theorem perm_lift {α β : Type} (f : α → β) {zs ys : List β} (h : zs.Perm ys) : ∀ ps : List α, zs = ps.map f → ∃ qs : List α, qs.Perm ps ∧ ys = qs.map f := by
  induction h with
  | nil => exact fun ps e => ⟨ps, .refl _, e⟩
  | cons x _ ih =>
    intro ps e
    cases ps with
    | nil => cases e
    | cons p r =>
      rw [List.map_cons] at e
      obtain ⟨e1, e2⟩ := List.cons.inj e
      obtain ⟨qs, a, b⟩ := ih r e2
      exact ⟨p :: qs, a.cons p, by rw [List.map_cons, b, e1]⟩
  | swap x y l =>
    intro ps e
    match ps, e with
    | p :: q :: r, e =>
      rw [List.map_cons, List.map_cons] at e
      obtain ⟨e1, e2⟩ := List.cons.inj e
      obtain ⟨e3, e4⟩ := List.cons.inj e2
      exact ⟨q :: p :: r, .swap p q r, by rw [List.map_cons, List.map_cons, e1, e3, e4]⟩
  | trans _ _ ih1 ih2 =>
    intro ps e
    obtain ⟨qs, a, b⟩ := ih1 ps e
    obtain ⟨rs, c, d⟩ := ih2 qs b
    exact ⟨rs, c.trans a, d⟩
theorem nm_name {l : List Nat} (h : Nm l) : nameS (ofL l) = true := by
  obtain ⟨h1, h2, h3⟩ := h
  unfold nameS
  rw [ofL_len, ofL_cps]
  simp only [Bool.and_eq_true, decide_eq_true_eq, List.all_eq_true]
  exact ⟨h1, h2, h3⟩
def spNeed0 : Sp := fun vs H Q _ => ∃ l : List Nat, vs = [.str (ofL l)] ∧ Nm l ∧ ∀ G, Same H G → Q .non G
theorem ok_need0 {f : Addr} {fd : FuncData} (F : Fun K "need_name" "need_name" s_need_name f fd) (cI : CalO P w K mg base "is_name" 1 ["value"] spIsName (fun _ => True)) : FnOk P w K mg base CX0 2 f fd ["value"] spNeed0 := by
  refine F.ok sc_need_name (fun vs H Q E h => ?_) (fun cdv A outer s H vs Q E hr h => ?_)
  · obtain ⟨l, rfl, _⟩ := h
    rfl
  · obtain ⟨l, rfl, nm, k⟩ := h
    refine ⟨_, (pss_one (s_if (pt_not (t_val (pe_cO cI (hr.mono (by decide)) (pa_cons (pc 0) pa_nil)))) (pss_one ps_dead) pss_nil)), ?_⟩
    have e : nameD (.str (ofL l)) = true := nm_name nm
    refine ⟨_, .str (ofL l), rfl, .str _, ?_, fun H' s1 => ⟨fun h => ?_, fun h => ?_⟩⟩
    · have z2 := nm.2.1
      show (ofL l).length ≤ _
      rw [ofL_len]
      first | omega | (rw [sizeLine_eq]; omega)
    · rw [e] at h
      cases h
    · exact k H' s1

def spAsc : Sp := fun vs H Q _ => ∃ (P_ : Addr) (kvs : List (Key × V)) (ks : List (List Nat)), vs = [.ref P_] ∧ H P_ = some (.dK kvs) ∧ kvs.map (·.1) = ks.map (fun k => (Sum.inr (ofL k) : Key)) ∧ ks.length < 64 ∧ (∀ k ∈ ks, Nm k) ∧
  ∀ (ys : List (List Nat)) (q : Addr) (G : Hp), ys.Perm ks → sortedS (ys.map ofL) = true → H q = none → Same H G → G q = some (.lst (ys.map fun k => .str (ofL k))) → Q (.ref q) G
theorem ok_asc {f : Addr} {fd : FuncData} (F : Fun K "_ascending_names" "_ascending_names" s__ascending_names f fd) (T : Txt K mg) (T2 : Txt2 mg) (hso : mg "sorted" = none) (cNN : CalO P w K mg base "need_name" 2 ["value"] spNeed0 (fun _ => True)) : FnOk P w K mg base CX0 3 f fd ["values"] spAsc := by
  refine F.ok sc__ascending_names (fun vs H Q E h => ?_) (fun cdv A' outer s H vs Q E hr h => ?_)
  · obtain ⟨p, kvs, ks, rfl, _⟩ := h
    rfl
  · obtain ⟨p, kvs, ks, rfl, hp, hk, l64, nm, k⟩ := h
    refine ⟨_, (pss_cons (ps_lock (ps_for PassesOwn.never rfl (pi_keys (pc 0)) (pg_name (i := 1) sc__ascending_names.nd rfl (Or.inl rfl)) (pss_one (s_if (pt_not (t_val (pe_callB c_isi (by rfl) T.b_isinstance (by decide +kernel) (pa_cons (pc 1) (pa_cons (pe_bltn (v := .ty "str") (u := .type "str") (by rfl) T2.b_str (by decide +kernel) rfl) pa_nil))))) (pss_one ps_dead) pss_nil))))
    (pss_cons (ps_set (i := 2) sc__ascending_names.nd rfl (Or.inl rfl) (pe_callB cr_sortedS (by rfl) hso (by decide +kernel) (pa_cons (pe_lock (pe_lc (own := [("key", 1)]) (g := gName 1) (tt := tYes) rfl sc__ascending_names.nd (pi_keys (pc 0)) (blkOk_by (own := [("key", 1)]) (N := n__ascending_names) (sc := defScope s__ascending_names) (by decide +kernel)) (fun _ _ _ _ _ => pg_name (i := 1) sc__ascending_names.nd rfl (Or.inl rfl)) (fun _ _ _ _ _ => pts_nil) (fun _ _ _ _ _ => (pe_callTy SkE.call_str_str (by rfl) T2.b_str (by decide +kernel) (pa_cons (pc 1) pa_nil))))) pa_nil)))
    (pss_cons (ps_for PassesOwn.never rfl (pi_list (pc 2)) (pg_name (i := 3) sc__ascending_names.nd rfl (Or.inl rfl)) (pss_one (ps_expr (pe_cO cNN (hr.mono (by decide)) (pa_cons (pc 3) pa_nil)))))
    (pss_one (ps_ret (pc 2)))))), ?_⟩
    have kl : kvs.length = ks.length := by simpa using congrArg List.length hk
    have at_ : ∀ (i : Nat) (ky : Key) (v : V), kvs[i]? = some (ky, v) → ∃ n, ks[i]? = some n ∧ ky = .inr (ofL n) := fun i ky v e => by
      have := congrArg (·[i]?) hk
      simp only [List.getElem?_map, e] at this
      cases e2 : ks[i]? with
      | none => rw [e2] at this; cases this
      | some n => rw [e2] at this; exact ⟨n, rfl, by simpa using this⟩
    have back : ∀ (HH G : Hp) (od : Obj), HH p = some (.dK kvs) → Same (upd HH p (.frz od (.dK kvs))) G → Same HH (upd G p (.dK kvs)) := fun HH G od e s1 b o z => by
      by_cases bp : b = p
      · rw [bp] at z ⊢
        rw [e] at z
        cases z
        exact upd_same
      · rw [upd_ne bp]
        exact s1 _ _ (by rw [upd_ne bp]; exact z)
    refine ⟨p, .dK kvs, hp, trivial, fun od => ⟨p, od, rfl, .inl ⟨kvs, upd_same, for_it walk_keys
      (fun i σ G => Same (upd H p (.frz od (.dK kvs))) G ∧ ∃ x1 x3, σ = [some (.ref p), x1, none, x3]) ⟨Same.refl _, none, none, rfl⟩ (fun i σ G _ z => z.1 _ _ upd_same) ?_ ?_⟩⟩⟩
    · rintro i x σ G G' hi ⟨s1, x1, x3, rfl⟩ ⟨rfl, ky, v, e, rfl⟩
      obtain ⟨n, e2, rfl⟩ := at_ i ky v e
      refine ⟨_, _, _, _, true, rfl, .str _, (fun u r => r), rfl, ⟨fun h => absurd h (by decide), fun _ => ⟨s1, _, x3, rfl⟩⟩⟩
    · rintro σ G ⟨s1, x1, x3, rfl⟩
      refine ⟨s1 _ _ upd_same, ?_⟩
      have s2 := back H G od hp s1
      have hp2 := s2 _ _ hp
      generalize upd G p (.dK kvs) = H2 at s2 hp2
      refine ⟨p, .dK kvs, hp2, trivial, fun od2 => ⟨p, od2, rfl, .inl ⟨kvs, upd_same, fun D nD => lc_it walk_keys
        (fun i G => Same (upd H2 p (.frz od2 (.dK kvs))) G ∧ G D = some (.lst ((ks.take i).map fun q => .str (ofL q)))) ⟨Same.new (Same.refl _) nD, upd_same⟩ (fun i G _ z => z.1 _ _ upd_same) ?_ ?_⟩⟩⟩
      · rintro i x G G' hi ⟨s3, gD⟩ ⟨rfl, ky, v, e, rfl⟩
        obtain ⟨n, e2, rfl⟩ := at_ i ky v e
        exact ⟨rfl, ofL n, rfl, _, gD, by rw [List.length_map, List.length_take, sizeLine_eq]; omega, Same.mut s3 nD, by rw [upd_same, List.take_add_one, e2, List.map_append]; rfl⟩
      · rintro G ⟨s3, gD⟩
        have pD : D ≠ p := fun z => by rw [z, upd_same] at nD; cases nD
        rw [kl, List.take_length] at gD
        have s4 := back H2 G od2 hp2 s3
        have gD2 : upd G p (.dK kvs) D = some (.lst (ks.map fun q => .str (ofL q))) := by rw [upd_ne pD]; exact gD
        refine ⟨s3 _ _ upd_same, ?_⟩
        generalize upd G p (.dK kvs) = H4 at s4 gD2
        refine ⟨D, ks.map ofL, rfl, SqL.of (by rw [List.map_map]; exact gD2), by rw [List.length_map]; exact l64, fun ys pS perm srt nS => ?_⟩
        obtain ⟨qs, q1, rfl⟩ := perm_lift ofL perm.symm ks rfl
        have s5 := (s2.trans s4).trans (Same.new (o := .lst ((qs.map ofL).map V.str)) (Same.refl H4) nS)
        have hS : upd H4 pS (.lst ((qs.map ofL).map V.str)) pS = some (.lst ((qs.map ofL).map V.str)) := upd_same
        have nS0 : H pS = none := (s2.trans s4).free nS
        generalize upd H4 pS (.lst ((qs.map ofL).map V.str)) = H5 at s5 hS
        refine ⟨pS, rfl, ⟨_, SqL.of hS⟩, for_it walk_list (fun i σ G => Same H5 G ∧ ∃ x1 x3, σ = [some (.ref p), x1, some (.ref pS), x3]) ⟨Same.refl _, _, _, rfl⟩ (fun i σ G _ z => SqL.of (z.1 _ _ hS)) ?_ ?_⟩
        · rintro i x σ G G' hi ⟨s6, x1, x3, rfl⟩ ⟨rfl, e⟩
          rw [List.length_map, List.length_map] at hi
          have eq : qs[i]? = some qs[i] := List.getElem?_eq_getElem hi
          have qm : qs[i] ∈ ks := q1.mem_iff.mp (List.getElem_mem hi)
          rw [List.getElem?_map, List.getElem?_map, eq] at e
          generalize qs[i] = g at eq qm e
          obtain rfl : V.str (ofL g) = x := Option.some.inj e
          exact ⟨g, rfl, nm g qm, fun G2 s7 => ⟨s6.trans s7, _, _, rfl⟩⟩
        · rintro σ G ⟨s6, x1, x3, rfl⟩
          exact k qs pS G q1 srt nS0 (s5.trans s6) (by have := s6 _ _ hS; rw [List.map_map] at this; exact this)

def AmV (A : Addr) (H : Hp) (v : V) (t b : Int) : Prop := ∃ a, v = .ref a ∧ Am A H a t b
theorem AmV.upd {A D : Addr} {H G : Hp} {o : HO} {kvs : List (Key × V)} {v : V} {t b : Int} (s : Same H G) (d : G D = some (.dK kvs)) : AmV A H v t b → AmV A (L2.upd G D o) v t b := fun ⟨a, e, dx, z⟩ => by
  have z2 := s _ _ z
  exact ⟨a, e, dx, by rw [upd_ne (fun y => by rw [y, d] at z2; cases z2)]; exact z2⟩
/-- numbers under names, as they are told -/
def NuV (A : Addr) (H : Hp) (v : V) (t b : Int) : Prop := Nu A H v t b ∧ Low t b ∧ Sm 1300 t ∧ Sm 1300 b
def nz (p : List Nat × Int × Int) : Bool := decide (p.2.1 ≠ 0)
theorem take_out {rs : List (List Nat × Int × Int)} {i : Nat} {g : List Nat × Int × Int} (nd : (rs.map (·.1)).Nodup) (e : rs[i]? = some g) : ∀ p ∈ rs.take i, p.1 ≠ g.1 := fun p hp z => by
  obtain ⟨hi, rfl⟩ := List.getElem?_eq_some_iff.mp e
  have sp : rs.map (·.1) = (rs.take i).map (·.1) ++ rs[i].1 :: (rs.drop (i + 1)).map (·.1) := by
    have := congrArg (List.map (·.1)) (List.take_append_drop i rs).symm
    rw [List.drop_eq_getElem_cons hi, List.map_append, List.map_cons] at this
    exact this
  rw [sp] at nd
  exact (List.nodup_append.mp nd).2.2 _ (List.mem_map.mpr ⟨p, hp, rfl⟩) _ (List.mem_cons_self ..) z
def GwOk (ps : List (List Nat × Int × Int)) : Prop := (ps.map (·.1)).Nodup ∧ ps.length < 64 ∧ ∀ p ∈ ps, Nm p.1
def spGInit (A C : Addr) : Sp := fun vs H Q _ => ∃ (x dx : Addr) (v : V), vs = [.ref x, v] ∧ H x = some (.ins C dx []) ∧
  ∃ ps, ((v = .non ∧ ps = []) ∨ ∃ (P_ : Addr) (kvs : List (Key × V)), v = .ref P_ ∧ H P_ = some (.dK kvs) ∧ KRs (NuV A H) kvs ps ∧ GwOk ps) ∧
  ∀ (G : Hp) (D : Addr) (gvs : List (Key × V)) (rs : List (List Nat × Int × Int)), H D = none → (∀ b o, b ≠ x → H b = some o → G b = some o) → G x = some (.ins C dx [("_told", .ref D)]) → G D = some (.dK gvs) → KRs (AmV A G) gvs (rs.filter nz) → rs.Perm ps → sortedS (rs.map fun p => ofL p.1) = true → Q .non G
theorem ok_ginit {A fI pO gO pN gN f C : Addr} {mc : Value} {fd : FuncData} (F : FunD K "__init__" "Gaps.__init__" (defArgs s_Gaps_init) (defBody s_Gaps_init) (defScope s_Gaps_init) [.non] [] f fd) (T : Txt K mg) (U : AmC K mg A fI pO gO pN gN mc) {fdO : FuncData} (FO : FnOk P w K mg base CX0 4 gO fdO ["number"] (spOf A)) (bO : Binds K fdO ["number"] []) (cAs : CalO P w K mg base "_ascending_names" 3 ["values"] spAsc (fun _ => True)) (hdi : mg "dict" = none) (Cc : Cls K C) (nTo : NoAttr K C "_told") : FnOk P w K mg base CX0 5 f fd ["self", "values"] (spGInit A C) := by
  refine funD_ok F sc_Gaps_init (fun vs H Q E h => ?_) (fun cdv A' outer s H vs Q E hr h => ?_)
  · obtain ⟨x, dx, v, rfl, _⟩ := h
    rfl
  · obtain ⟨x, dx, v, rfl, hx, ps, hv, k⟩ := h
    refine ⟨_, (pss_one (s_if (t_cmp o_is (pc 1) pe_non) (pss_one (ps_fld (pc 0) pe_dnewK (by rfl))) (pss_one (s_if (pt_not (t_val (pe_callB c_isi (by rfl) T.b_isinstance (by decide +kernel) (pa_cons (pc 1) (pa_cons (pe_bltn (v := .ty "dict") (u := .type "dict") (by rfl) hdi (by decide +kernel) rfl) pa_nil))))) (pss_one ps_dead) (pss_cons (ps_setDc (i := 2) (own := [("account", 3)]) (g := gName 3) (tt := tYes) rfl sc_Gaps_init.nd rfl rfl (sw_trueD rfl rfl rfl (by decide +kernel)) (pi_list (pe_cO cAs (hr.mono (by decide)) (pa_cons (pc 1) pa_nil))) (blkOk_by (own := [("account", 3)]) (N := n_Gaps_init) (sc := defScope s_Gaps_init) (by decide +kernel)) (fun _ _ _ _ _ => pg_name (i := 3) sc_Gaps_init.nd rfl (Or.inl rfl)) (fun _ _ _ _ _ => pts_nil) (fun _ _ _ _ _ => (pc 3)) (fun _ _ _ _ _ => (pe_sm (p_gc U.g_Amount) U.sO FO bO (hr.mono (by decide)) pass0 (pa_cons (pe_dget (Nat.lt_of_le_of_lt (Nat.add_le_add_left (by decide : 1 ≤ 64) _) hr.units) (pc 1) (pc 3) (by exact fun _ _ => rfl)) pa_nil)))) (pss_one (ps_fld (pc 0) (pe_lock (pe_dc (own := [("account", 3), ("gap", 4)]) (g := gTup K 2 (gCons (gName 3) (gCons (gName 4) gNil))) (tt := cT (tOp (rEq2 K true) (tFld K (cV 4) "top") (tC (.int 0)))) rfl sc_Gaps_init.nd (pi_items (pc 2)) (blkOk_by (own := [("account", 3), ("gap", 4)]) (N := n_Gaps_init) (sc := defScope s_Gaps_init) (by decide +kernel)) (fun _ _ _ _ _ => (by exact pg_tup rfl (pgs_cons (pg_name (i := 3) sc_Gaps_init.nd rfl (Or.inl rfl)) (pgs_cons (pg_name (i := 4) sc_Gaps_init.nd rfl (Or.inl rfl)) pgs_nil)))) (fun _ _ _ _ _ => (pts_one (by exact t_cmp (o_ne hr.units) (pe_fld (pc 4) (by rfl)) pe_int))) (fun _ _ _ _ _ => (pc 3)) (fun _ _ _ _ _ => (pc 4)))) (by rfl)))))))), ?_⟩
    rcases hv with ⟨rfl, rfl⟩ | ⟨P_, kvs, rfl, hP, kr, nd, l64, nm⟩
    · refine ⟨fun _ => fun D nD => ⟨x, C, dx, _, rfl, kpN hx nD, Cc, nTo, by show 0 < 1000; decide, ?_⟩, fun z => absurd z (by simp)⟩
      have nx : D ≠ x := fun z => by rw [z, hx] at nD; cases nD
      exact k _ D [] [] nD (fun b o n e => by rw [upd_ne n]; exact kpN e nD) upd_same (by rw [upd_ne nx, upd_same]) .nil (.refl _) (by decide)
    refine ⟨fun z => absurd z (by simp), fun _ => ⟨_, _, _, _, true, rfl, .dK hP, (fun u r => r), kit_ty (by show kitB _ _ = some true; decide +kernel), ⟨fun h => absurd h (by decide), fun _ => ?_⟩⟩⟩
    refine ⟨P_, kvs, ps.map (·.1), rfl, hP, kr.keys, by rw [List.length_map]; exact l64, fun n hn => by obtain ⟨p, hp, rfl⟩ := List.mem_map.mp hn; exact nm p hp, fun ys q G perm srt nq sG gq => ?_⟩
    obtain ⟨rs, rp, rfl⟩ := perm_lift (fun p : List Nat × Int × Int => p.1) perm.symm ps rfl
    have rl := rp.length_eq
    have hP1 := sG _ _ hP
    refine ⟨q, rfl, ⟨_, SqL.of gq⟩, fun D nD => dc_it walk_list (fun i G1 => Same G G1 ∧ ∃ gvs, G1 D = some (.dK gvs) ∧ KRs (AmV A G1) gvs (rs.take i)) ⟨Same.new (Same.refl G) nD, [], upd_same, .nil⟩ (fun i G1 _ z => SqL.of (z.1 _ _ gq)) ?_ ?_⟩
    · rintro i y G1 G2 hi ⟨s1, gvs, gD, ka⟩ ⟨rfl, e⟩
      rw [List.length_map, List.length_map] at hi
      have eq : rs[i]? = some rs[i] := List.getElem?_eq_getElem hi
      have qm : rs[i] ∈ ps := rp.mem_iff.mp (List.getElem_mem hi)
      rw [List.getElem?_map, List.getElem?_map, eq] at e
      have rnd : (rs.map (·.1)).Nodup := (rp.map _).nodup_iff.mpr nd
      have tk : rs.take (i + 1) = rs.take i ++ [rs[i]] := by rw [List.take_add_one, eq]; rfl
      have out : ∀ p ∈ rs.take i, p.1 ≠ rs[i].1 := take_out rnd eq
      generalize rs[i] = g at eq qm e tk out
      obtain ⟨n, t, b⟩ := g
      obtain rfl : V.str (ofL n) = y := Option.some.inj e
      obtain ⟨v, v1, nu, lo, S1, S2⟩ := kr.get nd qm
      have dg : DGet G2 P_ (.str (ofL n)) (some v) := by have := DGet.k (k := .inr (ofL n)) (s1 _ _ hP1); rwa [v1] at this
      refine ⟨rfl, rfl, P_, v, rfl, dg, v, t, b, rfl, (nu.mo sG).mo s1, S1.mono (by decide), fun r G3 s2 am => ⟨gvs, .inr (ofL n), rfl, s2 _ _ gD, by rw [ka.len, List.length_take, sizeLine_eq]; omega, Same.mut (s1.trans s2) nD, _, upd_same, ?_⟩⟩
      rw [putK_new _ (ka.out out), tk]
      exact KRs.snoc (AmV.upd (Same.refl G3) (s2 _ _ gD) ⟨r, rfl, am⟩) (ka.mo fun _ _ _ z => AmV.upd s2 (s2 _ _ gD) z)
    · rintro G1 ⟨s1, gvs, gD, ka⟩
      rw [List.length_map, List.length_map, List.take_length] at ka
      have kal := ka.len
      have nx : D ≠ x := fun z => by rw [z] at nD; have := sG _ _ hx; rw [nD] at this; cases this
      refine ⟨D, .dK gvs, gD, trivial, fun od => ⟨D, od, gvs, rfl, upd_same, fun D2 nD2 => dc_it walk_items (fun i G2 => Same (upd G1 D (.frz od (.dK gvs))) G2 ∧ ∃ hvs, G2 D2 = some (.dK hvs) ∧ KRs (AmV A G2) hvs ((rs.take i).filter nz)) ⟨Same.new (Same.refl _) nD2, [], upd_same, .nil⟩ (fun i G2 _ z => z.1 _ _ upd_same) ?_ ?_⟩⟩
      · rintro i y G2 G3 hi ⟨s2, hvs, hD, kh⟩ ⟨T_, a, b, rfl, nT, rfl, e1, e2⟩
        have eg : gvs[i]? = some gvs[i] := List.getElem?_eq_getElem hi
        have e1 : gvs[i]?.map (fun kv => kV kv.1) = some a := e1
        have e2 : gvs[i]?.map Prod.snd = some b := e2
        rw [eg] at e1 e2
        generalize gvs[i] = g at eg e1 e2
        obtain ⟨ky, v⟩ := g
        cases e1
        cases e2
        obtain ⟨n, t, b, er, rfl, av⟩ := ka.at_ i ky v eg
        have tk : rs.take (i + 1) = rs.take i ++ [(n, t, b)] := by rw [List.take_add_one, er]; rfl
        obtain ⟨r, rfl, dy, ea⟩ := AmV.upd (o := .frz od (.dK gvs)) (Same.refl G1) gD av
        have s3 := Same.new (o := .tup [kV (.inr (ofL n)), .ref r]) (Same.refl G2) nT
        have ea3 := s3 _ _ (s2 _ _ ea)
        have hD3 := s3 _ _ hD
        refine ⟨T_, _, rfl, SqT.of upd_same, rfl, _, _, rfl, _, _, rfl, rfl, rfl, r, A, dy, _, _, rfl, ea3, U.cls, U.nT, rfl, ?_⟩
        by_cases t0 : t = 0
        · have nzf : nz (n, t, b) = false := by simp [nz, t0]
          subst t0
          exact ⟨s2.trans s3, hvs, hD3, by rw [tk, List.filter_append, List.filter_cons, nzf]; simpa using kh.mo fun _ _ _ ⟨a, e, am⟩ => ⟨a, e, am.mo s3⟩⟩
        · have nzt : nz (n, t, b) = true := by simp [nz, t0]
          show if (xor true (decide (t = 0))) = true then _ else _
          rw [decide_eq_false t0]
          have rnd : (rs.map (·.1)).Nodup := (rp.map _).nodup_iff.mpr nd
          have lf := List.length_filter_le nz (rs.take i)
          refine ⟨hvs, .inr (ofL n), rfl, hD3, by rw [kh.len, sizeLine_eq]; rw [List.length_take] at lf; omega, Same.mut (s2.trans s3) nD2, _, upd_same, ?_⟩
          rw [putK_new _ (kh.out fun p hp => take_out rnd er p (List.mem_filter.mp hp).1), tk, List.filter_append, List.filter_cons, nzt]
          exact KRs.snoc (AmV.upd (Same.refl _) hD3 ⟨r, rfl, dy, ea3⟩) (kh.mo fun _ _ _ z => AmV.upd s3 hD3 z)
      · rintro G2 ⟨s2, hvs, hD, kh⟩
        rw [kal, List.take_length] at kh
        have gf := s2 _ _ upd_same
        have hxG := s1 _ _ (sG _ _ hx)
        have hx2 : G2 x = some (.ins C dx []) := s2 _ _ (by rw [upd_ne (Ne.symm nx)]; exact hxG)
        have D2x : D2 ≠ x := fun z => by rw [z, upd_ne (Ne.symm nx), hxG] at nD2; cases nD2
        have D2D : D2 ≠ D := fun z => by rw [z, upd_same] at nD2; cases nD2
        refine ⟨gf, x, C, dx, _, rfl, by rw [upd_ne (Ne.symm nx)]; exact hx2, Cc, nTo, by show 0 < 1000; decide, ?_⟩
        refine k _ D2 hvs rs ((sG.trans s1).free (by have z := nD2; rw [upd_ne D2D] at z; exact z)) (fun b o n e => ?_) upd_same (by rw [upd_ne D2x, upd_ne D2D]; exact hD) (kh.mo fun v t b ⟨a, e, dy, ea⟩ => ⟨a, e, dy, ?_⟩) rp (by rw [List.map_map] at srt; exact srt)
        · have bD : b ≠ D := fun z => by rw [z] at e; have := sG _ _ e; rw [nD] at this; cases this
          rw [upd_ne n, upd_ne bD]
          exact s2 _ _ (by rw [upd_ne bD]; exact s1 _ _ (sG _ _ e))
        · rw [upd_ne (fun z => by rw [z, hx2] at ea; cases ea), upd_ne (fun z => by rw [z, gf] at ea; cases ea)]
          exact ea

/-- gaps as they stand: ps are what they tell, by ascending names -/
def GpsAt (C : Addr) (H : Hp) (x D : Addr) (gvs : List (Key × V)) : Prop := (∃ dx, H x = some (.ins C dx [("_told", .ref D)])) ∧ H D = some (.dK gvs)
theorem GpsAt.mo {C x D : Addr} {H G : Hp} {gvs : List (Key × V)} (s : Same H G) : GpsAt C H x D gvs → GpsAt C G x D gvs := fun ⟨⟨dx, a⟩, b⟩ => ⟨⟨dx, s _ _ a⟩, s _ _ b⟩
def spGCon (C : Addr) : Sp := fun vs H Q _ => ∃ (x D : Addr) (gvs : List (Key × V)) (k : Str), vs = [.ref x, .str k] ∧ GpsAt C H x D gvs ∧ Q (.bl (valV gvs (.inr k)).isSome) H
theorem ok_gcon {f C : Addr} {fd : FuncData} (F : Fun K "__contains__" "Gaps.__contains__" s_Gaps_contains f fd) (T : Txt K mg) (T2 : Txt2 mg) (Cc : Cls K C) (nTo : NoAttr K C "_told") : FnOk P w K mg base CX0 1 f fd ["self", "value"] (spGCon C) := by
  refine F.ok sc_Gaps_contains (fun vs H Q E h => ?_) (fun cdv A' outer s H vs Q E hr h => ?_)
  · obtain ⟨x, D, gvs, k, rfl, _⟩ := h
    rfl
  · obtain ⟨x, D, gvs, k, rfl, ⟨⟨dx, hx⟩, hD⟩, q⟩ := h
    refine ⟨_, (pss_one (ps_ret (e_and (pe_callB c_isi (by rfl) T.b_isinstance (by decide +kernel) (pa_cons (pc 1) (pa_cons (pe_bltn (v := .ty "str") (u := .type "str") (by rfl) T2.b_str (by decide +kernel) rfl) pa_nil))) (pe_one (pe_cmp (pc_din (Nat.lt_of_le_of_lt (Nat.add_le_add_left (by decide : 1 ≤ 64) _) hr.units) (pc 1) (pe_fld (pc 0) rfl))))))), ?_⟩
    exact ⟨_, _, _, _, true, rfl, .str _, (fun u r => r), rfl, ⟨fun _ => ⟨x, C, dx, _, _, rfl, hx, Cc, nTo, rfl, D, _, rfl, DGet.k (k := .inr k) hD, q⟩, fun h => absurd h (by decide)⟩⟩

/-- what stands under a name that is there -/
def spGGet (C : Addr) : Sp := fun vs H Q _ => ∃ (x D : Addr) (gvs : List (Key × V)) (k : Str) (v : V), vs = [.ref x, .str k] ∧ GpsAt C H x D gvs ∧ valV gvs (.inr k) = some v ∧ Q v H
theorem ok_gget {f fC C : Addr} {fd fdC : FuncData} (F : Fun K "__getitem__" "Gaps.__getitem__" s_Gaps_getitem f fd) (T : Txt K mg) (T2 : Txt2 mg) (Cc : Cls K C) (nTo : NoAttr K C "_told") (hCon : PySem.W.findIn K (.ref C) "__contains__" = some (some (.ref fC))) (fCon : PySem.W.isFn K (.ref fC) = true) (FC : FnOk P w K mg base CX0 1 fC fdC ["self", "value"] (spGCon C)) (bC : Binds K fdC ["self", "value"] []) : FnOk P w K mg base CX0 2 f fd ["self", "account"] (spGGet C) := by
  refine F.ok sc_Gaps_getitem (fun vs H Q E h => ?_) (fun cdv A' outer s H vs Q E hr h => ?_)
  · obtain ⟨x, D, gvs, k, v, rfl, _⟩ := h
    rfl
  · obtain ⟨x, D, gvs, k, v, rfl, ⟨⟨dx, hx⟩, hD⟩, hv, q⟩ := h
    refine ⟨_, (pss_cons (s_if (t_cmp (op_inO hCon fCon FC bC (hr.mono (by decide)) pass0) (pc 1) (pc 0)) (pss_one (ps_ret (pe_dget (Nat.lt_of_le_of_lt (Nat.add_le_add_left (by decide : 1 ≤ 64) _) hr.units) (pe_fld (pc 0) rfl) (pc 1) (by exact fun _ _ => rfl)))) pss_nil) (pss_cons ps_dead (pss_one ps_dead))), ?_⟩
    refine ⟨x, rfl, ⟨dx, _, hx⟩, x, D, gvs, k, rfl, ⟨⟨dx, hx⟩, hD⟩, _, rfl, ⟨fun _ => ⟨x, C, dx, _, _, rfl, hx, Cc, nTo, rfl, D, v, rfl, ?_, q⟩, fun z => ?_⟩⟩
    · have := DGet.k (k := .inr k) hD
      rwa [hv] at this
    · rw [hv] at z
      simp at z

end
end LW
set_option Elab.async false
set_option linter.all false
set_option maxRecDepth 100000
set_option maxHeartbeats 4000000
/-! A47: a dict of texts that is given one key of another kind: None, a bool, a tuple; told apart, walked over -/
namespace HX
open PySem PySem.W PySem.Spec PyProof.Rows L2
section
variable {prog : Program} {w : World} {A : Around} {E : Value → Shared → Prop} {s : Shared} {d a : Addr} {o : Obj} {es : Array DictEntry} {ep : Nat}
/-- all keys are texts -/
def TxtKeys (es : Array DictEntry) : Prop := ∀ e ∈ es, ∃ x t, e.key = .str x t
theorem tell_txt {ks : List Key} {stored : List Value} {Q : Bool → Shared → Prop} (hkey : (tupleKind (mixKind prog w)).is s.heap ks a) (hst : ∀ v ∈ stored, ∃ x t, v = Value.str x t) (h : Q false s) :
    wpAny (model prog w) A (tableMayTell (.ref a) stored) Q E s := by
  unfold tableMayTell
  split
  · exact wpAny_pure h
  · refine wpAny_bind ((tupleKind (mixKind prog w)).quiet hkey ?_)
    simp only [Bool.not_true, Bool.false_eq_true, if_false]
    refine wpAny_bind ?_
    refine wpAny_forIn_list _ (fun rest r z => z = s ∧ r = (none, ()) ∧ ∀ v ∈ rest, ∃ x t, v = Value.str x t) _ ?_ ?_ _ _ ⟨rfl, rfl, hst⟩
    · rintro v rest r z ⟨rfl, rfl, hv⟩
      obtain ⟨x, t, rfl⟩ := hv v List.mem_cons_self
      refine wpAny_bind (wpAny_pure ?_)
      simp only [Bool.not_true, Bool.false_eq_true, if_false]
      exact wpAny_pure ⟨rfl, rfl, fun u hu => hv u (List.mem_cons_of_mem _ hu)⟩
    · rintro r z ⟨rfl, rfl, _⟩
      exact wpAny_pure h
theorem find_tup {ks : List Key} {Q : Option Nat → Shared → Prop} (hu : A.units < cLine) (hkey : (tupleKind (mixKind prog w)).is s.heap ks a) (ho : s.heap.get? d = some o) (hd : o.data = .dict es ep) (ht : TxtKeys es) (c : Int) (h : Q none s) :
    wpAny (model prog w) A (dictFind d (.ref a) c) Q E s := by
  have hany : ¬ (es.any fun e => e.key == Value.ref a && e.hash != c) = true := by
    rw [← Array.any_toList, List.any_eq_true]
    rintro ⟨e, hin, hc⟩
    obtain ⟨x, t, q⟩ := ht e (Array.mem_toList_iff.mp hin)
    rw [q] at hc
    simp at hc
  have hst : ∀ v ∈ (placesWithHash es.size (fun i => es[i]?.map (·.hash)) c).filterMap (fun i => es[i]?.map (·.key)), ∃ x t, v = Value.str x t := by
    intro v hv
    obtain ⟨i, _, hi⟩ := List.mem_filterMap.mp hv
    cases hei : es[i]? with
    | none => rw [hei] at hi; cases hi
    | some e =>
      rw [hei] at hi
      obtain rfl : e.key = v := by simpa using hi
      exact ht e (Array.mem_of_getElem? hei)
  have hone : ¬ (((placesWithHash es.size (fun i => es[i]?.map (·.hash)) c).filterMap (fun i => es[i]?.map (·.key))) == [Value.ref a]) = true := by
    intro z
    have z := eq_of_beq z
    obtain ⟨x, t, q⟩ := hst (.ref a) (by rw [z]; exact List.mem_cons_self)
    cases q
  unfold dictFind
  try with_reducible refine wpAny_holding ?_
  refine wpAny_bind (wpAny_dictEntries ho hd ?_)
  dsimp only
  rw [if_neg (show ¬ ((Value.ref a :: (placesWithHash es.size (fun i => es[i]?.map (·.hash)) c).filterMap (fun i => es[i]?.map (·.key))).all carriedByValue) = true by simp [carriedByValue])]
  rw [if_neg hany, if_neg hone]
  refine wpAny_bind (tell_txt hkey hst ?_)
  rw [if_neg (by simp)]
  refine wpAny_bind ?_
  refine wpAny_forIn_list _ (fun rest b z => z = s ∧ b = (none, none)) _ ?_ ?_ _ _ ⟨rfl, rfl⟩
  · rintro i rest b z ⟨rfl, rfl⟩
    cases hei : es[i]? with
    | none => exact wpAny_pure ⟨rfl, rfl⟩
    | some e =>
      obtain ⟨x, t, q⟩ := ht e (Array.mem_of_getElem? hei)
      dsimp only
      by_cases hh : (e.hash == c) = true
      · rw [if_pos hh]
        obtain ⟨ob, us, n, e1, e2, e3, _⟩ := id hkey
        have tt : z.heap.IsTuple a us := ⟨ob, e1, e2, n, e3⟩
        refine wpAny_bind (wpAny_dictEpoch ho hd (wpAny_bind ?_))
        rw [q]
        refine SeqAt.EqAt.str_tuple x t tt hu _ _ _ _ (wpAny_bind (wpAny_dictEpoch ho hd ?_))
        show wpAny _ _ (if (ep != ep) = true then _ else _) _ E _
        rw [if_neg (by simp)]
        simp only [Bool.false_eq_true, if_false]
        refine wpAny_bind (wpAny_rule ?_)
        first
          | exact wpAny_pure ⟨rfl, rfl⟩
          | exact wpAny_bind (wpAny_pure (wpAny_pure ⟨rfl, rfl⟩))
          | (rw [if_neg (by simp)]; exact wpAny_pure ⟨rfl, rfl⟩)
      · rw [if_neg hh]
        exact wpAny_pure ⟨rfl, rfl⟩
  · rintro b z ⟨rfl, rfl⟩
    exact wpAny_pure h
end
end HX
namespace HX
open PySem PySem.W PySem.Spec PyProof.Rows L2
/-- a dict whose keys are ks, one by one -/
def DXo (d : Addr) (ks : List V) : HO := .ext fun h => (d == sysModules) = false ∧ ∃ o es ep, h.get? d = some o ∧ o.ExactDict ∧ o.data = .dict es ep ∧ es.size = ks.length ∧ ks.length ≤ sizeLine ∧ ∀ (i : Nat) (k : V), ks[i]? = some k → ∃ en, es[i]? = some en ∧ RelV k en.key
theorem dxo_ok {P : Program} {w : World} {H : Hp} {h : Heap} {d : Addr} {ks : List V} {o : Obj} {es : Array DictEntry} {ep : Nat} (hd : (d == sysModules) = false) (ho : h.get? d = some o) (hx : o.ExactDict) (hdat : o.data = .dict es ep) (hz : es.size = ks.length)
    (hl : ks.length ≤ sizeLine) (hk : ∀ (i : Nat) (k : V), ks[i]? = some k → ∃ en, es[i]? = some en ∧ RelV k en.key) : ObjOk P w H h d (DXo d ks) :=
  ⟨⟨hd, o, es, ep, ho, hx, hdat, hz, hl, hk⟩, ⟨o, ho⟩, fun h1 h2 ⟨a, o1, e1, p1, b1, b2, b3, b4, b5, b6⟩ kp => ⟨a, o1, e1, p1, kp _ b1, b2, b3, b4, b5, b6⟩⟩
/-- the keys of one that is locked -/
def Itx (d : Addr) (o : Obj) (ks : List V) : It :=
  ⟨fun i H => H d = some (.frz o (DXo d ks)) ∧ i < ks.length, fun i H x H' => H' = H ∧ ks[i]? = some x, fun i H => H d = some (.frz o (DXo d ks)) ∧ ks.length ≤ i⟩
theorem walk_keysX {d : Addr} {o : Obj} {ks : List V} : Walk (Itx d o ks) ks.length (fun H => H d = some (.frz o (DXo d ks))) (fun i H x H' => H' = H ∧ ks[i]? = some x) :=
  ⟨fun _ _ hi q => ⟨q, hi⟩, fun _ q => ⟨q, Nat.le_refl _⟩, fun _ _ _ _ _ _ y => y⟩
section
variable {X : Cx} {pins : List (Addr × Obj)} {σ : L2.St} {H : Hp} {s : Shared} {d : Addr} {o : Obj}
theorem frzX {ks : List V} (I : Inv X pins σ H s) (h : H d = some (.frz o (DXo d ks))) :
    (d == sysModules) = false ∧ s.heap.get? d = some o ∧ o.ExactDict ∧ ∃ (es : Array DictEntry) (ep : Nat), o.data = .dict es ep ∧ es.size = ks.length ∧ ∀ (i : Nat) (k : V), ks[i]? = some k → ∃ en, es[i]? = some en ∧ RelV k en.key := by
  obtain ⟨hd, ⟨hs, o', es, ep, ho, hx, hdt, hz, _, hk⟩, _⟩ := I.hok d _ h
  rw [hd] at ho
  cases ho
  exact ⟨hs, hd, hx, es, ep, hdt, hz, hk⟩
theorem turn_keysX {P : Program} {w : World} {K : PySem.W.Frag} {tg : Expr} {es : Array DictEntry} {ep : Nat} {ks : List V} (it : Addr) (hod : o.data = .dict es ep) : Turn P w K tg (Itx d o ks) [it] it (fun i h => h.IsKeyIter it d i ks.length ep) where
  mem := by simp
  obj := fun i h st b hb => by
    have e : b = it := by simpa using hb
    subst e
    obtain ⟨oi, e, c, dd⟩ := st
    exact ⟨oi, e, fun v z => by rw [dd] at z; cases z⟩
  keep := fun i h h' st k => st.at fun oi e => k it (by simp) oi e
  item := by
    intro X hP hw hK hc i pins s σ H E I hf st hg
    subst hP hw hK
    obtain ⟨hd, hi⟩ := hg
    obtain ⟨f0, f1, f2, f3, f4, f5⟩ := hf it (by simp)
    obtain ⟨hs, hgd, hx, es', ep', hdt, hsz, ent⟩ := frzX I hd
    obtain ⟨rfl, rfl⟩ := dict_ep hod hdt
    obtain ⟨k, hkv⟩ : ∃ p, ks[i]? = some p := ⟨ks[i], List.getElem?_eq_getElem hi⟩
    obtain ⟨en, hen, rk⟩ := ent i k hkv
    refine next_key_item st hgd hdt hsz hen fun h' st' sb => ?_
    have I1 : Inv X pins σ H { s with heap := h' } := I.turned (t' := s.toks) (fun b ob hb e => (sb.2 b hb).trans e) f0 f1 f3 f4 f5
    obtain ⟨oi, e, c, dd⟩ := id st'
    exact ⟨en.key, rfl, go_of (s := { s with heap := h' }) e c dd (by decide) ⟨k, H, I1, rk, ⟨rfl, hkv⟩, st', fun b hb => (hf b hb).1⟩⟩
  done := by
    intro X hP hw hK hc i pins s σ H E I hf st hg
    subst hP hw hK
    obtain ⟨hd, hi⟩ := hg
    obtain ⟨f0, f1, f2, f3, f4, f5⟩ := hf it (by simp)
    obtain ⟨hs, hgd, hx, es', ep', hdt, hsz, ent⟩ := frzX I hd
    obtain ⟨rfl, rfl⟩ := dict_ep hod hdt
    exact next_key_end (I.ok.hd hc) st hgd hdt hsz hi fun h' eb => ⟨rfl, I.turned (t' := s.toks) (fun b ob hb e => eb b ob hb e) f0 f1 f3 f4 f5⟩
  self := fun A i s Q E st h => wpAny_pyIter_keyiter st h
end
def iKeysX (td : TE) : TI := fun σ H R => td σ H fun x H1 => ∃ d o, x = .ref d ∧ ((∃ kvs, H1 d = some (.frz o (.dK kvs)) ∧ R (Itk d o kvs) H1) ∨ ∃ ks, H1 d = some (.frz o (DXo d ks)) ∧ R (Itx d o ks) H1)
section
variable {X : Cx} {tg e : Expr} {td : TE}
theorem pi_keysX (he : PE X e td) : PI X tg e (iKeysX td) := by
  refine ⟨fun pins s σ H R I h => ?_⟩
  refine thn (he.run pins s σ H _ I h) fun u s1 ⟨x, H1, I1, rx, d, o, ex, q⟩ => ?_
  subst ex
  obtain rfl : u = Value.ref d := rx
  rcases q with ⟨kvs, hd, q⟩ | ⟨ks, hd, q⟩
  · obtain ⟨hs, hgd, hx, es, ep, vs, hdt, hsz, kv, hm⟩ := I1.frzK hd
    refine iter_keys hs hgd hx hdt (pi_one (tk := s1.toks) I1 _ (turn_keys _ hdt) ⟨_, Heap.get?_push_size _ rfl, rfl, ?_⟩ q)
    rw [hsz] <;> rfl
  · obtain ⟨hs, hgd, hx, es, ep, hdt, hsz, ent⟩ := frzX I1 hd
    refine iter_keys hs hgd hx hdt (pi_one (tk := s1.toks) I1 _ (turn_keysX _ hdt) ⟨_, Heap.get?_push_size _ rfl, rfl, ?_⟩ q)
    rw [hsz] <;> rfl
/-- isinstance(x, c), x a value of a known kind, or such a dict -/
def rIsiX (K : PySem.W.Frag) : List V → Hp → VK → Prop := fun xs H Q => ∃ (x c : V) (t u : Value) (b : Bool), xs = [x, c] ∧ ClsV c u ∧ (TyX K H x t ∨ ∃ d ks, x = .ref d ∧ H d = some (DXo d ks) ∧ t = .type "dict") ∧ PySem.W.kitOne K t u = some b ∧ Q (.bl b) H
theorem call_isiX : CallR X (.builtin "isinstance") (rIsiX X.K) := by
  intro pins s σ H xs us Q I r h
  obtain ⟨x, c, t, u, b, rfl, k, ty | ⟨d, ks, rfl, hd, rfl⟩, e, q⟩ := h
  · exact call_isi pins s σ H _ us Q I r ⟨x, c, t, u, b, rfl, k, ty, e, q⟩
  · obtain ⟨u1, u2, rfl, r1, r2⟩ := vals2 r
    have e2 := k.eq r2
    subst e2
    obtain rfl : u1 = Value.ref d := r1
    obtain ⟨⟨hs, ob, es, ep, ho, hx, _⟩, _⟩ := I.hok d _ hd
    exact PySem.W.kia_one PySem.W.kitx_dict I.kIn ⟨_, ho, hx.1⟩ e (fun z => nomatch z) fun tk => ⟨.bl b, H, I.tok tk, rfl, q⟩
end
end HX
namespace HX
open PySem PySem.W PySem.Spec PyProof.Rows L2
/-- isinstance(x, c), x a value of a known kind, or such a dict -/
def rIsi2X (K : PySem.W.Frag) : List V → Hp → VK → Prop := fun xs H Q => rIsi2 K xs H Q ∨ ∃ (d : Addr) (ks : List V) (c : V) (u : Value) (b : Bool), xs = [.ref d, c] ∧ H d = some (DXo d ks) ∧ ClsV c u ∧ PySem.W.kitOne K (.type "dict") u = some b ∧ Q (.bl b) H
theorem c_isiX {X : Cx} : CallR X (.builtin "isinstance") (rIsi2X X.K) := fun pins s σ H xs us Q I r q => by
  rcases q with q | ⟨d, ks, c, u, b, rfl, hd, k, e, q⟩
  · exact c_isi pins s σ H xs us Q I r q
  · exact call_isiX pins s σ H _ us Q I r ⟨_, c, _, u, b, rfl, k, .inr ⟨d, ks, rfl, hd, rfl⟩, e, q⟩
/-- a reading or another -/
theorem pe_alt {X : Cx} {e : Expr} {t1 t2 : TE} (h1 : PE X e t1) (h2 : PE X e t2) : PE X e (fun σ H Q => t1 σ H Q ∨ t2 σ H Q) :=
  ⟨fun pins s σ H Q I h => h.elim (fun q => h1.run pins s σ H Q I q) (fun q => h2.run pins s σ H Q I q)⟩
/-- keys that are no text and no number -/
inductive OddK (H : Hp) : V → Prop
  | non : OddK H .non
  | bl (b : Bool) : OddK H (.bl b)
  | tup {a : Addr} {ks : List Key} (e : H a = some (.tup (ks.map kV))) : OddK H (.ref a)
section
variable {prog : Program} {w : World} {A : Around} {E : Value → Shared → Prop} {s : Shared} {d : Addr} {o : Obj} {es : Array DictEntry} {ep : Nat}
theorem find_leaf {v : Value} {Q : Option Nat → Shared → Prop} (hv : v = .none ∨ ∃ b, v = .bool b) (ho : s.heap.get? d = some o) (hd : o.data = .dict es ep) (ht : TxtKeys es) (c : Int) (h : Q none s) :
    wpAny (model prog w) A (dictFind d v c) Q E s := by
  have hall : ((v :: (placesWithHash es.size (fun i => es[i]?.map (·.hash)) c).filterMap fun i => es[i]?.map (·.key)).all carriedByValue) = true := by
    rw [List.all_cons, List.all_eq_true.mpr, Bool.and_true]
    · rcases hv with rfl | ⟨b, rfl⟩ <;> rfl
    · intro u hu
      obtain ⟨i, _, hi⟩ := List.mem_filterMap.mp hu
      cases hei : es[i]? with
      | none => rw [hei] at hi; cases hi
      | some e =>
        rw [hei] at hi
        obtain rfl : e.key = u := by simpa using hi
        obtain ⟨x, t, q⟩ := ht e (Array.mem_of_getElem? hei)
        rw [q]
        rfl
  unfold dictFind
  try with_reducible refine wpAny_holding ?_
  refine wpAny_bind (wpAny_dictEntries ho hd ?_)
  have go : wpAny (model prog w) A (dictWalkPlain d v c es (placesWithHash es.size (fun i => es[i]?.map (·.hash)) c)) Q E s := by
    refine wpAny_bind ?_
    refine wpAny_forIn_list _ (fun rest b z => z = s ∧ b = (none, ())) _ ?_ ?_ _ _ ⟨rfl, rfl⟩
    · rintro i rest b z ⟨rfl, rfl⟩
      cases hei : es[i]? with
      | none => exact wpAny_pure ⟨rfl, rfl⟩
      | some e =>
        obtain ⟨x, t, q⟩ := ht e (Array.mem_of_getElem? hei)
        dsimp only
        by_cases hh : (e.hash == c) = true
        · rw [if_pos hh]
          refine wpAny_bind (wpAny_dictEpoch ho hd (wpAny_bind ?_))
          rw [q]
          have eq : ∀ Q' : Bool → Shared → Prop, Q' false z → wpAny (model prog w) A (eqBool (.str x t) v) Q' E z := fun Q' q' => by
            rcases hv with rfl | ⟨b, rfl⟩
            · exact SeqAt.EqAt.str_none x t _ _ _ _ q'
            · exact SeqAt.EqAt.str_bool x t b _ _ _ _ q'
          refine eq _ (wpAny_bind (wpAny_dictEpoch ho hd ?_))
          show wpAny _ _ (if (ep != ep) = true then _ else _) _ E _
          rw [if_neg (by simp)]
          exact wpAny_bind (wpAny_rule (wpAny_pure ⟨rfl, rfl⟩))
        · rw [if_neg hh]
          exact wpAny_pure ⟨rfl, rfl⟩
    · rintro b z ⟨rfl, rfl⟩
      exact wpAny_pure h
  dsimp only
  rw [if_pos hall]
  rcases hv with rfl | ⟨b, rfl⟩ <;> exact go
end
end HX

namespace HX
open PySem PySem.W PySem.Spec PyProof.Rows L2
theorem pairs_key {P : Program} {w : World} : ∀ {es : List DictEntry} {vs : List (Key × Value)} {i : Nat} {p : Key × Value}, Pairs (mixKind P w) es vs → vs[i]? = some p → ∃ e, es[i]? = some e ∧ keyIs p.1 e.key = true
  | _, _, _, _, .nil, h => by simp at h
  | _, _, 0, p, .cons a b r, h => by
    simp at h
    subst h
    exact ⟨_, rfl, a⟩
  | _, _, i + 1, p, .cons a b r, h => by
    obtain ⟨e, e1, e2⟩ := pairs_key (i := i) (p := p) r (by simpa using h)
    exact ⟨e, by simpa using e1, e2⟩
theorem pairs_mem {P : Program} {w : World} : ∀ {es : List DictEntry} {vs : List (Key × Value)} {e : DictEntry}, Pairs (mixKind P w) es vs → e ∈ es → ∃ p ∈ vs, keyIs p.1 e.key = true
  | _, _, _, .nil, h => by cases h
  | _, _, e, .cons a b r, h => by
    rcases List.mem_cons.mp h with rfl | h
    · exact ⟨_, List.mem_cons_self, a⟩
    · obtain ⟨p, m, k⟩ := pairs_mem r h
      exact ⟨p, List.mem_cons_of_mem _ m, k⟩
section
variable {X : Cx} {pins : List (Addr × Obj)} {σ : L2.St} {H : Hp} {s : Shared} {A : Around} {E : Value → Shared → Prop} {a : Addr}
theorem d_setItemX {kvs : List (Key × V)} {y : V} {u r : Value} {Q : Unit → Shared → Prop} (hu : A.units + 1 < cLine) (I : Inv X pins σ H s) (e : H a = some (.dK kvs)) (tx : ∀ p ∈ kvs, ∃ x, p.1 = .inr x) (ok : OddK H y) (ry : RelV y u) (l : kvs.length < sizeLine)
    (h : ∀ s', Inv X pins σ (upd H a (DXo a (kvs.map (fun p => kV p.1) ++ [y]))) s' → Q () s') : wpAny (model X.prog X.w) A (setItem (.ref a) u r) Q E s := by
  obtain ⟨z, hd, vs, rel, o, es, ep, ho, hx, hdat, hk, hp, nd⟩ := dk_of I.hok e
  have hl : kvs.length = vs.length := Paired.length rel
  have hz : es.size = kvs.length := by have := hp.length; rw [Array.length_toList] at this; omega
  have ht : TxtKeys es := fun en hen => by
    obtain ⟨p, pm, pk⟩ := pairs_mem hp (Array.mem_toList_iff.mpr hen)
    obtain ⟨i, hi⟩ := List.getElem?_of_mem pm
    have il : i < kvs.length := by rw [hl]; exact (List.getElem?_eq_some_iff.mp hi).1
    obtain ⟨q, q1, q2, q3⟩ := paired_get rel (List.getElem?_eq_getElem il)
    rw [hi] at q1
    cases q1
    obtain ⟨x, ex⟩ := tx kvs[i] (List.getElem_mem il)
    rw [← q2, ex] at pk
    exact ⟨x, PySem.Value.isStrOf_shape pk⟩
  have hT : s.TypeIs (.ref a) "dict" := ⟨o, ho, hx.1⟩
  have fin : ∀ (c : Int) (tk : Nat), Q () { s with heap := s.heap.update a (Obj.mapDictKeys (·.push ⟨c, u, r⟩)), toks := tk } := fun c tk => by
    refine h _ ?_
    have ho2 := Heap.get?_update_self (Obj.mapDictKeys (·.push ⟨c, u, r⟩)) ho (Obj.isFreed_of_dict (Obj.data_mapDictKeys hdat _))
    have hsb : Heap.SameBut a s.heap (s.heap.update a (Obj.mapDictKeys (·.push ⟨c, u, r⟩))) := Heap.SameBut.update ..
    refine d_write (t' := tk) I (by rw [e]; exact True.intro) hsb ⟨_, ho2⟩ ?_
    refine dxo_ok hd ho2 (hx.mapDictKeys _) (Obj.data_mapDictKeys hdat _) (by simp [hz]) (by simp; omega) fun i k hi => ?_
    by_cases c1 : i < kvs.length
    · rw [List.getElem?_append_left (by simpa using c1), List.getElem?_map] at hi
      cases e1 : kvs[i]? with
      | none => rw [e1] at hi; cases hi
      | some p =>
        rw [e1] at hi
        obtain rfl : kV p.1 = k := by simpa using hi
        obtain ⟨q, q1, q2, q3⟩ := paired_get rel e1
        obtain ⟨en, n1, n2⟩ := pairs_key hp q1
        refine ⟨en, ?_, ?_⟩
        · rw [Array.getElem?_push, if_neg (by omega)]
          rw [← Array.getElem?_toList]
          exact n1
        · rw [q2]
          exact relV_key n2
    · have c2 : i = kvs.length := by
        have := (List.getElem?_eq_some_iff.mp hi).1
        simp at this
        omega
      subst c2
      rw [List.getElem?_append_right (by simp)] at hi
      obtain rfl : y = k := by simpa using hi
      refine ⟨⟨c, u, r⟩, ?_, ry⟩
      rw [Array.getElem?_push, if_pos hz.symm]
  have find : ∀ (s1 : Shared) (c : Int) (Q' : Option Nat → Shared → Prop), s1.heap = s.heap → Q' none s1 → wpAny (model X.prog X.w) A.in1 (dictFind a u c) Q' E s1 := fun s1 c Q' es1 q => by
    cases ok with
    | non =>
      obtain rfl : u = Value.none := ry
      exact find_leaf (.inl rfl) (by rw [es1]; exact ho) hdat ht c q
    | bl b =>
      obtain rfl : u = Value.bool b := ry
      exact find_leaf (.inr ⟨b, rfl⟩) (by rw [es1]; exact ho) hdat ht c q
    | @tup p ks eb =>
      obtain rfl : u = Value.ref p := ry
      exact find_tup (show A.in1.units < cLine from tupleKind_room_in1 (prog := X.prog) (w := X.w) (knd := mixKind X.prog X.w) hu) (by rw [es1]; exact key_of I.hok eb) (by rw [es1]; exact ho) hdat ht c q
  have hash : ∀ (Q' : Int → Shared → Prop), (∀ c tk, Q' c { s with toks := tk }) → wpAny (model X.prog X.w) A.in1 (pyHash u) Q' E s := fun Q' q => by
    cases ok with
    | non =>
      obtain rfl : u = Value.none := ry
      exact (leafKind X.prog X.w).pyHash (k := .none) rfl (q _ _)
    | bl b =>
      obtain rfl : u = Value.bool b := ry
      exact (leafKind X.prog X.w).pyHash (k := .num (if b = true then 1 else 0)) (by show decide _ = true; simp) (q _ _)
    | @tup p ks eb =>
      obtain rfl : u = Value.ref p := ry
      exact (tupleKind (mixKind X.prog X.w)).pyHash (tupleKind_room_in1 hu) (key_of I.hok eb) (q _ _)
  unfold setItem
  try with_reducible refine wpAny_holding ?_
  refine wpAny_bind (wpAny_sequenceKey hT (by decide) ?_)
  refine wpAny_bind (wpAny_callSpecial?_slot (name := Str.ofString "__setitem__") hT F.slot_dict_setitem
    (wpAny_call_entry F.slot_dict_setitem hT F.entry_dict_setitem ?_ (F.args_dict_setitem_3 _ _ _)))
  show wpAny _ _ (Builtin.Dict.notOrdered "__setitem__" ⟨[.ref a, u, r], []⟩ >>= _) _ _ s
  refine wpAny_bind (wpAny_notOrdered_dict hT ?_)
  show wpAny _ _ (dictSet a u r >>= _) _ _ s
  refine wpAny_bind ?_
  unfold dictSet
  try with_reducible refine wpAny_holding ?_
  refine wpAny_bind (hash _ fun c tk => ?_)
  unfold dictSetHashed
  try with_reducible refine wpAny_holding ?_
  refine wpAny_bind (find { s with toks := tk } c _ rfl ?_)
  refine wpAny_bind (wpAny_rule (wpAny_updateDictKeys (hz := by omega) (s := { s with toks := tk }) ho hdat ?_))
  exact wpAny_pure ⟨.none, rfl, wpAny_pure (fin c tk)⟩
/-- d[y] = v, y a key as it is wont, or one of another kind in a dict of texts -/
def DPutX (H : Hp) (a : Addr) (y v : V) (H' : Hp) : Prop := DPut H a y v H' ∨ ∃ kvs : List (Key × V), H a = some (.dK kvs) ∧ (∀ p ∈ kvs, ∃ x, p.1 = .inr x) ∧ OddK H y ∧ kvs.length < sizeLine ∧ H' = upd H a (DXo a (kvs.map (fun p => kV p.1) ++ [y]))
def sDPutX (td ty tv : TE) : TS := fun D σ H => tv σ H fun v H1 => td σ H1 fun x H2 => ty σ H2 fun y H3 => ∃ a H4, x = .ref a ∧ DPutX H3 a y v H4 ∧ D.nx σ H4
theorem ps_dputX {o i value : Expr} {pos pos' : Pos} {td ty tv : TE} (hu : X.A.units + 1 < cLine) (ho : PE X o td) (hi : PE X i ty) (hv : PE X value tv) (hs : swapsWith value (some (.Subscript o i pos')) pos.line X.env = pure false) :
    PS X (.Assign [.Subscript o i pos'] value pos) (sDPutX td ty tv) := by
  refine ⟨fun pins s σ H D I h => ?_⟩
  refine wpAny_Assign_Subscript (thn (hv.run pins s σ H _ I h) fun r s1 ⟨v, H1, I1, rv, q1⟩ => thn (ho.run pins s1 σ H1 _ I1 q1) fun u s2 ⟨x, H2, I2, rx, q2⟩ => thn (hi.run pins s2 σ H2 _ I2 q2) fun iv s3 ⟨y, H3, I3, ry, a, H4, ex, g, q3⟩ => ?_) hs
  subst ex
  obtain rfl : u = Value.ref a := rx
  rcases g with g | ⟨kvs, e, tx, ok, l, eH⟩
  · exact d_setItem hu I3 g ry rv fun s4 I4 => ⟨σ, H4, I4, q3⟩
  · subst eH
    exact d_setItemX hu I3 e tx ok ry l fun s4 I4 => ⟨σ, _, I4, q3⟩
end
end HX

set_option Elab.async false
set_option linter.all false
set_option maxRecDepth 100000
set_option maxHeartbeats 4000000
namespace LW
open PySem PySem.Spec PyProof.Rows L2 HX NumText
section
variable {P : Program} {w : World} {K : PySem.W.Frag} {mg : Str → Option Value} {base : Heap}

/-- a value that is no number of ours: its kind, and whether it is an int -/
inductive PlV (H : Hp) : V → Prop
  | non : PlV H .non
  | bl (b : Bool) : PlV H (.bl b)
  | int (i : Int) : PlV H (.int i)
  | str (x : Str) : PlV H (.str x)
  | lst {a : Addr} {xs : List V} (e : H a = some (.lst xs)) : PlV H (.ref a)
  | tup {a : Addr} {xs : List V} (e : H a = some (.tup xs)) : PlV H (.ref a)
def isIntV : V → Bool
  | .int _ => true
  | _ => false
theorem PlV.mo {H G : Hp} {v : V} (s : Same H G) (h : PlV H v) : PlV G v := by
  cases h with
  | non => exact .non
  | bl b => exact .bl b
  | int i => exact .int i
  | str x => exact .str x
  | lst e => exact .lst (s _ _ e)
  | tup e => exact .tup (s _ _ e)
theorem PlV.upd {H : Hp} {v : V} {d : Addr} {o u : HO} (h : PlV H v) (e : H d = some u) (n1 : ∀ xs, u ≠ .lst xs) (n2 : ∀ xs, u ≠ .tup xs) : PlV (L2.upd H d o) v := by
  cases h with
  | non => exact .non
  | bl b => exact .bl b
  | int i => exact .int i
  | str x => exact .str x
  | lst q => exact .lst (by rw [upd_ne (fun z => by rw [z, e] at q; exact n1 _ (Option.some.inj q))]; exact q)
  | tup q => exact .tup (by rw [upd_ne (fun z => by rw [z, e] at q; exact n2 _ (Option.some.inj q))]; exact q)
/-- keys: whether they are names -/
inductive KeyV (H : Hp) : V → Bool → Prop
  | str (x : Str) (h : x.length ≤ 1000000) : KeyV H (.str x) (nameS x)
  | int (i : Int) : KeyV H (.int i) false
  | non : KeyV H .non false
  | bl (b : Bool) : KeyV H (.bl b) false
  | tup {a : Addr} (e : H a = some (.tup [.int 1])) : KeyV H (.ref a) false
theorem KeyV.mo {H G : Hp} {v : V} {b : Bool} (s : Same H G) (h : KeyV H v b) : KeyV G v b := by
  cases h with
  | str x h => exact .str x h
  | int i => exact .int i
  | non => exact .non
  | bl b => exact .bl b
  | tup e => exact .tup (s _ _ e)
theorem KeyV.upd {H : Hp} {v : V} {b : Bool} {d : Addr} {o u : HO} (h : KeyV H v b) (e : H d = some u) (n2 : ∀ xs, u ≠ .tup xs) : KeyV (L2.upd H d o) v b := by
  cases h with
  | str x h => exact .str x h
  | int i => exact .int i
  | non => exact .non
  | bl b => exact .bl b
  | tup q => exact .tup (by rw [upd_ne (fun z => by rw [z, e] at q; exact n2 _ (Option.some.inj q))]; exact q)
theorem KeyV.da {H : Hp} {v : V} {b : Bool} (h : KeyV H v b) : ∃ d, Da H v d ∧ shortD d ∧ nameD d = b := by
  cases h with
  | str x h => exact ⟨_, .str x, h, rfl⟩
  | int i => exact ⟨_, .int i, trivial, rfl⟩
  | non => exact ⟨_, .non, trivial, rfl⟩
  | bl b => exact ⟨_, .bl b, trivial, rfl⟩
  | tup e => exact ⟨_, .tup e (.cons (.int 1) .nil), trivial, rfl⟩
/-- the value of a part that is taken -/
def inNine : V → Bool
  | .int i => decide (-9 ≤ i) && decide (i ≤ 9)
  | _ => false
def partOk : V → Bool
  | .int i => (decide (-9 ≤ i) && decide (i ≤ 9)) && !decide (i = 0)
  | _ => false

def spIsIntV : Sp := fun vs H Q _ => ∃ v, vs = [v] ∧ PlV H v ∧ Q (.bl (isIntV v)) H
theorem ok_isintV {f : Addr} {fd : FuncData} (F : Fun K "is_int" "is_int" s_is_int f fd) (T : Txt K mg) : FnOk P w K mg base CX0 1 f fd ["value"] spIsIntV := by
  refine F.ok sc_is_int (fun vs H Q E h => ?_) (fun cdv A' outer s H vs Q E hr h => ?_)
  · obtain ⟨v, rfl, _⟩ := h
    rfl
  · obtain ⟨v, rfl, hp, k⟩ := h
    refine ⟨_, (pss_one (ps_ret (e_and (pe_callB c_isi (by rfl) T.b_isinstance (by decide +kernel) (pa_cons (pc 0) (pa_cons (pe_bltn (v := .ty "int") (u := .type "int") (by rfl) T.b_int (by decide +kernel) rfl) pa_nil))) (pe_one (e_not (pe_callB c_isi (by rfl) T.b_isinstance (by decide +kernel) (pa_cons (pc 0) (pa_cons (pe_bltn (v := .ty "bool") (u := .type "bool") (by rfl) T.b_bool (by decide +kernel) rfl) pa_nil)))))))), ?_⟩
    cases hp with
    | non => exact ⟨_, _, _, _, false, rfl, .non, (fun u r => r), kit_ty (by show kitB _ _ = some false; decide +kernel), ⟨fun h => absurd h (by decide), fun _ => k⟩⟩
    | bl b => exact ⟨_, _, _, _, true, rfl, .bl b, (fun u r => r), kit_ty (by show kitB _ _ = some true; decide +kernel), ⟨fun _ => ⟨_, _, _, _, true, rfl, .bl b, (fun u r => r), kit_ty (by show kitB _ _ = some true; decide +kernel), k⟩, fun h => absurd h (by decide)⟩⟩
    | int i => exact ⟨_, _, _, _, true, rfl, .int i, (fun u r => r), kit_ty (by show kitB _ _ = some true; decide +kernel), ⟨fun _ => ⟨_, _, _, _, false, rfl, .int i, (fun u r => r), kit_ty (by show kitB _ _ = some false; decide +kernel), k⟩, fun h => absurd h (by decide)⟩⟩
    | str x => exact ⟨_, _, _, _, false, rfl, .str x, (fun u r => r), kit_ty (by show kitB _ _ = some false; decide +kernel), ⟨fun h => absurd h (by decide), fun _ => k⟩⟩
    | lst e => exact ⟨_, _, _, _, false, rfl, .lst e, (fun u r => r), kit_ty (by show kitB _ _ = some false; decide +kernel), ⟨fun h => absurd h (by decide), fun _ => k⟩⟩
    | tup e => exact ⟨_, _, _, _, false, rfl, .tup e, (fun u r => r), kit_ty (by show kitB _ _ = some false; decide +kernel), ⟨fun h => absurd h (by decide), fun _ => k⟩⟩

def spWithin : Sp := fun vs H Q _ => ∃ v, vs = [v, .int (-9), .int 9] ∧ PlV H v ∧ Q (.bl (inNine v)) H
theorem ok_within {f : Addr} {fd : FuncData} (F : Fun K "is_int_within" "is_int_within" s_is_int_within f fd) (T : Txt K mg) (cI : CalO P w K mg base "is_int" 1 ["value"] spIsIntV (fun _ => True)) : FnOk P w K mg base CX0 2 f fd ["value", "least", "most"] spWithin := by
  refine F.ok sc_is_int_within (fun vs H Q E h => ?_) (fun cdv A' outer s H vs Q E hr h => ?_)
  · obtain ⟨v, rfl, _⟩ := h
    rfl
  · obtain ⟨v, rfl, hp, k⟩ := h
    refine ⟨_, (pss_one (ps_ret (e_and (pe_cO cI (hr.mono (by decide)) (pa_cons (pc 0) pa_nil)) (pe_one (e_chain o_le o_le (pc 1) (pc 0) (pc 2)))))), ?_⟩
    refine ⟨_, rfl, hp, ?_⟩
    cases hp with
    | int i =>
      refine ⟨fun _ => ⟨fun c1 => ?_, fun c1 => ?_⟩, fun h => nomatch (show true = false from h)⟩
      · have e : inNine (.int i) = decide (i ≤ 9) := by simp only [inNine, c1, Bool.true_and]
        rw [e] at k
        exact k
      · have e : inNine (.int i) = false := by simp only [inNine, c1, Bool.false_and]
        rw [e] at k
        exact k
    | _ => exact ⟨fun h => (nomatch (show false = true from h)), fun _ => k⟩

/-- what wrong_part tells: keys ks with their answers bs, parts vs -/
def KeysV (H : Hp) : List V → List Bool → Prop
  | [], [] => True
  | k :: ks, b :: bs => KeyV H k b ∧ KeysV H ks bs
  | _, _ => False
theorem KeysV.len {H : Hp} : ∀ {ks : List V} {bs : List Bool}, KeysV H ks bs → ks.length = bs.length
  | [], [], _ => rfl
  | _ :: _, _ :: _, h => congrArg Nat.succ (KeysV.len h.2)
theorem KeysV.at_ {H : Hp} : ∀ {ks : List V} {bs : List Bool} {i : Nat} {k : V}, KeysV H ks bs → ks[i]? = some k → ∃ b, bs[i]? = some b ∧ KeyV H k b
  | [], [], _, _, _, e => by simp at e
  | k :: ks, b :: bs, 0, k', h, e => by
    simp at e
    subst e
    exact ⟨b, rfl, h.1⟩
  | _ :: _, _ :: bs, i + 1, k, h, e => by
    obtain ⟨b, b1, b2⟩ := KeysV.at_ (i := i) h.2 (by simpa using e)
    exact ⟨b, by simpa using b1, b2⟩
theorem KeysV.mo {H G : Hp} (s : Same H G) : ∀ {ks : List V} {bs : List Bool}, KeysV H ks bs → KeysV G ks bs
  | [], [], _ => trivial
  | _ :: _, _ :: _, h => ⟨h.1.mo s, KeysV.mo s h.2⟩
theorem KeysV.upd {H : Hp} {d : Addr} {o u : HO} (e : H d = some u) (n2 : ∀ xs, u ≠ .tup xs) : ∀ {ks : List V} {bs : List Bool}, KeysV H ks bs → KeysV (L2.upd H d o) ks bs
  | [], [], _ => trivial
  | _ :: _, _ :: _, h => ⟨h.1.upd e n2, KeysV.upd e n2 h.2⟩
def teW (K : PySem.W.Frag) (Ln : Addr) : TE := cAndV (tCall spWithin [] E0 (tCons (cV 2) (tCons (tUn (rU fun i => .int (-i)) (ClX.tCVal K (tC (.ref Ln)) "MOST")) (tCons (ClX.tCVal K (tC (.ref Ln)) "MOST") tNil)))) (tOp (rEq2 K true) (cV 2) (tC (.int 0)))
def sWp (x : String) : V := .str (Str.ofString x)
/-- the dict at d with its keys, of one kind or of another -/
def DKs (H : Hp) (d : Addr) (ks : List V) : Prop := (∃ kvs : List (Key × V), H d = some (.dK kvs) ∧ ks = kvs.map fun p => kV p.1) ∨ H d = some (DXo d ks)
def spWrong (K : PySem.W.Frag) : Sp := fun vs H Q _ => ∃ v, vs = [v] ∧
  (((∃ t, TyOf K H v t ∧ PySem.W.kitOne K t (.type "dict") = some false) ∧ Q (sWp "parts") H) ∨
   (∃ (d : Addr) (ks : List V) (bs : List Bool), v = .ref d ∧ DKs H d ks ∧ ks.length ≤ 1000 ∧ KeysV H ks bs ∧ bs.all id = false ∧ ∀ G, Same H G → Q (sWp "account") G) ∨
   (∃ (d : Addr) (kvs : List (Key × V)), v = .ref d ∧ H d = some (.dK kvs) ∧ kvs.length ≤ 1000 ∧ (∀ p ∈ kvs, ∃ x : Str, p.1 = .inr x ∧ x.length ≤ 1000000 ∧ nameS x = true) ∧ (∀ p ∈ kvs, PlV H p.2) ∧
     ∀ G, Same H G → Q (if (kvs.map fun p => partOk p.2).all id then .non else sWp "part") G))
theorem back_lock {H G : Hp} {d : Addr} {u : HO} {od : Obj} (e : H d = some u) (s : Same (L2.upd H d (.frz od u)) G) : Same H (L2.upd G d u) := fun b o z => by
  by_cases bp : b = d
  · rw [bp] at z ⊢
    rw [e] at z
    cases z
    exact upd_same
  · rw [upd_ne bp]
    exact s _ _ (by rw [upd_ne bp]; exact z)
theorem blsL {K : PySem.W.Frag} {G : Hp} {D : Addr} {bs : List Bool} (h : G D = some (.lst (bs.map V.bl))) : SqL K G D (bs.map V.bl) := SqL.of h
/-- whether all keys are names -/
theorem keys_all {K : PySem.W.Frag} {d : Addr} {ks : List V} {bs : List Bool} {H : Hp} {Q : VK} {w1 w2 : Option V} (hd : DKs H d ks) (l1 : ks.length ≤ 1000) (kv : KeysV H ks bs) (k : ∀ G, Same H G → Q (.bl (bs.all id)) G) :
    tCB (rAll K) (tCons (tLockE (tLc (iKeysX (cV 0)) (gName 1) tYes (tCall spIsName [] E0 (tCons (cV 1) tNil)) [1])) tNil) [some (.ref d), w1, w2] H Q := by
  have bl := kv.len
  rcases hd with ⟨kvs, e, rfl⟩ | e
  · rw [List.length_map] at bl l1
    refine ⟨d, .dK kvs, e, trivial, fun od => ⟨d, od, rfl, .inl ⟨kvs, upd_same, fun D nD => lc_it walk_keys
      (fun i G => Same (L2.upd H d (.frz od (.dK kvs))) G ∧ G D = some (.lst ((bs.take i).map V.bl))) ⟨Same.new (Same.refl _) nD, upd_same⟩ (fun i G _ z => z.1 _ _ upd_same) ?_ ?_⟩⟩⟩
    · rintro i x G G' hi ⟨s3, gD⟩ ⟨rfl, ky, v, e1, rfl⟩
      obtain ⟨b, b1, b2⟩ := kv.at_ (i := i) (k := kV ky) (by rw [List.getElem?_map, e1]; rfl)
      obtain ⟨dd, d1, d2, d3⟩ := ((b2.upd (o := .frz od (.dK kvs)) e (fun xs z => by cases z)).mo s3).da
      refine ⟨rfl, _, dd, rfl, d1, d2, fun G2 s4 => ⟨_, s4 _ _ gD, by rw [List.length_map, List.length_take, sizeLine_eq]; omega, Same.mut (s3.trans s4) nD, ?_⟩⟩
      rw [upd_same, List.take_add_one, b1, List.map_append, d3]
      rfl
    · rintro G ⟨s3, gD⟩
      have pD : D ≠ d := fun z => by rw [z, upd_same] at nD; cases nD
      rw [bl, List.take_length] at gD
      exact ⟨s3 _ _ upd_same, D, bs, rfl, blsL (by rw [upd_ne pD]; exact gD), k _ (back_lock e s3)⟩
  · refine ⟨d, DXo d ks, e, trivial, fun od => ⟨d, od, rfl, .inr ⟨ks, upd_same, fun D nD => lc_it walk_keysX
      (fun i G => Same (L2.upd H d (.frz od (DXo d ks))) G ∧ G D = some (.lst ((bs.take i).map V.bl))) ⟨Same.new (Same.refl _) nD, upd_same⟩ (fun i G _ z => z.1 _ _ upd_same) ?_ ?_⟩⟩⟩
    · rintro i x G G' hi ⟨s3, gD⟩ ⟨rfl, e1⟩
      obtain ⟨b, b1, b2⟩ := kv.at_ e1
      obtain ⟨dd, d1, d2, d3⟩ := ((b2.upd (o := .frz od (DXo d ks)) e (fun xs z => by cases z)).mo s3).da
      refine ⟨rfl, _, dd, rfl, d1, d2, fun G2 s4 => ⟨_, s4 _ _ gD, by rw [List.length_map, List.length_take, sizeLine_eq]; omega, Same.mut (s3.trans s4) nD, ?_⟩⟩
      rw [upd_same, List.take_add_one, b1, List.map_append, d3]
      rfl
    · rintro G ⟨s3, gD⟩
      have pD : D ≠ d := fun z => by rw [z, upd_same] at nD; cases nD
      rw [bl, List.take_length] at gD
      exact ⟨s3 _ _ upd_same, D, bs, rfl, blsL (by rw [upd_ne pD]; exact gD), k _ (back_lock e s3)⟩
/-- whether all parts are good -/
theorem parts_all {K : PySem.W.Frag} {d Ln : Addr} {kvs : List (Key × V)} {H : Hp} {Q : VK} {w1 w2 : Option V} (rL : ClX.CRead K Ln (.type "type")) {tM : Tok} (cM : ClX.CVal K Ln (.type "type") "MOST" (.int 9) (.int 9 tM)) (e : H d = some (.dK kvs)) (l1 : kvs.length ≤ 1000) (pl : ∀ p ∈ kvs, PlV H p.2)
    (k : ∀ G, Same H G → Q (.bl ((kvs.map fun p => partOk p.2).all id)) G) :
    tCB (rAll K) (tCons (tLockE (tLc (iVals (cV 0)) (gName 2) tYes (teW K Ln) [2])) tNil) [some (.ref d), w1, w2] H Q := by
  refine ⟨d, .dK kvs, e, trivial, fun od => ⟨d, od, kvs, rfl, upd_same, fun D nD => lc_it (te := teW K Ln) walk_values
      (fun i G => Same (L2.upd H d (.frz od (.dK kvs))) G ∧ G D = some (.lst (((kvs.map fun p => partOk p.2).take i).map V.bl))) ⟨Same.new (Same.refl _) nD, upd_same⟩ (fun i G _ z => z.1 _ _ upd_same) ?_ ?_⟩⟩
  · rintro i x G G' hi ⟨s3, gD⟩ ⟨rfl, ky, e1⟩
    have p1 := (PlV.upd (o := .frz od (.dK kvs)) (pl _ (List.mem_of_getElem? e1)) e (fun xs z => by cases z) (fun xs z => by cases z)).mo s3
    have fin : ∀ c : Bool, c = partOk x → ∃ xs : List V, G' D = some (.lst xs) ∧ xs.length + 1 ≤ sizeLine ∧ (Same (L2.upd H d (.frz od (.dK kvs))) (L2.upd G' D (.lst (xs ++ [.bl c]))) ∧ L2.upd G' D (.lst (xs ++ [.bl c])) D = some (.lst (((kvs.map fun p => partOk p.2).take (i + 1)).map V.bl))) := fun c hc => by
      refine ⟨_, gD, by rw [List.length_map, List.length_take, sizeLine_eq]; omega, Same.mut s3 nD, ?_⟩
      rw [upd_same, List.take_add_one, List.getElem?_map, e1, List.map_append, hc]
      rfl
    refine ⟨rfl, Ln, _, _, _, rfl, rL, cM, 9, rfl, Ln, _, _, _, rfl, rL, cM, x, rfl, p1, ⟨fun t => ?_, fun t => ?_⟩⟩
    · have ex : ∃ j, x = .int j := by
        cases x with
        | int j => exact ⟨j, rfl⟩
        | _ => cases t
      obtain ⟨j, rfl⟩ := ex
      refine fin (xor true (decide (j = 0))) ?_
      have t : (decide (-9 ≤ j) && decide (j ≤ 9)) = true := t
      simp only [partOk, t, Bool.true_and, Bool.true_xor]
    · refine fin false ?_
      cases x with
      | int j =>
        have t : (decide (-9 ≤ j) && decide (j ≤ 9)) = false := t
        simp only [partOk, t, Bool.false_and]
      | _ => rfl
  · rintro G ⟨s3, gD⟩
    have pD : D ≠ d := fun z => by rw [z, upd_same] at nD; cases nD
    rw [List.take_of_length_le (by rw [List.length_map]; omega)] at gD
    exact ⟨s3 _ _ upd_same, D, _, rfl, blsL (by rw [upd_ne pD]; exact gD), k _ (back_lock e s3)⟩
theorem ok_wrong {f Ln : Addr} {fd : FuncData} (F : Fun K "wrong_part" "wrong_part" s_wrong_part f fd) (T : Txt K mg) (T2 : Txt2 mg) (hall : mg "all" = none) (hdi : mg "dict" = none) (gLin : mg "Linear" = some (.ref Ln)) (rL : ClX.CRead K Ln (.type "type")) (cM : ∃ t, ClX.CVal K Ln (.type "type") "MOST" (.int 9) (.int 9 t)) (cN : CalO P w K mg base "is_name" 1 ["value"] spIsName (fun _ => True)) (cW : CalO P w K mg base "is_int_within" 2 ["value", "least", "most"] spWithin (fun _ => True)) : FnOk P w K mg base CX0 4 f fd ["parts"] (spWrong K) := by
  obtain ⟨tM, cM⟩ := cM
  refine F.ok sc_wrong_part (fun vs H Q E h => ?_) (fun cdv A' outer s H vs Q E hr h => ?_)
  · obtain ⟨v, rfl, _⟩ := h
    rfl
  · obtain ⟨v, rfl, hv⟩ := h
    refine ⟨_, (pss_cons (s_if (pt_not (t_val (pe_callB c_isiX (by rfl) T.b_isinstance (by decide +kernel) (pa_cons (pc 0) (pa_cons (pe_bltn (v := .ty "dict") (u := .type "dict") (by rfl) hdi (by decide +kernel) rfl) pa_nil))))) (pss_one (ps_ret pe_str)) pss_nil)
    (pss_cons (s_if (pt_not (t_val (pe_callB (cr_all rfl) (by rfl) hall (by decide +kernel) (pa_cons (pe_lock (pe_lc (own := [("account", 1)]) (g := gName 1) (tt := tYes) rfl sc_wrong_part.nd (pi_keysX (pc 0)) (blkOk_by (own := [("account", 1)]) (N := n_wrong_part) (sc := defScope s_wrong_part) (by decide +kernel)) (fun _ _ _ _ _ => pg_name (i := 1) sc_wrong_part.nd rfl (Or.inl rfl)) (fun _ _ _ _ _ => pts_nil) (fun _ _ _ _ _ => (pe_cO cN (hr.mono (by decide)) (pa_cons (pc 1) pa_nil))))) pa_nil)))) (pss_one (ps_ret pe_str)) pss_nil)
    (pss_cons (s_if (pt_not (t_val (pe_callB (cr_all rfl) (by rfl) hall (by decide +kernel) (pa_cons (pe_lock (pe_lc (own := [("part", 2)]) (g := gName 2) (tt := tYes) (te := teW K Ln) rfl sc_wrong_part.nd (pi_values (pc 0)) (blkOk_by (own := [("part", 2)]) (N := n_wrong_part) (sc := defScope s_wrong_part) (by decide +kernel)) (fun _ _ _ _ _ => pg_name (i := 2) sc_wrong_part.nd rfl (Or.inl rfl)) (fun _ _ _ _ _ => pts_nil) (fun _ _ _ _ _ => (e_and (pe_cO cW (hr.mono (by decide)) (pa_cons (pc 2) (pa_cons (pe_un un_neg (ClX.pe_cval (p_gc gLin))) (pa_cons (ClX.pe_cval (p_gc gLin)) pa_nil)))) (pe_one (p_cmp (o_ne hr.units) (pc 2) pe_int)))))) pa_nil)))) (pss_one (ps_ret pe_str)) pss_nil)
    (pss_one (ps_ret pe_non))))), ?_⟩
    rcases hv with ⟨⟨t, ty, kt⟩, k⟩ | ⟨d, ks, bs, rfl, hd, l1, kv, bad, k⟩ | ⟨d, kvs, rfl, hd, l1, nm, pl, k⟩
    · exact .inl ⟨_, _, _, _, false, rfl, ty, (fun u r => r), kt, ⟨fun _ => k, fun h => absurd h (by decide)⟩⟩
    · have st : ∀ (W : VK), W (.bl true) H → rIsi2X K [.ref d, .ty "dict"] H W := fun W q => by
        rcases hd with ⟨kvs, e, rfl⟩ | e
        · exact .inl ⟨_, _, _, _, true, rfl, .dK e, (fun u r => r), kit_ty (by show kitB _ _ = some true; decide +kernel), q⟩
        · exact .inr ⟨_, _, _, _, true, rfl, e, .ty "dict", kit_ty (by show kitB _ _ = some true; decide +kernel), q⟩
      refine st _ ⟨fun h => absurd h (by decide), fun _ => keys_all hd l1 kv fun G s1 => ?_⟩
      rw [bad]
      exact ⟨fun _ => k G s1, fun h => absurd h (by decide)⟩
    · refine .inl ⟨_, _, _, _, true, rfl, .dK hd, (fun u r => r), kit_ty (by show kitB _ _ = some true; decide +kernel), ⟨fun h => absurd h (by decide), fun _ => ?_⟩⟩
      have kvs_ : KeysV H (kvs.map fun p => kV p.1) (kvs.map fun _ => true) := by
        clear k hd pl l1
        induction kvs with
        | nil => trivial
        | cons p r ih =>
          refine ⟨?_, ih fun p hp => nm p (List.mem_cons_of_mem _ hp)⟩
          obtain ⟨x, e1, e2, e3⟩ := nm p List.mem_cons_self
          show KeyV H (kV p.1) true
          rw [e1, ← e3]
          exact .str x e2
      refine keys_all (.inl ⟨kvs, hd, rfl⟩) (by rw [List.length_map]; exact l1) kvs_ fun G s1 => ?_
      have tr : (kvs.map fun _ => true).all id = true := by simp
      rw [tr]
      refine ⟨fun h => absurd h (by decide), fun _ => parts_all rL cM (s1 _ _ hd) l1 (fun p hp => (pl p hp).mo s1) fun G2 s2 => ?_⟩
      have k2 := k G2 (s1.trans s2)
      cases hb : (kvs.map fun p => partOk p.2).all id with
      | true =>
        rw [hb] at k2
        exact ⟨fun h => absurd h (by decide), fun _ => k2⟩
      | false =>
        rw [hb] at k2
        exact ⟨fun _ => k2, fun h => absurd h (by decide)⟩

end
end LW
set_option Elab.async false
set_option linter.all false
set_option maxRecDepth 100000
set_option maxHeartbeats 4000000
namespace LW
open PySem PySem.Spec PyProof.Rows L2 HX NumText
section
variable {P : Program} {w : World} {K : PySem.W.Frag} {mg : Str → Option Value} {base : Heap}

/-- parts by names, as they are told and as they stand -/
def kIs (ps : List (List Nat × Int)) : List (Key × V) := ps.map fun p => ((.inr (ofL p.1) : Key), V.int p.2)
def sIs (ps : List (List Nat × Int)) : List V := ps.map fun p => V.str (ofL p.1)
structure PsOk (ps : List (List Nat × Int)) : Prop where
  nd : (ps.map (·.1)).Nodup
  l64 : ps.length < 64
  all : ∀ p ∈ ps, Nm p.1 ∧ -9 ≤ p.2 ∧ p.2 ≤ 9 ∧ p.2 ≠ 0
/-- a bad item is told -/
def RzP (BI : Addr) (H : Hp) (E : XK) (v : V) : Prop := ∀ G dd, Same H G → H dd = none → G dd = some (.xd [("part", v)]) → E (.ref BI) (some dd) G
theorem RzP.mo {BI : Addr} {H G : Hp} {E : XK} {v : V} (s : Same H G) (h : RzP BI H E v) : RzP BI G E v := fun J dd s2 n e => h J dd (s.trans s2) (s.free n) e
/-- what is wrong with v -/
def WrongV (K : PySem.W.Frag) (H : Hp) (v : V) (x : String) : Prop :=
  (x = "parts" ∧ ∃ t, TyOf K H v t ∧ PySem.W.kitOne K t (.type "dict") = some false) ∨
  (x = "account" ∧ ∃ (d : Addr) (ks : List V) (bs : List Bool), v = .ref d ∧ DKs H d ks ∧ ks.length ≤ 1000 ∧ KeysV H ks bs ∧ bs.all id = false) ∨
  (x = "part" ∧ ∃ (d : Addr) (kvs : List (Key × V)), v = .ref d ∧ H d = some (.dK kvs) ∧ kvs.length ≤ 1000 ∧ (∀ p ∈ kvs, ∃ x : Str, p.1 = .inr x ∧ x.length ≤ 1000000 ∧ nameS x = true) ∧ (∀ p ∈ kvs, PlV H p.2) ∧ (kvs.map fun p => partOk p.2).all id = false)
def LnNew (Ln x dx : Addr) (H : Hp) (Q : VK) (ps : List (List Nat × Int)) : Prop :=
  ∀ (G : Hp) (D : Addr) (qs : List (List Nat × Int)), H D = none → (∀ b o, b ≠ x → H b = some o → G b = some o) → G x = some (.ins Ln dx [("_parts", .ref D)]) → G D = some (.dK (kIs qs)) → qs.Perm ps → sortedS (qs.map fun p => ofL p.1) = true → Q .non G
def spLInit (K : PySem.W.Frag) (Ln BI : Addr) : Sp := fun vs H Q E => ∃ (x dx : Addr) (v : V), vs = [.ref x, v] ∧ H x = some (.ins Ln dx []) ∧
  ((∃ z, WrongV K H v z ∧ RzP BI H E (sWp z)) ∨ ∃ (P_ : Addr) (ps : List (List Nat × Int)), v = .ref P_ ∧ H P_ = some (.dK (kIs ps)) ∧ PsOk ps ∧ LnNew Ln x dx H Q ps)
theorem kIs_len (ps : List (List Nat × Int)) : (kIs ps).length = ps.length := by unfold kIs; rw [List.length_map]
theorem kIs_out {k : List Nat} : ∀ {ps : List (List Nat × Int)}, (∀ p ∈ ps, p.1 ≠ k) → valV (kIs ps) (.inr (ofL k)) = none
  | [], _ => rfl
  | p :: r, n => by
    show valV (((.inr (ofL p.1) : Key), V.int p.2) :: kIs r) _ = none
    rw [valV_neg (by intro z; exact n _ (List.mem_cons_self ..) (ofL_inj (Sum.inr.inj z)))]
    exact kIs_out fun q hq => n q (List.mem_cons_of_mem _ hq)
theorem kIs_get {n : List Nat} {i : Int} : ∀ {ps : List (List Nat × Int)}, (ps.map (·.1)).Nodup → (n, i) ∈ ps → valV (kIs ps) (.inr (ofL n)) = some (.int i)
  | [], _, z => nomatch z
  | p :: r, nd, z => by
    rw [List.map_cons, List.nodup_cons] at nd
    show valV (((.inr (ofL p.1) : Key), V.int p.2) :: kIs r) _ = _
    rcases List.mem_cons.mp z with z | z
    · rw [← z]
      exact valV_pos (p := ((Sum.inr (ofL n) : Key), V.int i)) rfl
    · rw [valV_neg (by intro y; exact nd.1 (List.mem_map.mpr ⟨_, z, (ofL_inj (Sum.inr.inj y)).symm⟩))]
      exact kIs_get nd.2 z
theorem out_take {qs : List (List Nat × Int)} {i : Nat} {g : List Nat × Int} (nd : (qs.map (·.1)).Nodup) (e : qs[i]? = some g) : ∀ p ∈ qs.take i, p.1 ≠ g.1 := fun p hp z => by
  obtain ⟨hi, rfl⟩ := List.getElem?_eq_some_iff.mp e
  have sp : qs.map (·.1) = (qs.take i).map (·.1) ++ qs[i].1 :: (qs.drop (i + 1)).map (·.1) := by
    have := congrArg (List.map (·.1)) (List.take_append_drop i qs).symm
    rw [List.drop_eq_getElem_cons hi, List.map_append, List.map_cons] at this
    exact this
  rw [sp] at nd
  exact (List.nodup_append.mp nd).2.2 _ (List.mem_map.mpr ⟨p, hp, rfl⟩) _ (List.mem_cons_self ..) z
theorem partOk_int {i : Int} (h1 : -9 ≤ i) (h2 : i ≤ 9) (h3 : i ≠ 0) : partOk (.int i) = true := by
  simp [partOk, h1, h2, h3]
theorem nm_nameS {l : List Nat} (h : Nm l) : nameS (ofL l) = true ∧ (ofL l).length ≤ 1000000 := by
  refine ⟨nm_name h, ?_⟩
  have := h.2.1
  rw [ofL_len]
  omega
theorem ok_linit {f Ln BI : Addr} {fd : FuncData} (F : Fun K "__init__" "Linear.__init__" s_Linear_init f fd) (T : Txt K mg) (T2 : Txt2 mg) (hso : mg "sorted" = none) (Cl : Cls K Ln) (nP : NoAttr K Ln "_parts") (Z : ErrC P w K mg base "BadItem" BI ["self", "part"] (spI1 BI "part")) (cWp : CalO P w K mg base "wrong_part" 4 ["parts"] (spWrong K) (fun _ => True)) : FnOk P w K mg base (CX P w) 6 f fd ["self", "parts"] (spLInit K Ln BI) := by
  refine F.okX sc_Linear_init (fun vs H Q E h => ?_) (fun cdv A' outer s H vs Q E hr h => ?_)
  · obtain ⟨x, dx, v, rfl, _⟩ := h
    rfl
  · obtain ⟨x, dx, v, rfl, hx, hv⟩ := h
    refine ⟨_, (pss_cons (ps_set (i := 2) sc_Linear_init.nd rfl (Or.inl rfl) (pe_cO cWp (hr.mono (by decide)) (pa_cons (pc 1) pa_nil)))
    (pss_cons (s_if (t_cmp o_isnot (pc 2) pe_non) (pss_one (ps_rz Z rfl (hr.mono (by decide)) (takes_of rfl rfl rfl rfl) (pa_cons (pc 2) pa_nil))) pss_nil)
    (pss_one (ps_fld (pc 0) (pe_dc (own := [("account", 3)]) (g := gName 3) (tt := tYes) rfl sc_Linear_init.nd (pi_list (pe_callB cr_sortedS (by rfl) hso (by decide +kernel) (pa_cons (pe_lock (pe_lc (own := [("account", 3)]) (g := gName 3) (tt := tYes) rfl sc_Linear_init.nd (pi_keys (pc 1)) (blkOk_by (own := [("account", 3)]) (N := n_Linear_init) (sc := defScope s_Linear_init) (by decide +kernel)) (fun _ _ _ _ _ => pg_name (i := 3) sc_Linear_init.nd rfl (Or.inl rfl)) (fun _ _ _ _ _ => pts_nil) (fun _ _ _ _ _ => (pe_callTy SkE.call_str_str (by rfl) T2.b_str (by decide +kernel) (pa_cons (pc 3) pa_nil))))) pa_nil))) (blkOk_by (own := [("account", 3)]) (N := n_Linear_init) (sc := defScope s_Linear_init) (by decide +kernel)) (fun _ _ _ _ _ => pg_name (i := 3) sc_Linear_init.nd rfl (Or.inl rfl)) (fun _ _ _ _ _ => pts_nil) (fun _ _ _ _ _ => (pc 3)) (fun _ _ _ _ _ => (pe_dget (Nat.lt_of_le_of_lt (Nat.add_le_add_left (by decide : 1 ≤ 64) _) hr.units) (pc 1) (pc 3) (by exact fun _ _ => rfl)))) (by rfl))))), ?_⟩
    rcases hv with ⟨z, wz, k⟩ | ⟨P_, ps, rfl, hP, ok, k⟩
    · rcases wz with ⟨rfl, t, ty, kt⟩ | ⟨rfl, d, ks, bs, rfl, hd, l1, kv, bad⟩ | ⟨rfl, d, kvs, rfl, hd, l1, nm, pl, bad⟩
      · exact ⟨v, rfl, .inl ⟨⟨t, ty, kt⟩, ⟨fun _ => mk1_ans (Q := fun cls dd G => E cls dd G) fun dd nd => k _ dd (Same.new (Same.refl _) nd) nd upd_same, fun h => absurd h (by decide)⟩⟩⟩
      · exact ⟨_, rfl, .inr (.inl ⟨d, ks, bs, rfl, hd, l1, kv, bad, fun G s1 => ⟨fun _ => mk1_ans (Q := fun cls dd G => E cls dd G) fun dd nd => (k.mo s1) _ dd (Same.new (Same.refl _) nd) nd upd_same, fun h => absurd h (by decide)⟩⟩)⟩
      · refine ⟨_, rfl, .inr (.inr ⟨d, kvs, rfl, hd, l1, nm, pl, fun G s1 => ?_⟩)⟩
        rw [bad]
        exact ⟨fun _ => mk1_ans (Q := fun cls dd G => E cls dd G) fun dd nd => (k.mo s1) _ dd (Same.new (Same.refl _) nd) nd upd_same, fun h => absurd h (by decide)⟩
    have kl := kIs_len ps
    have l64 := ok.l64
    refine ⟨_, rfl, .inr (.inr ⟨P_, kIs ps, rfl, hP, by have := ok.l64; omega, fun p hp => ?_, fun p hp => ?_, fun G sG => ?_⟩)⟩
    · obtain ⟨q, hq, rfl⟩ := List.mem_map.mp hp
      have n1 := nm_nameS (ok.all q hq).1
      exact ⟨_, rfl, n1.2, n1.1⟩
    · obtain ⟨q, hq, rfl⟩ := List.mem_map.mp hp
      exact .int _
    have good : ((kIs ps).map fun p => partOk p.2).all id = true := by
      rw [List.all_map, List.all_eq_true]
      intro p hp
      obtain ⟨q, hq, rfl⟩ := List.mem_map.mp hp
      obtain ⟨_, a, b, c⟩ := ok.all q hq
      exact partOk_int a b c
    rw [good]
    refine ⟨fun h => absurd h (by decide), fun _ => ?_⟩
    have hP1 := sG _ _ hP
    have at_ : ∀ (i : Nat) (ky : Key) (v : V), (kIs ps)[i]? = some (ky, v) → ∃ p, ps[i]? = some p ∧ ky = .inr (ofL p.1) := fun i ky v e => by
      unfold kIs at e
      rw [List.getElem?_map] at e
      cases e2 : ps[i]? with
      | none => rw [e2] at e; cases e
      | some p => rw [e2] at e; cases e; exact ⟨p, rfl, rfl⟩
    refine ⟨P_, .dK (kIs ps), hP1, trivial, fun od => ⟨P_, od, rfl, .inl ⟨kIs ps, upd_same, fun D nD => lc_it walk_keys
      (fun i G2 => Same (L2.upd G P_ (.frz od (.dK (kIs ps)))) G2 ∧ G2 D = some (.lst (sIs (ps.take i)))) ⟨Same.new (Same.refl _) nD, upd_same⟩ (fun i G2 _ z => z.1 _ _ upd_same) ?_ ?_⟩⟩⟩
    · rintro i y G2 G3 hi ⟨s3, gD⟩ ⟨rfl, ky, v, e, rfl⟩
      obtain ⟨p, e2, rfl⟩ := at_ i ky v e
      exact ⟨rfl, ofL p.1, rfl, _, gD, by rw [sIs, List.length_map, List.length_take, sizeLine_eq]; omega, Same.mut s3 nD, by rw [upd_same, sIs, sIs, List.take_add_one, e2, List.map_append]; rfl⟩
    · rintro G2 ⟨s3, gD⟩
      have pD : D ≠ P_ := fun z => by rw [z, upd_same] at nD; cases nD
      rw [kl, List.take_length] at gD
      have s4 := back_lock hP1 s3
      have gD2 : L2.upd G2 P_ (.dK (kIs ps)) D = some (.lst (sIs ps)) := by rw [upd_ne pD]; exact gD
      refine ⟨s3 _ _ upd_same, ?_⟩
      generalize L2.upd G2 P_ (.dK (kIs ps)) = H4 at s4 gD2
      refine ⟨D, ps.map fun p => ofL p.1, rfl, SqL.of (by rw [List.map_map]; exact gD2), by rw [List.length_map]; exact ok.l64, fun ys pS perm srt nS => ?_⟩
      obtain ⟨qs, q1, rfl⟩ := perm_lift (fun p : List Nat × Int => ofL p.1) perm.symm ps rfl
      have s5 := (sG.trans s4).trans (Same.new (o := .lst ((qs.map fun p => ofL p.1).map V.str)) (Same.refl H4) nS)
      have hS : L2.upd H4 pS (.lst ((qs.map fun p => ofL p.1).map V.str)) pS = some (.lst ((qs.map fun p => ofL p.1).map V.str)) := upd_same
      generalize L2.upd H4 pS (.lst ((qs.map fun p => ofL p.1).map V.str)) = H5 at s5 hS
      have qnd : (qs.map (·.1)).Nodup := (q1.map _).nodup_iff.mpr ok.nd
      have ql := q1.length_eq
      refine ⟨pS, rfl, ⟨_, SqL.of hS⟩, fun D2 nD2 => dc_it walk_list (fun i G1 => Same H5 G1 ∧ G1 D2 = some (.dK (kIs (qs.take i)))) ⟨Same.new (Same.refl H5) nD2, upd_same⟩ (fun i G1 _ z => SqL.of (z.1 _ _ hS)) ?_ ?_⟩
      · rintro i y G1 G3 hi ⟨s1, gD⟩ ⟨rfl, e⟩
        rw [List.length_map, List.length_map] at hi
        have eq : qs[i]? = some qs[i] := List.getElem?_eq_getElem hi
        have qm : qs[i] ∈ ps := q1.mem_iff.mp (List.getElem_mem hi)
        have out := out_take qnd eq
        have tk : qs.take (i + 1) = qs.take i ++ [qs[i]] := by rw [List.take_add_one, eq]; rfl
        rw [List.getElem?_map, List.getElem?_map, eq] at e
        generalize qs[i] = g at eq qm e out tk
        obtain ⟨n, z⟩ := g
        obtain rfl : V.str (ofL n) = y := Option.some.inj e
        have dg : DGet G3 P_ (.str (ofL n)) (some (.int z)) := by
          have := DGet.k (k := .inr (ofL n)) (s1 _ _ (s5 _ _ hP))
          rwa [kIs_get ok.nd qm] at this
        refine ⟨rfl, P_, .int z, rfl, dg, kIs (qs.take i), .inr (ofL n), rfl, gD, by rw [kIs_len, List.length_take, sizeLine_eq]; omega, Same.mut s1 nD2, ?_⟩
        rw [upd_same, putK_new _ (kIs_out out), tk]
        unfold kIs
        rw [List.map_append]
        rfl
      · rintro G1 ⟨s1, gD⟩
        rw [List.length_map, List.length_map, List.take_length] at gD
        have nx : D2 ≠ x := fun z => by rw [z] at nD2; have := s5 _ _ hx; rw [nD2] at this; cases this
        refine ⟨x, Ln, dx, _, rfl, s1 _ _ (s5 _ _ hx), Cl, nP, by show 0 < 1000; decide, ?_⟩
        exact k _ D2 qs (s5.free nD2) (fun b o n e => by rw [upd_ne n]; exact s1 _ _ (s5 _ _ e)) upd_same (by rw [upd_ne nx]; exact gD) q1 srt

end
end LW
set_option Elab.async false
set_option linter.all false
set_option maxRecDepth 100000
set_option maxHeartbeats 4000000
namespace LW
open PySem PySem.Spec PyProof.Rows L2 HX NumText
section
variable {P : Program} {w : World} {K : PySem.W.Frag} {mg : Str → Option Value} {base : Heap}

/-- a sum of gaps at a -/
def LnAt (Ln : Addr) (H : Hp) (a D : Addr) (qs : List (List Nat × Int)) : Prop := (∃ dx, H a = some (.ins Ln dx [("_parts", .ref D)])) ∧ H D = some (.dK (kIs qs))
theorem LnAt.mo {Ln a D : Addr} {H G : Hp} {qs : List (List Nat × Int)} (s : Same H G) : LnAt Ln H a D qs → LnAt Ln G a D qs := fun ⟨⟨dx, a⟩, b⟩ => ⟨⟨dx, s _ _ a⟩, s _ _ b⟩
theorem mkLn {K : PySem.W.Frag} {Ln BI P_ : Addr} {H : Hp} {ps : List (List Nat × Int)} {R : Addr → Hp → Prop} {E : XK} (hP : H P_ = some (.dK (kIs ps))) (ok : PsOk ps)
    (k : ∀ (r D : Addr) (G : Hp) (qs : List (List Nat × Int)), H r = none → H D = none → Same H G → LnAt Ln G r D qs → qs.Perm ps → sortedS (qs.map fun p => ofL p.1) = true → R r G) :
    ∀ x dx, H x = none → H dx = none → dx ≠ x → spLInit K Ln BI (.ref x :: [.ref P_]) (L2.upd (L2.upd H dx (.own x)) x (.ins Ln dx [])) (fun v H2 => v = .non ∧ R x H2) E := fun x dx nx nd ne => by
  have s0 : Same H (L2.upd (L2.upd H dx (.own x)) x (.ins Ln dx [])) := Same.upN (Same.new (Same.refl H) nd) nx
  refine ⟨x, dx, _, rfl, upd_same, .inr ⟨P_, ps, rfl, s0 _ _ hP, ok, fun G D qs nD kp gx gD pm srt => ⟨rfl, k x D G qs nx (s0.free nD) (fun b o e => kp b o (ne_of_none e nx) (s0 _ _ e)) ⟨⟨dx, gx⟩, gD⟩ pm srt⟩⟩⟩
def neg1 (p : List Nat × Int) : List Nat × Int := (p.1, -p.2)
theorem PsOk.neg {qs : List (List Nat × Int)} (ok : PsOk qs) : PsOk (qs.map neg1) := by
  refine ⟨by rw [List.map_map]; exact ok.nd, by rw [List.length_map]; exact ok.l64, fun p hp => ?_⟩
  obtain ⟨q, hq, rfl⟩ := List.mem_map.mp hp
  obtain ⟨a, b, c, d⟩ := ok.all q hq
  exact ⟨a, by show -9 ≤ -q.2; omega, by show -q.2 ≤ 9; omega, by show -q.2 ≠ 0; omega⟩
def spLNeg (Ln : Addr) : Sp := fun vs H Q _ => ∃ (a D : Addr) (qs : List (List Nat × Int)), vs = [.ref a] ∧ LnAt Ln H a D qs ∧ PsOk qs ∧ ∀ (r D2 : Addr) (G : Hp) (us : List (List Nat × Int)), H r = none → H D2 = none → Same H G → LnAt Ln G r D2 us → us.Perm (qs.map neg1) → Q (.ref r) G
theorem ok_lneg {f fL Ln BI : Addr} {fd fdL : FuncData} (F : Fun K "__neg__" "Linear.__neg__" s_Linear_neg f fd) (T : Txt K mg) (T2 : Txt2 mg) (Cl : Cls K Ln) (nP : NoAttr K Ln "_parts") (gLin : mg "Linear" = some (.ref Ln)) (mL : Mk K Ln fL) (FL : FnOk P w K mg base (CX P w) 6 fL fdL ["self", "parts"] (spLInit K Ln BI)) (bL : Binds K fdL ["self", "parts"] []) : FnOk P w K mg base CX0 8 f fd ["self"] (spLNeg Ln) := by
  refine F.ok sc_Linear_neg (fun vs H Q E h => ?_) (fun cdv A' outer s H vs Q E hr h => ?_)
  · obtain ⟨a, D, qs, rfl, _⟩ := h
    rfl
  · obtain ⟨a, D, qs, rfl, ⟨⟨dx, ha⟩, hD⟩, ok, k⟩ := h
    refine ⟨_, (pss_one (ps_ret (pe_make mL FL (hr.mono (by decide)) rfl gLin bL .nil (passes_call takes0 (fun _ _ _ _ z => z)) (pa_cons (pe_lock (pe_dc (own := [("account", 1), ("part", 2)]) (g := gTup K 2 (gCons (gName 1) (gCons (gName 2) gNil))) (tt := tYes) rfl sc_Linear_neg.nd (pi_items (pe_fld (pc 0) (by rfl))) (blkOk_by (own := [("account", 1), ("part", 2)]) (N := n_Linear_neg) (sc := defScope s_Linear_neg) (by decide +kernel)) (fun _ _ _ _ _ => (by exact pg_tup rfl (pgs_cons (pg_name (i := 1) sc_Linear_neg.nd rfl (Or.inl rfl)) (pgs_cons (pg_name (i := 2) sc_Linear_neg.nd rfl (Or.inl rfl)) pgs_nil)))) (fun _ _ _ _ _ => pts_nil) (fun _ _ _ _ _ => (pc 1)) (fun _ _ _ _ _ => (pe_un un_neg (pc 2))))) pa_nil)))), ?_⟩
    have l64 := ok.l64
    have Da_ : D ≠ a := fun z => by rw [z, ha] at hD; cases hD
    refine ⟨D, .dK (kIs qs), hD, trivial, fun od => ⟨a, Ln, dx, _, _, rfl, by rw [upd_ne (Ne.symm Da_)]; exact ha, Cl, nP, rfl, D, od, kIs qs, rfl, upd_same, fun D2 nD2 => dc_it walk_items
      (fun i G => Same (L2.upd H D (.frz od (.dK (kIs qs)))) G ∧ G D2 = some (.dK (kIs ((qs.map neg1).take i)))) ⟨Same.new (Same.refl _) nD2, upd_same⟩ (fun i G _ z => z.1 _ _ upd_same) ?_ ?_⟩⟩
    · rintro i y G G1 hi ⟨s1, gD⟩ ⟨T_, u, v, rfl, nT, rfl, e1, e2⟩
      rw [kIs_len] at hi
      have eq : qs[i]? = some qs[i] := List.getElem?_eq_getElem hi
      have eg : (kIs qs)[i]? = some ((.inr (ofL qs[i].1) : Key), V.int qs[i].2) := by unfold kIs; rw [List.getElem?_map, eq]; rfl
      have e1 : (kIs qs)[i]?.map (fun kv => kV kv.1) = some u := e1
      have e2 : (kIs qs)[i]?.map Prod.snd = some v := e2
      rw [eg] at e1 e2
      cases e1
      cases e2
      have tk : (qs.map neg1).take (i + 1) = (qs.map neg1).take i ++ [neg1 qs[i]] := by rw [List.take_add_one, List.getElem?_map, eq]; rfl
      have out : ∀ p ∈ (qs.map neg1).take i, p.1 ≠ qs[i].1 := out_take (i := i) (g := neg1 qs[i]) ok.neg.nd (by rw [List.getElem?_map, eq]; rfl)
      have s3 := Same.new (o := .tup [kV (.inr (ofL qs[i].1)), .int qs[i].2]) (Same.refl G) nT
      refine ⟨T_, _, rfl, SqT.of upd_same, rfl, _, _, rfl, _, _, rfl, rfl, ?_⟩
      refine ⟨rfl, qs[i].2, rfl, kIs ((qs.map neg1).take i), .inr (ofL qs[i].1), rfl, s3 _ _ gD, by rw [kIs_len, List.length_take, sizeLine_eq]; omega, Same.mut (s1.trans s3) nD2, ?_⟩
      rw [upd_same, putK_new _ (kIs_out out), tk]
      unfold kIs
      rw [List.map_append]
      rfl
    · rintro G ⟨s1, gD⟩
      have D2D : D2 ≠ D := fun z => by rw [z, upd_same] at nD2; cases nD2
      rw [kIs_len, List.take_of_length_le (by rw [List.length_map]; omega)] at gD
      have s2 := back_lock hD s1
      refine ⟨s1 _ _ upd_same, ?_⟩
      have gD3 : L2.upd G D (.dK (kIs qs)) D2 = some (.dK (kIs (qs.map neg1))) := by rw [upd_ne D2D]; exact gD
      generalize L2.upd G D (.dK (kIs qs)) = G3 at s2 gD3
      exact mkLn gD3 ok.neg fun r D3 G4 us nr n3 s4 at3 pm _ => k r D3 G4 us (s2.free nr) (s2.free n3) (s2.trans s4) at3 pm

def ttS (K : PySem.W.Frag) (C : Addr) : TT := cT (tOp (rInO C false (spGCon C) (fun _ _ _ => False)) (cV 2) (cV 1))
def teS (K : PySem.W.Frag) (C : Addr) : TE := tTup (tCons (tOp (rIxO C (spGGet C) (fun _ _ _ => False)) (cV 1) (cV 2)) (tCons (cV 3) tNil))
/-- what is told under a name -/
def lk (rs : List (List Nat × Int × Int)) (n : List Nat) : Option (Int × Int) := (rs.find? fun p => decide (p.1 = n)).map (·.2)
theorem kr_lk {R : V → Int → Int → Prop} {n : List Nat} : ∀ {kvs : List (Key × V)} {rs : List (List Nat × Int × Int)}, KRs R kvs rs → (valV kvs (.inr (ofL n)) = none ∧ lk rs n = none) ∨ ∃ v t b, valV kvs (.inr (ofL n)) = some v ∧ lk rs n = some (t, b) ∧ R v t b
  | _, _, .nil => .inl ⟨rfl, rfl⟩
  | _, _, .cons (k := n') (v := v) (t := t) (b := b) (ps := ps') e r => by
    by_cases h : n' = n
    · subst h
      exact .inr ⟨v, t, b, valV_pos (p := ((Sum.inr (ofL n') : Key), v)) rfl, by simp [lk], e⟩
    · rw [valV_neg (by intro y; exact h (ofL_inj (Sum.inr.inj y)))]
      have e2 : lk ((n', t, b) :: ps') n = lk ps' n := by simp [lk, h]
      rw [e2]
      exact kr_lk r
def sel (rs : List (List Nat × Int × Int)) (qs : List (List Nat × Int)) : List (Int × Int × Int) := qs.filterMap fun q => (lk rs q.1).map fun p => (p.1, p.2, q.2)
theorem sel_len (rs : List (List Nat × Int × Int)) (qs : List (List Nat × Int)) : (sel rs qs).length ≤ qs.length := List.length_filterMap_le ..
theorem sel_snoc {rs : List (List Nat × Int × Int)} {qs : List (List Nat × Int)} {q : List Nat × Int} : sel rs (qs ++ [q]) = sel rs qs ++ ((lk rs q.1).map fun p => (p.1, p.2, q.2)).toList := by
  unfold sel
  rw [List.filterMap_append]
  cases h : lk rs q.1 <;> simp [h]
def AmS (A : Addr) (H : Hp) (v : V) (t b : Int) : Prop := AmV A H v t b ∧ Low t b ∧ Sm 100 t ∧ Sm 100 b
theorem AmS.mo {A : Addr} {H G : Hp} {v : V} {t b : Int} (s : Same H G) : AmS A H v t b → AmS A G v t b := fun ⟨⟨a, e, am⟩, z⟩ => ⟨⟨a, e, am.mo s⟩, z⟩
theorem sm_nine {i : Int} (h1 : -9 ≤ i) (h2 : i ≤ 9) : Sm 4 i := by
  unfold Sm
  omega
def spLSum (A C Ln : Addr) : Sp := fun vs H Q _ => ∃ (a D g D2 : Addr) (qs : List (List Nat × Int)) (gvs : List (Key × V)) (rs : List (List Nat × Int × Int)), vs = [.ref a, .ref g] ∧ LnAt Ln H a D qs ∧ PsOk qs ∧ qs.length ≤ 8 ∧ GpsAt C H g D2 gvs ∧ D ≠ D2 ∧ KRs (AmS A H) gvs rs ∧ QA A H Q (totK (sel rs qs)).1 (totK (sel rs qs)).2
theorem PrKL.updF {n κ : Nat} {A D : Addr} {H : Hp} {od : Obj} {o u : HO} (d : H D = some (.frz od u)) : ∀ {vs : List V} {ps : List (Int × Int × Int)}, PrKL n κ A H vs ps → PrKL n κ A (L2.upd H D o) vs ps
  | _, _, .nil => .nil
  | _, _, .cons ⟨q, r, e, h, ⟨dx, a⟩, z⟩ r' => .cons ⟨q, r, e, upd_far' h d (fun z => by cases z), ⟨dx, upd_far' a d (fun z => by cases z)⟩, z⟩ (PrKL.updF d r')
theorem ok_lsum {f fC fGet Ln A C : Addr} {fd fdC fdG : FuncData} (F : Fun K "sum_of" "Linear.sum_of" s_Linear_sum_of f fd) (T : Txt K mg) (T2 : Txt2 mg) (Cl : Cls K Ln) (nP : NoAttr K Ln "_parts") (hCon : PySem.W.findIn K (.ref C) "__contains__" = some (some (.ref fC))) (fCon : PySem.W.isFn K (.ref fC) = true) (FC : FnOk P w K mg base CX0 1 fC fdC ["self", "value"] (spGCon C)) (bC : Binds K fdC ["self", "value"] [])
    (hGet : PySem.W.findIn K (.ref C) "__getitem__" = some (some (.ref fGet))) (iGet : PySem.W.isFn K (.ref fGet) = true) (nGet : PySem.W.fnIn K fGet = true) (FGet : FnOk P w K mg base CX0 4 fGet fdG ["self", "account"] (spGGet C)) (bGet : Binds K fdG ["self", "account"] []) (cSp : CalO P w K mg base "sum_of_products" 6 ["pairs"] (spSop K A) (fun _ => True)) : FnOk P w K mg base CX0 8 f fd ["self", "gaps"] (spLSum A C Ln) := by
  refine F.ok sc_Linear_sum_of (fun vs H Q E h => ?_) (fun cdv A' outer s H vs Q E hr h => ?_)
  · obtain ⟨a, D, g, D2, qs, gvs, rs, rfl, _⟩ := h
    rfl
  · obtain ⟨a, D, g, D2, qs, gvs, rs, rfl, ⟨⟨dx, ha⟩, hD⟩, ok, l8, ⟨⟨dg, hg⟩, hD2⟩, DD, kr, k⟩ := h
    refine ⟨_, (pss_one (ps_ret (pe_cO cSp (hr.mono (by decide)) (pa_cons (pe_lock (pe_lc (own := [("account", 2), ("part", 3)]) (g := gTup K 2 (gCons (gName 2) (gCons (gName 3) gNil))) (tt := ttS K C) (te := teS K C) rfl sc_Linear_sum_of.nd (pi_items (pe_fld (pc 0) (by rfl))) (blkOk_by (own := [("account", 2), ("part", 3)]) (N := n_Linear_sum_of) (sc := defScope s_Linear_sum_of) (by decide +kernel)) (fun _ _ _ _ _ => (by exact pg_tup rfl (pgs_cons (pg_name (i := 2) sc_Linear_sum_of.nd rfl (Or.inl rfl)) (pgs_cons (pg_name (i := 3) sc_Linear_sum_of.nd rfl (Or.inl rfl)) pgs_nil)))) (fun _ _ _ _ _ => (pts_one (by exact t_cmp (op_inO hCon fCon FC bC (hr.mono (by decide)) pass0) (pc 2) (pc 1)))) (fun _ _ _ _ _ => (by exact pe_tup (pa_cons (pe_ixO hGet iGet nGet FGet bGet (hr.mono (by decide)) pass0 (pc 1) (pc 2)) (pa_cons (pc 3) pa_nil)))))) pa_nil)))), ?_⟩
    have Da_ : D ≠ a := fun z => by rw [z, ha] at hD; cases hD
    have Dg_ : D ≠ g := fun z => by rw [z, hg] at hD; cases hD
    refine ⟨D, .dK (kIs qs), hD, trivial, fun od => ⟨a, Ln, dx, _, _, rfl, by rw [upd_ne (Ne.symm Da_)]; exact ha, Cl, nP, rfl, D, od, kIs qs, rfl, upd_same, fun L nL => lc_it (te := teS K C) (tt := ttS K C) walk_items
      (fun i G => Same (L2.upd H D (.frz od (.dK (kIs qs)))) G ∧ ∃ xs, G L = some (.lst xs) ∧ PrKL 100 4 A G xs (sel rs (qs.take i))) ⟨Same.new (Same.refl _) nL, [], upd_same, .nil⟩ (fun i G _ z => z.1 _ _ upd_same) ?_ ?_⟩⟩
    · rintro i y G G1 hi ⟨s1, xs, gL, pl⟩ ⟨T_, u, v, rfl, nT, rfl, e1, e2⟩
      rw [kIs_len] at hi
      have eq : qs[i]? = some qs[i] := List.getElem?_eq_getElem hi
      have eg : (kIs qs)[i]? = some ((.inr (ofL qs[i].1) : Key), V.int qs[i].2) := by unfold kIs; rw [List.getElem?_map, eq]; rfl
      have e1 : (kIs qs)[i]?.map (fun kv => kV kv.1) = some u := e1
      have e2 : (kIs qs)[i]?.map Prod.snd = some v := e2
      rw [eg] at e1 e2
      cases e1
      cases e2
      have s3 := Same.new (o := .tup [kV (.inr (ofL qs[i].1)), .int qs[i].2]) (Same.refl G) nT
      have sG : ∀ b o, b ≠ D → H b = some o → L2.upd G T_ (.tup [kV (.inr (ofL qs[i].1)), .int qs[i].2]) b = some o := fun b o n e => s3 _ _ (s1 _ _ (by rw [upd_ne n]; exact e))
      have hgA : GpsAt C (L2.upd G T_ (.tup [kV (.inr (ofL qs[i].1)), .int qs[i].2])) g D2 gvs := ⟨⟨dg, sG _ _ (Ne.symm Dg_) hg⟩, sG _ _ (Ne.symm DD) hD2⟩
      have tk : qs.take (i + 1) = qs.take i ++ [qs[i]] := by rw [List.take_add_one, eq]; rfl
      have gL3 := s3 _ _ gL
      refine ⟨T_, _, rfl, SqT.of upd_same, rfl, _, _, rfl, _, _, rfl, rfl, ?_⟩
      generalize hG3 : L2.upd G T_ (.tup [kV (.inr (ofL qs[i].1)), .int qs[i].2]) = G3 at *
      have hgi : IsI C G3 g := ⟨dg, _, sG _ _ (Ne.symm Dg_) hg⟩
      refine ⟨rfl, g, rfl, hgi, g, D2, gvs, ofL qs[i].1, rfl, hgA, _, rfl, ?_⟩
      rcases kr_lk (n := qs[i].1) kr with ⟨v1, v2⟩ | ⟨v, t, b, v1, v2, ⟨⟨r, rfl, dy, er⟩, lo, S1, S2⟩⟩
      · rw [v1]
        exact ⟨s1.trans s3, xs, gL3, by rw [tk, sel_snoc, v2]; simpa using pl.mo s3⟩
      · rw [v1]
        have rD : r ≠ D := fun z => by rw [z, hD] at er; cases er
        refine ⟨g, rfl, hgi, g, D2, gvs, ofL qs[i].1, .ref r, rfl, hgA, v1, by show 2 ≤ sizeLine; decide, fun T2_ nT2 => ?_⟩
        have s4 := Same.new (o := .tup [.ref r, .int qs[i].2]) (Same.refl G3) nT2
        have gL4 := s4 _ _ gL3
        obtain ⟨_, n1, n2, _⟩ := ok.all qs[i] (List.getElem_mem hi)
        have le := sel_len rs (qs.take i)
        rw [List.length_take] at le
        refine ⟨_, gL4, by rw [pl.len, sizeLine_eq]; omega, Same.mut ((s1.trans s3).trans s4) nL, _, upd_same, ?_⟩
        rw [tk, sel_snoc, v2]
        refine PrKL.snoc (PrK.updL gL4 ?_) (PrKL.updL gL4 ((pl.mo s3).mo s4))
        exact ⟨T2_, r, rfl, upd_same, ⟨dy, s4 _ _ (sG _ _ rD er)⟩, lo, S1, S2, sm_nine n1 n2⟩
    · rintro G ⟨s1, xs, gL, pl⟩
      have LD : L ≠ D := fun z => by rw [z, upd_same] at nL; cases nL
      rw [kIs_len, List.take_length] at pl
      have s2 := back_lock hD s1
      have gD := s1 _ _ upd_same
      have le := sel_len rs qs
      refine ⟨gD, 100, 4, L, xs, sel rs qs, rfl, SqL.of (by rw [upd_ne LD]; exact gL), PrKL.updF gD pl, by decide, by decide, by omega, k.mo s2⟩

end
end LW
set_option Elab.async false
set_option linter.all false
set_option maxRecDepth 100000
set_option maxHeartbeats 2000000
namespace HX
open PySem PySem.Spec PyProof.Rows L2

/-! ### values: fractions as rational numbers -/
def rv (t b : Int) : Rat := (t : Rat) / (b : Rat)
theorem castz {b : Int} (h : b ≠ 0) : (b : Rat) ≠ 0 := by
  intro z
  exact h (by exact_mod_cast z)
theorem rv_eq {t b c d : Int} (hb : b ≠ 0) (hd : d ≠ 0) : rv t b = rv c d ↔ t * d = c * b := by
  unfold rv
  have h1 := castz hb
  have h2 := castz hd
  constructor
  · intro h
    have h3 : (t : Rat) * d = c * b := by grind
    exact_mod_cast h3
  · intro h
    have h3 : (t : Rat) * d = c * b := by exact_mod_cast h
    grind
theorem rv_n {p q : Int} (h : q ≠ 0) : rv (nT p q) (nB p q) = rv p q := (rv_eq (by have := nB_pos (p := p) h; omega) h).mpr (cross h)
theorem low_rv {t b c d : Int} (lo : Low t b) (lo2 : Low c d) (h : rv t b = rv c d) : t = c ∧ b = d :=
  low_unique lo lo2 ((rv_eq (by have := lo.1; omega) (by have := lo2.1; omega)).mp h)
/-- lowest terms are the least -/
theorem low_le {t b p q : Int} (lo : Low t b) (h : q ≠ 0) (e : rv t b = rv p q) : t.natAbs ≤ p.natAbs ∧ b.natAbs ≤ q.natAbs := by
  obtain ⟨rfl, rfl⟩ := low_rv lo (low_n (p := p) h) (e.trans (rv_n h).symm)
  exact ⟨nT_le h, nB_le h⟩
theorem rv_one (t : Int) : rv t 1 = (t : Rat) := by
  unfold rv
  grind
theorem rv_add {t b c d : Int} (hb : b ≠ 0) (hd : d ≠ 0) : rv (t * d + 1 * c * b) (b * d) = rv t b + rv c d := by
  unfold rv
  have h1 := castz hb
  have h2 := castz hd
  push_cast
  grind
theorem rv_sub {t b c d : Int} (hb : b ≠ 0) (hd : d ≠ 0) : rv (t * d + -1 * c * b) (b * d) = rv t b - rv c d := by
  unfold rv
  have h1 := castz hb
  have h2 := castz hd
  push_cast
  grind
theorem rv_mul {t b c d : Int} (hb : b ≠ 0) (hd : d ≠ 0) : rv (t * c) (b * d) = rv t b * rv c d := by
  unfold rv
  have h1 := castz hb
  have h2 := castz hd
  push_cast
  grind
theorem rv_div {t b c d : Int} (hb : b ≠ 0) (hd : d ≠ 0) (hc : c ≠ 0) : rv (t * d) (b * c) = rv t b / rv c d := by
  unfold rv
  have h1 := castz hb
  have h2 := castz hd
  have h3 := castz hc
  push_cast
  grind
theorem rv_neg {t b : Int} : rv (-t) b = -rv t b := by
  unfold rv
  push_cast
  grind
theorem castp {b : Int} (h : 0 < b) : (0 : Rat) < (b : Rat) := by exact_mod_cast h
theorem rv_mulb {t b : Int} (h : 0 < b) : rv t b * (b : Rat) = (t : Rat) := by
  unfold rv
  have h1 := castz (show b ≠ 0 by omega)
  grind
theorem rv_lt {t b c d : Int} (hb : 0 < b) (hd : 0 < d) : rv t b < rv c d ↔ t * d < c * b := by
  have p1 := castp hb
  have p2 := castp hd
  have e1 : rv t b * (b : Rat) * d = ((t * d : Int) : Rat) := by rw [rv_mulb hb]; push_cast; rfl
  have e2 : rv c d * (b : Rat) * d = ((c * b : Int) : Rat) := by
    have := rv_mulb (t := c) hd
    push_cast
    grind
  have pp : (0 : Rat) < (b : Rat) * d := Rat.mul_pos p1 p2
  constructor
  · intro h
    have h1 := Rat.mul_lt_mul_of_pos_right h pp
    rw [← Rat.mul_assoc, ← Rat.mul_assoc, e1, e2] at h1
    exact_mod_cast h1
  · intro h
    have h1 : ((t * d : Int) : Rat) < ((c * b : Int) : Rat) := by exact_mod_cast h
    rw [← e1, ← e2] at h1
    rcases (Rat.le_total : rv c d ≤ rv t b ∨ rv t b ≤ rv c d) with z | z
    · have h2 := Rat.mul_le_mul_of_nonneg_right z (Rat.le_of_lt pp)
      rw [← Rat.mul_assoc, ← Rat.mul_assoc] at h2
      grind
    · rcases Rat.le_iff_lt_or_eq.mp z with y | y
      · exact y
      · rw [y] at h1
        grind
theorem rv_zero {t b : Int} (hb : b ≠ 0) : rv t b = 0 ↔ t = 0 := by
  unfold rv
  have h1 := castz hb
  constructor
  · intro h
    have h2 : (t : Rat) = 0 := by grind
    exact_mod_cast h2
  · rintro rfl
    have h3 : ((0 : Int) : Rat) = 0 := by simp
    rw [h3]
    grind
/-- the greatest integer that is not above -/
def Fl (j : Int) (x : Rat) : Prop := (j : Rat) ≤ x ∧ x < (j : Rat) + 1
theorem Fl.uniq {i j : Int} {x : Rat} (h : Fl i x) (k : Fl j x) : i = j := by
  obtain ⟨a, b⟩ := h
  obtain ⟨c, d⟩ := k
  have e1 : (i : Rat) < (j : Rat) + 1 := by grind
  have e2 : (j : Rat) < (i : Rat) + 1 := by grind
  have e3 : i < j + 1 := by exact_mod_cast e1
  have e4 : j < i + 1 := by exact_mod_cast e2
  omega
theorem fl_pos {p q : Int} (z : 0 < q) : Fl (p.fdiv q) (rv p q) := by
  have e : q * (p.fdiv q) + p.fmod q = p := Int.mul_fdiv_add_fmod p q
  have h1 := castz (show q ≠ 0 by omega)
  have e' : (q : Rat) * ((p.fdiv q : Int) : Rat) + ((p.fmod q : Int) : Rat) = (p : Rat) := by exact_mod_cast e
  have r : rv p q = ((p.fdiv q : Int) : Rat) + rv (p.fmod q) q := by
    unfold rv
    grind
  have m1 := Int.fmod_nonneg_of_pos p z
  have m2 := Int.fmod_lt_of_pos p z
  have a1 : ¬ rv (p.fmod q) q < rv 0 1 := fun y => by
    have := (rv_lt z (by decide)).mp y
    omega
  have a2 : rv (p.fmod q) q < rv 1 1 := (rv_lt z (by decide)).mpr (by omega)
  rw [rv_one] at a1 a2
  have b1 : (0 : Rat) ≤ rv (p.fmod q) q := Rat.not_lt.mp (by exact_mod_cast a1)
  have b2 : rv (p.fmod q) q < 1 := by exact_mod_cast a2
  rw [r]
  unfold Fl
  generalize rv (p.fmod q) q = y at *
  generalize ((p.fdiv q : Int) : Rat) = x at *
  constructor
  · grind
  · grind
theorem fl_fdiv {p q : Int} (h : q ≠ 0) : Fl (p.fdiv q) (rv p q) := by
  rcases Int.lt_or_gt_of_ne h with z | z
  · have e1 : rv p q = rv (-p) (-q) := (rv_eq h (by omega)).mpr (by grind)
    rw [← Int.neg_fdiv_neg, e1]
    exact fl_pos (by omega)
  · exact fl_pos z
/-- an Amount of this value, of parts below 2 ^ n; a number -/
def AV (A : Addr) (n : Nat) (H : Hp) (a : Addr) (r : Rat) : Prop := ∃ t b, Am A H a t b ∧ Low t b ∧ Sm n t ∧ Sm n b ∧ r = rv t b
def NV (A : Addr) (n : Nat) (H : Hp) (v : V) (r : Rat) : Prop := ∃ t b, Nu A H v t b ∧ Low t b ∧ Sm n t ∧ Sm n b ∧ r = rv t b
def QR (A : Addr) (n : Nat) (H : Hp) (Q : VK) (r : Rat) : Prop := ∀ z G, H z = none → Same H G → AV A n G z r → Q (.ref z) G
section
variable {A : Addr} {n m : Nat} {H G : Hp} {a : Addr} {v : V} {r : Rat}
theorem AV.mo (s : Same H G) (h : AV A n H a r) : AV A n G a r := let ⟨t, b, x, y⟩ := h; ⟨t, b, x.mo s, y⟩
theorem NV.mo (s : Same H G) (h : NV A n H v r) : NV A n G v r := let ⟨t, b, x, y⟩ := h; ⟨t, b, x.mo s, y⟩
theorem AV.nv (h : AV A n H a r) : NV A n H (.ref a) r := let ⟨t, b, x, y⟩ := h; ⟨t, b, .inl ⟨a, rfl, x⟩, y⟩
theorem AV.le (h : AV A n H a r) (l : n ≤ m) : AV A m H a r := let ⟨t, b, x, lo, s1, s2, e⟩ := h; ⟨t, b, x, lo, s1.mono l, s2.mono l, e⟩
theorem NV.le (h : NV A n H v r) (l : n ≤ m) : NV A m H v r := let ⟨t, b, x, lo, s1, s2, e⟩ := h; ⟨t, b, x, lo, s1.mono l, s2.mono l, e⟩
theorem NV.int {j : Int} (h : Sm n j) (h0 : 0 < n) : NV A n H (.int j) (j : Rat) := ⟨j, 1, .inr ⟨rfl, rfl⟩, low_int j, h, sm_one.mono h0, (rv_one j).symm⟩
theorem AV.isI (h : AV A n H a r) : IsI A H a := let ⟨_, _, x, _⟩ := h; x.isI
end
end HX

set_option Elab.async false
set_option linter.all false
set_option maxRecDepth 100000
set_option maxHeartbeats 4000000
namespace LW
open PySem PySem.Spec PyProof.Rows L2 HX NumText
section
variable {P : Program} {w : World} {K : PySem.W.Frag} {mg : Str → Option Value} {base : Heap}

def strL (ns : List (List Nat)) : List V := ns.map fun n => V.str (ofL n)
def otherN : List Nat := [111, 116, 104, 101, 114]
def base4 : List (List (List Nat)) := [[[97], [98], [99], [100], [101]], [[100, 97, 121, 115], [115, 104, 105, 102, 116], [99, 111, 117, 110, 116], [110, 111, 110, 101], [122]], [[97], [97, 97], [97, 97, 97], [97, 98], [98]], [[116, 105, 108, 108], [116, 105, 108, 108, 115], [97, 98, 99, 100, 101, 102, 103, 104], [97, 98, 99, 100, 101, 102, 103], [97, 110, 121]]]
structure NsOk (ns : List (List Nat)) : Prop where
  nd : ns.Nodup
  all : ∀ n ∈ ns, Nm n ∧ n ≠ otherN
instance (l : List Nat) : Decidable (Nm l) := by unfold Nm; infer_instance
theorem base4_ok : ∀ ns ∈ base4, ns.length = 5 ∧ ns.Nodup ∧ ∀ n ∈ ns, Nm n ∧ n ≠ otherN := by decide +kernel
theorem b4_0 : ([V.str (Str.ofString "a"), V.str (Str.ofString "b"), V.str (Str.ofString "c"), V.str (Str.ofString "d"), V.str (Str.ofString "e")] : List V) = strL [[97], [98], [99], [100], [101]] := by
  have h : ∀ a b : Str, a = b → V.str a = V.str b := fun _ _ e => by rw [e]
  simp only [strL, List.map_cons, List.map_nil]
  rw [show (Str.ofString "a") = ofL [97] by decide +kernel]
  rw [show (Str.ofString "b") = ofL [98] by decide +kernel]
  rw [show (Str.ofString "c") = ofL [99] by decide +kernel]
  rw [show (Str.ofString "d") = ofL [100] by decide +kernel]
  rw [show (Str.ofString "e") = ofL [101] by decide +kernel]
theorem b4_1 : ([V.str (Str.ofString "days"), V.str (Str.ofString "shift"), V.str (Str.ofString "count"), V.str (Str.ofString "none"), V.str (Str.ofString "z")] : List V) = strL [[100, 97, 121, 115], [115, 104, 105, 102, 116], [99, 111, 117, 110, 116], [110, 111, 110, 101], [122]] := by
  have h : ∀ a b : Str, a = b → V.str a = V.str b := fun _ _ e => by rw [e]
  simp only [strL, List.map_cons, List.map_nil]
  rw [show (Str.ofString "days") = ofL [100, 97, 121, 115] by decide +kernel]
  rw [show (Str.ofString "shift") = ofL [115, 104, 105, 102, 116] by decide +kernel]
  rw [show (Str.ofString "count") = ofL [99, 111, 117, 110, 116] by decide +kernel]
  rw [show (Str.ofString "none") = ofL [110, 111, 110, 101] by decide +kernel]
  rw [show (Str.ofString "z") = ofL [122] by decide +kernel]
theorem b4_2 : ([V.str (Str.ofString "a"), V.str (Str.ofString "aa"), V.str (Str.ofString "aaa"), V.str (Str.ofString "ab"), V.str (Str.ofString "b")] : List V) = strL [[97], [97, 97], [97, 97, 97], [97, 98], [98]] := by
  have h : ∀ a b : Str, a = b → V.str a = V.str b := fun _ _ e => by rw [e]
  simp only [strL, List.map_cons, List.map_nil]
  rw [show (Str.ofString "a") = ofL [97] by decide +kernel]
  rw [show (Str.ofString "aa") = ofL [97, 97] by decide +kernel]
  rw [show (Str.ofString "aaa") = ofL [97, 97, 97] by decide +kernel]
  rw [show (Str.ofString "ab") = ofL [97, 98] by decide +kernel]
  rw [show (Str.ofString "b") = ofL [98] by decide +kernel]
theorem b4_3 : ([V.str (Str.ofString "till"), V.str (Str.ofString "tills"), V.str (Str.ofString "abcdefgh"), V.str (Str.ofString "abcdefg"), V.str (Str.ofString "any")] : List V) = strL [[116, 105, 108, 108], [116, 105, 108, 108, 115], [97, 98, 99, 100, 101, 102, 103, 104], [97, 98, 99, 100, 101, 102, 103], [97, 110, 121]] := by
  have h : ∀ a b : Str, a = b → V.str a = V.str b := fun _ _ e => by rw [e]
  simp only [strL, List.map_cons, List.map_nil]
  rw [show (Str.ofString "till") = ofL [116, 105, 108, 108] by decide +kernel]
  rw [show (Str.ofString "tills") = ofL [116, 105, 108, 108, 115] by decide +kernel]
  rw [show (Str.ofString "abcdefgh") = ofL [97, 98, 99, 100, 101, 102, 103, 104] by decide +kernel]
  rw [show (Str.ofString "abcdefg") = ofL [97, 98, 99, 100, 101, 102, 103] by decide +kernel]
  rw [show (Str.ofString "any") = ofL [97, 110, 121] by decide +kernel]
theorem erase_map {α β : Type} (f : α → β) (l : List α) (i : Nat) : (l.map f).eraseIdx i = (l.eraseIdx i).map f := by
  rw [List.eraseIdx_eq_take_drop_succ, List.eraseIdx_eq_take_drop_succ, List.map_append, List.map_take, List.map_drop]
theorem perm_erase {α : Type} {l : List α} {i : Nat} (h : i < l.length) : ([l[i]] ++ l.eraseIdx i).Perm l := by
  rw [List.eraseIdx_eq_take_drop_succ]
  have e : l = l.take i ++ l[i] :: l.drop (i + 1) := by rw [← List.drop_eq_getElem_cons h, List.take_append_drop]
  refine .trans ?_ (.of_eq e.symm)
  exact (List.perm_middle (a := l[i]) (l₁ := l.take i) (l₂ := l.drop (i + 1))).symm
theorem lay_free {H : Hp} {a b : Addr} {o : HO} (n : L2.upd H a o b = none) : H b = none := by
  by_cases e : b = a
  · rw [e, upd_same] at n
    cases n
  · rwa [upd_ne e] at n
theorem lay5 {H : Hp} {a1 a2 a3 a4 a0 : Addr} {o1 o2 o3 o4 o0 : HO} (n1 : H a1 = none) (n2 : L2.upd H a1 o1 a2 = none) (n3 : L2.upd (L2.upd H a1 o1) a2 o2 a3 = none) (n4 : L2.upd (L2.upd (L2.upd H a1 o1) a2 o2) a3 o3 a4 = none)
    (n0 : L2.upd (L2.upd (L2.upd (L2.upd H a1 o1) a2 o2) a3 o3) a4 o4 a0 = none) :
    Same H (L2.upd (L2.upd (L2.upd (L2.upd (L2.upd H a1 o1) a2 o2) a3 o3) a4 o4) a0 o0) ∧ L2.upd (L2.upd (L2.upd (L2.upd (L2.upd H a1 o1) a2 o2) a3 o3) a4 o4) a0 o0 a1 = some o1 ∧ L2.upd (L2.upd (L2.upd (L2.upd (L2.upd H a1 o1) a2 o2) a3 o3) a4 o4) a0 o0 a2 = some o2 ∧
      L2.upd (L2.upd (L2.upd (L2.upd (L2.upd H a1 o1) a2 o2) a3 o3) a4 o4) a0 o0 a3 = some o3 ∧ L2.upd (L2.upd (L2.upd (L2.upd (L2.upd H a1 o1) a2 o2) a3 o3) a4 o4) a0 o0 a4 = some o4 ∧ L2.upd (L2.upd (L2.upd (L2.upd (L2.upd H a1 o1) a2 o2) a3 o3) a4 o4) a0 o0 a0 = some o0 :=
  have s1 := Same.new (o := o1) (Same.refl H) n1
  have s2 := Same.new (o := o2) (Same.refl _) n2
  have s3 := Same.new (o := o3) (Same.refl _) n3
  have s4 := Same.new (o := o4) (Same.refl _) n4
  have s0 := Same.new (o := o0) (Same.refl _) n0
  ⟨(((s1.trans s2).trans s3).trans s4).trans s0, (((s2.trans s3).trans s4).trans s0) _ _ upd_same, ((s3.trans s4).trans s0) _ _ upd_same, (s4.trans s0) _ _ upd_same, s0 _ _ upd_same, upd_same⟩
def teA (K : PySem.W.Frag) : TE := tBM K "list" rPopAt (cV 2) (tCons (tCall spDraw [] E0 (tCons (cV 0) (tCons (tCB (rLen2 K) (tCons (cV 2) tNil)) tNil))) tNil)
def spAcc : Sp := fun vs H Q _ => ∃ (p k0 : Addr) (c many : Int), vs = [.ref p, .int many] ∧ Pe H p k0 c ∧ c < 999900 ∧ 0 ≤ many ∧ many ≤ 5 ∧
  ∀ (q : Addr) (G : Hp) (ns : List (List Nat)), H q = none → Kp p H G → Pe G p k0 (c + 6) → G q = some (.lst (strL ns)) → (ns.length : Int) = many → NsOk ns → Q (.ref q) G
theorem ok_acc {f : Addr} {fd : FuncData} (F : Fun K "_law_accounts" "_law_accounts" s__law_accounts f fd) (T : Txt K mg) (T2 : Txt2 mg) (cD : CalO P w K mg base "_law_draw" 1 ["_law_pen_here", "_law_many"] spDraw (fun _ => True)) (cP : CalO P w K mg base "_law_pick" 2 ["_law_pen_here", "_law_some"] (spPick K) (fun _ => True)) : FnOk P w K mg base CX0 3 f fd ["_law_pen_here", "_law_many"] spAcc := by
  refine F.ok sc__law_accounts (fun vs H Q E h => ?_) (fun cdv A' outer s H vs Q E hr h => ?_)
  · obtain ⟨p, k0, c, many, rfl, _⟩ := h
    rfl
  · obtain ⟨p, k0, c, many, rfl, Pp, hc, m0, m5, k⟩ := h
    refine ⟨_, (pss_cons (ps_set (i := 2) sc__law_accounts.nd rfl (Or.inr rfl) (pe_callTy call_list_of (by rfl) T.b_list (by decide +kernel) (pa_cons (pe_cO cP (hr.mono (by decide)) (pa_cons (pc 0) (pa_cons (pe_lst (pa_cons (pe_lst (pa_cons pe_str (pa_cons pe_str (pa_cons pe_str (pa_cons pe_str (pa_cons pe_str pa_nil)))))) (pa_cons (pe_lst (pa_cons pe_str (pa_cons pe_str (pa_cons pe_str (pa_cons pe_str (pa_cons pe_str pa_nil)))))) (pa_cons (pe_lst (pa_cons pe_str (pa_cons pe_str (pa_cons pe_str (pa_cons pe_str (pa_cons pe_str pa_nil)))))) (pa_cons (pe_lst (pa_cons pe_str (pa_cons pe_str (pa_cons pe_str (pa_cons pe_str (pa_cons pe_str pa_nil)))))) pa_nil))))) pa_nil))) pa_nil)))
    (pss_one (ps_ret (pe_lc (own := [("_law_spot", 3)]) (g := gName 3) (tt := tYes) (te := teA K) rfl sc__law_accounts.nd (pi_range1 (by rfl) T.b_range (pa_cons (pc 1) pa_nil)) (blkOk_by (own := [("_law_spot", 3)]) (N := n__law_accounts) (sc := defScope s__law_accounts) (by decide +kernel)) (fun _ _ _ _ _ => pg_name (i := 3) sc__law_accounts.nd rfl (Or.inl rfl)) (fun _ _ _ _ _ => pts_nil) (fun _ _ _ _ _ => (by exact pe_bm PySem.F.plainAttrs_list PySem.F.slot_list_pop PySem.F.type_list_pop mt_popAt (pc 2) (pa_cons (pe_cO cD (hr.mono (by decide)) (pa_cons (pc 0) (pa_cons (pe_callB c_len (by rfl) T.b_len (by decide +kernel) (pa_cons (pc 2) pa_nil)) pa_nil))) pa_nil))))))), ?_⟩
    refine ⟨by show 5 ≤ sizeLine; decide, fun a1 n1 => ⟨by show 5 ≤ sizeLine; decide, fun a2 n2 => ⟨by show 5 ≤ sizeLine; decide, fun a3 n3 => ⟨by show 5 ≤ sizeLine; decide, fun a4 n4 => ⟨by show 4 ≤ sizeLine; decide, fun a0 n0 => ?_⟩⟩⟩⟩⟩
    rw [b4_0] at n2 n3 n4 n0 ⊢
    rw [b4_1] at n3 n4 n0 ⊢
    rw [b4_2] at n4 n0 ⊢
    rw [b4_3] at n0 ⊢
    obtain ⟨sH, q1, q2, q3, q4, q0⟩ := lay5 n1 n2 n3 n4 n0
    have p1 := Pp.ne n1
    have p2 := Pp.ne (lay_free n2)
    have p3 := Pp.ne (lay_free (lay_free n3))
    have p4 := Pp.ne (lay_free (lay_free (lay_free n4)))
    have p0 := Pp.ne (lay_free (lay_free (lay_free (lay_free n0))))
    refine ⟨p, k0, c, .ref a0, rfl, Pp.same sH, by omega, .inr ⟨a0, _, rfl, p0, .inl (SqL.of q0), by show 0 < 4; decide, by show 4 ≤ 1000000; decide, fun v G hv kp P1 => ?_⟩⟩
    have kp0 : Kp p H G := (Kp.same sH).trans kp
    obtain ⟨a, B, rfl, hB, hG⟩ : ∃ (a : Addr) (B : List (List Nat)), v = .ref a ∧ B ∈ base4 ∧ G a = some (.lst (strL B)) := by
      have hv : v = .ref a1 ∨ v = .ref a2 ∨ v = .ref a3 ∨ v = .ref a4 := by simpa using hv
      rcases hv with rfl | rfl | rfl | rfl
      · exact ⟨_, _, rfl, (by decide +kernel : base4.getD 0 [] ∈ base4), kp _ _ p1 q1⟩
      · exact ⟨_, _, rfl, (by decide +kernel : base4.getD 1 [] ∈ base4), kp _ _ p2 q2⟩
      · exact ⟨_, _, rfl, (by decide +kernel : base4.getD 2 [] ∈ base4), kp _ _ p3 q3⟩
      · exact ⟨_, _, rfl, (by decide +kernel : base4.getD 3 [] ∈ base4), kp _ _ p4 q4⟩
    obtain ⟨B5, Bn, Ba⟩ := base4_ok B hB
    refine ⟨a, strL B, rfl, .inl (SqL.of hG), fun l nl => ?_⟩
    have lp : l ≠ p := P1.ne nl
    have lk0 : l ≠ k0 := P1.neL nl
    have lH : H l = none := by
      cases e : H l with
      | none => rfl
      | some o => rw [kp0 _ _ lp e] at nl; cases nl
    have m62 : many < 2 ^ 62 := by omega
    refine ⟨many, rfl, by omega, m62, fun D nD => lc_it (te := teA K) (walk_range (lo := 0) (n := many.toNat))
      (fun i G1 => ∃ xs rem : List (List Nat), xs.length = i ∧ (xs ++ rem).Perm B ∧ G1 D = some (.lst (strL xs)) ∧ G1 l = some (.lst (strL rem)) ∧ Kp p H G1 ∧ Pe G1 p k0 (c + 1 + i))
      ⟨[], B, rfl, .refl _, upd_same, kpN upd_same nD, (kp0.mut lH).new nD, ((P1.new nl).new nD).mono (by omega)⟩ (fun i G1 _ z => trivial) ?_ ?_⟩
    · rintro i x G1 G2 hi ⟨xs, rem, xl, pm, gD, gl, kp1, P2⟩ ⟨rfl, ex⟩
      have rl := pm.length_eq
      rw [List.length_append, B5] at rl
      have sl : (strL rem).length = rem.length := by unfold strL; rw [List.length_map]
      have Dl : D ≠ l := fun z => by rw [z, upd_same] at nD; cases nD
      have nD0 : G D = none := by rwa [upd_ne Dl] at nD
      have Dp := P1.ne nD0
      have Dk := P1.neL nD0
      have DH : H D = none := by
        cases e : H D with
        | none => rfl
        | some o => rw [kp0 _ _ Dp e] at nD0; cases nD0
      refine ⟨rfl, .inl ⟨rfl, _, SqL.of gl⟩, strL rem, .inl (SqL.of gl), p, k0, _, _, rfl, P2, by omega, by omega, by omega, fun r G3 r0 r1 kp2 P3 => ?_⟩
      have gl3 := kp2 _ _ lp gl
      have gD3 := kp2 _ _ Dp gD
      have rn : r.toNat < rem.length := by omega
      have six : seqIndex? r (strL rem).length = some r.toNat := by
        simp [seqIndex?, show ¬ r < 0 by omega, show r < ((strL rem).length : Int) by omega, r0]
      have get : (strL rem)[r.toNat]? = some (.str (ofL rem[r.toNat])) := by unfold strL; rw [List.getElem?_map, List.getElem?_eq_getElem rn]; rfl
      have er : (strL rem).eraseIdx r.toNat = strL (rem.eraseIdx r.toNat) := by unfold strL; rw [erase_map]
      refine ⟨l, strL rem, r, r.toNat, _, rfl, rfl, gl3, by omega, by omega, six, get, _, by rw [upd_ne Dl]; exact gD3, by rw [strL, List.length_map, sizeLine_eq]; omega, xs ++ [rem[r.toNat]], rem.eraseIdx r.toNat, by simp; omega, ?_, ?_, ?_, ?_, ?_⟩
      · refine .trans ?_ pm
        rw [List.append_assoc]
        exact List.Perm.append_left xs (perm_erase rn)
      · rw [upd_same]
        unfold strL
        rw [List.map_append]
        rfl
      · rw [upd_ne (Ne.symm Dl), upd_same, er]
      · exact ((kp1.trans kp2).mut lH).mut DH
      · exact ((P3.mut lp lk0).mut Dp Dk).mono (by omega)
    · rintro G1 ⟨xs, rem, xl, pm, gD, gl, kp1, P2⟩
      have Dl : D ≠ l := fun z => by rw [z, upd_same] at nD; cases nD
      have nD0 : G D = none := by rwa [upd_ne Dl] at nD
      have Dp := P1.ne nD0
      have DH : H D = none := by
        cases e : H D with
        | none => rfl
        | some o => rw [kp0 _ _ Dp e] at nD0; cases nD0
      have nd := (pm.nodup_iff.mpr Bn)
      refine k D G1 xs DH kp1 (P2.mono (by omega)) gD (by omega) ⟨(List.nodup_append.mp nd).1, fun n hn => Ba n (pm.mem_iff.mp (List.mem_append_left _ hn))⟩

end
end LW
set_option Elab.async false
set_option linter.all false
set_option maxRecDepth 100000
set_option maxHeartbeats 2000000
namespace HX
open PySem PySem.Spec PyProof.Rows L2
/-! ### == of two dicts of data -/
inductive DatHits (K : PySem.W.Frag) (H : Hp) (kb : List (Key × V)) : List (Key × V) → Bool → Prop
  | nil : DatHits K H kb [] true
  | miss {k : Key} {v : V} {r : List (Key × V)} : valV kb k = none → DatHits K H kb ((k, v) :: r) false
  | hit {k : Key} {v y : V} {d e : PyData} {r : List (Key × V)} {z : Bool} : valV kb k = some y → Dp K H v d → Dp K H y e → SeqAt.shaped d = true → SeqAt.shaped e = true → DatHits K H kb r z → DatHits K H kb ((k, v) :: r) (PyData.eqv d e && z)
def rEqDD (K : PySem.W.Frag) (neg : Bool) : L2.R2 := fun x y H Q => ∃ (a b : Addr) (ka kb : List (Key × V)) (r : Bool), x = .ref a ∧ y = .ref b ∧ H a = some (.dK ka) ∧ H b = some (.dK kb) ∧ (ka.length = kb.length → DatHits K H kb ka r) ∧ Q (.bl (xor neg (decide (ka.length = kb.length) && r))) H
section
variable {X : Cx}
theorem DatHits.low {pins : List (Addr × Obj)} {σ : L2.St} {H : Hp} {s : Shared} {A : Around} (I : Inv X pins σ H s) (hu : A.in1.units + 64 < cLine) {kb : List (Key × V)} {vb : List (Key × Value)} (rb : KV kb vb) : ∀ {ka : List (Key × V)} {va : List (Key × Value)} {z : Bool}, DatHits X.K H kb ka z → KV ka va → PySem.W.KeqHits A.in1 s vb va z
  | _, _, _, .nil, .nil => .nil
  | _, _, _, .miss (k := k) e, .cons (b := (k2, v2)) ⟨e1, _⟩ _ => by
    cases e1
    exact .miss (RelO.none_of (by rw [← e]; exact rb.val k))
  | _, _, _, .hit (k := k) (y := y) e hd he sd se t, .cons (b := (k2, v2)) ⟨e1, e2⟩ q => by
    cases e1
    obtain ⟨u, hu2, ru⟩ := RelO.some_of (v := y) (o := valueAt vb k) (by rw [← e]; exact rb.val k)
    obtain ⟨as, r1⟩ := Dp.reads I _ _ _ hd e2
    obtain ⟨bs, r2⟩ := Dp.reads I _ _ _ he ru
    exact .hit hu2 (PySem.W.keq_at r1 r2 sd se hu) (DatHits.low I hu rb t q)
theorem op_eqDD (hr : Room 1 X.A) : OpR X (compareOp .Eq) (rEqDD X.K false) := by
  intro pins s σ H x y v u Q I rx ry h
  obtain ⟨a, b, ka, kb, r, rfl, rfl, ea, eb, hits, q⟩ := h
  obtain rfl : v = Value.ref a := rx
  obtain rfl : u = Value.ref b := ry
  obtain ⟨_, na, va, ra, da⟩ := (show ObjOk X.prog X.w H s.heap a (.dK ka) from I.hok a _ ea)
  obtain ⟨_, nb, vb, rb, db⟩ := (show ObjOk X.prog X.w H s.heap b (.dK kb) from I.hok b _ eb)
  have la : ka.length = va.length := ra.length
  have lb : kb.length = vb.length := rb.length
  refine PySem.W.keq_eq (knd := mixKind X.prog X.w) (r := r) na nb da db hr.units0 (fun e => (hits (by omega)).low I hr.in1.units rb ra) (fin_bl I q ?_)
  rw [Bool.false_xor, la, lb]
  rfl
theorem op_neDD (hr : Room 1 X.A) : OpR X (compareOp .NotEq) (rEqDD X.K true) := by
  intro pins s σ H x y v u Q I rx ry h
  obtain ⟨a, b, ka, kb, r, rfl, rfl, ea, eb, hits, q⟩ := h
  obtain rfl : v = Value.ref a := rx
  obtain rfl : u = Value.ref b := ry
  obtain ⟨_, na, va, ra, da⟩ := (show ObjOk X.prog X.w H s.heap a (.dK ka) from I.hok a _ ea)
  obtain ⟨_, nb, vb, rb, db⟩ := (show ObjOk X.prog X.w H s.heap b (.dK kb) from I.hok b _ eb)
  have la : ka.length = va.length := ra.length
  have lb : kb.length = vb.length := rb.length
  refine PySem.W.keq_ne (knd := mixKind X.prog X.w) (r := r) na nb da db hr.units0 (fun e => (hits (by omega)).low I hr.in1.units rb ra) (fin_bl I q ?_)
  rw [Bool.true_xor, la, lb]
  rfl
end
/-! ### a list of pairs for a dict -/
theorem mergeK_new : ∀ (more acc : List (Key × V)), ((acc ++ more).map (·.1)).Nodup → mergeK acc more = acc ++ more
  | [], acc, _ => by rw [List.append_nil]; rfl
  | (k, v) :: r, acc, nd => by
    have no : valV acc k = none := by
      cases e : valV acc k with
      | none => rfl
      | some y =>
        have : k ∈ acc.map (·.1) := valV_in e
        rw [List.map_append, List.map_cons] at nd
        exact absurd rfl ((List.nodup_append.mp nd).2.2 _ this _ (List.mem_cons_self ..))
    show mergeK (putK acc k v) r = _
    rw [putK_new _ no, mergeK_new r _ (by rw [List.append_assoc]; exact nd), List.append_assoc]
    rfl
/-- tuples (name, (top, bottom)) at ps -/
inductive PrP (H : Hp) : List Addr → List (Key × V) → List (List Nat × Int × Int) → Prop
  | nil : PrP H [] [] []
  | cons {p q : Addr} {n : List Nat} {t b : Int} {ps : List Addr} {kvs : List (Key × V)} {rs : List (List Nat × Int × Int)} : H p = some (.tup [.str (ofL n), .ref q]) → H q = some (.tup [.int t, .int b]) → PrP H ps kvs rs → PrP H (p :: ps) ((.inr (ofL n), .ref q) :: kvs) ((n, t, b) :: rs)
theorem PrP.mo {H G : Hp} (s : ∀ q xs, H q = some (.tup xs) → G q = some (.tup xs)) : ∀ {ps kvs rs}, PrP H ps kvs rs → PrP G ps kvs rs
  | _, _, _, .nil => .nil
  | _, _, _, .cons e1 e2 r => .cons (s _ _ e1) (s _ _ e2) (r.mo s)
theorem PrP.snoc {H : Hp} {p q : Addr} {n : List Nat} {t b : Int} (e1 : H p = some (.tup [.str (ofL n), .ref q])) (e2 : H q = some (.tup [.int t, .int b])) : ∀ {ps kvs rs}, PrP H ps kvs rs → PrP H (ps ++ [p]) (kvs ++ [(.inr (ofL n), .ref q)]) (rs ++ [(n, t, b)])
  | _, _, _, .nil => .cons e1 e2 .nil
  | _, _, _, .cons a b r => .cons a b (r.snoc e1 e2)
theorem PrP.len {H : Hp} : ∀ {ps kvs rs}, PrP H ps kvs rs → ps.length = rs.length
  | _, _, _, .nil => rfl
  | _, _, _, .cons _ _ r => by rw [List.length_cons, List.length_cons, r.len]
theorem PrP.kps {H : Hp} : ∀ {ps kvs rs}, PrP H ps kvs rs → KPs H kvs rs
  | _, _, _, .nil => .nil
  | _, _, _, .cons _ e2 r => .cons e2 r.kps
theorem PrP.pairs {K : PySem.W.Frag} {H : Hp} : ∀ {ps kvs rs}, PrP H ps kvs rs → Paired (fun p kv => SqT K H p [kV kv.1, kv.2]) ps kvs
  | _, _, _, .nil => .nil
  | _, _, _, .cons e1 _ r => .cons (SqT.of e1) r.pairs
theorem KPs.keys {H : Hp} : ∀ {kvs ps}, KPs H kvs ps → kvs.map (·.1) = (ps.map (·.1)).map fun k => (Sum.inr (ofL k) : Key)
  | _, _, .nil => rfl
  | _, _, .cons _ r => by rw [List.map_cons, List.map_cons, List.map_cons, r.keys]
theorem KPs.merge {H : Hp} {kvs : List (Key × V)} {ps : List (List Nat × Int × Int)} (h : KPs H kvs ps) (nd : (ps.map (·.1)).Nodup) : mergeK [] kvs = kvs := by
  refine mergeK_new kvs [] ?_
  rw [List.nil_append, h.keys]
  exact (List.nodup_iff_pairwise_ne.mpr ((List.pairwise_map.mpr ((List.nodup_iff_pairwise_ne.mp nd).imp fun h e => h (ofL_inj (Sum.inr.inj e))))))
/-- two dicts of pairs by names -/
theorem KPs.hits {K : PySem.W.Frag} {H : Hp} {kb : List (Key × V)} {ss : List (List Nat × Int × Int)} (hb : KPs H kb ss) (nd : (ss.map (·.1)).Nodup) : ∀ {ka rs}, KPs H ka rs → DatHits K H kb ka (rs.all fun p => decide (p ∈ ss))
  | _, _, .nil => .nil
  | _, _, .cons (q := q) (k := n) (t := t) (b := c) (ps := ps) e r => by
    rw [List.all_cons]
    have ih := hb.hits (K := K) nd r
    by_cases h : ∃ t2 c2, (n, t2, c2) ∈ ss
    · obtain ⟨t2, c2, hm⟩ := h
      obtain ⟨q2, v2, e2⟩ := hb.get nd hm
      have eq : decide ((n, t, c) ∈ ss) = PyData.eqv (.tuple [.int t, .int c]) (.tuple [.int t2, .int c2]) := by
        have e3 : PyData.eqv (.tuple [.int t, .int c]) (.tuple [.int t2, .int c2]) = decide (t = t2 ∧ c = c2) := by
          rw [← SeqAt.same_eq_eqv _ _ (by rfl)]
          simp only [PySem.Spec.same, PySem.Spec.sameAll]
          rw [Bool.eq_iff_iff]
          simp
        rw [e3]
        refine decide_eq_decide.mpr ⟨fun hm2 => ?_, fun ⟨x, y⟩ => by rw [x, y]; exact hm⟩
        obtain ⟨q3, v3, e4⟩ := hb.get nd hm2
        rw [v2] at v3
        cases v3
        rw [e2] at e4
        simp at e4
        exact ⟨e4.1.symm, e4.2.symm⟩
      rw [eq]
      exact .hit v2 (.tup (SqT.of e) (.cons (.int _) (.cons (.int _) .nil))) (.tup (SqT.of e2) (.cons (.int _) (.cons (.int _) .nil))) rfl rfl ih
    · have no : decide ((n, t, c) ∈ ss) = false := decide_eq_false fun z => h ⟨t, c, z⟩
      rw [no, Bool.false_and]
      exact .miss (hb.out fun p hp z => h ⟨p.2.1, p.2.2, by rw [← z]; exact hp⟩)
end HX

set_option Elab.async false
set_option linter.all false
set_option maxRecDepth 100000
set_option maxHeartbeats 2000000
namespace HX
open PySem PySem.Spec PyProof.Rows L2 NumText
/-! ### words and blanks -/
theorem pre32 (c : Nat) (r : List Nat) : TL.pre [32] (c :: r) = decide (c = 32) := by
  unfold TL.pre
  simp only [List.length_singleton, List.take_succ_cons, List.take_zero]
  rw [Bool.eq_iff_iff]
  simp
theorem spl32b : ∀ (r acc : List Nat), 32 ∉ acc → (∀ w ∈ TL.spl [32] 0 acc r, 32 ∉ w) ∧ (TL.spl [32] 0 acc r).length = r.count 32 + 1 ∧ ((TL.spl [32] 0 acc r).map (·.length)).sum + r.count 32 = acc.length + r.length
  | [], acc, h => by
    rw [TL.spl_nil]
    exact ⟨fun w hw => by rw [List.mem_singleton.mp hw]; exact h, rfl, by simp⟩
  | c :: r, acc, h => by
    by_cases e : c = 32
    · obtain ⟨i1, i2, i3⟩ := spl32b r [] (fun z => nomatch z)
      have hit : TL.pre [32] (c :: r) = true := by rw [pre32]; exact decide_eq_true e
      have e2 : TL.spl [32] 0 acc (c :: r) = acc :: TL.spl [32] 0 [] r := TL.spl_hit hit
      rw [e2, e, List.count_cons_self]
      refine ⟨fun w hw => ?_, by rw [List.length_cons, i2], ?_⟩
      · rcases List.mem_cons.mp hw with z | z
        · rw [z]
          exact h
        · exact i1 w z
      · rw [List.map_cons, List.sum_cons, List.length_cons]
        simp at i3
        omega
    · have miss : TL.pre [32] (c :: r) = false := by rw [pre32]; exact decide_eq_false e
      obtain ⟨i1, i2, i3⟩ := spl32b r (acc ++ [c]) (fun z => (List.mem_append.mp z).elim h fun z => e (List.mem_singleton.mp z).symm)
      rw [TL.spl_miss miss, List.count_cons_of_ne e]
      refine ⟨i1, i2, ?_⟩
      rw [List.length_append, List.length_singleton] at i3
      rw [List.length_cons]
      omega
theorem wds_no {l w : List Nat} (h : w ∈ wds l) : 32 ∉ w := (spl32b l [] (fun z => nomatch z)).1 w h
theorem wds_count (l : List Nat) : (wds l).length = l.count 32 + 1 := (spl32b l [] (fun z => nomatch z)).2.1
theorem wds_sum (l : List Nat) : ((wds l).map (·.length)).sum + l.count 32 = l.length := by
  have := (spl32b l [] (fun z => nomatch z)).2.2
  rw [List.length_nil, Nat.zero_add] at this
  exact this
def jn (ws : List (List Nat)) : List Nat := TL.joinL [32] ws
theorem jn_len : ∀ ws : List (List Nat), (jn ws).length + 1 ≤ (ws.map (·.length)).sum + ws.length + 1 ∧ (ws ≠ [] → (jn ws).length + 1 = (ws.map (·.length)).sum + ws.length)
  | [] => ⟨by decide, fun h => absurd rfl h⟩
  | [p] => by
    show p.length + 1 ≤ _ ∧ (_ → p.length + 1 = _)
    simp
  | p :: q :: r => by
    have ih := (jn_len (q :: r)).2 (by simp)
    have e : jn (p :: q :: r) = p ++ ([32] ++ jn (q :: r)) := rfl
    rw [e, List.length_append, List.length_append]
    have l1 : (p :: q :: r).length = (q :: r).length + 1 := rfl
    have l2 : [32].length = 1 := rfl
    rw [List.map_cons, List.sum_cons, l1, l2]
    constructor
    · omega
    · intro _
      omega
theorem jn_mem : ∀ (ws : List (List Nat)) (c : Nat), c ∈ jn ws → c = 32 ∨ ∃ w ∈ ws, c ∈ w
  | [], c, h => nomatch h
  | [p], c, h => .inr ⟨p, List.mem_cons_self .., h⟩
  | p :: q :: r, c, h => by
    have e : jn (p :: q :: r) = p ++ ([32] ++ jn (q :: r)) := rfl
    rw [e] at h
    rcases List.mem_append.mp h with h | h
    · exact .inr ⟨p, List.mem_cons_self .., h⟩
    · rcases List.mem_append.mp h with h | h
      · exact .inl (List.mem_singleton.mp h)
      · rcases jn_mem (q :: r) c h with h | ⟨w, hw, hc⟩
        · exact .inl h
        · exact .inr ⟨w, List.mem_cons_of_mem _ hw, hc⟩
theorem wds_jn {ws : List (List Nat)} (ne : ws ≠ []) (h : ∀ w ∈ ws, 32 ∉ w) : wds (jn ws) = ws := TL.spl_join ne h
theorem wds_jn_len {ws : List (List Nat)} (h : ∀ w ∈ ws, 32 ∉ w) : (wds (jn ws)).length ≤ ws.length + 1 := by
  by_cases e : ws = []
  · subst e
    decide +kernel
  · rw [wds_jn e h]
    omega
theorem jn_txt (ws : List (List Nat)) : Txt.join (Str.ofString " ") (ws.map ofL) = ofL (jn ws) := by
  have e : (Str.ofString " ") = SX.S [32] := by decide +kernel
  rw [e]
  exact SX.join_S [32] ws
/-! ### the text of gaps says just these -/
def gws (ps : List (List Nat × Int × Int)) : List (List Nat) := ps.flatMap fun p => [p.1, atx p.2.1 p.2.2]
theorem jn_gws : ∀ ps : List (List Nat × Int × Int), TL.joinL [32] (ps.map fun p => p.1 ++ 32 :: atx p.2.1 p.2.2) = jn (gws ps)
  | [] => rfl
  | [p] => rfl
  | p :: q :: r => by
    have ih := jn_gws (q :: r)
    have e1 : TL.joinL [32] ((p :: q :: r).map fun p => p.1 ++ 32 :: atx p.2.1 p.2.2) = (p.1 ++ 32 :: atx p.2.1 p.2.2) ++ ([32] ++ TL.joinL [32] ((q :: r).map fun p => p.1 ++ 32 :: atx p.2.1 p.2.2)) := rfl
    have e2 : jn (gws (p :: q :: r)) = p.1 ++ ([32] ++ (atx p.2.1 p.2.2 ++ ([32] ++ jn (gws (q :: r))))) := rfl
    rw [e1, ih, e2]
    simp
theorem gws_len (ps : List (List Nat × Int × Int)) : (gws ps).length = 2 * ps.length := by
  induction ps with
  | nil => rfl
  | cons p r ih =>
    show ([p.1, atx p.2.1 p.2.2] ++ gws r).length = _
    have l1 : (p :: r).length = r.length + 1 := rfl
    rw [List.length_append, ih, l1]
    show 2 + _ = _
    omega
theorem it_no32 (i : Int) : 32 ∉ it i := by
  intro h
  unfold it at h
  split at h
  · rcases List.mem_cons.mp h with z | z
    · omega
    · have := dg_all _ _ z
      omega
  · have := dg_all _ _ h
    omega
theorem atx_no32 (t b : Int) : 32 ∉ atx t b := by
  intro h
  unfold atx at h
  split at h
  · exact it_no32 _ h
  · rcases List.mem_append.mp h with z | z
    · exact it_no32 _ z
    · rcases List.mem_cons.mp z with z | z
      · omega
      · exact it_no32 _ z
theorem it_128 (i : Int) : ∀ c ∈ it i, c < 128 := by
  intro c h
  unfold it at h
  split at h
  · rcases List.mem_cons.mp h with z | z
    · omega
    · have := dg_all _ _ z
      omega
  · have := dg_all _ _ h
    omega
theorem atx_128 (t b : Int) : ∀ c ∈ atx t b, c < 128 := by
  intro c h
  unfold atx at h
  split at h
  · exact it_128 _ c h
  · rcases List.mem_append.mp h with z | z
    · exact it_128 _ c z
    · rcases List.mem_cons.mp z with z | z
      · omega
      · exact it_128 _ c z
/-- right gaps: ascending names, fractions in lowest terms, none of them 0 -/
structure Gpw (ps : List (List Nat × Int × Int)) : Prop where
  pw : (ps.map (·.1)).Pairwise (· < ·)
  nm : ∀ p ∈ ps, isNm p.1 = true
  am : ∀ p ∈ ps, Low p.2.1 p.2.2 ∧ p.2.1.natAbs < 10 ^ 200 ∧ p.2.2.natAbs < 10 ^ 200 ∧ p.2.1 ≠ 0
theorem isNm_no32 {n : List Nat} (h : isNm n = true) : 32 ∉ n := by
  unfold isNm at h
  have h := (of_decide_eq_true h).2.2
  exact fun z => absurd (h 32 z) (by decide)
theorem isNm_128 {n : List Nat} (h : isNm n = true) : ∀ c ∈ n, c < 128 := by
  unfold isNm at h
  have h := (of_decide_eq_true h).2.2
  have h2 : ∀ c ∈ abc, c < 128 := by decide
  exact fun c hc => h2 c (h c hc)
theorem duW_gws : ∀ (ps acc : List (List Nat × Int × Int)) (i : Nat) (ah : List Nat), i % 2 = 0 → Gpw ps → (∀ p ∈ ps, ah < p.1) → duW i ah acc (gws ps) = .inr (acc ++ ps)
  | [], acc, i, ah, hi, _, _ => by
    show duW i ah acc [] = _
    unfold duW
    rw [if_neg (by omega), List.append_nil]
  | p :: r, acc, i, ah, hi, w, ha => by
    obtain ⟨n, t, b⟩ := p
    obtain ⟨lo, ht, hb, t0⟩ := w.am _ (List.mem_cons_self ..)
    have hn := w.nm _ (List.mem_cons_self ..)
    have pw := w.pw
    rw [List.map_cons] at pw
    obtain ⟨pw1, pw2⟩ := List.pairwise_cons.mp pw
    have w2 : Gpw r := ⟨pw2, fun p hp => w.nm p (List.mem_cons_of_mem _ hp), fun p hp => w.am p (List.mem_cons_of_mem _ hp)⟩
    show duW i ah acc (n :: atx t b :: gws r) = _
    unfold duW
    rw [if_pos hi, if_pos ⟨hn, ha _ (List.mem_cons_self ..)⟩]
    unfold duW
    rw [if_neg (by omega), rt_rdv ⟨lo, ht, hb, rfl⟩]
    show (if t = 0 then _ else _) = _
    rw [if_neg t0, duW_gws r _ _ n (by omega) w2 (fun p hp => pw1 _ (List.mem_map.mpr ⟨p, hp, rfl⟩)), List.append_assoc]
    rfl
theorem gws_no32 {ps : List (List Nat × Int × Int)} (w : Gpw ps) : ∀ u ∈ gws ps, 32 ∉ u := by
  intro u hu
  obtain ⟨p, hp, h⟩ := List.mem_flatMap.mp hu
  rcases List.mem_cons.mp h with e | h
  · rw [e]
    exact isNm_no32 (w.nm p hp)
  · rw [List.mem_singleton.mp h]
    exact atx_no32 _ _
/-- the text of right gaps, as a list of signs -/
def gtl (ps : List (List Nat × Int × Int)) : List Nat := if ps = [] then [110, 111, 110, 101] else jn (gws ps)
theorem gws_ne {ps : List (List Nat × Int × Int)} (h : ps ≠ []) : gws ps ≠ [] := fun z => by
  have := gws_len ps
  rw [z] at this
  exact h (List.length_eq_zero_iff.mp (by simp at this; omega))
theorem wds_gtl {ps : List (List Nat × Int × Int)} (w : Gpw ps) (h : ps ≠ []) : wds (gtl ps) = gws ps := by
  unfold gtl
  rw [if_neg h]
  exact wds_jn (gws_ne h) (gws_no32 w)
theorem due_gtl {ps : List (List Nat × Int × Int)} (w : Gpw ps) : due (gtl ps) = .inr ps := by
  by_cases h : ps = []
  · subst h
    rfl
  · have e := wds_gtl w h
    have ne : gtl ps ≠ [110, 111, 110, 101] := fun z => by
      rw [z] at e
      have := gws_len ps
      rw [← e] at this
      have l1 : (wds [110, 111, 110, 101]).length = 1 := by decide +kernel
      omega
    unfold due
    rw [if_neg ne, e, duW_gws ps [] 0 [] rfl w ?_]
    · rfl
    · intro p hp
      have hn := w.nm p hp
      unfold isNm at hn
      have hn := (of_decide_eq_true hn).1
      cases e2 : p.1 with
      | nil => rw [e2] at hn; simp at hn
      | cons c r => exact List.nil_lt_cons c r
end HX

set_option Elab.async false
set_option linter.all false
set_option maxRecDepth 100000
set_option maxHeartbeats 2000000
namespace HX
open PySem PySem.Spec PyProof.Rows L2

/-! ### a text turned round: x[::-1] -/
def tRevS (te : TE) : TE := fun σ H Q => te σ H fun x H1 => ∃ l : List Nat, x = .str (ofL l) ∧ l.length ≤ sizeLine ∧ Q (.str (ofL l.reverse)) H1
theorem rev_pick (l : List Nat) : (⟨((Builtin.Str.strSliceIndices none none (-1) (ofL l).length).filterMap ((ofL l).cps[·]?)).toArray⟩ : Str) = ofL l.reverse := by
  refine StrLaws.mk_of_toList ?_
  rw [picked_rev, List.toList_toArray, filterMap_get, List.map_map]
  · refine List.ext_getElem? fun i => ?_
    rw [ofL_len, List.getElem?_map]
    rcases Nat.lt_or_ge i l.length with h | h
    · rw [List.getElem?_range h, List.getElem?_reverse h]
      show some ((ofL l).cps.getD (l.length - 1 - i) 0) = _
      have h2 : l.length - 1 - i < l.length := by omega
      rw [List.getElem?_eq_getElem h2]
      simp [ofL, Array.getD, h2]
    · rw [List.getElem?_eq_none (by rw [List.length_range]; exact h), List.getElem?_eq_none (by rw [List.length_reverse]; exact h)]
      rfl
  · intro i hi
    obtain ⟨k, hk, rfl⟩ := List.mem_map.mp hi
    have hk' : k < (ofL l).length := List.mem_range.mp hk
    show (ofL l).length - 1 - k < (ofL l).length
    omega
section
variable {X : Cx}
theorem pe_revS {e : Expr} {te : TE} {k : Nat} {p1 p2 p3 pos : Pos} (he : PE X e te) : PE X (.Subscript e (.Slice none none (some (.UnaryOp .USub (.Constant (.int 1) k p1) p2)) p3) pos) (tRevS te) := by
  refine ⟨fun pins s σ H Q I h => ?_⟩
  refine Subscript_ (thn (he.run pins s σ H _ I h) fun v s1 ⟨x, H1, I1, r1, q1⟩ => ?_)
  obtain ⟨l, ex, hz, q⟩ := q1
  subst ex
  obtain ⟨t, rfl⟩ := r1
  have hst : PO X (some (.UnaryOp .USub (.Constant (.int 1) k p1) p2)) (tPart (tUn (rU fun i => .int (-i)) (tC (.int 1)))) := po_some (pe_un un_neg pe_int)
  refine wpAny_Slice (thn (po_none.run pins s1 σ H1 (fun o H2 => o = none ∧ H2 = H1) I1 ⟨rfl, rfl⟩) fun vl s2 ⟨l1, H2, I2, pl, el, e2⟩ => ?_)
  subst el e2
  refine thn (po_none.run pins s2 σ H2 (fun o H3 => o = none ∧ H3 = H2) I2 ⟨rfl, rfl⟩) fun vu s3 ⟨u, H3, I3, pu, eu, e3⟩ => ?_
  subst eu e3
  refine thn (hst.run pins s3 σ H3 (fun o H4 => o = some (-1) ∧ H4 = H3) I3 ⟨1, rfl, -1, rfl, rfl, rfl⟩) fun vs s4 ⟨o, H4, I4, ps, eo, e4⟩ => ?_
  subst eo e4
  have I5 : Inv X pins σ H4 { s4 with heap := s4.heap.push { cls := .type "slice", data := .fields #[vl, vu, vs] } } := I4.kept (t' := s4.toks) fun b ob q => Heap.get?_push_of_some _ q
  show wpAny (model X.prog X.w) X.A (subscriptTail e (.Slice none none (some (.UnaryOp .USub (.Constant (.int 1) k p1) p2)) p3) (.str (ofL l) t) (.ref s4.heap.objs.size)) (EP X pins σ Q) X.xe { s4 with heap := s4.heap.push { cls := .type "slice", data := .fields #[vl, vu, vs] } }
  obtain ⟨lo, rfl, elo⟩ := IsPart.raw pl
  obtain ⟨up, rfl, eup⟩ := IsPart.raw pu
  obtain ⟨stp, rfl, est⟩ := IsPart.raw ps
  refine tail_any (ops := [.str (ofL l) t, .ref s4.heap.objs.size]) (typeIs_str _ _ _) F.slot_str_getitem.lookup ?_ (by with_unfolding_all rfl)
  refine wpAny_getItem_str_slice (l := lo) (u := up) (st := stp) ⟨_, Heap.get?_push_size _ rfl, rfl, rfl⟩ (by rw [est]; rfl) ?_
  have e1 : lo = none := by cases lo with | none => rfl | some z => cases elo
  have e2 : up = none := by cases up with | none => rfl | some z => cases eup
  subst e1 e2
  obtain ⟨tk, e3⟩ : ∃ tk, stp = some ((-1 : Int), tk) := by
    cases stp with
    | none => cases est
    | some z =>
      obtain ⟨i, tk⟩ := z
      cases est
      exact ⟨tk, rfl⟩
  subst e3
  show Made.post (Made.str ⟨((Builtin.Str.strSliceIndices none none (-1) (ofL l).length).filterMap ((ofL l).cps[·]?)).toArray⟩) (EP X pins σ Q) _
  rw [rev_pick]
  exact ⟨by rw [ofL_len, List.length_reverse]; exact hz, .str _, H4, I5.tok _, ⟨_, rfl⟩, q⟩
end
end HX

set_option Elab.async false
set_option linter.all false
set_option maxRecDepth 100000
set_option maxHeartbeats 2000000
namespace HX
open PySem PySem.Spec PyProof.Rows L2

/-! ### a sign, many times -/
def rRepS : L2.R2 := fun x y H Q => ∃ (c : Nat) (k : Int), x = .str (ofL [c]) ∧ y = .int k ∧ 2 ≤ k ∧ k ≤ 1000 ∧ Q (.str (ofL (List.replicate k.toNat c))) H
theorem fold_rep (c : Nat) : ∀ (m : Nat) (acc : Array Nat), ((List.replicate m (#[c] : Array Nat)).foldl (· ++ ·) acc).toList = acc.toList ++ List.replicate m c
  | 0, acc => by simp
  | m + 1, acc => by
    rw [List.replicate_succ, List.foldl_cons, fold_rep c m, List.replicate_succ]
    simp
theorem op_repS {X : Cx} : OpR X (binaryOp .Mult) rRepS := by
  intro pins s σ H x y v u Q I rx ry h
  obtain ⟨c, k, rfl, rfl, h1, h2, q⟩ := h
  obtain ⟨t, rfl⟩ := rx
  obtain ⟨t2, rfl⟩ := ry
  have l1 : (ofL [c]).length = 1 := rfl
  have e : (⟨(List.replicate k.toNat (ofL [c]).cps).foldl (· ++ ·) #[]⟩ : Str) = ofL (List.replicate k.toNat c) := by
    refine StrLaws.mk_of_toList ?_
    show ((List.replicate k.toNat (#[c] : Array Nat)).foldl (· ++ ·) #[]).toList = _
    rw [fold_rep]
    simp
  refine P.mul_str (by rw [decide_eq_false (by omega), decide_eq_false (by omega)]; rfl) (fun _ _ => ?_) (fun _ _ => ?_) ?_
  · rw [l1]
    have : (1 : Int) ≤ (2 ^ 63 - 1) / k := by
      have h3 : (2 ^ 63 - 1) / k ≥ (2 ^ 63 - 1) / 1000 := by
        refine (Int.le_ediv_iff_mul_le (by omega)).mpr ?_
        have h4 : ((2 : Int) ^ 63 - 1) / 1000 = 9223372036854775 := by decide +kernel
        rw [h4]
        have : (9223372036854775 : Int) * k ≤ 9223372036854775 * 1000 := Int.mul_le_mul_of_nonneg_left h2 (by decide)
        omega
      have h4 : ((2 : Int) ^ 63 - 1) / 1000 = 9223372036854775 := by decide +kernel
      omega
    omega
  · rw [l1]
    unfold Builtin.Str.tooLong
    exact decide_eq_false (by rw [sizeLine_eq]; omega)
  · rw [if_neg (by omega), if_neg (by rw [l1]; simp; omega), e]
    exact ⟨by rw [ofL_len, List.length_replicate, sizeLine_eq]; omega, .str _, H, I.tok _, ⟨_, rfl⟩, q⟩
end HX

set_option Elab.async false
set_option linter.all false
set_option maxRecDepth 100000
set_option maxHeartbeats 2000000
namespace HX
open PySem PySem.Spec PyProof.Rows L2
/-! ### slices of lists from an end -/
theorem cutV_to {xs : List V} {i : Int} (h : 0 ≤ i) : cutV xs none (some i) = xs.take i.toNat := by
  have e : HT.sIx xs.length xs.length (some i) = min i.toNat xs.length := if_neg (by omega)
  unfold cutV
  rw [e, HT.sIx_none, Nat.sub_zero, List.drop_zero]
  by_cases z : i.toNat ≤ xs.length
  · rw [Nat.min_eq_left z]
  · rw [Nat.min_eq_right (by omega), List.take_length, List.take_of_length_le (by omega)]
theorem cutV_from {xs : List V} {i : Int} (h : 0 ≤ i) : cutV xs (some i) none = xs.drop i.toNat := by
  have e : HT.sIx xs.length 0 (some i) = min i.toNat xs.length := if_neg (by omega)
  unfold cutV
  rw [e, HT.sIx_none]
  by_cases z : i.toNat ≤ xs.length
  · rw [Nat.min_eq_left z]
    exact List.take_of_length_le (by rw [List.length_drop]; omega)
  · rw [Nat.min_eq_right (by omega), List.drop_eq_nil_of_le (Nat.le_refl _), List.drop_eq_nil_of_le (by omega), List.take_nil]
theorem sumTD (ws : List (List Nat)) (n : Nat) : ((ws.take n).map (·.length)).sum + ((ws.drop n).map (·.length)).sum = (ws.map (·.length)).sum := by
  rw [← List.sum_append, ← List.map_append, List.take_append_drop]
theorem sumD1 (ws : List (List Nat)) (n : Nat) : ((ws.drop (n + 1)).map (·.length)).sum ≤ ((ws.drop n).map (·.length)).sum := by
  have := sumTD (ws.drop n) 1
  rw [List.drop_drop] at this
  omega
theorem cntTD (l : List Nat) (n : Nat) : (l.take n).count 32 + (l.drop n).count 32 = l.count 32 := by
  rw [← List.count_append, List.take_append_drop]
theorem cntD1 (l : List Nat) (n : Nat) : (l.drop (n + 1)).count 32 ≤ (l.drop n).count 32 := by
  have := cntTD (l.drop n) 1
  rw [List.drop_drop] at this
  omega
end HX

set_option Elab.async false
set_option linter.all false
set_option maxRecDepth 100000
set_option maxHeartbeats 2000000
namespace HX
open PySem PySem.Spec PyProof.Rows L2 NumText
/-! ### a list of pairs (name, value) for a dict, R of the values -/
inductive PrR (H : Hp) (R : V → Int → Int → Prop) : List Addr → List (Key × V) → List (List Nat × Int × Int) → Prop
  | nil : PrR H R [] [] []
  | cons {p : Addr} {v : V} {n : List Nat} {t b : Int} {ps : List Addr} {kvs : List (Key × V)} {rs : List (List Nat × Int × Int)} : H p = some (.tup [.str (ofL n), v]) → R v t b → PrR H R ps kvs rs → PrR H R (p :: ps) ((.inr (ofL n), v) :: kvs) ((n, t, b) :: rs)
theorem PrR.mo {H G : Hp} {R S : V → Int → Int → Prop} (s : ∀ q xs, H q = some (.tup xs) → G q = some (.tup xs)) (s2 : ∀ v t b, R v t b → S v t b) : ∀ {ps kvs rs}, PrR H R ps kvs rs → PrR G S ps kvs rs
  | _, _, _, .nil => .nil
  | _, _, _, .cons e1 e2 r => .cons (s _ _ e1) (s2 _ _ _ e2) (r.mo s s2)
theorem PrR.snoc {H : Hp} {R : V → Int → Int → Prop} {p : Addr} {v : V} {n : List Nat} {t b : Int} (e1 : H p = some (.tup [.str (ofL n), v])) (e2 : R v t b) : ∀ {ps kvs rs}, PrR H R ps kvs rs → PrR H R (ps ++ [p]) (kvs ++ [(.inr (ofL n), v)]) (rs ++ [(n, t, b)])
  | _, _, _, .nil => .cons e1 e2 .nil
  | _, _, _, .cons a b r => .cons a b (r.snoc e1 e2)
theorem PrR.len {H : Hp} {R : V → Int → Int → Prop} : ∀ {ps kvs rs}, PrR H R ps kvs rs → ps.length = rs.length
  | _, _, _, .nil => rfl
  | _, _, _, .cons _ _ r => by rw [List.length_cons, List.length_cons, r.len]
theorem PrR.krs {H : Hp} {R : V → Int → Int → Prop} : ∀ {ps kvs rs}, PrR H R ps kvs rs → KRs R kvs rs
  | _, _, _, .nil => .nil
  | _, _, _, .cons _ e2 r => .cons e2 r.krs
theorem PrR.pairs {K : PySem.W.Frag} {H : Hp} {R : V → Int → Int → Prop} : ∀ {ps kvs rs}, PrR H R ps kvs rs → Paired (fun p kv => SqT K H p [kV kv.1, kv.2]) ps kvs
  | _, _, _, .nil => .nil
  | _, _, _, .cons e1 _ r => .cons (SqT.of e1) r.pairs
theorem KRs.merge {R : V → Int → Int → Prop} {kvs : List (Key × V)} {ps : List (List Nat × Int × Int)} (h : KRs R kvs ps) (nd : (ps.map (·.1)).Nodup) : mergeK [] kvs = kvs := by
  refine mergeK_new kvs [] ?_
  rw [List.nil_append, h.keys]
  exact (List.nodup_iff_pairwise_ne.mpr ((List.pairwise_map.mpr ((List.nodup_iff_pairwise_ne.mp nd).imp fun h e => h (ofL_inj (Sum.inr.inj e))))))
/-! ### repr of a list whose text is known to be short -/
structure OkE (d : PyData) : Prop where
  sh : d.showable = true
  dp : d.depth ≤ 60
  len : d.shown.length ≤ sizeLine
def rReprE : List V → Hp → VK → Prop := fun xs H Q => ∃ (a : Addr) (vs : List V) (ds : List PyData), xs = [.ref a] ∧ H a = some (.lst vs) ∧ Das H vs ds ∧ OkE (.list ds) ∧ Q (.str (PyData.list ds).shown) H
theorem call_reprE {X : Cx} (gd : X.A.guards = some []) (hu : X.A.units + 64 < cLine) : CallR X (.builtin "repr") rReprE := by
  intro pins s σ H xs us Q I r h
  obtain ⟨a, vs, ds, rfl, ha, hd, ok, q⟩ := h
  obtain ⟨u, rfl, ru⟩ := vals1 r
  cases ru
  obtain ⟨its, rv, ⟨o, n, ho, hc, _, hda⟩, _⟩ := I.list (SqL.of ha)
  obtain ⟨as, hr, ns⟩ := Das.reads I hd rv
  have S := shows_list (P := X.prog) (w := X.w) ho hc hda (by simpa using hr) ok.sh ns ok.len
  have dp := ok.dp
  refine call_repr_slot (by omega) (S.typeIs s fun _ _ e => e) S.slotRepr (S.call X.A.in1 X.xe s _ gd (by show X.A.units + 1 + (PyData.list ds).depth < cLine; omega) (fun _ _ e => e) fun h' t tk kk => ?_)
  exact ⟨_, _, rfl, .str (PyData.list ds).shown, H, I.kept kk, ⟨_, rfl⟩, q⟩
/-! ### the data of gaps -/
def dat (p : List Nat × Int × Int) : PyData := .tuple [.str (ofL p.1), .tuple [.int p.2.1, .int p.2.2]]
theorem PrP.das {H : Hp} : ∀ {ps kvs rs}, PrP H ps kvs rs → Das H (ps.map V.ref) (rs.map dat)
  | _, _, _, .nil => .nil
  | _, _, _, .cons e1 e2 r => .cons (.tup e1 (.cons (.str _) (.cons (.tup e2 (.cons (.int _) (.cons (.int _) .nil))) .nil))) r.das
/-- what is short of a pair -/
def Sml (p : List Nat × Int × Int) : Prop := p.1.length ≤ 8 ∧ (∀ c ∈ p.1, c < 128) ∧ p.2.1.natAbs < 10 ^ 200 ∧ p.2.2.natAbs < 10 ^ 200
theorem it_short {i : Int} (h : i.natAbs < 10 ^ 200) : (it i).length ≤ 201 := by
  have h2 : (dg i.natAbs).length ≤ 200 := (dg_len (by decide)).mpr h
  unfold it
  split
  · rw [List.length_cons]
    omega
  · omega
theorem ten_log {i : Int} (h : i.natAbs < 10 ^ 200) : i.natAbs.log2 < 700 := by
  by_cases z : i.natAbs = 0
  · rw [z]
    decide
  · exact (Nat.log2_lt z).mpr (Nat.lt_trans h (by decide +kernel))
theorem dat_facts {p : List Nat × Int × Int} (h : Sml p) : (dat p).showable = true ∧ (dat p).depth ≤ 3 ∧ (dat p).leavesShort 210 = true ∧ (dat p).weight ≤ 1420 := by
  obtain ⟨h1, h2, h3, h4⟩ := h
  have a3 := ten_log h3
  have a4 := ten_log h4
  have s3 : (PyData.shown (.int p.2.1)).length ≤ 210 := by
    show (Str.ofString (toString p.2.1)).length ≤ 210
    rw [it_text, ofL_len]
    have := it_short h3
    omega
  have s4 : (PyData.shown (.int p.2.2)).length ≤ 210 := by
    show (Str.ofString (toString p.2.2)).length ≤ 210
    rw [it_text, ofL_len]
    have := it_short h4
    omega
  have sn : (ofL p.1).cps.toList.all (fun c => decide (c < 16 ^ 8)) = true := by
    rw [ofL_cps, List.all_eq_true]
    intro c hc
    have := h2 c hc
    exact decide_eq_true (by omega)
  refine ⟨?_, ?_, ?_, ?_⟩
  · unfold dat
    simp only [PyData.showable, PyData.showableAll, Bool.and_true, Bool.and_eq_true, decide_eq_true_eq]
    first
      | exact ⟨by omega, by omega⟩
      | exact ⟨trivial, by omega, by omega⟩
      | exact ⟨sn, by omega, by omega⟩
  · unfold dat
    simp [PyData.depth, PyData.depthAll]
  · unfold dat
    simp only [PyData.leavesShort, PyData.leavesShortAll, Bool.and_true, Bool.and_eq_true, decide_eq_true_eq]
    first
      | exact ⟨sn, s3, s4⟩
      | exact ⟨trivial, s3, s4⟩
  · have l1 : (ofL p.1).cps.size ≤ 8 := by
      have : (ofL p.1).length ≤ 8 := by rw [ofL_len]; exact h1
      exact this
    unfold dat
    simp only [PyData.weight, PyData.weightAll]
    split <;> split <;> omega
theorem dats_facts : ∀ (rs : List (List Nat × Int × Int)), (∀ p ∈ rs, Sml p) → PyData.showableAll (rs.map dat) = true ∧ PyData.depthAll (rs.map dat) ≤ 3 ∧ PyData.leavesShortAll 210 (rs.map dat) = true ∧ PyData.weightAll (rs.map dat) ≤ 1421 * rs.length
  | [], _ => ⟨rfl, by decide, rfl, by decide⟩
  | p :: r, h => by
    obtain ⟨a1, a2, a3, a4⟩ := dat_facts (h p (List.mem_cons_self ..))
    obtain ⟨b1, b2, b3, b4⟩ := dats_facts r fun q hq => h q (List.mem_cons_of_mem _ hq)
    rw [List.map_cons, List.length_cons]
    refine ⟨by rw [PyData.showableAll, a1, b1]; rfl, ?_, by rw [PyData.leavesShortAll, a3, b3]; rfl, ?_⟩
    · rw [PyData.depthAll]
      omega
    · rw [PyData.weightAll]
      omega
theorem okE_dats {rs : List (List Nat × Int × Int)} (h : ∀ p ∈ rs, Sml p) (hl : rs.length ≤ 30) : OkE (.list (rs.map dat)) := by
  obtain ⟨b1, b2, b3, b4⟩ := dats_facts rs h
  refine ⟨b1, by simp only [PyData.depth]; omega, ?_⟩
  have e := PyData.shown_le 210 (by decide) (.list (rs.map dat)) b3
  have w : (PyData.list (rs.map dat)).weight = PyData.weightAll (rs.map dat) := rfl
  rw [w] at e
  rw [sizeLine_eq]
  omega
/-! ### what a text of gaps says is short -/
theorem duW_inr : ∀ (ws : List (List Nat)) (i : Nat) (ah : List Nat) (acc ps : List (List Nat × Int × Int)), (i % 2 = 1 → isNm ah = true) → duW i ah acc ws = .inr ps → (∀ p ∈ ps, p ∈ acc ∨ Sml p) ∧ 2 * ps.length ≤ 2 * acc.length + ws.length + i % 2
  | [], i, ah, acc, ps, _, h => by
    unfold duW at h
    split at h
    · cases h
    · cases h
      exact ⟨fun p hp => .inl hp, by simp⟩
  | w :: ws, i, ah, acc, ps, ha, h => by
    unfold duW at h
    split at h
    · rename_i e
      split at h
      · rename_i c
        obtain ⟨a, b⟩ := duW_inr ws (i + 1) w acc ps (fun _ => c.1) h
        refine ⟨a, ?_⟩
        rw [List.length_cons]
        omega
      · cases h
    · rename_i e
      split at h
      · rename_i t b er
        split at h
        · cases h
        · obtain ⟨a, c⟩ := duW_inr ws (i + 1) ah _ ps (fun z => absurd z (by omega)) h
          rw [List.length_append, List.length_singleton] at c
          rw [List.length_cons]
          refine ⟨fun p hp => ?_, by omega⟩
          rcases a p hp with z | z
          · rcases List.mem_append.mp z with z | z
            · exact .inl z
            · rw [List.mem_singleton.mp z]
              obtain ⟨lo, x1, x2, _⟩ := rdv_rt er
              have hn := ha (by omega)
              have n128 := isNm_128 hn
              unfold isNm at hn
              exact .inr ⟨(of_decide_eq_true hn).2.1, n128, x1, x2⟩
          · exact .inr z
      · cases h
theorem due_inr {l : List Nat} {ps : List (List Nat × Int × Int)} (h : due l = .inr ps) : (∀ p ∈ ps, Sml p) ∧ 2 * ps.length ≤ (wds l).length := by
  unfold due at h
  split at h
  · cases h
    exact ⟨fun _ z => (nomatch z), Nat.zero_le _⟩
  · obtain ⟨a, b⟩ := duW_inr (wds l) 0 [] [] ps (fun z => absurd z (by decide)) h
    exact ⟨fun p hp => (a p hp).elim (fun z => nomatch z) id, by simpa using b⟩
theorem duW_inl : ∀ (ws : List (List Nat)) (i n : Nat) (ah : List Nat) (acc : List (List Nat × Int × Int)), duW i ah acc ws = .inl n → n ≤ i + ws.length
  | [], i, n, ah, acc, h => by
    unfold duW at h
    split at h
    · cases h
      exact Nat.le_refl _
    · cases h
  | w :: ws, i, n, ah, acc, h => by
    rw [List.length_cons]
    unfold duW at h
    split at h
    · split at h
      · have := duW_inl ws _ _ _ _ h
        omega
      · cases h
        omega
    · split at h
      · split at h
        · cases h
          omega
        · have := duW_inl ws _ _ _ _ h
          omega
      · cases h
        omega
theorem due_inl {l : List Nat} {n : Nat} (h : due l = .inl n) : n ≤ (wds l).length := by
  unfold due at h
  split at h
  · cases h
  · have := duW_inl _ _ _ _ _ h
    omega
/-- names in order, each once -/
theorem asc_of {α : Type} (f : α → List Nat) {rs : List α} (h : sortedS (rs.map fun r => ofL (f r)) = true) (nd : (rs.map f).Nodup) : (rs.map f).Pairwise (· < ·) := by
  refine (sortedS_pw f rs h).imp₂ (fun a b h1 h2 => ?_) (List.nodup_iff_pairwise_ne.mp nd)
  rcases Decidable.em (a < b) with z | z
  · exact z
  · exact absurd (List.le_antisymm (List.not_lt.mp h1) (List.not_lt.mp z)) h2
end HX

set_option Elab.async false
set_option linter.all false
set_option maxRecDepth 100000
set_option maxHeartbeats 4000000
namespace LW
open PySem PySem.Spec PyProof.Rows L2 HX NumText
section
variable {P : Program} {w : World} {K : PySem.W.Frag} {mg : Str → Option Value} {base : Heap}

def spFrac : Sp := fun vs H Q _ => ∃ (p k0 : Addr) (c : Int), vs = [.ref p] ∧ Pe H p k0 c ∧ c < 999900 ∧
  ∀ (q : Addr) (G : Hp) (t b : Int), H q = none → Kp p H G → Pe G p k0 (c + 3) → G q = some (.tup [.int t, .int b]) → 0 < b → Sm 97 t → Sm 97 b → Q (.ref q) G
theorem Kp.freeF {p q : Addr} {H G : Hp} (k : Kp p H G) (n : q ≠ p) (h : G q = none) : H q = none := by
  cases e : H q with
  | none => rfl
  | some o =>
    have := k _ _ n e
    rw [h] at this
    cases this
theorem ok_frac {f : Addr} {fd : FuncData} (F : Fun K "_law_fraction" "_law_fraction" s__law_fraction f fd) (T : Txt K mg) (cD : CalO P w K mg base "_law_draw" 1 ["_law_pen_here", "_law_many"] spDraw (fun _ => True)) (cP : CalO P w K mg base "_law_pick" 2 ["_law_pen_here", "_law_some"] (spPick K) (fun _ => True)) : FnOk P w K mg base CX0 3 f fd ["_law_pen_here"] spFrac := by
  refine F.ok sc__law_fraction (fun vs H Q E h => ?_) (fun cdv A' outer s H vs Q E hr h => ?_)
  · obtain ⟨p, k0, c, rfl, _⟩ := h
    rfl
  · obtain ⟨p, k0, c, rfl, Pp, hc, k⟩ := h
    refine ⟨_, (pss_cons (ps_set (i := 1) sc__law_fraction.nd rfl (Or.inl rfl) (pe_cO cP (hr.mono (by decide)) (pa_cons (pc 0) (pa_cons (pe_lst (pa_cons pe_int (pa_cons pe_int (pa_cons (pe_un un_neg pe_int) (pa_cons pe_int (pa_cons (pe_un un_neg pe_int) (pa_cons (pe_op o_pow pe_int pe_int) (pa_cons (pe_op o_sub (pe_cO cD (hr.mono (by decide)) (pa_cons (pc 0) (pa_cons pe_int pa_nil))) pe_int) pa_nil)))))))) pa_nil))))
    (pss_one (ps_ret (pe_tup (pa_cons (pc 1) (pa_cons (pe_cO cP (hr.mono (by decide)) (pa_cons (pc 0) (pa_cons (pe_lst (pa_cons pe_int (pa_cons pe_int (pa_cons pe_int (pa_cons pe_int (pa_cons pe_int (pa_cons (pe_op o_add (pe_op o_pow pe_int pe_int) pe_int) pa_nil))))))) pa_nil))) pa_nil)))))), ?_⟩
    refine ⟨1, rfl, 7, rfl, ⟨by decide, by decide, by decide⟩, p, k0, _, 100, rfl, Pp, by decide, by decide, by omega, fun r1 G1 r10 r11 k1 P1 => ⟨by show 7 ≤ sizeLine; decide, fun q1 n1 => ⟨p, k0, _, .ref q1, rfl, P1.new n1, by omega, .inr ⟨q1, _, rfl, P1.ne n1, .inl (SqL.of upd_same), by show 0 < 7; decide, by show 7 ≤ 1000000; decide, fun v G2 hv k2 P2 => ?_⟩⟩⟩⟩
    obtain ⟨t, rfl, t0, t1⟩ : ∃ t : Int, v = .int t ∧ -(10 ^ 29) ≤ t ∧ t ≤ 10 ^ 29 := by
      simp only [List.mem_cons, List.not_mem_nil, or_false] at hv
      rcases hv with rfl | rfl | rfl | rfl | rfl | rfl | rfl
      all_goals refine ⟨_, rfl, ?_, ?_⟩
      any_goals decide
      all_goals omega
    have kA : Kp p H G2 := (k1.new n1).trans k2
    refine ⟨⟨by decide, by decide, by decide⟩, by show 6 ≤ sizeLine; decide, fun q2 n2 => ⟨p, k0, _, .ref q2, rfl, P2.new n2, by omega, .inr ⟨q2, _, rfl, P2.ne n2, .inl (SqL.of upd_same), by show 0 < 6; decide, by show 6 ≤ 1000000; decide, fun u G3 hu k3 P3 => ?_⟩⟩⟩
    obtain ⟨b, rfl, b0, b1⟩ : ∃ b : Int, u = .int b ∧ 0 < b ∧ b ≤ 10 ^ 29 + 1 := by
      simp only [List.mem_cons, List.not_mem_nil, or_false] at hu
      rcases hu with rfl | rfl | rfl | rfl | rfl | rfl <;> exact ⟨_, rfl, by decide, by decide⟩
    have kB : Kp p H G3 := (kA.new n2).trans k3
    refine ⟨by show 2 ≤ sizeLine; decide, fun q3 n3 => ?_⟩
    have w1 : (10 : Int) ^ 29 = 100000000000000000000000000000 := by decide
    refine k q3 _ t b (Kp.freeF kB (P3.ne n3) n3) (kB.new n3) ((P3.new n3).mono (by omega)) upd_same b0 ?_ ?_
    · rw [w1] at t0 t1
      unfold Sm
      omega
    · rw [w1] at b1
      unfold Sm
      omega

/-- a sum told step by step -/
def duS (ts : List (List Nat × Int × Int)) (s : Int × Int) (q : List Nat × Int) : Int × Int := let d := (lk ts q.1).getD (0, 1); (s.1 * d.2 + q.2 * d.1 * s.2, s.2 * d.2)
def dueS (ts : List (List Nat × Int × Int)) (ps : List (List Nat × Int)) : Int × Int := ps.foldl (duS ts) (0, 1)
theorem dueS_snoc (ts : List (List Nat × Int × Int)) (ps : List (List Nat × Int)) (q : List Nat × Int) : dueS ts (ps ++ [q]) = duS ts (dueS ts ps) q := by
  unfold dueS
  rw [List.foldl_append]
  rfl
theorem dget_f {H : Hp} {a : Addr} {o : Obj} {kvs : List (Key × V)} {k : Key} (e : H a = some (.frz o (.dK kvs))) : DGet H a (kV k) (valV kvs k) := .inl ⟨kvs, k, .inr ⟨o, e⟩, rfl, rfl⟩
def TsOk (ts : List (List Nat × Int × Int)) : Prop := ∀ p ∈ ts, 0 < p.2.2 ∧ Sm 97 p.2.1 ∧ Sm 97 p.2.2
theorem kps_lk {H : Hp} {n : List Nat} : ∀ {kvs : List (Key × V)} {ts : List (List Nat × Int × Int)}, KPs H kvs ts → (valV kvs (.inr (ofL n)) = none ∧ lk ts n = none) ∨ ∃ q t b, valV kvs (.inr (ofL n)) = some (.ref q) ∧ lk ts n = some (t, b) ∧ H q = some (.tup [.int t, .int b]) ∧ (n, t, b) ∈ ts
  | _, _, .nil => .inl ⟨rfl, rfl⟩
  | _, _, .cons (q := q) (k := n') (t := t) (b := b) (ps := ps') e r => by
    by_cases h : n' = n
    · subst h
      exact .inr ⟨q, t, b, valV_pos (p := ((Sum.inr (ofL n') : Key), V.ref q)) rfl, by simp [lk], e, List.mem_cons_self⟩
    · rw [valV_neg (by intro y; exact h (ofL_inj (Sum.inr.inj y)))]
      have e2 : lk ((n', t, b) :: ps') n = lk ps' n := by simp [lk, h]
      rw [e2]
      rcases kps_lk (n := n) r with h1 | ⟨q, t, b, h1, h2, h3, h4⟩
      · exact .inl h1
      · exact .inr ⟨q, t, b, h1, h2, h3, List.mem_cons_of_mem _ h4⟩
def spDueS : Sp := fun vs H Q _ => ∃ (P_ T_ : Addr) (ps : List (List Nat × Int)) (kvs : List (Key × V)) (ts : List (List Nat × Int × Int)), vs = [.ref P_, .ref T_] ∧ H P_ = some (.dK (kIs ps)) ∧ PsOk ps ∧ ps.length ≤ 5 ∧ H T_ = some (.dK kvs) ∧ P_ ≠ T_ ∧ KPs H kvs ts ∧ TsOk ts ∧
  ∀ (q : Addr) (G : Hp), H q = none → Same H G → G q = some (.tup [.int (dueS ts ps).1, .int (dueS ts ps).2]) → Q (.ref q) G
theorem ok_due {f : Addr} {fd : FuncData} (F : Fun K "_law_sum" "_law_sum" s__law_sum f fd) (T : Txt K mg) : FnOk P w K mg base CX0 1 f fd ["_law_parts", "_law_told"] spDueS := by
  refine F.ok sc__law_sum (fun vs H Q E h => ?_) (fun cdv A' outer s H vs Q E hr h => ?_)
  · obtain ⟨P_, T_, ps, kvs, ts, rfl, _⟩ := h
    rfl
  · obtain ⟨P_, T_, ps, kvs, ts, rfl, hP, ok, l5, hT, PT_, kp, tk, k⟩ := h
    refine ⟨_, (pss_cons (ps_asg (pe_tup (pa_cons pe_int (pa_cons pe_int pa_nil))) (pg_tup rfl (pgs_cons (pg_name (i := 2) sc__law_sum.nd rfl (Or.inl rfl)) (pgs_cons (pg_name (i := 3) sc__law_sum.nd rfl (Or.inl rfl)) pgs_nil))))
    (pss_cons (ps_lock (ps_for PassesOwn.never rfl (pi_keys (pc 0)) (pg_name (i := 4) sc__law_sum.nd rfl (Or.inl rfl)) (pss_cons (ps_asg (pe_dget2 (Nat.lt_of_le_of_lt (Nat.add_le_add_left (by decide : 1 ≤ 64) _) hr.units) (pc 1) (pc 4) (pe_tup (pa_cons pe_int (pa_cons pe_int pa_nil))) (by exact ⟨rfl, rfl, rfl, rfl⟩)) (pg_tup rfl (pgs_cons (pg_name (i := 5) sc__law_sum.nd rfl (Or.inl rfl)) (pgs_cons (pg_name (i := 6) sc__law_sum.nd rfl (Or.inl rfl)) pgs_nil))))
    (pss_cons (ps_set (i := 2) sc__law_sum.nd rfl (Or.inl rfl) (pe_op o_add (pe_op o_mulW (pc 2) (pc 6)) (pe_op o_mulW (pe_op o_mulW (pe_dget (Nat.lt_of_le_of_lt (Nat.add_le_add_left (by decide : 1 ≤ 64) _) hr.units) (pc 0) (pc 4) (by exact fun _ _ => rfl)) (pc 5)) (pc 3))))
    (pss_one (ps_set (i := 3) sc__law_sum.nd rfl (Or.inl rfl) (pe_op o_mulW (pc 3) (pc 6))))))))
    (pss_one (ps_ret (pe_tup (pa_cons (pc 2) (pa_cons (pc 3) pa_nil))))))), ?_⟩
    refine ⟨by show 2 ≤ sizeLine; decide, fun p0 np0 => ⟨p0, _, rfl, SqT.of upd_same, rfl, _, _, rfl, _, _, rfl, rfl, ?_⟩⟩
    have s0 := Same.new (o := .tup [.int 0, .int 1]) (Same.refl H) np0
    generalize L2.upd H p0 (.tup [.int 0, .int 1]) = H0 at s0 ⊢
    have hP0 := s0 _ _ hP
    have hT0 := s0 _ _ hT
    have kp0 := kp.mo (G := H0) fun q t b e => s0 _ _ e
    refine ⟨P_, .dK (kIs ps), hP0, trivial, fun od => ⟨P_, od, rfl, .inl ⟨kIs ps, upd_same, for_it walk_keys
      (fun i σ G => Same (L2.upd H0 P_ (.frz od (.dK (kIs ps)))) G ∧ (0 < (dueS ts (ps.take i)).2 ∧ Sm (1 + 200 * i) (dueS ts (ps.take i)).1 ∧ Sm (1 + 97 * i) (dueS ts (ps.take i)).2) ∧ ∃ x4 x5 x6, σ = [some (.ref P_), some (.ref T_), some (.int (dueS ts (ps.take i)).1), some (.int (dueS ts (ps.take i)).2), x4, x5, x6])
      ⟨Same.refl _, ⟨(by decide : (0 : Int) < 1), (by unfold Sm; decide : Sm 1 0), (by unfold Sm; decide : Sm 1 1)⟩, none, none, none, rfl⟩ (fun i σ G _ z => z.1 _ _ upd_same) ?_ ?_⟩⟩⟩
    · rintro i x σ G G' hi ⟨s1, ⟨i0, i1, i2⟩, x4, x5, x6, rfl⟩ ⟨rfl, ky, v, e, rfl⟩
      rw [kIs_len] at hi
      have eq : ps[i]? = some ps[i] := List.getElem?_eq_getElem hi
      have eg : (kIs ps)[i]? = some ((.inr (ofL ps[i].1) : Key), V.int ps[i].2) := by unfold kIs; rw [List.getElem?_map, eq]; rfl
      rw [eg] at e
      cases e
      have tk1 : ps.take (i + 1) = ps.take i ++ [ps[i]] := by rw [List.take_add_one, eq]; rfl
      have hT1 : G' T_ = some (.dK kvs) := s1 _ _ (by rw [upd_ne (Ne.symm PT_)]; exact hT0)
      have pm := List.getElem_mem hi
      obtain ⟨_, z1, z2, _⟩ := ok.all _ pm
      have hPf : G' P_ = some (.frz od (.dK (kIs ps))) := s1 _ _ upd_same
      have kpG : KPs G' kvs ts := kp0.mo fun q t b e => s1 _ _ (by rw [upd_ne (fun z => by rw [z, hP0] at e; cases e)]; exact e)
      refine ⟨T_, rfl, .inl ⟨kvs, .inl hT1⟩, by show 2 ≤ sizeLine; decide, fun q5 n5 => ⟨valV kvs (.inr (ofL ps[i].1)), DGet.k (k := .inr (ofL ps[i].1)) (kpN hT1 n5), ?_⟩⟩
      have s5 := Same.new (o := .tup [.int 0, .int 1]) (Same.refl G') n5
      have e5 : L2.upd G' q5 (.tup [.int 0, .int 1]) q5 = some (.tup [.int 0, .int 1]) := upd_same
      generalize L2.upd G' q5 (.tup [.int 0, .int 1]) = G5 at s5 e5 ⊢
      obtain ⟨q, t, b, v1, v2, hq, b0, St, Sb⟩ : ∃ q t b, (valV kvs (.inr (ofL ps[i].1))).getD (.ref q5) = .ref q ∧ (lk ts ps[i].1).getD (0, 1) = (t, b) ∧ G5 q = some (.tup [.int t, .int b]) ∧ 0 < b ∧ Sm 97 t ∧ Sm 97 b := by
        rcases kps_lk (n := ps[i].1) kpG with ⟨v1, v2⟩ | ⟨q, t, b, v1, v2, hq, me⟩
        · exact ⟨q5, 0, 1, by rw [v1]; rfl, by rw [v2]; rfl, e5, by decide, by unfold Sm; decide, by unfold Sm; decide⟩
        · obtain ⟨y1, y2, y3⟩ := tk _ me
          exact ⟨q, t, b, by rw [v1]; rfl, by rw [v2]; rfl, s5 _ _ hq, y1, y2, y3⟩
      rw [v1]
      have nx : dueS ts (ps.take (i + 1)) = ((dueS ts (ps.take i)).1 * b + ps[i].2 * t * (dueS ts (ps.take i)).2, (dueS ts (ps.take i)).2 * b) := by
        rw [tk1, dueS_snoc]
        unfold duS
        rw [v2]
      have Sz := sm_nine z1 z2
      have w1 : Sm (1 + 200 * i + 97) ((dueS ts (ps.take i)).1 * b) := i1.mul Sb
      have w2 : Sm (4 + 97 + (1 + 97 * i)) (ps[i].2 * t * (dueS ts (ps.take i)).2) := (Sz.mul St).mul i2
      have dgP : DGet G5 P_ (.str (ofL ps[i].1)) (some (.int ps[i].2)) := by
        have := dget_f (k := .inr (ofL ps[i].1)) (s5 _ _ hPf)
        rwa [kIs_get (n := ps[i].1) (i := ps[i].2) ok.nd (List.getElem_mem hi)] at this
      refine ⟨q, _, rfl, SqT.of hq, rfl, _, _, rfl, _, _, rfl, rfl, i1.cMul Sb (by omega) (by omega) (by omega), P_, .int ps[i].2, rfl, dgP, Sz.cMul St, (Sz.mul St).cMul i2 (by omega) (by omega) (by omega), i2.cMul Sb (by omega) (by omega) (by omega), s1.trans s5, ?_, some (.str (ofL ps[i].1)), some (.int t), some (.int b), ?_⟩
      · rw [nx]
        exact ⟨Int.mul_pos i0 b0, (((w1.mono (by omega)).add (w2.mono (by omega)) : Sm (1 + 200 * i + 102 + 1) _)).mono (by omega), (i2.mul Sb).mono (by omega)⟩
      · rw [nx]
        rfl
    · rintro σ G ⟨s1, _, x4, x5, x6, rfl⟩
      rw [kIs_len, List.take_length]
      refine ⟨s1 _ _ upd_same, by show 2 ≤ sizeLine; decide, fun q nq => ?_⟩
      have s2 := s0.trans (back_lock hP0 s1)
      exact k q _ (s2.free nq) (Same.new s2 nq) upd_same

end
end LW
set_option Elab.async false
set_option linter.all false
set_option maxRecDepth 100000
set_option maxHeartbeats 2000000
/-! A48: C(e, ..), C's own __init__ may raise, within a try -/
namespace HX
open PySem PySem.W PySem.Spec PyProof.Rows L2
section
variable {X : Cx} {k : Nat} {C f : Addr} {sp : Sp} {W : WX} {x : Str} {e : Expr} {es : List Expr} {p pos : Pos} {t : TA} {fd : FuncData} {ps : List Str} {dvs : List V} {ds : List Value}
def tMakeX (C : Addr) (sp : Sp) (dvs : List V) (W : WX) (t : TA) : TE := fun σ H Q => t σ H fun vs H1 => ∀ y dx, H1 y = none → H1 dx = none → dx ≠ y →
  sp (.ref y :: (vs ++ dvs)) (L2.upd (L2.upd H1 dx (.own y)) y (.ins C dx [])) (fun v H2 => v = .non ∧ Q (.ref y) H2) (WE W σ)
theorem pe_makeX (M : Mk X.K C f) (F : FnOk X.prog X.w X.K X.mg X.base (CX X.prog X.w) k f fd ps sp) (hr : Room (k + 1) X.A) (hg : Gl X x) (hm : X.mg x = some (.ref C)) (hb : Binds X.K fd ps ds) (hd : Vals dvs ds) (tk : Takes X W)
    (ha : PA X (e :: es) t) (hdb : (x == ("__debug__" : Str)) = false := by decide) (he : starEach (e :: es) X.env = (false, eval e X.env) :: starEach es X.env := by rfl) (hpl : (backTo pos (starEach es X.env)).any (·.1) = false := by rfl) :
    PE X (.Call (.Name x p) (e :: es) [] pos) (tMakeX C sp dvs W t) := by
  refine ⟨fun pins s σ H Q I h => wpAny_Call_Name_kw (ld_glob I hg hm ?_ hdb)⟩
  refine PySem.W.callWith_K (h₀ := X.base) I.ok.mod.kin M.kp (thn (ha.run pos pins s σ H _ I h) fun us s1 ⟨vs, H1, I1, r, q⟩ => ⟨I1.kIn, ?_⟩) he hpl
  have hq := q (s1.heap.objs.size + 1) s1.heap.objs.size (I1.hok.fresh (Nat.le_succ _)) (I1.hok.fresh (Nat.le_refl _)) (Nat.ne_of_lt (Nat.lt_succ_self _))
  have J := Inv.made (C := C) I1
  have rr : Vals (V.ref (s1.heap.objs.size + 1) :: (vs ++ dvs)) (Value.ref (s1.heap.objs.size + 1) :: (us ++ ds)) := .cons rfl (r.append hd)
  have ln : (Value.ref (s1.heap.objs.size + 1) :: us ++ ds).length = ps.length := by
    have z := rr.length
    rw [F.len _ _ _ _ hq] at z
    exact z.symm
  have run := F.run _ X.stack _ _ ⟨Value.ref (s1.heap.objs.size + 1) :: us, []⟩ (Value.ref (s1.heap.objs.size + 1) :: (us ++ ds)) _ _ (WE W σ) (hr.make C us []) (J.env0.make C us []) (hb _ (Value.ref (s1.heap.objs.size + 1) :: us) J.kIn ln) rr hq
  refine wpAny_call (make_map (f := f) I1.kIn M.makes M.init (beq_iff_eq.mp M.fn) (codeAny_mono run fun rs s' hq' => ?_))
  match rs, hq' with
  | .error u, z => exact passAt tk σ _ _ _ _ _ J z
  | .ok (.ret u), z =>
    obtain ⟨v, H', I3, rv, ev, q3⟩ := J.after z
    subst ev
    exact ⟨rv, ⟨V.ref (s1.heap.objs.size + 1), H', I3, rfl, q3⟩⟩
  | .ok .next, z => exact False.elim z
  | .ok .brk, z => exact False.elim z
  | .ok .cont, z => exact False.elim z
end
end HX

set_option Elab.async false
set_option linter.all false
set_option maxRecDepth 100000
set_option maxHeartbeats 4000000
namespace LW
open PySem PySem.Spec PyProof.Rows L2 HX NumText
section
variable {P : Program} {w : World} {K : PySem.W.Frag} {mg : Str → Option Value} {base : Heap}

structure TxI (K : PySem.W.Frag) (mg : Str → Option Value) (S BI : Addr) : Prop where
  g_ShiftError : mg "ShiftError" = some (.ref S)
  g_BadItem : mg "BadItem" = some (.ref BI)
  ex : ExC K BI
  mS : PySem.W.exmOne K (.ref BI) (.ref S) = some true
  tI : PySem.W.kitOne K (.ref BI) (.ref BI) = some true
  np : PySem.W.findIn K (.ref BI) "part" = some none
theorem WrongV.mo {K : PySem.W.Frag} {H G : Hp} {v : V} {x : String} (s : Same H G) (ty : ∀ t, TyOf K H v t → TyOf K G v t) : WrongV K H v x → WrongV K G v x
  | .inl ⟨e, t, a, b⟩ => .inl ⟨e, t, ty t a, b⟩
  | .inr (.inl ⟨e, d, ks, bs, e1, hd, l, kv, bad⟩) => .inr (.inl ⟨e, d, ks, bs, e1, hd.elim (fun ⟨kvs, z, y⟩ => .inl ⟨kvs, s _ _ z, y⟩) (fun z => .inr (s _ _ z)), l, kv.mo s, bad⟩)
  | .inr (.inr ⟨e, d, kvs, e1, hd, l, nm, pl, bad⟩) => .inr (.inr ⟨e, d, kvs, e1, s _ _ hd, l, nm, fun p hp => (pl p hp).mo s, bad⟩)
theorem tyOf_mo {K : PySem.W.Frag} {H G : Hp} (s : Same H G) {v : V} {t : Value} (h : TyOf K H v t) : TyOf K G v t := by
  cases h with
  | non => exact .non
  | bl x => exact .bl x
  | int i => exact .int i
  | str x => exact .str x
  | flt x => exact .flt x
  | lst e => exact .lst (s _ _ e)
  | frz e => exact .frz (s _ _ e)
  | tup e => exact .tup (s _ _ e)
  | dK e => exact .dK (s _ _ e)
  | dT e => exact .dT (s _ _ e)
  | ins e cl ha hn ht hm => exact .ins (s _ _ e) cl ha hn ht hm
/-- making one that is refused -/
theorem mkLnRz {K : PySem.W.Frag} {Ln BI : Addr} {H : Hp} {v : V} {z : String} {Q : VK} {E : XK} (wz : WrongV K H v z) (k : RzP BI H E (sWp z)) :
    ∀ x dx, H x = none → H dx = none → dx ≠ x → spLInit K Ln BI (.ref x :: [v]) (L2.upd (L2.upd H dx (.own x)) x (.ins Ln dx [])) Q E := fun x dx nx nd ne => by
  have s0 : Same H (L2.upd (L2.upd H dx (.own x)) x (.ins Ln dx [])) := Same.upN (Same.new (Same.refl H) nd) nx
  exact ⟨x, dx, v, rfl, upd_same, .inl ⟨z, wz.mo s0 fun t => tyOf_mo s0, k.mo s0⟩⟩
def spHeard4 (K : PySem.W.Frag) : Sp := fun vs H Q _ => ∃ v, vs = [v] ∧ ((∃ z, WrongV K H v z ∧ ∀ G, Same H G → Q (sWp z) G) ∨ ∃ (P_ : Addr) (ps : List (List Nat × Int)), v = .ref P_ ∧ H P_ = some (.dK (kIs ps)) ∧ PsOk ps ∧ ∀ G, Same H G → Q .non G)
theorem ok_heard {f fL Ln BI S : Addr} {fd fdL : FuncData} (F : Fun K "_law_heard" "_law_heard" s__law_heard f fd) (T : Txt K mg) (T2 : Txt2 mg) (V_ : TxI K mg S BI) (gLin : mg "Linear" = some (.ref Ln)) (mL : Mk K Ln fL) (FL : FnOk P w K mg base (CX P w) 6 fL fdL ["self", "parts"] (spLInit K Ln BI)) (bL : Binds K fdL ["self", "parts"] []) : FnOk P w K mg base CX0 9 f fd ["_law_thing"] (spHeard4 K) := by
  refine F.ok sc__law_heard (fun vs H Q E h => ?_) (fun cdv A' outer s H vs Q E hr h => ?_)
  · obtain ⟨v, rfl, _⟩ := h
    rfl
  · obtain ⟨v, rfl, hv⟩ := h
    refine ⟨_, (pss_cons (ps_set (i := 1) sc__law_heard.nd rfl (Or.inl rfl) pe_non)
    (pss_cons (ps_try_keep (i := 2) (Wout := fun _ _ _ _ => False) rfl rfl sc__law_heard.nd rfl rfl ⟨rfl, by decide, Or.inl V_.g_ShiftError⟩ takes0 (fun W pn xe tk _ => (pss_one (ps_expr (pe_makeX mL FL (hr.mono (by decide)) rfl gLin bL .nil tk (pa_cons (pc 0) pa_nil))))) (fun a pn => (pss_one (ps_set (i := 1) sc__law_heard.nd rfl (Or.inl rfl) (pc 2)))))
    (pss_cons (s_if (t_cmp o_is (pc 1) pe_non) (pss_one (ps_ret pe_non)) pss_nil)
    (pss_one (ps_ret (e_if (t_val (pe_callB call_isX (by rfl) T.b_isinstance (by decide +kernel) (pa_cons (pc 1) (pa_cons (p_gc V_.g_BadItem) pa_nil)))) (pe_exf (pc 1)) pe_str)))))), ?_⟩
    rcases hv with ⟨z, wz, k⟩ | ⟨P_, ps, rfl, hP, ok, k⟩
    · refine mkLnRz wz fun G dd sG nd ed => ?_
      refine ⟨true, V_.mS, fun _ e na => ?_, fun z => Bool.noConfusion z⟩
      have s3 := Same.new (o := exT e (.ref BI) (some dd)) sG na
      have e1 : upd G e (exT e (.ref BI) (some dd)) e = some (exT e (.ref BI) (some dd)) := upd_same
      have e2 := kpN (o := exT e (.ref BI) (some dd)) ed na
      generalize upd G e (exT e (.ref BI) (some dd)) = G3 at s3 e1 e2 ⊢
      refine ⟨fun h => by simp at h, fun _ => ?_⟩
      refine ⟨e, BI, some dd, _, _, true, rfl, e1, fun _ z => ⟨_, by cases z; exact e2⟩, V_.ex, (fun u r => r), V_.tI, ⟨fun _ => ?_, fun h => absurd h (by decide)⟩⟩
      exact ⟨e, BI, dd, _, _, rfl, e1, e2, V_.ex, V_.np, rfl, k _ s3⟩
    · refine mkLn hP ok fun r D G qs nr nD sG at_ pm srt => ?_
      exact ⟨fun _ => k _ sG, fun h => absurd h (by decide)⟩

end
end LW
set_option Elab.async false
set_option linter.all false
set_option maxRecDepth 100000
set_option maxHeartbeats 4000000
namespace LW
open PySem PySem.Spec PyProof.Rows L2 HX NumText
section
variable {P : Program} {w : World} {K : PySem.W.Frag} {mg : Str → Option Value} {base : Heap}

structure LnC (K : PySem.W.Frag) (mg : Str → Option Value) (Ln : Addr) : Prop where
  g : mg "Linear" = some (.ref Ln)
  cls : Cls K Ln
  nP : NoAttr K Ln "_parts"
  ha : PySem.W.findIn K (.ref Ln) "__class__" = some (some (.builtin "object.__class__"))
  hn : PySem.W.specialIn K (.builtin "object.__class__") "__get__" = some (some (.builtin "getset_descriptor.__get__"))
  ht : PySem.W.takesIn K (.builtin "object.__class__") = some true
  hm : PySem.W.mroIn K Ln (.type "object") = some true
  kD : PySem.W.kitOne K (.ref Ln) (.type "dict") = some false
theorem keysV_names {H : Hp} : ∀ {kvs : List (Key × V)}, (∀ p ∈ kvs, ∃ x : Str, p.1 = .inr x ∧ x.length ≤ 1000000 ∧ nameS x = true) → KeysV H (kvs.map fun p => kV p.1) (kvs.map fun _ => true)
  | [], _ => trivial
  | p :: r, nm => by
    refine ⟨?_, keysV_names fun q hq => nm q (List.mem_cons_of_mem _ hq)⟩
    obtain ⟨x, e1, e2, e3⟩ := nm p List.mem_cons_self
    show KeyV H (kV p.1) true
    rw [e1, ← e3]
    exact .str x e2
theorem keysV_snoc {H : Hp} {k : V} {b : Bool} (e : KeyV H k b) : ∀ {ks : List V} {bs : List Bool}, KeysV H ks bs → KeysV H (ks ++ [k]) (bs ++ [b])
  | [], [], _ => ⟨e, trivial⟩
  | _ :: _, _ :: _, h => ⟨h.1, keysV_snoc e h.2⟩
theorem KeyV.kp {p : Addr} {H G : Hp} {v : V} {b : Bool} (h : KeyV H v b) (k : Kp p H G) (n : ∀ xs, H p ≠ some (.tup xs)) : KeyV G v b := by
  cases h with
  | str x h => exact .str x h
  | int i => exact .int i
  | non => exact .non
  | bl b => exact .bl b
  | tup e => exact .tup (k _ _ (fun z => by subst z; exact n _ e) e)
theorem valV_out {kvs : List (Key × V)} {k : Key} (h : ∀ p ∈ kvs, p.1 ≠ k) : valV kvs k = none := by
  unfold valV
  rw [List.find?_eq_none.mpr]
  · rfl
  · intro p hp
    simpa using h p hp
theorem put_odd {H : Hp} {a : Addr} {kvs : List (Key × V)} {y v : V} {b : Bool} (e : H a = some (.dK kvs)) (nm : ∀ p ∈ kvs, ∃ x : Str, p.1 = .inr x ∧ x.length ≤ 1000000 ∧ nameS x = true) (l : kvs.length < 100) (ky : KeyV H y b) (hb : b = false) :
    ∃ o, DPutX H a y v (L2.upd H a o) ∧ DKs (L2.upd H a o) a (kvs.map (fun p => kV p.1) ++ [y]) := by
  have big := size_line_big
  have ll : kvs.length < sizeLine := by omega
  have tx : ∀ p ∈ kvs, ∃ x : Str, p.1 = .inr x := fun p hp => let ⟨x, h, _⟩ := nm p hp; ⟨x, h⟩
  have one : ∀ k : Key, y = kV k → valV kvs k = none → ∃ o, DPutX H a y v (L2.upd H a o) ∧ DKs (L2.upd H a o) a (kvs.map (fun p => kV p.1) ++ [y]) := fun k ek no => by
    subst ek
    refine ⟨_, .inl (DPut.k e ll), .inl ⟨_, upd_same, ?_⟩⟩
    rw [putK_new v no, List.map_append]
    rfl
  have odd : OddK H y → ∃ o, DPutX H a y v (L2.upd H a o) ∧ DKs (L2.upd H a o) a (kvs.map (fun p => kV p.1) ++ [y]) := fun ok =>
    ⟨_, .inr ⟨kvs, e, tx, ok, ll, rfl⟩, .inr upd_same⟩
  cases ky with
  | str x h =>
    refine one (.inr x) rfl (valV_out fun p hp z => ?_)
    obtain ⟨x', e1, _, e2⟩ := nm p hp
    rw [e1] at z
    rw [Sum.inr.inj z, hb] at e2
    cases e2
  | int i =>
    refine one (.inl i) rfl (valV_out fun p hp z => ?_)
    obtain ⟨x', e1, _, e2⟩ := nm p hp
    rw [e1] at z
    cases z
  | non => exact odd .non
  | bl c => exact odd (.bl c)
  | tup q => exact odd (.tup (ks := [.inl 1]) q)
def ones (ns : List (List Nat)) : List (List Nat × Int) := ns.map fun n => (n, 1)
theorem ones_ok {ns : List (List Nat)} (h : NsOk ns) (l : ns.length < 64) : PsOk (ones ns) := by
  unfold ones
  refine ⟨by rw [List.map_map, show ((fun x : List Nat × Int => x.1) ∘ fun n => (n, (1 : Int))) = id from rfl, List.map_id]; exact h.nd, by rw [List.length_map]; exact l, fun p hp => ?_⟩
  obtain ⟨n, hn, rfl⟩ := List.mem_map.mp hp
  exact ⟨(h.all n hn).1, (by decide : (-9 : Int) ≤ 1), (by decide : (1 : Int) ≤ 9), (by decide : (1 : Int) ≠ 0)⟩
theorem kIs_nd {ps : List (List Nat × Int)} (h : (ps.map (·.1)).Nodup) : ((kIs ps).map (·.1)).Nodup := by
  unfold kIs
  rw [List.map_map, List.nodup_iff_pairwise_ne, List.pairwise_map]
  rw [List.nodup_iff_pairwise_ne, List.pairwise_map] at h
  exact h.imp fun ne e => ne (ofL_inj (Sum.inr.inj e))
theorem kIs_merge {ps : List (List Nat × Int)} (h : (ps.map (·.1)).Nodup) : mergeK [] (kIs ps) = kIs ps := by
  rw [mergeK_new _ _ (by rw [List.nil_append]; exact kIs_nd h), List.nil_append]
theorem put_bad {ns : List (List Nat)} {n : List Nat} (hn : n ∈ ns) (v : V) :
    (∀ p ∈ putK (kIs (ones ns)) (.inr (ofL n)) v, (∃ m ∈ ns, p.1 = .inr (ofL m)) ∧ (p.2 = v ∨ p.2 = .int 1)) ∧ (putK (kIs (ones ns)) (.inr (ofL n)) v).length = ns.length ∧ ∃ p ∈ putK (kIs (ones ns)) (.inr (ofL n)) v, p.2 = v := by
  have e : kIs (ones ns) = ns.map fun m => ((.inr (ofL m) : Key), V.int 1) := by unfold kIs ones; rw [List.map_map]; rfl
  have an : ((kIs (ones ns)).any fun kv => decide (kv.1 = .inr (ofL n))) = true := by
    rw [e, List.any_eq_true]
    exact ⟨_, List.mem_map.mpr ⟨n, hn, rfl⟩, by simp⟩
  unfold putK
  rw [if_pos an]
  refine ⟨fun p hp => ?_, by rw [List.length_map, e, List.length_map], ?_⟩
  · obtain ⟨q, hq, rfl⟩ := List.mem_map.mp hp
    rw [e] at hq
    obtain ⟨m, hm, rfl⟩ := List.mem_map.mp hq
    by_cases z : (Sum.inr (ofL m) : Key) = .inr (ofL n)
    · rw [if_pos z]
      exact ⟨⟨m, hm, rfl⟩, .inl rfl⟩
    · rw [if_neg z]
      exact ⟨⟨m, hm, rfl⟩, .inr rfl⟩
  · refine ⟨(.inr (ofL n), v), List.mem_map.mpr ⟨(.inr (ofL n), .int 1), ?_, by rw [if_pos rfl]⟩, rfl⟩
    rw [e]
    exact List.mem_map.mpr ⟨n, hn, rfl⟩
/-- pairs that stand one by one in tuples -/
def PrD (G : Hp) (as : List Addr) (kvs : List (Key × V)) : Prop := Paired (fun (a : Addr) (kv : Key × V) => G a = some (.tup [kV kv.1, kv.2])) as kvs
theorem PrD.mo {H G : Hp} (s : ∀ a xs, H a = some (.tup xs) → G a = some (.tup xs)) : ∀ {as : List Addr} {kvs : List (Key × V)}, PrD H as kvs → PrD G as kvs
  | _, _, .nil => .nil
  | _, _, .cons e r => .cons (s _ _ e) (PrD.mo s r)
theorem PrD.sq {K : PySem.W.Frag} {H : Hp} : ∀ {as : List Addr} {kvs : List (Key × V)}, PrD H as kvs → Paired (fun p kv => SqT K H p [kV kv.1, kv.2]) as kvs
  | _, _, .nil => .nil
  | _, _, .cons e r => .cons (SqT.of e) (PrD.sq r)
def spRef : Sp := fun vs H Q _ => ∃ (p k0 : Addr) (c : Int), vs = [.ref p] ∧ Pe H p k0 c ∧ c < 999000 ∧ ∀ G, Kp p H G → Pe G p k0 (c + 20) → Q (.bl true) G

theorem ok_refused {f fL Ln BI : Addr} {fd fdL : FuncData} (F : Fun K "_law_refused_right" "_law_refused_right" s__law_refused_right f fd) (T : Txt K mg) (T2 : Txt2 mg) (hdi : mg "dict" = none) (LC_ : LnC K mg Ln) (gLin : mg "Linear" = some (.ref Ln)) (mL : Mk K Ln fL) (FL : FnOk P w K mg base (CX P w) 6 fL fdL ["self", "parts"] (spLInit K Ln BI)) (bL : Binds K fdL ["self", "parts"] []) (cP : CalO P w K mg base "_law_pick" 2 ["_law_pen_here", "_law_some"] (spPick K) (fun _ => True)) (cAcc : CalO P w K mg base "_law_accounts" 3 ["_law_pen_here", "_law_many"] spAcc (fun _ => True)) (cHe : CalO P w K mg base "_law_heard" 9 ["_law_thing"] (spHeard4 K) (fun _ => True)) : FnOk P w K mg base CX0 10 f fd ["_law_pen_here"] spRef := by
  refine F.ok sc__law_refused_right (fun vs H Q E h => ?_) (fun cdv A' outer s H vs Q E hr h => ?_)
  · obtain ⟨p, k0, c, rfl, _⟩ := h
    rfl
  · obtain ⟨p, k0, c, rfl, Pp, hc, k⟩ := h
    refine ⟨_, (pss_cons (ps_set (i := 1) sc__law_refused_right.nd rfl (Or.inl rfl) (pe_cO cP (hr.mono (by decide)) (pa_cons (pc 0) (pa_cons (pe_lst (pa_cons pe_non (pa_cons pe_int (pa_cons pe_bl (pa_cons pe_str (pa_cons (pe_lst pa_nil) (pa_cons (pe_tup pa_nil) (pa_cons (pe_lst (pa_cons (pe_tup (pa_cons pe_str (pa_cons pe_int pa_nil))) pa_nil)) (pa_cons (pe_tup (pa_cons (pe_tup (pa_cons pe_str (pa_cons pe_int pa_nil))) pa_nil)) (pa_cons (pe_make mL FL (hr.mono (by decide)) rfl gLin bL .nil (passes_call takes0 (fun _ _ _ _ z => z)) (pa_cons pe_dnewK pa_nil)) pa_nil)))))))))) pa_nil))))
    (pss_cons (s_if (t_cmp (o_ne hr.units) (pe_cO cHe (hr.mono (by decide)) (pa_cons (pc 1) pa_nil)) pe_str) (pss_one (ps_ret pe_bl)) pss_nil)
    (pss_cons (ps_set (i := 2) sc__law_refused_right.nd rfl (Or.inl rfl) (pe_callTy (call_dictP rfl) (by rfl) hdi (by decide +kernel) (pa_cons (pe_lc (own := [("_law_owner", 7)]) (g := gName 7) (tt := tYes) rfl sc__law_refused_right.nd (pi_list (pe_cO cAcc (hr.mono (by decide)) (pa_cons (pc 0) (pa_cons pe_int pa_nil)))) (blkOk_by (own := [("_law_owner", 7)]) (N := n__law_refused_right) (sc := defScope s__law_refused_right) (by decide +kernel)) (fun _ _ _ _ _ => pg_name (i := 7) sc__law_refused_right.nd rfl (Or.inl rfl)) (fun _ _ _ _ _ => pts_nil) (fun _ _ _ _ _ => (pe_tup (pa_cons (pc 7) (pa_cons pe_int pa_nil))))) pa_nil)))
    (pss_cons (ps_set (i := 3) sc__law_refused_right.nd rfl (Or.inl rfl) (pe_callTy call_dictD (by rfl) hdi (by decide +kernel) (pa_cons (pc 2) pa_nil)))
    (pss_cons (ps_dput (Nat.lt_of_le_of_lt (Nat.add_le_add_left (by decide : 1 ≤ 64) _) hr.units) (pc 3) (pe_cO cP (hr.mono (by decide)) (pa_cons (pc 0) (pa_cons (pe_callTy (call_listD rfl) (by rfl) T.b_list (by decide +kernel) (pa_cons (pc 2) pa_nil)) pa_nil))) (pe_cO cP (hr.mono (by decide)) (pa_cons (pc 0) (pa_cons (pe_lst (pa_cons pe_int (pa_cons pe_int (pa_cons (pe_un un_neg pe_int) (pa_cons pe_non (pa_cons pe_bl (pa_cons pe_bl (pa_cons pe_str (pa_cons (pe_tup (pa_cons pe_int pa_nil)) (pa_cons (pe_lst pa_nil) (pa_cons (pe_op o_pow pe_int pe_int) pa_nil))))))))))) pa_nil))) (by rfl))
    (pss_cons (s_if (PW.pt (w_or (t_cmp o_isnot (pe_cO cHe (hr.mono (by decide)) (pa_cons (pc 2) pa_nil)) pe_non) (pw_or1 (t_cmp (o_ne hr.units) (pe_cO cHe (hr.mono (by decide)) (pa_cons (pc 3) pa_nil)) pe_str)))) (pss_one (ps_ret pe_bl)) pss_nil)
    (pss_cons (ps_set (i := 4) sc__law_refused_right.nd rfl (Or.inl rfl) (pe_cO cP (hr.mono (by decide)) (pa_cons (pc 0) (pa_cons (pe_lst (pa_cons pe_str (pa_cons pe_str (pa_cons pe_str (pa_cons pe_str (pa_cons pe_non (pa_cons pe_int (pa_cons pe_bl (pa_cons (pe_tup (pa_cons pe_int pa_nil)) (pa_cons pe_str pa_nil)))))))))) pa_nil))))
    (pss_cons (ps_for PassesOwn.never rfl (pi_list (pe_lst (pa_cons (pc 2) (pa_cons (pc 3) (pa_cons pe_dnewK pa_nil))))) (pg_name (i := 5) sc__law_refused_right.nd rfl (Or.inl rfl)) (pss_cons (ps_set (i := 6) sc__law_refused_right.nd rfl (Or.inl rfl) (pe_callTy call_dictD (by rfl) hdi (by decide +kernel) (pa_cons (pc 5) pa_nil)))
    (pss_cons (ps_dputX (Nat.lt_of_le_of_lt (Nat.add_le_add_left (by decide : 1 ≤ 64) _) hr.units) (pc 6) (pc 4) (pe_cO cP (hr.mono (by decide)) (pa_cons (pc 0) (pa_cons (pe_lst (pa_cons pe_int (pa_cons pe_int (pa_cons pe_non pa_nil)))) pa_nil))) (by rfl))
    (pss_one (s_if (t_cmp (o_ne hr.units) (pe_cO cHe (hr.mono (by decide)) (pa_cons (pc 6) pa_nil)) pe_str) (pss_one (ps_ret pe_bl)) pss_nil)))))
    (pss_one (ps_ret pe_bl)))))))))), ?_⟩
    refine ⟨by show 0 ≤ sizeLine; decide, fun a1 n1 => ?_⟩
    have s1 := Same.new (o := .lst []) (Same.refl H) n1
    have e1 : L2.upd H a1 (.lst []) a1 = some (.lst []) := upd_same
    have p1 := Pp.ne n1
    generalize L2.upd H a1 (.lst []) = H1 at s1 e1 ⊢
    refine ⟨by show 0 ≤ sizeLine; decide, fun a2 n2 => ?_⟩
    have s2 := Same.new (o := .tup []) (Same.refl H1) n2
    have e2 : L2.upd H1 a2 (.tup []) a2 = some (.tup []) := upd_same
    have p2 := (Pp.same s1).ne n2
    have s02 := s1.trans s2
    generalize L2.upd H1 a2 (.tup []) = H2 at s2 e2 s02 ⊢
    refine ⟨by show 2 ≤ sizeLine; decide, fun a3 n3 => ?_⟩
    have s3 := Same.new (o := .tup [.str (Str.ofString "a"), .int 1]) (Same.refl H2) n3
    have s03 := s02.trans s3
    generalize L2.upd H2 a3 (.tup [.str (Str.ofString "a"), .int 1]) = H3 at s3 s03 ⊢
    refine ⟨by show 1 ≤ sizeLine; decide, fun a4 n4 => ?_⟩
    have s4 := Same.new (o := .lst [.ref a3]) (Same.refl H3) n4
    have e4 : L2.upd H3 a4 (.lst [.ref a3]) a4 = some (.lst [.ref a3]) := upd_same
    have p4 := (Pp.same s03).ne n4
    have s04 := s03.trans s4
    generalize L2.upd H3 a4 (.lst [.ref a3]) = H4 at s4 e4 s04 ⊢
    refine ⟨by show 2 ≤ sizeLine; decide, fun a5 n5 => ?_⟩
    have s5 := Same.new (o := .tup [.str (Str.ofString "a"), .int 1]) (Same.refl H4) n5
    have s05 := s04.trans s5
    generalize L2.upd H4 a5 (.tup [.str (Str.ofString "a"), .int 1]) = H5 at s5 s05 ⊢
    refine ⟨by show 1 ≤ sizeLine; decide, fun a6 n6 => ?_⟩
    have s6 := Same.new (o := .tup [.ref a5]) (Same.refl H5) n6
    have e6 : L2.upd H5 a6 (.tup [.ref a5]) a6 = some (.tup [.ref a5]) := upd_same
    have p6 := (Pp.same s05).ne n6
    have s06 := s05.trans s6
    generalize L2.upd H5 a6 (.tup [.ref a5]) = H6 at s6 e6 s06 ⊢
    refine fun a7 n7 => ?_
    have s7 := Same.new (o := .dK []) (Same.refl H6) n7
    have e7 : L2.upd H6 a7 (.dK []) a7 = some (.dK (kIs [])) := upd_same
    have s07 := s06.trans s7
    generalize L2.upd H6 a7 (.dK []) = H7 at s7 e7 s07 ⊢
    refine mkLn e7 ⟨List.nodup_nil, by decide, fun p hp => nomatch hp⟩ fun r D8 H8 qs8 nr8 nD8 s8 at8 pm8 srt8 => ?_
    have p8 := (Pp.same s07).ne nr8
    have s08 := s07.trans s8
    refine ⟨by show 9 ≤ sizeLine; decide, fun a9 n9 => ⟨p, k0, c, .ref a9, rfl, (Pp.same s08).new n9, by omega, .inr ⟨a9, _, rfl, (Pp.same s08).ne n9, .inl (SqL.of upd_same), by show 0 < 9; decide, by show 9 ≤ 1000000; decide, fun v G hv k1 P1 => ?_⟩⟩⟩
    have s9 := Same.new (o := .lst [V.non, .int 0, .bl true, .str (Str.ofString "a"), .ref a1, .ref a2, .ref a4, .ref a6, .ref r]) (Same.refl H8) n9
    have kp1 : Kp p H G := (Kp.same (s08.trans s9)).trans k1
    have up : ∀ {a : Addr} {o : HO}, a ≠ p → H8 a = some o → G a = some o := fun n e => k1 _ _ n (s9 _ _ e)
    have wz : WrongV K G v "parts" := by
      refine .inl ⟨rfl, ?_⟩
      have kt : ∀ t : String, kitB t "dict" = some false → PySem.W.kitOne K (.type t) (.type "dict") = some false := fun t h => kit_ty h
      simp only [List.mem_cons, List.not_mem_nil, or_false] at hv
      rcases hv with rfl | rfl | rfl | rfl | rfl | rfl | rfl | rfl | rfl
      · exact ⟨_, .non, kt _ (by decide +kernel)⟩
      · exact ⟨_, .int _, kt _ (by decide +kernel)⟩
      · exact ⟨_, .bl _, kt _ (by decide +kernel)⟩
      · exact ⟨_, .str _, kt _ (by decide +kernel)⟩
      · exact ⟨_, .lst (up p1 ((((((s2.trans s3).trans s4).trans s5).trans s6).trans s7).trans s8 _ _ e1)), kt _ (by decide +kernel)⟩
      · exact ⟨_, .tup (up p2 (((((s3.trans s4).trans s5).trans s6).trans s7).trans s8 _ _ e2)), kt _ (by decide +kernel)⟩
      · exact ⟨_, .lst (up p4 (((s5.trans s6).trans s7).trans s8 _ _ e4)), kt _ (by decide +kernel)⟩
      · exact ⟨_, .tup (up p6 ((s7.trans s8) _ _ e6)), kt _ (by decide +kernel)⟩
      · obtain ⟨⟨dx, e⟩, _⟩ := at8
        exact ⟨_, .ins (up p8 e) LC_.cls LC_.ha LC_.hn LC_.ht LC_.hm, LC_.kD⟩
    refine ⟨v, rfl, .inl ⟨"parts", wz, fun G2 s10 => ?_⟩⟩
    refine ⟨fun h => by simp [sWp] at h, fun _ => ?_⟩
    have kp2 : Kp p H G2 := kp1.trans (Kp.same s10)
    have P2 := P1.same s10
    clear wz up s9 s08 at8 s07 s8 p8 e7 s7 e6 p6 s06 s6 s05 s5 e4 p4 s04 s4 s03 s3 e2 p2 s02 s2 e1 p1 s1 hv k1 P1 kp1 s10
    refine ⟨p, k0, _, 3, rfl, P2, by omega, by decide, by decide, fun q G3 ns nq k3 P3 gq nl nok => ?_⟩
    have kp3 := kp2.trans k3
    have nl3 : ns.length = 3 := by omega
    have ook := ones_ok nok (by omega)
    have ol : (ones ns).length = 3 := by unfold ones; rw [List.length_map]; exact nl3
    refine ⟨q, rfl, ⟨_, SqL.of gq⟩, fun D nD => lc_it walk_list (fun i G4 => Same G3 G4 ∧ ∃ as : List Addr, G4 D = some (.lst (as.map V.ref)) ∧ PrD G4 as (kIs ((ones ns).take i))) ⟨Same.new (Same.refl _) nD, [], upd_same, .nil⟩ (fun i G4 _ z => SqL.of (z.1 _ _ gq)) ?_ ?_⟩
    · rintro i y G4 G5 hi ⟨s4, as, gD, pr⟩ ⟨rfl, e⟩
      unfold strL at hi e
      rw [List.length_map] at hi
      have eq : ns[i]? = some ns[i] := List.getElem?_eq_getElem hi
      rw [List.getElem?_map, eq] at e
      obtain rfl : V.str (ofL ns[i]) = y := Option.some.inj e
      have tk : (ones ns).take (i + 1) = (ones ns).take i ++ [(ns[i], 1)] := by rw [List.take_add_one, ones, List.getElem?_map, eq]; rfl
      refine ⟨rfl, by show 2 ≤ sizeLine; decide, fun T_ nT => ?_⟩
      have s5 := Same.new (o := .tup [.str (ofL ns[i]), .int 1]) (Same.refl G5) nT
      have gD5 := s5 _ _ gD
      have TD : T_ ≠ D := fun z => by rw [z] at nT; rw [nT] at gD; cases gD
      have al : as.length ≤ 3 := by
        have := Paired.length pr
        rw [kIs_len, List.length_take] at this
        omega
      refine ⟨_, gD5, by rw [List.length_map, sizeLine_eq]; omega, Same.mut (s4.trans s5) nD, as ++ [T_], by rw [upd_same, List.map_append]; rfl, ?_⟩
      rw [tk]
      have kk : kIs ((ones ns).take i ++ [(ns[i], 1)]) = kIs ((ones ns).take i) ++ [((.inr (ofL ns[i]) : Key), V.int 1)] := by unfold kIs; rw [List.map_append]; rfl
      rw [kk]
      refine Paired.snoc (PrD.mo (fun a xs z => ?_) pr) ?_
      · rw [upd_ne (fun y => by rw [y, gD] at z; cases z)]
        exact s5 _ _ z
      · show L2.upd _ D _ T_ = _
        rw [upd_ne TD]
        exact upd_same
    · rintro G4 ⟨s4, as, gD, pr⟩
      have sl : (strL ns).length = ns.length := by unfold strL; rw [List.length_map]
      rw [sl, nl3, ← ol, List.take_length] at pr
      have kp4 := kp3.trans (Kp.same s4)
      have P4 := P3.same s4
      refine ⟨D, as, _, rfl, SqL.of gD, pr.sq, fun Pa nPa => ?_⟩
      rw [kIs_merge ook.nd]
      have kp5 := kp4.new (o := .dK (kIs (ones ns))) nPa
      have P5 := P4.new (o := .dK (kIs (ones ns))) nPa
      have hPa : L2.upd G4 Pa (.dK (kIs (ones ns))) Pa = some (.dK (kIs (ones ns))) := upd_same
      have pap := P4.ne nPa
      generalize L2.upd G4 Pa (.dK (kIs (ones ns))) = G5 at kp5 P5 hPa ⊢
      refine ⟨Pa, kIs (ones ns), rfl, .inl hPa, fun Bd nBd => ?_⟩
      have kp6 := kp5.new (o := .dK (kIs (ones ns))) nBd
      have P6 := P5.new (o := .dK (kIs (ones ns))) nBd
      have hBd : L2.upd G5 Bd (.dK (kIs (ones ns))) Bd = some (.dK (kIs (ones ns))) := upd_same
      have hPa6 := kpN (o := .dK (kIs (ones ns))) hPa nBd
      have bdp := P5.ne nBd
      have bdk := P5.neL nBd
      have bpa : Bd ≠ Pa := fun z => by rw [z, hPa] at nBd; cases nBd
      have nH : H Bd = none := Kp.freeF kp5 bdp nBd
      generalize L2.upd G5 Bd (.dK (kIs (ones ns))) = G6 at kp6 P6 hBd hPa6 ⊢
      refine ⟨10, rfl, by show 1 ≤ sizeLine; decide, fun t1 m1 => ?_⟩
      have s7 := Same.new (o := .tup [.int 1]) (Same.refl G6) m1
      have f1 : L2.upd G6 t1 (.tup [.int 1]) t1 = some (.tup [.int 1]) := upd_same
      have q1 := P6.ne m1
      generalize L2.upd G6 t1 (.tup [.int 1]) = G7 at s7 f1 ⊢
      refine ⟨by show 0 ≤ sizeLine; decide, fun t2 m2 => ?_⟩
      have s8 := Same.new (o := .lst []) (Same.refl G7) m2
      have f2 : L2.upd G7 t2 (.lst []) t2 = some (.lst []) := upd_same
      have q2 := (P6.same s7).ne m2
      have s68 := s7.trans s8
      have f1' := s8 _ _ f1
      generalize L2.upd G7 t2 (.lst []) = G8 at s8 f2 s68 f1' ⊢
      refine ⟨⟨by decide, by decide, by decide⟩, by show 10 ≤ sizeLine; decide, fun t3 m3 => ?_⟩
      refine ⟨p, k0, _, .ref t3, rfl, (P6.same s68).new m3, by omega, .inr ⟨t3, _, rfl, (P6.same s68).ne m3, .inl (SqL.of upd_same), by show 0 < 10; decide, by show 10 ≤ 1000000; decide, fun u G9 hu k9 P9 => ?_⟩⟩
      have s69 : ∀ {a : Addr} {o : HO}, a ≠ p → G8 a = some o → G9 a = some o := fun n e => k9 _ _ n (kpN e m3)
      have uf : PlV G9 u ∧ partOk u = false := by
        simp only [List.mem_cons, List.not_mem_nil, or_false] at hu
        rcases hu with rfl | rfl | rfl | rfl | rfl | rfl | rfl | rfl | rfl | rfl
        · exact ⟨.int _, rfl⟩
        · exact ⟨.int _, rfl⟩
        · exact ⟨.int _, rfl⟩
        · exact ⟨.non, rfl⟩
        · exact ⟨.bl _, rfl⟩
        · exact ⟨.bl _, rfl⟩
        · exact ⟨.str _, rfl⟩
        · exact ⟨.tup (s69 q1 f1'), rfl⟩
        · exact ⟨.lst (s69 q2 f2), rfl⟩
        · exact ⟨.int _, by decide +kernel⟩
      obtain ⟨up1, up2⟩ := uf
      have kp9 : Kp p H G9 := (kp6.trans (Kp.same (s68.trans (Same.new (Same.refl _) m3)))).trans k9
      have hPa9 := s69 pap (s68 _ _ hPa6)
      have hBd9 := s69 bdp (s68 _ _ hBd)
      clear hu s69 k9 f1' f2 s68 q2 s8 f1 q1 s7
      refine ⟨Pa, kIs (ones ns), rfl, .inl hPa9, fun l nl => ⟨p, k0, _, .ref l, rfl, P9.new nl, by omega, .inr ⟨l, _, rfl, P9.ne nl, .inl (SqL.of upd_same), by rw [List.length_map, kIs_len, ol]; decide, by rw [List.length_map, kIs_len, ol]; decide, fun kk G10 hk k10 P10 => ?_⟩⟩⟩
      obtain ⟨n, hn, rfl⟩ : ∃ n ∈ ns, kk = .str (ofL n) := by
        obtain ⟨kv, h1, rfl⟩ := List.mem_map.mp hk
        obtain ⟨pp, h2, rfl⟩ := List.mem_map.mp h1
        obtain ⟨n, h3, rfl⟩ := List.mem_map.mp h2
        exact ⟨n, h3, rfl⟩
      have kp10 := (kp9.new nl).trans k10
      have hPa10 := k10 _ _ pap (kpN hPa9 nl)
      have hBd10 := k10 _ _ bdp (kpN hBd9 nl)
      have up10 : PlV G10 u := by
        have z : PlV (L2.upd G9 l (.lst ((kIs (ones ns)).map fun kv => kV kv.1))) u := up1.mo (Same.new (Same.refl _) nl)
        cases z with
        | non => exact .non
        | bl b => exact .bl b
        | int i => exact .int i
        | str x => exact .str x
        | lst e =>
          rename_i b xs
          by_cases bp : b = p
          · subst bp
            obtain ⟨o, eo⟩ := P10.atP
            obtain ⟨ls, c0, g, pn, _⟩ := P10
            exact .lst pn.at_
          · exact .lst (k10 _ _ bp e)
        | tup e =>
          rename_i b xs
          by_cases bp : b = p
          · subst bp
            obtain ⟨ls, c0, g, pn, _⟩ := P10
            exact .lst pn.at_
          · exact .tup (k10 _ _ bp e)
      obtain ⟨b1, b2, b3⟩ := put_bad hn u
      refine ⟨Bd, _, rfl, DPut.k (k := .inr (ofL n)) hBd10 (by rw [kIs_len, ol, sizeLine_eq]; decide), ?_⟩
      have kp11 : Kp p H (L2.upd G10 Bd (.dK (putK (kIs (ones ns)) (.inr (ofL n)) u))) := kp10.mut nH
      have P11 : Pe (L2.upd G10 Bd (.dK (putK (kIs (ones ns)) (.inr (ofL n)) u))) p k0 (c + 1 + 6 + 1 + 1) := P10.mut bdp bdk
      have hBd11 : L2.upd G10 Bd (.dK (putK (kIs (ones ns)) (.inr (ofL n)) u)) Bd = some (.dK (putK (kIs (ones ns)) (.inr (ofL n)) u)) := upd_same
      have hPa11 : L2.upd G10 Bd (.dK (putK (kIs (ones ns)) (.inr (ofL n)) u)) Pa = some (.dK (kIs (ones ns))) := by rw [upd_ne (Ne.symm bpa)]; exact hPa10
      have up11 : PlV (L2.upd G10 Bd (.dK (putK (kIs (ones ns)) (.inr (ofL n)) u))) u := up10.upd hBd10 (fun xs z => by cases z) (fun xs z => by cases z)
      generalize L2.upd G10 Bd (.dK (putK (kIs (ones ns)) (.inr (ofL n)) u)) = G11 at kp11 P11 hBd11 hPa11 up11 ⊢
      generalize putK (kIs (ones ns)) (.inr (ofL n)) u = bvs at b1 b2 b3 hBd11
      have bnm : ∀ q ∈ bvs, ∃ x : Str, q.1 = .inr x ∧ x.length ≤ 1000000 ∧ nameS x = true := fun q hq => by
        obtain ⟨⟨mm, hm, e⟩, _⟩ := b1 q hq
        have z := nm_nameS (nok.all mm hm).1
        exact ⟨_, e, z.2, z.1⟩
      refine ⟨_, rfl, .inr ⟨Pa, ones ns, rfl, hPa11, ook, fun G12 s12 => ?_⟩⟩
      refine ⟨fun h => absurd h (by decide), fun _ => ?_⟩
      have wz2 : WrongV K G12 (.ref Bd) "part" := by
        refine .inr (.inr ⟨rfl, Bd, bvs, rfl, s12 _ _ hBd11, by omega, bnm, fun q hq => ?_, ?_⟩)
        · rcases (b1 q hq).2 with e | e
          · rw [e]
            exact up11.mo s12
          · rw [e]
            exact .int _
        · rw [List.all_map, List.all_eq_false]
          obtain ⟨q, hq, e⟩ := b3
          exact ⟨q, hq, by show ¬ partOk q.2 = true; rw [e, up2]; decide⟩
      refine ⟨_, rfl, .inl ⟨"part", wz2, fun G13 s13 => ?_⟩⟩
      refine ⟨fun h => by simp [sWp] at h, fun _ => ?_⟩
      have s11 := s12.trans s13
      have kp13 := kp11.trans (Kp.same s11)
      have P13 := P11.same s11
      have hPa13 := s11 _ _ hPa11
      have hBd13 := s11 _ _ hBd11
      clear wz2 up11 up10 s12 s13 up1 up2
      refine ⟨by show 1 ≤ sizeLine; decide, fun t4 m4 => ?_⟩
      have s14 := Same.new (o := .tup [.int 1]) (Same.refl G13) m4
      have f4 : L2.upd G13 t4 (.tup [.int 1]) t4 = some (.tup [.int 1]) := upd_same
      have q4 := P13.ne m4
      have kp14 := kp13.new (o := .tup [.int 1]) m4
      have P14 := P13.new (o := .tup [.int 1]) m4
      have hPa14 := s14 _ _ hPa13
      have hBd14 := s14 _ _ hBd13
      generalize L2.upd G13 t4 (.tup [.int 1]) = G14 at s14 f4 kp14 P14 hPa14 hBd14 ⊢
      refine ⟨by show 9 ≤ sizeLine; decide, fun t5 m5 => ⟨p, k0, _, .ref t5, rfl, P14.new m5, by omega, .inr ⟨t5, _, rfl, P14.ne m5, .inl (SqL.of upd_same), by show 0 < 9; decide, by show 9 ≤ 1000000; decide, fun y G15 hy k15 P15 => ?_⟩⟩⟩
      have kp15 := (kp14.new m5).trans k15
      have hPa15 := k15 _ _ pap (kpN hPa14 m5)
      have hBd15 := k15 _ _ bdp (kpN hBd14 m5)
      have ky : KeyV G15 y false := by
        have tx : ∀ x : Str, x.length ≤ 1000000 → nameS x = false → KeyV G15 (.str x) false := fun x l e => by
          have z := KeyV.str (H := G15) x l
          rwa [e] at z
        simp only [List.mem_cons, List.not_mem_nil, or_false] at hy
        rcases hy with rfl | rfl | rfl | rfl | rfl | rfl | rfl | rfl | rfl
        · exact tx _ (by decide +kernel) (by decide +kernel)
        · exact tx _ (by decide +kernel) (by decide +kernel)
        · exact tx _ (by decide +kernel) (by decide +kernel)
        · exact tx _ (by decide +kernel) (by decide +kernel)
        · exact .non
        · exact .int 0
        · exact .bl true
        · exact .tup (k15 _ _ q4 (kpN f4 m5))
        · exact tx _ (by decide +kernel) (by decide +kernel)
      clear hy k15 P14 hPa14 hBd14 f4 kp14 s14 P13 hPa13 hBd13 kp13
      refine fun d0 nd0 => ⟨by show 3 ≤ sizeLine; decide, fun L nL => ?_⟩
      have s16 := (Same.new (o := .dK []) (Same.refl G15) nd0).trans (Same.new (o := .lst [.ref Pa, .ref Bd, .ref d0]) (Same.refl _) nL)
      have hd0 : L2.upd (L2.upd G15 d0 (.dK [])) L (.lst [.ref Pa, .ref Bd, .ref d0]) d0 = some (.dK []) := kpN upd_same nL
      have hL : L2.upd (L2.upd G15 d0 (.dK [])) L (.lst [.ref Pa, .ref Bd, .ref d0]) L = some (.lst [.ref Pa, .ref Bd, .ref d0]) := upd_same
      have d0p := P15.ne nd0
      have Lp := (P15.new (o := .dK []) nd0).ne nL
      generalize L2.upd (L2.upd G15 d0 (.dK [])) L (.lst [.ref Pa, .ref Bd, .ref d0]) = G16 at s16 hd0 hL ⊢
      have kp16 := kp15.trans (Kp.same s16)
      have P16 := P15.same s16
      have ky16 := ky.mo s16
      have onm : ∀ q ∈ kIs (ones ns), ∃ x : Str, q.1 = .inr x ∧ x.length ≤ 1000000 ∧ nameS x = true := fun q hq => by
        obtain ⟨pp, h2, rfl⟩ := List.mem_map.mp hq
        obtain ⟨nn, h3, rfl⟩ := List.mem_map.mp h2
        have z := nm_nameS (nok.all nn h3).1
        exact ⟨_, rfl, z.2, z.1⟩
      have base : ∀ x ∈ [V.ref Pa, .ref Bd, .ref d0], ∃ (a : Addr) (kvs : List (Key × V)), x = .ref a ∧ a ≠ p ∧ G16 a = some (.dK kvs) ∧ kvs.length < 100 ∧ ∀ q ∈ kvs, ∃ x : Str, q.1 = .inr x ∧ x.length ≤ 1000000 ∧ nameS x = true := fun x hx => by
        simp only [List.mem_cons, List.not_mem_nil, or_false] at hx
        rcases hx with rfl | rfl | rfl
        · exact ⟨Pa, _, rfl, pap, s16 _ _ hPa15, by rw [kIs_len]; omega, onm⟩
        · exact ⟨Bd, _, rfl, bdp, s16 _ _ hBd15, by omega, bnm⟩
        · exact ⟨d0, _, rfl, d0p, hd0, by show 0 < 100; decide, fun q hq => nomatch hq⟩
      refine ⟨L, rfl, ⟨_, SqL.of hL⟩, for_it walk_list (fun i σ G => Kp p G16 G ∧ Pe G p k0 (c + 10 + i) ∧ ∃ x5 x6, σ = [some (.ref p), some v, some (.ref Pa), some (.ref Bd), some y, x5, x6, none])
        ⟨Kp.refl, P16.mono (by omega), none, none, rfl⟩ (fun i σ G _ z => SqL.of (z.1 _ _ Lp hL)) ?_ ?_⟩
      · rintro i x σ G G17 hi ⟨kpG, PG, x5, x6, rfl⟩ ⟨rfl, ex⟩
        have i3 : i < 3 := hi
        obtain ⟨a, kvs, rfl, ap, ha, l100, nm⟩ := base x (List.mem_of_getElem? ex)
        refine ⟨a, kvs, rfl, .inl (kpG _ _ ap ha), fun w_ nw => ?_⟩
        have wp := PG.ne nw
        have wk := PG.neL nw
        have w16 : G16 w_ = none := Kp.freeF kpG wp nw
        have hw : L2.upd G17 w_ (.dK kvs) w_ = some (.dK kvs) := upd_same
        have kpw : Kp p G16 (L2.upd G17 w_ (.dK kvs)) := kpG.new nw
        have Pw := PG.new (o := .dK kvs) nw
        generalize L2.upd G17 w_ (.dK kvs) = G18 at hw kpw Pw ⊢
        refine ⟨by show 3 ≤ sizeLine; decide, fun t6 m6 => ⟨p, k0, _, .ref t6, rfl, Pw.new m6, by omega, .inr ⟨t6, _, rfl, Pw.ne m6, .inl (SqL.of upd_same), by show 0 < 3; decide, by show 3 ≤ 1000000; decide, fun u2 G19 hu2 k19 P19 => ?_⟩⟩⟩
        have kp19 := (kpw.new m6).trans k19
        have hw19 := k19 _ _ wp (kpN hw m6)
        have ky19 : KeyV G19 y false := ky16.kp kp19 fun xs z => by
          obtain ⟨ls, c0, g, pn, _⟩ := P16
          rw [pn.at_] at z
          cases z
        obtain ⟨o, dp, dks⟩ := put_odd (v := u2) hw19 nm l100 ky19 rfl
        refine ⟨w_, _, rfl, dp, ?_⟩
        have ky20 := ky19.upd (o := o) hw19 (fun xs z => by cases z)
        have kp20 : Kp p G16 (L2.upd G19 w_ o) := kp19.mut w16
        have P20 : Pe (L2.upd G19 w_ o) p k0 (c + 10 + i + 1) := P19.mut wp wk
        generalize L2.upd G19 w_ o = G20 at dks ky20 kp20 P20 ⊢
        have wz3 : WrongV K G20 (.ref w_) "account" := by
          refine .inr (.inl ⟨rfl, w_, _, _, rfl, dks, ?_, keysV_snoc ky20 (keysV_names nm), ?_⟩)
          · rw [List.length_append, List.length_map]
            show kvs.length + 1 ≤ 1000
            omega
          · rw [List.all_append]
            simp
        refine ⟨_, rfl, .inl ⟨"account", wz3, fun G21 s21 => ?_⟩⟩
        refine ⟨fun h => by simp [sWp] at h, fun _ => ?_⟩
        exact ⟨kp20.trans (Kp.same s21), (P20.same s21).mono (by omega), _, _, rfl⟩
      · rintro σ G ⟨kpG, PG, x5, x6, rfl⟩
        exact k _ (kp16.trans kpG) (PG.mono (by show c + 10 + ((3 : Nat) : Int) ≤ c + 20; omega))

end
end LW
set_option Elab.async false
set_option linter.all false
set_option maxRecDepth 100000
set_option maxHeartbeats 4000000
namespace LW
open PySem PySem.Spec PyProof.Rows L2 HX NumText
section
variable {P : Program} {w : World} {K : PySem.W.Frag} {mg : Str → Option Value} {base : Heap}

def rsum : List Rat → Rat
  | [] => 0
  | x :: r => x + rsum r
theorem rsum_app : ∀ l k : List Rat, rsum (l ++ k) = rsum l + rsum k
  | [], k => by show rsum k = 0 + rsum k; grind
  | x :: r, k => by
    show x + rsum (r ++ k) = (x + rsum r) + rsum k
    rw [rsum_app r k]
    grind
theorem rsum_perm {l k : List Rat} (h : l.Perm k) : rsum l = rsum k := by
  induction h with
  | nil => rfl
  | cons x _ ih => show x + _ = x + _; rw [ih]
  | swap x y l => show y + (x + rsum l) = x + (y + rsum l); grind
  | trans _ _ i1 i2 => rw [i1, i2]
/-- what stands under a name is worth -/
def rvo : Option (Int × Int) → Rat
  | none => 0
  | some p => rv p.1 p.2
def wS (ts : List (List Nat × Int × Int)) (qs : List (List Nat × Int)) : Rat := rsum (qs.map fun q => (q.2 : Rat) * rvo (lk ts q.1))
theorem wS_perm {ts : List (List Nat × Int × Int)} {qs us : List (List Nat × Int)} (h : qs.Perm us) : wS ts qs = wS ts us := rsum_perm (h.map _)
theorem wS_snoc (ts : List (List Nat × Int × Int)) (qs : List (List Nat × Int)) (q : List Nat × Int) : wS ts (qs ++ [q]) = wS ts qs + (q.2 : Rat) * rvo (lk ts q.1) := by
  unfold wS
  rw [List.map_append, rsum_app]
  show _ + (_ + 0) = _
  grind
theorem wS_neg (ts : List (List Nat × Int × Int)) : ∀ qs : List (List Nat × Int), wS ts (qs.map neg1) = -wS ts qs
  | [] => by show (0 : Rat) = -0; grind
  | q :: r => by
    have ih := wS_neg ts r
    unfold wS at ih ⊢
    show ((-q.2 : Int) : Rat) * rvo (lk ts q.1) + _ = -((q.2 : Rat) * rvo (lk ts q.1) + _)
    rw [ih, Rat.intCast_neg]
    grind
theorem wS_congr {ts rs : List (List Nat × Int × Int)} (h : ∀ n, rvo (lk ts n) = rvo (lk rs n)) (qs : List (List Nat × Int)) : wS ts qs = wS rs qs := by
  unfold wS
  congr 1
  exact List.map_congr_left fun q _ => by rw [h]
/-- one step of a sum -/
theorem rv_step {a b t c z : Int} (hb : b ≠ 0) (hc : c ≠ 0) : rv (a * c + z * t * b) (b * c) = rv a b + (z : Rat) * rv t c := by
  have h1 : rv (a * c + 1 * (z * t) * b) (b * c) = rv a b + rv (z * t) c := rv_add hb hc
  have h2 : rv (z * t) (1 * c) = rv z 1 * rv t c := rv_mul (by decide) hc
  rw [rv_one, Int.one_mul] at h2
  rw [Int.one_mul] at h1
  rw [h1, h2]
theorem dueS_val (ts : List (List Nat × Int × Int)) (ok : TsOk ts) (mem : ∀ n t b, lk ts n = some (t, b) → (n, t, b) ∈ ts) : ∀ (ps : List (List Nat × Int)) (s : Int × Int), 0 < s.2 → 0 < (ps.foldl (duS ts) s).2 ∧ rv (ps.foldl (duS ts) s).1 (ps.foldl (duS ts) s).2 = rv s.1 s.2 + wS ts ps
  | [], s, h => ⟨h, by show rv s.1 s.2 = rv s.1 s.2 + 0; grind⟩
  | q :: r, s, h => by
    have st : 0 < (duS ts s q).2 ∧ rv (duS ts s q).1 (duS ts s q).2 = rv s.1 s.2 + (q.2 : Rat) * rvo (lk ts q.1) := by
      unfold duS
      cases e : lk ts q.1 with
      | none =>
        refine ⟨by show 0 < s.2 * 1; omega, ?_⟩
        show rv (s.1 * 1 + q.2 * 0 * s.2) (s.2 * 1) = rv s.1 s.2 + (q.2 : Rat) * 0
        rw [Int.mul_one, Int.mul_one, Int.mul_zero, Int.zero_mul, Int.add_zero]
        grind
      | some p =>
        obtain ⟨t, b⟩ := p
        have b0 := (ok _ (mem _ _ _ e)).1
        exact ⟨Int.mul_pos h b0, rv_step (by omega) (Int.ne_of_gt b0)⟩
    obtain ⟨i1, i2⟩ := dueS_val ts ok mem r (duS ts s q) st.1
    refine ⟨i1, ?_⟩
    show rv (r.foldl (duS ts) (duS ts s q)).1 (r.foldl (duS ts) (duS ts s q)).2 = _
    rw [i2, st.2]
    have e : wS ts (q :: r) = (q.2 : Rat) * rvo (lk ts q.1) + wS ts r := rfl
    rw [e]
    grind
theorem totK_val : ∀ (ps : List (Int × Int × Int)) (s : Int × Int), (∀ x ∈ ps, 0 < x.2.1) → Low s.1 s.2 → Low (ps.foldl HX.stepK s).1 (ps.foldl HX.stepK s).2 ∧ rv (ps.foldl HX.stepK s).1 (ps.foldl HX.stepK s).2 = rv s.1 s.2 + rsum (ps.map fun x => (x.2.2 : Rat) * rv x.1 x.2.1)
  | [], s, _, h => ⟨h, by show rv s.1 s.2 = rv s.1 s.2 + 0; grind⟩
  | (t, b, z) :: r, s, hx, h => by
    have b0 : 0 < b := hx (t, b, z) List.mem_cons_self
    have s0 := h.1
    have nz : s.2 * b ≠ 0 := Int.mul_ne_zero (by omega) (by omega)
    have st : Low (HX.stepK s (t, b, z)).1 (HX.stepK s (t, b, z)).2 ∧ rv (HX.stepK s (t, b, z)).1 (HX.stepK s (t, b, z)).2 = rv s.1 s.2 + (z : Rat) * rv t b := by
      refine ⟨low_n nz, ?_⟩
      show rv (nT (s.1 * b + t * z * s.2) (s.2 * b)) (nB (s.1 * b + t * z * s.2) (s.2 * b)) = _
      rw [rv_n nz, Int.mul_comm t z]
      exact rv_step (by omega) (by omega)
    obtain ⟨i1, i2⟩ := totK_val r (HX.stepK s (t, b, z)) (fun x hx' => hx x (List.mem_cons_of_mem _ hx')) st.1
    refine ⟨i1, ?_⟩
    show rv (r.foldl HX.stepK (HX.stepK s (t, b, z))).1 (r.foldl HX.stepK (HX.stepK s (t, b, z))).2 = _
    rw [i2, st.2]
    show _ = rv s.1 s.2 + ((z : Rat) * rv t b + rsum _)
    grind
theorem sel_val (rs : List (List Nat × Int × Int)) : ∀ qs : List (List Nat × Int), rsum ((sel rs qs).map fun x => (x.2.2 : Rat) * rv x.1 x.2.1) = wS rs qs
  | [] => rfl
  | q :: r => by
    have ih := sel_val rs r
    unfold sel at ih ⊢
    have e : wS rs (q :: r) = (q.2 : Rat) * rvo (lk rs q.1) + wS rs r := rfl
    rw [e]
    cases h : lk rs q.1 with
    | none =>
      rw [List.filterMap_cons, h]
      show rsum (List.map _ (List.filterMap _ r)) = _
      rw [ih]
      show _ = (q.2 : Rat) * 0 + _
      grind
    | some p =>
      rw [List.filterMap_cons, h]
      show (q.2 : Rat) * rv p.1 p.2 + rsum (List.map _ (List.filterMap _ r)) = _
      rw [ih]
      rfl
theorem lk_mem {rs : List (List Nat × Int × Int)} {n : List Nat} {t b : Int} (h : lk rs n = some (t, b)) : (n, t, b) ∈ rs := by
  unfold lk at h
  cases e : rs.find? (fun p => decide (p.1 = n)) with
  | none => rw [e] at h; cases h
  | some p =>
    rw [e] at h
    have m := List.mem_of_find?_eq_some e
    have q := List.find?_some e
    obtain ⟨n', t', b'⟩ := p
    cases h
    have q : n' = n := by simpa using q
    rw [← q]
    exact m
theorem lk_of {n : List Nat} {t b : Int} : ∀ {rs : List (List Nat × Int × Int)}, (rs.map (·.1)).Nodup → (n, t, b) ∈ rs → lk rs n = some (t, b)
  | [], _, h => nomatch h
  | p :: r, nd, h => by
    rw [List.map_cons, List.nodup_cons] at nd
    rcases List.mem_cons.mp h with h | h
    · rw [← h]
      simp [lk]
    · have ne : ¬ p.1 = n := fun z => nd.1 (List.mem_map.mpr ⟨_, h, z.symm⟩)
      have e : lk (p :: r) n = lk r n := by simp [lk, ne]
      rw [e]
      exact lk_of nd.2 h
theorem lk_none {rs : List (List Nat × Int × Int)} {n : List Nat} (h : lk rs n = none) : ∀ p ∈ rs, p.1 ≠ n := fun p hp e => by
  unfold lk at h
  cases q : rs.find? (fun p => decide (p.1 = n)) with
  | none => exact absurd (List.find?_eq_none.mp q p hp) (by simpa using e)
  | some p => rw [q] at h; cases h
/-- in lowest terms -/
def red1 (p : List Nat × Int × Int) : List Nat × Int × Int := (p.1, nT p.2.1 p.2.2, nB p.2.1 p.2.2)
theorem rvo_gaps {ts rs : List (List Nat × Int × Int)} (ok : TsOk ts) (nd : (ts.map (·.1)).Nodup) (pm : rs.Perm (ts.map red1)) (n : List Nat) : rvo (lk ts n) = rvo (lk (rs.filter nz) n) := by
  have rnd : (rs.map (·.1)).Nodup := by
    have e : (ts.map red1).map (·.1) = ts.map (·.1) := by rw [List.map_map]; rfl
    exact (pm.map _).nodup_iff.mpr (by rw [e]; exact nd)
  have fnd : ((rs.filter nz).map (·.1)).Nodup := List.Nodup.sublist (List.filter_sublist.map _) rnd
  cases e : lk ts n with
  | none =>
    have h := lk_none e
    have e2 : lk (rs.filter nz) n = none := by
      cases q : lk (rs.filter nz) n with
      | none => rfl
      | some p =>
        obtain ⟨t, b⟩ := p
        have m := (List.mem_filter.mp (lk_mem q)).1
        obtain ⟨x, hx, ex⟩ := List.mem_map.mp (pm.mem_iff.mp m)
        exact absurd (congrArg (·.1) ex) (h x hx)
    rw [e2]
  | some p =>
    obtain ⟨t, b⟩ := p
    have me := lk_mem e
    have b0 : 0 < b := (ok _ me).1
    have bz : b ≠ 0 := by omega
    have mr : (n, nT t b, nB t b) ∈ rs := pm.mem_iff.mpr (List.mem_map.mpr ⟨_, me, rfl⟩)
    show rv t b = _
    rw [← rv_n (p := t) bz]
    by_cases z : nT t b = 0
    · have e2 : lk (rs.filter nz) n = none := by
        cases q : lk (rs.filter nz) n with
        | none => rfl
        | some p =>
          obtain ⟨t', b'⟩ := p
          obtain ⟨m1, m2⟩ := List.mem_filter.mp (lk_mem q)
          have := lk_of rnd m1
          rw [lk_of rnd mr] at this
          cases this
          simp [nz, z] at m2
      rw [e2, (rv_zero (by have := nB_pos (p := t) bz; omega)).mpr z]
      rfl
    · rw [lk_of fnd (List.mem_filter.mpr ⟨mr, by simp [nz, z]⟩)]
      rfl
theorem tot_val {ws rs : List (List Nat × Int × Int)} (wok : TsOk ws) (wnd : (ws.map (·.1)).Nodup) (pm : rs.Perm (ws.map red1)) (qs : List (List Nat × Int)) :
    Low (totK (sel (rs.filter nz) qs)).1 (totK (sel (rs.filter nz) qs)).2 ∧ rv (totK (sel (rs.filter nz) qs)).1 (totK (sel (rs.filter nz) qs)).2 = wS ws qs := by
  have pos : ∀ z ∈ sel (rs.filter nz) qs, 0 < z.2.1 := fun z hz => by
    unfold sel at hz
    obtain ⟨q, hq, e⟩ := List.mem_filterMap.mp hz
    cases e2 : lk (rs.filter nz) q.1 with
    | none => rw [e2] at e; cases e
    | some y =>
      rw [e2] at e
      cases e
      obtain ⟨t, b⟩ := y
      obtain ⟨y, hy, e3⟩ := List.mem_map.mp (pm.mem_iff.mp (List.mem_filter.mp (lk_mem e2)).1)
      have e4 : nB y.2.1 y.2.2 = b := congrArg (fun z : List Nat × Int × Int => z.2.2) e3
      show 0 < b
      rw [← e4]
      exact nB_pos (Int.ne_of_gt (wok y hy).1)
  have h := totK_val (sel (rs.filter nz) qs) (0, 1) pos (low_int 0)
  have z01 : rv 0 1 = 0 := (rv_zero (by decide)).mpr rfl
  refine ⟨h.1, ?_⟩
  have e : rv (totK (sel (rs.filter nz) qs)).1 (totK (sel (rs.filter nz) qs)).2 = rv 0 1 + wS ws qs := by
    rw [wS_congr (fun n => rvo_gaps wok wnd pm n) qs, ← sel_val]
    exact h.2
  rw [e, z01]
  grind
theorem due_sm {ts : List (List Nat × Int × Int)} (ok : TsOk ts) : ∀ (ps : List (List Nat × Int)) (s : Int × Int) (i : Nat), (∀ q ∈ ps, -9 ≤ q.2 ∧ q.2 ≤ 9) → Sm (1 + 200 * i) s.1 → Sm (1 + 97 * i) s.2 →
    Sm (1 + 200 * (i + ps.length)) (ps.foldl (duS ts) s).1 ∧ Sm (1 + 97 * (i + ps.length)) (ps.foldl (duS ts) s).2
  | [], s, i, _, h1, h2 => ⟨h1, h2⟩
  | q :: r, s, i, hq, h1, h2 => by
    obtain ⟨z1, z2⟩ := hq q List.mem_cons_self
    have st : Sm (1 + 200 * (i + 1)) (duS ts s q).1 ∧ Sm (1 + 97 * (i + 1)) (duS ts s q).2 := by
      obtain ⟨t, b, e, St, Sb⟩ : ∃ t b, (lk ts q.1).getD (0, 1) = (t, b) ∧ Sm 97 t ∧ Sm 97 b := by
        cases e : lk ts q.1 with
        | none => exact ⟨0, 1, rfl, by unfold Sm; decide, by unfold Sm; decide⟩
        | some p =>
          obtain ⟨t, b⟩ := p
          obtain ⟨_, y2, y3⟩ := ok _ (lk_mem e)
          exact ⟨t, b, rfl, y2, y3⟩
      have nx : duS ts s q = (s.1 * b + q.2 * t * s.2, s.2 * b) := by
        unfold duS
        rw [e]
      rw [nx]
      have w1 : Sm (1 + 200 * i + 97) (s.1 * b) := h1.mul Sb
      have w2 : Sm (4 + 97 + (1 + 97 * i)) (q.2 * t * s.2) := ((sm_nine z1 z2).mul St).mul h2
      exact ⟨(((w1.mono (by omega)).add (w2.mono (by omega)) : Sm (1 + 200 * i + 102 + 1) _)).mono (by omega), (h2.mul Sb).mono (by omega)⟩
    obtain ⟨a, b⟩ := due_sm ok r (duS ts s q) (i + 1) (fun x hx => hq x (List.mem_cons_of_mem _ hx)) st.1 st.2
    rw [List.length_cons]
    exact ⟨a.mono (by omega), b.mono (by omega)⟩
theorem due_val {ws : List (List Nat × Int × Int)} (wok : TsOk ws) (ps : List (List Nat × Int)) : 0 < (dueS ws ps).2 ∧ rv (dueS ws ps).1 (dueS ws ps).2 = wS ws ps := by
  have h := dueS_val ws wok (fun n t b e => lk_mem e) ps (0, 1) (by decide)
  have z01 : rv 0 1 = 0 := (rv_zero (by decide)).mpr rfl
  refine ⟨h.1, ?_⟩
  have e : rv (dueS ws ps).1 (dueS ws ps).2 = rv 0 1 + wS ws ps := h.2
  rw [e, z01]
  grind

end
end LW
set_option Elab.async false
set_option linter.all false
set_option maxRecDepth 100000
set_option maxHeartbeats 4000000
namespace LW
open PySem PySem.Spec PyProof.Rows L2 HX NumText
section
variable {P : Program} {w : World} {K : PySem.W.Frag} {mg : Str → Option Value} {base : Heap}

def spCmp (A : Addr) (g : Int → Int → Int → Int → Bool) : Sp := fun vs H Q _ => ∃ (a : Addr) (v : V) (t b c d : Int), vs = [.ref a, v] ∧ Am A H a t b ∧ Nu A H v c d ∧ Low t b ∧ Low c d ∧ Sm 4300 t ∧ Sm 4300 b ∧ Sm 4300 c ∧ Sm 4300 d ∧ ∀ G, Same H G → Q (.bl (g t b c d)) G
theorem n_sign {p q : Int} (h : 0 < q) : (nT p q < 0 ↔ p < 0) ∧ (nT p q ≤ 0 ↔ p ≤ 0) := by
  have z := cross (p := p) (Int.ne_of_gt h)
  have b := nB_pos (p := p) (Int.ne_of_gt h)
  refine ⟨⟨fun l => ?_, fun l => ?_⟩, ⟨fun l => ?_, fun l => ?_⟩⟩
  · have x : nT p q * q < 0 := Int.mul_neg_of_neg_of_pos l h
    rw [z] at x
    rcases Int.lt_or_le p 0 with y | y
    · exact y
    · have := Int.mul_nonneg y (Int.le_of_lt b)
      omega
  · have x : p * nB p q < 0 := Int.mul_neg_of_neg_of_pos l b
    rw [← z] at x
    rcases Int.lt_or_le (nT p q) 0 with y | y
    · exact y
    · have := Int.mul_nonneg y (Int.le_of_lt h)
      omega
  · have x : nT p q * q ≤ 0 := Int.mul_nonpos_of_nonpos_of_nonneg l (Int.le_of_lt h)
    rw [z] at x
    rcases Int.lt_or_le 0 p with y | y
    · have := Int.mul_pos y b
      omega
    · exact y
  · have x : p * nB p q ≤ 0 := Int.mul_nonpos_of_nonpos_of_nonneg l (Int.le_of_lt b)
    rw [← z] at x
    rcases Int.lt_or_le 0 (nT p q) with y | y
    · have := Int.mul_pos y h
      omega
    · exact y
def gLt (t b c d : Int) : Bool := decide (t * d + -c * b < 0)
def gLe (t b c d : Int) : Bool := decide (t * d + -c * b ≤ 0)
def gGt (t b c d : Int) : Bool := decide (0 < t * d + -c * b)
def gGe (t b c d : Int) : Bool := decide (0 ≤ t * d + -c * b)

theorem ok_Amount_lt {A fI pO gO pN gN f : Addr} {mc : Value} {fd : FuncData} (F : Fun K "__lt__" "Amount.__lt__" s_Amount_lt f fd) (T : Txt K mg) (U : AmC K mg A fI pO gO pN gN mc) {fdO fdN : FuncData} (FO : FnOk P w K mg base CX0 4 gO fdO ["number"] (spOf A)) (bO : Binds K fdO ["number"] []) (FN : FnOk P w K mg base CX0 2 gN fdN ["value"] (spIsNum A)) (bN : Binds K fdN ["value"] []) : FnOk P w K mg base CX0 5 f fd ["self", "other"] (spCmp A gLt) := by
  refine F.ok sc_Amount_lt (fun vs H Q E h => ?_) (fun cdv A' outer s H vs Q E hr h => ?_)
  · obtain ⟨a, v, t, b, c, d, rfl, _⟩ := h
    rfl
  · obtain ⟨a, v, t, b, c, d, rfl, am, n, lo, lo2, St, Sb, Sc, Sd, k⟩ := h
    refine ⟨_, (pss_cons (s_if (pt_not (t_val (pe_sm (p_gc U.g_Amount) U.sN FN bN (hr.mono (by decide)) pass0 (pa_cons (pc 1) pa_nil)))) (pss_one ps_dead) pss_nil)
    (pss_cons (ps_set (i := 2) sc_Amount_lt.nd rfl (Or.inl rfl) (pe_sm (p_gc U.g_Amount) U.sO FO bO (hr.mono (by decide)) pass0 (pa_cons (pc 1) pa_nil)))
    (pss_one (ps_ret (p_cmp o_lt (pe_op o_mulW (pe_fld (pc 0) rfl) (pe_fld (pc 2) rfl)) (pe_op o_mulW (pe_fld (pc 2) rfl) (pe_fld (pc 0) rfl))))))), ?_⟩
    refine ⟨rfl, v, c, d, rfl, n, ⟨fun h => absurd h (by decide), fun _ => ⟨rfl, v, c, d, rfl, n, Sc.mono (by decide), fun r G s a2 => ?_⟩⟩⟩
    obtain ⟨dx, e⟩ := am.mo s
    obtain ⟨dr, er⟩ := a2
    refine ⟨a, A, _, _, _, rfl, e, U.cls, U.nT, rfl, r, A, _, _, _, rfl, er, U.cls, U.nB, rfl, St.cMul Sd, r, A, _, _, _, rfl, er, U.cls, U.nT, rfl, a, A, _, _, _, rfl, e, U.cls, U.nB, rfl, Sc.cMul Sb, ?_⟩
    show Q (.bl (decide (t * d < c * b))) G
    rw [show decide (t * d < c * b) = gLt t b c d from by unfold gLt; rw [Int.neg_mul]; exact decide_eq_decide.mpr (by omega)]
    exact k G s

theorem ok_Amount_le {A fI pO gO pN gN f : Addr} {mc : Value} {fd : FuncData} (F : Fun K "__le__" "Amount.__le__" s_Amount_le f fd) (T : Txt K mg) (U : AmC K mg A fI pO gO pN gN mc) {fdO fdN : FuncData} (FO : FnOk P w K mg base CX0 4 gO fdO ["number"] (spOf A)) (bO : Binds K fdO ["number"] []) (FN : FnOk P w K mg base CX0 2 gN fdN ["value"] (spIsNum A)) (bN : Binds K fdN ["value"] []) : FnOk P w K mg base CX0 5 f fd ["self", "other"] (spCmp A gLe) := by
  refine F.ok sc_Amount_le (fun vs H Q E h => ?_) (fun cdv A' outer s H vs Q E hr h => ?_)
  · obtain ⟨a, v, t, b, c, d, rfl, _⟩ := h
    rfl
  · obtain ⟨a, v, t, b, c, d, rfl, am, n, lo, lo2, St, Sb, Sc, Sd, k⟩ := h
    refine ⟨_, (pss_cons (s_if (pt_not (t_val (pe_sm (p_gc U.g_Amount) U.sN FN bN (hr.mono (by decide)) pass0 (pa_cons (pc 1) pa_nil)))) (pss_one ps_dead) pss_nil)
    (pss_cons (ps_set (i := 2) sc_Amount_le.nd rfl (Or.inl rfl) (pe_sm (p_gc U.g_Amount) U.sO FO bO (hr.mono (by decide)) pass0 (pa_cons (pc 1) pa_nil)))
    (pss_one (ps_ret (p_cmp o_le (pe_op o_mulW (pe_fld (pc 0) rfl) (pe_fld (pc 2) rfl)) (pe_op o_mulW (pe_fld (pc 2) rfl) (pe_fld (pc 0) rfl))))))), ?_⟩
    refine ⟨rfl, v, c, d, rfl, n, ⟨fun h => absurd h (by decide), fun _ => ⟨rfl, v, c, d, rfl, n, Sc.mono (by decide), fun r G s a2 => ?_⟩⟩⟩
    obtain ⟨dx, e⟩ := am.mo s
    obtain ⟨dr, er⟩ := a2
    refine ⟨a, A, _, _, _, rfl, e, U.cls, U.nT, rfl, r, A, _, _, _, rfl, er, U.cls, U.nB, rfl, St.cMul Sd, r, A, _, _, _, rfl, er, U.cls, U.nT, rfl, a, A, _, _, _, rfl, e, U.cls, U.nB, rfl, Sc.cMul Sb, ?_⟩
    show Q (.bl (decide (t * d ≤ c * b))) G
    rw [show decide (t * d ≤ c * b) = gLe t b c d from by unfold gLe; rw [Int.neg_mul]; exact decide_eq_decide.mpr (by omega)]
    exact k G s

theorem ok_Amount_gt {A fI pO gO pN gN f : Addr} {mc : Value} {fd : FuncData} (F : Fun K "__gt__" "Amount.__gt__" s_Amount_gt f fd) (T : Txt K mg) (U : AmC K mg A fI pO gO pN gN mc) {fdO fdN : FuncData} (FO : FnOk P w K mg base CX0 4 gO fdO ["number"] (spOf A)) (bO : Binds K fdO ["number"] []) (FN : FnOk P w K mg base CX0 2 gN fdN ["value"] (spIsNum A)) (bN : Binds K fdN ["value"] []) : FnOk P w K mg base CX0 5 f fd ["self", "other"] (spCmp A gGt) := by
  refine F.ok sc_Amount_gt (fun vs H Q E h => ?_) (fun cdv A' outer s H vs Q E hr h => ?_)
  · obtain ⟨a, v, t, b, c, d, rfl, _⟩ := h
    rfl
  · obtain ⟨a, v, t, b, c, d, rfl, am, n, lo, lo2, St, Sb, Sc, Sd, k⟩ := h
    refine ⟨_, (pss_cons (s_if (pt_not (t_val (pe_sm (p_gc U.g_Amount) U.sN FN bN (hr.mono (by decide)) pass0 (pa_cons (pc 1) pa_nil)))) (pss_one ps_dead) pss_nil)
    (pss_cons (ps_set (i := 2) sc_Amount_gt.nd rfl (Or.inl rfl) (pe_sm (p_gc U.g_Amount) U.sO FO bO (hr.mono (by decide)) pass0 (pa_cons (pc 1) pa_nil)))
    (pss_one (ps_ret (p_cmp o_gt (pe_op o_mulW (pe_fld (pc 0) rfl) (pe_fld (pc 2) rfl)) (pe_op o_mulW (pe_fld (pc 2) rfl) (pe_fld (pc 0) rfl))))))), ?_⟩
    refine ⟨rfl, v, c, d, rfl, n, ⟨fun h => absurd h (by decide), fun _ => ⟨rfl, v, c, d, rfl, n, Sc.mono (by decide), fun r G s a2 => ?_⟩⟩⟩
    obtain ⟨dx, e⟩ := am.mo s
    obtain ⟨dr, er⟩ := a2
    refine ⟨a, A, _, _, _, rfl, e, U.cls, U.nT, rfl, r, A, _, _, _, rfl, er, U.cls, U.nB, rfl, St.cMul Sd, r, A, _, _, _, rfl, er, U.cls, U.nT, rfl, a, A, _, _, _, rfl, e, U.cls, U.nB, rfl, Sc.cMul Sb, ?_⟩
    show Q (.bl (decide (c * b < t * d))) G
    rw [show decide (c * b < t * d) = gGt t b c d from by unfold gGt; rw [Int.neg_mul]; exact decide_eq_decide.mpr (by omega)]
    exact k G s

theorem ok_Amount_ge {A fI pO gO pN gN f : Addr} {mc : Value} {fd : FuncData} (F : Fun K "__ge__" "Amount.__ge__" s_Amount_ge f fd) (T : Txt K mg) (U : AmC K mg A fI pO gO pN gN mc) {fdO fdN : FuncData} (FO : FnOk P w K mg base CX0 4 gO fdO ["number"] (spOf A)) (bO : Binds K fdO ["number"] []) (FN : FnOk P w K mg base CX0 2 gN fdN ["value"] (spIsNum A)) (bN : Binds K fdN ["value"] []) : FnOk P w K mg base CX0 5 f fd ["self", "other"] (spCmp A gGe) := by
  refine F.ok sc_Amount_ge (fun vs H Q E h => ?_) (fun cdv A' outer s H vs Q E hr h => ?_)
  · obtain ⟨a, v, t, b, c, d, rfl, _⟩ := h
    rfl
  · obtain ⟨a, v, t, b, c, d, rfl, am, n, lo, lo2, St, Sb, Sc, Sd, k⟩ := h
    refine ⟨_, (pss_cons (s_if (pt_not (t_val (pe_sm (p_gc U.g_Amount) U.sN FN bN (hr.mono (by decide)) pass0 (pa_cons (pc 1) pa_nil)))) (pss_one ps_dead) pss_nil)
    (pss_cons (ps_set (i := 2) sc_Amount_ge.nd rfl (Or.inl rfl) (pe_sm (p_gc U.g_Amount) U.sO FO bO (hr.mono (by decide)) pass0 (pa_cons (pc 1) pa_nil)))
    (pss_one (ps_ret (p_cmp o_ge (pe_op o_mulW (pe_fld (pc 0) rfl) (pe_fld (pc 2) rfl)) (pe_op o_mulW (pe_fld (pc 2) rfl) (pe_fld (pc 0) rfl))))))), ?_⟩
    refine ⟨rfl, v, c, d, rfl, n, ⟨fun h => absurd h (by decide), fun _ => ⟨rfl, v, c, d, rfl, n, Sc.mono (by decide), fun r G s a2 => ?_⟩⟩⟩
    obtain ⟨dx, e⟩ := am.mo s
    obtain ⟨dr, er⟩ := a2
    refine ⟨a, A, _, _, _, rfl, e, U.cls, U.nT, rfl, r, A, _, _, _, rfl, er, U.cls, U.nB, rfl, St.cMul Sd, r, A, _, _, _, rfl, er, U.cls, U.nT, rfl, a, A, _, _, _, rfl, e, U.cls, U.nB, rfl, Sc.cMul Sb, ?_⟩
    show Q (.bl (decide (c * b ≤ t * d))) G
    rw [show decide (c * b ≤ t * d) = gGe t b c d from by unfold gGe; rw [Int.neg_mul]; exact decide_eq_decide.mpr (by omega)]
    exact k G s

def gEq (t b c d : Int) : Bool := decide (t = c) && decide (b = d)
def spCmpW (A : Addr) (g : Int → Int → Int → Int → Bool) : Sp := fun vs H Q _ => ∃ (a : Addr) (v : V) (t b c d : Int), vs = [.ref a, v] ∧ Am A H a t b ∧ Nu A H v c d ∧ Low t b ∧ Low c d ∧ Sm 8600 t ∧ Sm 8600 b ∧ Sm 8600 c ∧ Sm 8600 d ∧ ∀ G, Same H G → Q (.bl (g t b c d)) G

theorem ok_Amount_eq {A fI pO gO pN gN f : Addr} {mc : Value} {fd : FuncData} (F : Fun K "__eq__" "Amount.__eq__" s_Amount_eq f fd) (T : Txt K mg) (U : AmC K mg A fI pO gO pN gN mc) (cI : CalO P w K mg base "is_int" 1 ["value"] (spIsInt A) (fun _ => True)) : FnOk P w K mg base CX0 5 f fd ["self", "other"] (spCmp A gEq) := by
  refine F.ok sc_Amount_eq (fun vs H Q E h => ?_) (fun cdv A' outer s H vs Q E hr h => ?_)
  · obtain ⟨a, v, t, b, c, d, rfl, _⟩ := h
    rfl
  · obtain ⟨a, v, t, b, c, d, rfl, am, n, lo, lo2, St, Sb, Sc, Sd, k⟩ := h
    refine ⟨_, (pss_cons (s_if (t_val (pe_callB c_isi (by rfl) T.b_isinstance (by decide +kernel) (pa_cons (pc 1) (pa_cons (p_gc U.g_Amount) pa_nil)))) (pss_one (ps_ret (e_and (p_cmp (o_eq hr.units) (pe_fld (pc 0) rfl) (pe_fld (pc 1) rfl)) (pe_one (p_cmp (o_eq hr.units) (pe_fld (pc 0) rfl) (pe_fld (pc 1) rfl)))))) pss_nil)
    (pss_one (ps_ret (e_and (pe_cO cI (hr.mono (by decide)) (pa_cons (pc 1) pa_nil)) (e_and (p_cmp (o_eq hr.units) (pe_fld (pc 0) rfl) pe_int) (pe_one (p_cmp (o_eq hr.units) (pe_fld (pc 0) rfl) (pc 1)))))))), ?_⟩
    rcases n with ⟨y, rfl, an⟩ | ⟨rfl, rfl⟩
    · obtain ⟨dx, e⟩ := id am
      obtain ⟨dr, er⟩ := id an
      refine ⟨_, _, _, _, true, rfl, .ins er U.cls U.ha U.hn U.ht U.hm, (fun u r => r), kit_self K A, ⟨fun _ => ?_, fun h => absurd h (by decide)⟩⟩
      refine ⟨a, A, _, _, _, rfl, e, U.cls, U.nT, rfl, y, A, _, _, _, rfl, er, U.cls, U.nT, rfl, ⟨fun x => ?_, fun x => ?_⟩⟩
      · have x : t = c := by simpa using x
        refine ⟨a, A, _, _, _, rfl, e, U.cls, U.nB, rfl, y, A, _, _, _, rfl, er, U.cls, U.nB, rfl, ?_⟩
        have z := k H (Same.refl H)
        rw [show gEq t b c d = xor false (decide (b = d)) by simp [gEq, x]] at z
        exact z
      · have x : ¬ t = c := by simpa using x
        have z := k H (Same.refl H)
        rw [show gEq t b c d = false by simp [gEq, x]] at z
        exact z
    · obtain ⟨dx, e⟩ := id am
      refine ⟨_, _, _, _, false, rfl, .int c, (fun u r => r), U.kA, ⟨fun h => absurd h (by decide), fun _ => ⟨_, rfl, .inl ⟨⟨c, rfl⟩, ⟨fun _ => ?_, fun h => absurd h (by decide)⟩⟩⟩⟩⟩
      refine ⟨a, A, _, _, _, rfl, e, U.cls, U.nB, rfl, ⟨fun x => ?_, fun x => ?_⟩⟩
      · have x : b = 1 := by simpa using x
        refine ⟨a, A, _, _, _, rfl, e, U.cls, U.nT, rfl, ?_⟩
        have z := k H (Same.refl H)
        rw [show gEq t b c 1 = xor false (decide (t = c)) by simp [gEq, x]] at z
        exact z
      · have x : ¬ b = 1 := by simpa using x
        have z := k H (Same.refl H)
        rw [show gEq t b c 1 = false by simp [gEq, x]] at z
        exact z

theorem ok_eqW {A fI pO gO pN gN f : Addr} {mc : Value} {fd : FuncData} (F : Fun K "__eq__" "Amount.__eq__" s_Amount_eq f fd) (T : Txt K mg) (U : AmC K mg A fI pO gO pN gN mc) (cI : CalO P w K mg base "is_int" 1 ["value"] (spIsInt A) (fun _ => True)) : FnOk P w K mg base CX0 5 f fd ["self", "other"] (spCmpW A gEq) := by
  refine F.ok sc_Amount_eq (fun vs H Q E h => ?_) (fun cdv A' outer s H vs Q E hr h => ?_)
  · obtain ⟨a, v, t, b, c, d, rfl, _⟩ := h
    rfl
  · obtain ⟨a, v, t, b, c, d, rfl, am, n, lo, lo2, St, Sb, Sc, Sd, k⟩ := h
    refine ⟨_, (pss_cons (s_if (t_val (pe_callB c_isi (by rfl) T.b_isinstance (by decide +kernel) (pa_cons (pc 1) (pa_cons (p_gc U.g_Amount) pa_nil)))) (pss_one (ps_ret (e_and (p_cmp (o_eq hr.units) (pe_fld (pc 0) rfl) (pe_fld (pc 1) rfl)) (pe_one (p_cmp (o_eq hr.units) (pe_fld (pc 0) rfl) (pe_fld (pc 1) rfl)))))) pss_nil)
    (pss_one (ps_ret (e_and (pe_cO cI (hr.mono (by decide)) (pa_cons (pc 1) pa_nil)) (e_and (p_cmp (o_eq hr.units) (pe_fld (pc 0) rfl) pe_int) (pe_one (p_cmp (o_eq hr.units) (pe_fld (pc 0) rfl) (pc 1)))))))), ?_⟩
    rcases n with ⟨y, rfl, an⟩ | ⟨rfl, rfl⟩
    · obtain ⟨dx, e⟩ := id am
      obtain ⟨dr, er⟩ := id an
      refine ⟨_, _, _, _, true, rfl, .ins er U.cls U.ha U.hn U.ht U.hm, (fun u r => r), kit_self K A, ⟨fun _ => ?_, fun h => absurd h (by decide)⟩⟩
      refine ⟨a, A, _, _, _, rfl, e, U.cls, U.nT, rfl, y, A, _, _, _, rfl, er, U.cls, U.nT, rfl, ⟨fun x => ?_, fun x => ?_⟩⟩
      · have x : t = c := by simpa using x
        refine ⟨a, A, _, _, _, rfl, e, U.cls, U.nB, rfl, y, A, _, _, _, rfl, er, U.cls, U.nB, rfl, ?_⟩
        have z := k H (Same.refl H)
        rw [show gEq t b c d = xor false (decide (b = d)) by simp [gEq, x]] at z
        exact z
      · have x : ¬ t = c := by simpa using x
        have z := k H (Same.refl H)
        rw [show gEq t b c d = false by simp [gEq, x]] at z
        exact z
    · obtain ⟨dx, e⟩ := id am
      refine ⟨_, _, _, _, false, rfl, .int c, (fun u r => r), U.kA, ⟨fun h => absurd h (by decide), fun _ => ⟨_, rfl, .inl ⟨⟨c, rfl⟩, ⟨fun _ => ?_, fun h => absurd h (by decide)⟩⟩⟩⟩⟩
      refine ⟨a, A, _, _, _, rfl, e, U.cls, U.nB, rfl, ⟨fun x => ?_, fun x => ?_⟩⟩
      · have x : b = 1 := by simpa using x
        refine ⟨a, A, _, _, _, rfl, e, U.cls, U.nT, rfl, ?_⟩
        have z := k H (Same.refl H)
        rw [show gEq t b c 1 = xor false (decide (t = c)) by simp [gEq, x]] at z
        exact z
      · have x : ¬ b = 1 := by simpa using x
        have z := k H (Same.refl H)
        rw [show gEq t b c 1 = false by simp [gEq, x]] at z
        exact z

def Kd (K : PySem.W.Frag) (A : Addr) (H : Hp) (x : V) (b1 b2 b3 : Bool) : Prop := ∃ t, TyOf K H x t ∧ PySem.W.kitOne K t (.type "int") = some b1 ∧ PySem.W.kitOne K t (.type "bool") = some b2 ∧ PySem.W.kitOne K t (.ref A) = some b3
def spIntG (K : PySem.W.Frag) (A : Addr) : Sp := fun vs H Q _ => ∃ x b1 b2 b3, vs = [x] ∧ Kd K A H x b1 b2 b3 ∧ Q (.bl (b1 && !b2)) H
def spNumG (K : PySem.W.Frag) (A : Addr) : Sp := fun vs H Q _ => ∃ x b1 b2 b3, vs = [x] ∧ Kd K A H x b1 b2 b3 ∧ Q (.bl ((b1 && !b2) || b3)) H
/-- == with what is no number -/
def spEqN (K : PySem.W.Frag) (A : Addr) : Sp := fun vs H Q _ => ∃ (a : Addr) (x : V) (b1 b2 : Bool), vs = [.ref a, x] ∧ IsI A H a ∧ Kd K A H x b1 b2 false ∧ (b1 && !b2) = false ∧ Q (.bl false) H

theorem ok_is_intG {A fI pO gO pN gN f : Addr} {mc : Value} {fd : FuncData} (F : Fun K "is_int" "is_int" s_is_int f fd) (T : Txt K mg) (U : AmC K mg A fI pO gO pN gN mc) : FnOk P w K mg base CX0 1 f fd ["value"] (spIntG K A) := by
  refine F.ok sc_is_int (fun vs H Q E h => ?_) (fun cdv A' outer s H vs Q E hr h => ?_)
  · obtain ⟨x, b1, b2, b3, rfl, _⟩ := h
    rfl
  · obtain ⟨x, b1, b2, b3, rfl, ⟨t, ty, k1, k2, k3⟩, k⟩ := h
    refine ⟨_, (pss_one (ps_ret (e_and (pe_callB c_isi (by rfl) T.b_isinstance (by decide +kernel) (pa_cons (pc 0) (pa_cons (pe_bltn (v := .ty "int") (u := .type "int") (by rfl) T.b_int (by decide +kernel) rfl) pa_nil))) (pe_one (e_not (pe_callB c_isi (by rfl) T.b_isinstance (by decide +kernel) (pa_cons (pc 0) (pa_cons (pe_bltn (v := .ty "bool") (u := .type "bool") (by rfl) T.b_bool (by decide +kernel) rfl) pa_nil)))))))), ?_⟩
    refine ⟨x, _, t, _, b1, rfl, ty, (fun u r => r), k1, ⟨fun e => ?_, fun e => ?_⟩⟩
    · subst e
      exact ⟨x, _, t, _, b2, rfl, ty, (fun u r => r), k2, k⟩
    · subst e
      exact k

theorem ok_is_numberG {A fI pO gO pN gN f : Addr} {mc : Value} {fd : FuncData} (F : Fun K "is_number" "Amount.is_number" s_Amount_is_number f fd) (T : Txt K mg) (U : AmC K mg A fI pO gO pN gN mc) (cG : CalO P w K mg base "is_int" 1 ["value"] (spIntG K A) (fun _ => True)) : FnOk P w K mg base CX0 2 f fd ["value"] (spNumG K A) := by
  refine F.ok sc_Amount_is_number (fun vs H Q E h => ?_) (fun cdv A' outer s H vs Q E hr h => ?_)
  · obtain ⟨x, b1, b2, b3, rfl, _⟩ := h
    rfl
  · obtain ⟨x, b1, b2, b3, rfl, kd, k⟩ := h
    refine ⟨_, (pss_one (ps_ret (e_or (pe_cO cG (hr.mono (by decide)) (pa_cons (pc 0) pa_nil)) (pe_one (pe_callB c_isi (by rfl) T.b_isinstance (by decide +kernel) (pa_cons (pc 0) (pa_cons (p_gc U.g_Amount) pa_nil))))))), ?_⟩
    refine ⟨x, b1, b2, b3, rfl, kd, ⟨fun e => ?_, fun e => ?_⟩⟩
    · rw [e] at k
      exact k
    · obtain ⟨t, ty, k1, k2, k3⟩ := kd
      rw [e] at k
      exact ⟨x, _, t, _, b3, rfl, ty, (fun u r => r), k3, by simpa using k⟩

section
variable (P : Program) (w : World) (K : PySem.W.Frag) (mg : Str → Option Value) (base : Heap)
/-- a comparison of Amount, both methods -/
def CmC (A : Addr) (op : CmpOp) (idl : String) (spF spG : Sp) : Prop := ∃ (f g : Addr) (ff fg : FuncData), CmpO K A op f g idl ∧ FnOk P w K mg base CX0 8 f ff ["self", "other"] spF ∧ FnOk P w K mg base CX0 8 g fg ["self", "other"] spG ∧ Binds K ff ["self", "other"] [] ∧ Binds K fg ["self", "other"] []
/-- what != and == with anything need -/
structure EqC (A : Addr) : Prop where
  sub : PySem.W.subIn K (.ref A) (.type "int") = some false
  hm : PySem.W.mroIn K A (.type "object") = some true
  hn : PySem.W.findIn K (.ref A) "__ne__" = some (some (.builtin "object.__ne__"))
  eq : ∃ (f : Addr) (fd : FuncData), PySem.W.findIn K (.ref A) "__eq__" = some (some (.ref f)) ∧ PySem.W.isFn K (.ref f) = true ∧ FnOk P w K mg base CX0 7 f fd ["self", "other"] (spCmp A gEq) ∧ FnOk P w K mg base CX0 7 f fd ["self", "other"] (spEqN K A) ∧ Binds K fd ["self", "other"] []
end

theorem cm_c {X : Cx} {A : Addr} {op : CmpOp} {idl : String} {r0 : L2.R2} {spF spG : Sp} (h0 : OpR X (compareOp op) r0) (C : CmC X.prog X.w X.K X.mg X.base A op idl spF spG) (hr : Room 8 X.A) : OpR X (compareOp op) (rOw A r0 spF spG (fun _ _ _ => False)) := by
  obtain ⟨f, g, ff, fg, O, Ff, Fg, bf, bg⟩ := C
  exact op_cm h0 O Ff Fg bf bg hr pass0
theorem ne_c {X : Cx} {A : Addr} {r0 : L2.R2} (h0 : OpR X (compareOp .NotEq) r0) (C : EqC X.prog X.w X.K X.mg X.base A) (hr : Room 8 X.A) : OpR X (compareOp .NotEq) (rNw A r0 (spCmp A gEq) (fun _ _ _ => False)) := by
  obtain ⟨f, fd, hs, hf, F1, F2, b⟩ := C.eq
  exact op_new h0 C.sub C.hm C.hn hs hf F1 b hr pass0

end
end LW
set_option Elab.async false
set_option linter.all false
set_option maxRecDepth 100000
set_option maxHeartbeats 2000000
/-! A49: o.m(k = e, ..) -/
namespace HX
open PySem PySem.W PySem.Spec PyProof.Rows L2
def tMethK (C : Addr) (m : Str) (n : Nat) (sp : Sp) (gV : List V → List V → List V) (E : XK) (ta : TE) (tk : TA) : TE := fun σ H Q => ta σ H fun x H1 => ∃ a dx fs, x = .ref a ∧ H1 a = some (.ins C dx fs) ∧ fs.lookup m = none ∧
  tk σ H1 fun zs H2 => zs.length = n ∧ sp (gV [x] zs) H2 Q E
theorem pe_methK0 {X : Cx} {CY : CXT} {k : Nat} {C f : Addr} {sp : Sp} {E : XK} {o : Expr} {m : Str} {pos apos : Pos} {ta : TE} {tk : TA} {pl : Sem Bool} {fd : FuncData} {ps ks : List Str} {kws : List Keyword} {gg : List Value → List Value → List Value} {gV : List V → List V → List V}
    (he : PE X o ta) (c : Cls X.K C) (hm : Meth X.K C m f) (F : FnOk X.prog X.w X.K X.mg X.base CY k f fd ps sp) (hr : Room k X.A) (b : KBn X.K fd ps 1 ks gg gV) (hx : Passes CY X E) (hkw : PK X kws tk)
    (hall : (backToKw pos (keywordEach kws X.env)).all (·.1.isSome) = true := by rfl) (hks : (backToKw pos (keywordEach kws X.env)).filterMap (·.1) = ks := by rfl)
    (hpl : ((backTo pos (starEach [] X.env)).any (·.1) || (backToKw pos (keywordEach kws X.env)).any (·.1.isNone)) = false := by rfl)
    (ht : eval (.Call (.Attribute o m apos) [] kws pos) X.env = (do
      let v ← eval o X.env
      standAt apos.atName
      let (f, first) ← holding [v] (getMethod v m pl)
      callWith pos f first (backTo pos (starEach [] X.env)) (backToKw pos (keywordEach kws X.env))) := by rfl) : PE X (.Call (.Attribute o m apos) [] kws pos) (tMethK C m ks.length sp gV E ta tk) := by
  refine ⟨fun pins s σ H Q I h => PySem.W.methodCall_KW (pl := pl) (thn (he.run pins s σ H _ I h) fun u s1 ⟨x, H1, I1, rx, a, dx, fs, ex, ea, l, q⟩ => ?_) ht⟩
  subst ex
  obtain rfl : u = Value.ref a := rx
  refine getmeth_ok I1 ea c hm l ?_
  refine PySem.W.callWith_KW0 (first := [.ref a]) (h₀ := X.base) I.ok.mod.kin hm.kp hall ?_ hpl
  refine thn (hkw.run pos pins s1 σ H1 _ I1 q) fun ws s2 ⟨zs, H2, I2, rz, l2, q2⟩ => ⟨I2.kIn, ?_⟩
  rw [hks]
  exact run_fnN (us := [.ref a]) (vs := [.ref a]) F hr b hx I2 (.cons rfl .nil) rz rfl l2 q2
end HX

set_option Elab.async false
set_option linter.all false
set_option maxRecDepth 100000
set_option maxHeartbeats 4000000
namespace LW
open PySem PySem.Spec PyProof.Rows L2 HX NumText
section
variable {P : Program} {w : World} {K : PySem.W.Frag} {mg : Str → Option Value} {base : Heap}

theorem mkG4 {A C P_ : Addr} {H : Hp} {R : Addr → Hp → Prop} {E : XK} {kvs : List (Key × V)} {ps : List (List Nat × Int × Int)} (hP : H P_ = some (.dK kvs)) (kr : KRs (NuV A H) kvs ps) (wd : GwOk ps)
    (k : ∀ (G : Hp) (x D : Addr) (gvs : List (Key × V)) (rs : List (List Nat × Int × Int)), H x = none → H D = none → Same H G → GpsAt C G x D gvs → KRs (AmV A G) gvs (rs.filter nz) → rs.Perm ps → R x G) : ∀ x dx, H x = none → H dx = none → dx ≠ x →
    spGInit A C (.ref x :: [.ref P_]) (L2.upd (L2.upd H dx (.own x)) x (.ins C dx [])) (fun v H2 => v = .non ∧ R x H2) E := fun x dx nx nd ne => by
  have sU : Same H (L2.upd (L2.upd H dx (.own x)) x (.ins C dx [])) := Same.upN (Same.new (Same.refl H) nd) nx
  refine ⟨x, dx, _, rfl, upd_same, ps, .inr ⟨P_, kvs, rfl, sU _ _ hP, kr.mo fun v t b z => ⟨z.1.mo sU, z.2⟩, wd⟩, fun G D gvs rs nD kp gx gD kr2 pm srt => ⟨rfl, ?_⟩⟩
  exact k G x D gvs rs nx (sU.free nD) (fun b o e => kp b o (ne_of_none e nx) (sU b o e)) ⟨⟨dx, gx⟩, gD⟩ kr2 pm
theorem krs_ams {A : Addr} {G : Hp} : ∀ {gvs : List (Key × V)} {rs : List (List Nat × Int × Int)}, KRs (AmV A G) gvs rs → (∀ p ∈ rs, Low p.2.1 p.2.2 ∧ Sm 100 p.2.1 ∧ Sm 100 p.2.2) → KRs (AmS A G) gvs rs
  | _, _, .nil, _ => .nil
  | _, _, .cons e r, h => .cons ⟨e, h _ List.mem_cons_self⟩ (krs_ams r fun p hp => h p (List.mem_cons_of_mem _ hp))
theorem kp_tup {p k0 : Addr} {c : Int} {H G : Hp} (P : Pe H p k0 c) (k : Kp p H G) : ∀ a xs, H a = some (.tup xs) → G a = some (.tup xs) := fun a xs e => k _ _ (fun z => by
  subst z
  obtain ⟨_, _, _, pn, _⟩ := P
  rw [pn.at_] at e
  cases e) e
theorem upd_tup {D : Addr} {H : Hp} {ys : List V} {o : HO} (d : H D = some (.lst ys)) : ∀ a xs, H a = some (.tup xs) → L2.upd H D o a = some (.tup xs) := fun a xs e => by
  rw [upd_ne (fun z => by rw [z, d] at e; cases e)]
  exact e
theorem NuV.mo {A : Addr} {H G : Hp} {v : V} {t b : Int} (s : Same H G) (h : NuV A H v t b) : NuV A G v t b := ⟨h.1.mo s, h.2⟩
theorem NuV.upd {A D : Addr} {H : Hp} {v : V} {t b : Int} {ys : List V} {o : HO} (d : H D = some (.lst ys)) (h : NuV A H v t b) : NuV A (L2.upd H D o) v t b := by
  refine ⟨?_, h.2⟩
  rcases h.1 with ⟨a, e, dx, am⟩ | z
  · exact .inl ⟨a, e, dx, by rw [upd_ne (fun z => by rw [z, d] at am; cases am)]; exact am⟩
  · exact .inr z
theorem NuV.updF {A D : Addr} {H : Hp} {v : V} {t b : Int} {od : Obj} {u o : HO} (d : H D = some (.frz od u)) (h : NuV A H v t b) : NuV A (L2.upd H D o) v t b := by
  refine ⟨?_, h.2⟩
  rcases h.1 with ⟨a, e, dx, am⟩ | z
  · exact .inl ⟨a, e, dx, by rw [upd_ne (fun z => by rw [z, d] at am; cases am)]; exact am⟩
  · exact .inr z
theorem eq2_ne {K : PySem.W.Frag} {i j : Int} {H : Hp} {Q : VK} (e : i = j) (h : Q (.bl false) H) : rEq2 K true (.int i) (.int j) H Q := by
  show Q (.bl (xor true (decide (i = j)))) H
  rw [decide_eq_true e]
  exact h
theorem strL_take (ns : List (List Nat)) (j : Nat) : (strL ns).take j = strL (ns.take j) := by unfold strL; rw [List.map_take]
theorem strL_len (ns : List (List Nat)) : (strL ns).length = ns.length := by unfold strL; rw [List.length_map]
theorem kIs_snoc (ps : List (List Nat × Int)) (n : List Nat) (z : Int) : kIs (ps ++ [(n, z)]) = kIs ps ++ [((.inr (ofL n) : Key), V.int z)] := by unfold kIs; rw [List.map_append]; rfl
def teP (K : PySem.W.Frag) : TE := tTup (tCons (cV 9) (tCons (tCall (spPick K) [] E0 (tCons (cV 0) (tCons (tLst (tCons (tC (.int 1)) (tCons (tUn (rU fun i => .int (-i)) (tC (.int 1))) (tCons (tC (.int 2)) (tCons (tUn (rU fun i => .int (-i)) (tC (.int 9))) (tCons (tC (.int 9)) tNil)))))) tNil))) tNil))
def teI (K : PySem.W.Frag) (j : Int) : TE := tOp (rIx2 K) (tDGet (cV 3) (cV 9)) (tC (.int j))
def teQ (K : PySem.W.Frag) (A : Addr) : TE := tTup (tCons (cV 9) (tCons (tMake A (spInit A) [] E0 (tCons (teI K 0) (tCons (teI K 1) tNil))) tNil))
def spSums : Sp := fun vs H Q _ => ∃ (p k0 : Addr) (c : Int), vs = [.ref p] ∧ Pe H p k0 c ∧ c < 999000 ∧ ∀ G, Kp p H G → Pe G p k0 (c + 60) → Q (.bl true) G
theorem ok_sums {A fI pO gO pN gN f fG fLn fNg fL fSum fEq Ln C BI : Addr} {mc : Value} {fd fdL fdG fdSum fdLn fdNg fdI fdEq : FuncData} (F : Fun K "_law_sums_right" "_law_sums_right" s__law_sums_right f fd) (T : Txt K mg) (T2 : Txt2 mg) (U : AmC K mg A fI pO gO pN gN mc) (hdi : mg "dict" = none) (LC_ : LnC K mg Ln) (gLin : mg "Linear" = some (.ref Ln)) (mL : Mk K Ln fL) (FL : FnOk P w K mg base (CX P w) 6 fL fdL ["self", "parts"] (spLInit K Ln BI)) (bL : Binds K fdL ["self", "parts"] [])
    (FI : FnOk P w K mg base CX0 2 fI fdI ["self", "top", "bottom"] (spInit A)) (bI2 : Binds K fdI ["self", "top", "bottom"] [])
    (gG : mg "Gaps" = some (.ref C)) (mG : Mk K C fG) (FG : FnOk P w K mg base CX0 5 fG fdG ["self", "values"] (spGInit A C)) (bG2 : Binds K fdG ["self", "values"] [])
    (mSum : Meth K Ln "sum_of" fSum) (FSum : FnOk P w K mg base CX0 8 fSum fdSum ["self", "gaps"] (spLSum A C Ln)) (bSum : Binds K fdSum ["self", "gaps"] []) (kSum : KBn K fdSum ["self", "gaps"] 1 ["gaps"] (fun us ws => us ++ ws) (fun vs zs => vs ++ zs))
    (nLn : PySem.W.findIn K (.ref Ln) "__neg__" = some (some (.ref fLn))) (iLn : PySem.W.isFn K (.ref fLn) = true) (FLn : FnOk P w K mg base CX0 8 fLn fdLn ["self"] (spLNeg Ln)) (bLn : Binds K fdLn ["self"] [])
    (nA : PySem.W.findIn K (.ref A) "__neg__" = some (some (.ref fNg))) (iA : PySem.W.isFn K (.ref fNg) = true) (FNg : FnOk P w K mg base CX0 4 fNg fdNg ["self"] (spNeg A fun t => -t)) (bNg : Binds K fdNg ["self"] [])
    (subA : PySem.W.subIn K (.ref A) (.type "int") = some false) (hmA : PySem.W.mroIn K A (.type "object") = some true) (neA : PySem.W.findIn K (.ref A) "__ne__" = some (some (.builtin "object.__ne__"))) (eqA : PySem.W.findIn K (.ref A) "__eq__" = some (some (.ref fEq))) (iEq : PySem.W.isFn K (.ref fEq) = true) (FEq : FnOk P w K mg base CX0 7 fEq fdEq ["self", "other"] (spCmp A gEq)) (bEq : Binds K fdEq ["self", "other"] []) (cEq : CmC P w K mg base A .Eq "int.__eq__" (spCmp A gEq) (spCmp A gEq)) (cD : CalO P w K mg base "_law_draw" 1 ["_law_pen_here", "_law_many"] spDraw (fun _ => True)) (cP : CalO P w K mg base "_law_pick" 2 ["_law_pen_here", "_law_some"] (spPick K) (fun _ => True)) (cAcc : CalO P w K mg base "_law_accounts" 3 ["_law_pen_here", "_law_many"] spAcc (fun _ => True)) (cFr : CalO P w K mg base "_law_fraction" 3 ["_law_pen_here"] spFrac (fun _ => True)) (cDu : CalO P w K mg base "_law_sum" 1 ["_law_parts", "_law_told"] spDueS (fun _ => True)) : FnOk P w K mg base CX0 10 f fd ["_law_pen_here"] spSums := by
  refine F.ok sc__law_sums_right (fun vs H Q E h => ?_) (fun cdv A' outer s H vs Q E hr h => ?_)
  · obtain ⟨p, k0, c, rfl, _⟩ := h
    rfl
  · obtain ⟨p, k0, c, rfl, Pp, hc, k⟩ := h
    refine ⟨_, (pss_cons (ps_set (i := 1) sc__law_sums_right.nd rfl (Or.inl rfl) (pe_cO cAcc (hr.mono (by decide)) (pa_cons (pc 0) (pa_cons pe_int pa_nil))))
    (pss_cons (ps_set (i := 2) sc__law_sums_right.nd rfl (Or.inl rfl) (pe_callTy (call_dictP rfl) (by rfl) hdi (by decide +kernel) (pa_cons (pe_lc (own := [("_law_owner", 9)]) (g := gName 9) (tt := tYes) (te := teP K) rfl sc__law_sums_right.nd (pi_list (pe_slice sl_list (pc 1) po_none (po_some (pe_cO cD (hr.mono (by decide)) (pa_cons (pc 0) (pa_cons pe_int pa_nil)))))) (blkOk_by (own := [("_law_owner", 9)]) (N := n__law_sums_right) (sc := defScope s__law_sums_right) (by decide +kernel)) (fun _ _ _ _ _ => pg_name (i := 9) sc__law_sums_right.nd rfl (Or.inl rfl)) (fun _ _ _ _ _ => pts_nil) (fun _ _ _ _ _ => (by exact pe_tup (pa_cons (pc 9) (pa_cons (pe_cO cP (hr.mono (by decide)) (pa_cons (pc 0) (pa_cons (pe_lst (pa_cons pe_int (pa_cons (pe_un un_neg pe_int) (pa_cons pe_int (pa_cons (pe_un un_neg pe_int) (pa_cons pe_int pa_nil)))))) pa_nil))) pa_nil))))) pa_nil)))
    (pss_cons (ps_set (i := 3) sc__law_sums_right.nd rfl (Or.inr rfl) (pe_callTy (call_dictP rfl) (by rfl) hdi (by decide +kernel) (pa_cons (pe_lc (own := [("_law_owner", 9)]) (g := gName 9) rfl sc__law_sums_right.nd (pi_list (pc 1)) (blkOk_by (own := [("_law_owner", 9)]) (N := n__law_sums_right) (sc := defScope s__law_sums_right) (by decide +kernel)) (fun _ _ _ _ _ => pg_name (i := 9) sc__law_sums_right.nd rfl (Or.inl rfl)) (fun _ _ _ _ _ => (pts_one (t_cmp o_gt (pe_cO cD (hr.mono (by decide)) (pa_cons (pc 0) (pa_cons pe_int pa_nil))) pe_int))) (fun _ _ _ _ _ => (pe_tup (pa_cons (pc 9) (pa_cons (pe_cO cFr (hr.mono (by decide)) (pa_cons (pc 0) pa_nil)) pa_nil))))) pa_nil)))
    (pss_cons (ps_dput (Nat.lt_of_le_of_lt (Nat.add_le_add_left (by decide : 1 ≤ 64) _) hr.units) (pc 3) pe_str (pe_cO cFr (hr.mono (by decide)) (pa_cons (pc 0) pa_nil)) (by rfl))
    (pss_cons (ps_set (i := 4) sc__law_sums_right.nd rfl (Or.inl rfl) (pe_make mL FL (hr.mono (by decide)) rfl gLin bL .nil (passes_call takes0 (fun _ _ _ _ z => z)) (pa_cons (pc 2) pa_nil)))
    (pss_cons (ps_lock (ps_setLc (i := 5) (own := [("_law_owner", 9)]) (g := gName 9) (tt := tYes) (te := teQ K A) rfl sc__law_sums_right.nd rfl rfl (sw_true rfl rfl rfl (by decide +kernel)) (pi_keys (pc 3)) (blkOk_by (own := [("_law_owner", 9)]) (N := n__law_sums_right) (sc := defScope s__law_sums_right) (by decide +kernel)) (fun _ _ _ _ _ => pg_name (i := 9) sc__law_sums_right.nd rfl (Or.inl rfl)) (fun _ _ _ _ _ => pts_nil) (fun _ _ _ _ _ => (by exact pe_tup (pa_cons (pc 9) (pa_cons (pe_make U.mkr FI (hr.mono (by decide)) rfl U.g_Amount bI2 .nil pass0 (pa_cons (p_ix (pe_dget (Nat.lt_of_le_of_lt (Nat.add_le_add_left (by decide : 1 ≤ 64) _) hr.units) (pc 3) (pc 9) (by exact fun _ _ => rfl)) pe_int) (pa_cons (p_ix (pe_dget (Nat.lt_of_le_of_lt (Nat.add_le_add_left (by decide : 1 ≤ 64) _) hr.units) (pc 3) (pc 9) (by exact fun _ _ => rfl)) pe_int) pa_nil))) pa_nil))))))
    (pss_cons (ps_set (i := 6) sc__law_sums_right.nd rfl (Or.inl rfl) (pe_make mG FG (hr.mono (by decide)) rfl gG bG2 .nil pass0 (pa_cons (pe_callTy (call_dictP rfl) (by rfl) hdi (by decide +kernel) (pa_cons (pc 5) pa_nil)) pa_nil)))
    (pss_cons (ps_par (i := 7) (j := 8) (by rfl) sc__law_sums_right.nd rfl rfl (by decide) rfl rfl (pa_cons (pe_meth (pc 4) LC_.cls mSum FSum (hr.mono (by decide)) bSum .nil pass0 (pa_cons (pc 6) pa_nil)) (pa_cons (pe_cO cDu (hr.mono (by decide)) (pa_cons (pc 2) (pa_cons (pc 3) pa_nil))) pa_nil)) (by rfl))
    (pss_cons (s_if (PW.pt (w_or (pt_not (t_val (pe_callB c_isi (by rfl) T.b_isinstance (by decide +kernel) (pa_cons (pc 7) (pa_cons (p_gc U.g_Amount) pa_nil))))) (pw_or1 (t_cmp (o_ne hr.units) (pe_op o_mulW (pe_fld (pc 7) rfl) (p_ix (pc 8) pe_int)) (pe_op o_mulW (p_ix (pc 8) pe_int) (pe_fld (pc 7) rfl)))))) (pss_one (ps_ret pe_bl)) pss_nil)
    (pss_cons (s_if (t_cmp (op_new (o_ne hr.units) subA hmA neA eqA iEq FEq bEq (hr.mono (by decide)) pass0) (pe_meth (pe_un (un_ow nLn iLn FLn bLn (hr.mono (by decide)) pass0) (pc 4)) LC_.cls mSum FSum (hr.mono (by decide)) bSum .nil pass0 (pa_cons (pc 6) pa_nil)) (pe_un (un_ow nA iA FNg bNg (hr.mono (by decide)) pass0) (pc 7))) (pss_one (ps_ret pe_bl)) pss_nil)
    (pss_one (ps_ret (p_cmp (cm_c (o_eq hr.units) cEq (hr.mono (by decide))) (pc 7) (pe_methK0 (pc 4) LC_.cls mSum FSum (hr.mono (by decide)) kSum pass0 (pk_cons (pc 6) pk_nil))))))))))))))), ?_⟩
    refine ⟨p, k0, c, 5, rfl, Pp, by omega, by decide, by decide, fun ow G1 ns now k1 P1 gow nl nok => ?_⟩
    have n5 : ns.length = 5 := by omega
    have owp := Pp.ne now
    refine ⟨p, k0, _, 6, rfl, P1, by decide, by decide, by omega, fun j G2 j0 j6 k2 P2 => ⟨j, rfl, ow, strL ns, rfl, SqL.of (k2 _ _ owp gow), fun sl nsl => ?_⟩⟩
    have ct : cutV (strL ns) none (some j) = strL (ns.take j.toNat) := by rw [cutV_to j0, strL_take]
    rw [ct]
    have kp2 : Kp p H G2 := k1.trans k2
    have gow2 := k2 _ _ owp gow
    have slp := P2.ne nsl
    have gsl : L2.upd G2 sl (.lst (strL (ns.take j.toNat))) sl = some (.lst (strL (ns.take j.toNat))) := upd_same
    have gow3 : L2.upd G2 sl (.lst (strL (ns.take j.toNat))) ow = some (.lst (strL ns)) := kpN gow2 nsl
    have kp3 := kp2.new (o := .lst (strL (ns.take j.toNat))) nsl
    have P3 := P2.new (o := .lst (strL (ns.take j.toNat))) nsl
    generalize L2.upd G2 sl (.lst (strL (ns.take j.toNat))) = G3 at gsl gow3 kp3 P3 ⊢
    have tl : (ns.take j.toNat).length ≤ 5 := by rw [List.length_take]; omega
    refine ⟨sl, rfl, ⟨_, SqL.of gsl⟩, fun D nD => lc_it (te := teP K) walk_list
      (fun i G => Kp p G3 G ∧ Pe G p k0 (c + 7 + i) ∧ ∃ (ps : List (List Nat × Int)) (as : List Addr), ps.map (·.1) = (ns.take j.toNat).take i ∧ (∀ q ∈ ps, -9 ≤ q.2 ∧ q.2 ≤ 9 ∧ q.2 ≠ 0) ∧ G D = some (.lst (as.map V.ref)) ∧ PrD G as (kIs ps))
      ⟨Kp.refl.new nD, (P3.new nD).mono (by omega), [], [], rfl, (fun _ z => nomatch z), upd_same, .nil⟩ (fun i G _ z => SqL.of (z.1 _ _ slp gsl)) ?_ ?_⟩
    · rintro i y G G4 hi ⟨kpG, PG, ps, as, pn, pv, gD, pr⟩ ⟨rfl, ey⟩
      rw [strL_len] at hi
      have eq : (ns.take j.toNat)[i]? = some (ns.take j.toNat)[i] := List.getElem?_eq_getElem hi
      unfold strL at ey
      rw [List.getElem?_map, eq] at ey
      generalize hn : (ns.take j.toNat)[i] = n at eq ey
      obtain rfl : V.str (ofL n) = y := Option.some.inj ey
      have Dp := P3.ne nD
      have Dk := P3.neL nD
      refine ⟨rfl, 1, rfl, 9, rfl, by show 5 ≤ sizeLine; decide, fun t1 n1 => ⟨p, k0, _, .ref t1, rfl, PG.new n1, by omega, .inr ⟨t1, _, rfl, PG.ne n1, .inl (SqL.of upd_same), by show 0 < 5; decide, by show 5 ≤ 1000000; decide, fun v G5 hv k5 P5 => ⟨by show 2 ≤ sizeLine; decide, fun T_ nT => ?_⟩⟩⟩⟩
      obtain ⟨z, rfl, z1, z2, z3⟩ : ∃ z : Int, v = .int z ∧ -9 ≤ z ∧ z ≤ 9 ∧ z ≠ 0 := by
        simp only [List.mem_cons, List.not_mem_nil, or_false] at hv
        rcases hv with rfl | rfl | rfl | rfl | rfl <;> exact ⟨_, rfl, by decide, by decide, by decide⟩
      have kG5 : Kp p G4 G5 := (Kp.refl.new n1).trans k5
      have gD5 := kG5 _ _ Dp gD
      have gD6 : L2.upd G5 T_ (.tup [.str (ofL n), .int z]) D = _ := kpN gD5 nT
      have TD : T_ ≠ D := fun e => by rw [e, gD5] at nT; cases nT
      have al : as.length ≤ 5 := by
        have h1 := Paired.length pr
        have h2 := congrArg List.length pn
        rw [kIs_len] at h1
        rw [List.length_map, List.length_take] at h2
        omega
      refine ⟨_, gD6, by rw [List.length_map, sizeLine_eq]; omega, ((kpG.trans kG5).new nT).mut nD, ((P5.new nT).mut Dp Dk).mono (by omega), ps ++ [(n, z)], as ++ [T_], ?_, ?_, by rw [upd_same, List.map_append]; rfl, ?_⟩
      · rw [List.map_append, pn, List.take_add_one, eq]
        rfl
      · intro q hq
        rcases List.mem_append.mp hq with hq | hq
        · exact pv q hq
        · rw [List.mem_singleton.mp hq]
          exact ⟨z1, z2, z3⟩
      · rw [kIs_snoc]
        refine Paired.snoc (PrD.mo (fun a xs e => upd_tup gD6 a xs (kpN (kp_tup PG kG5 a xs e) nT)) pr) ?_
        show L2.upd _ D _ T_ = _
        rw [upd_ne TD]
        exact upd_same
    · rintro G ⟨kpG, PG, ps, as, pn, pv, gD, pr⟩
      rw [strL_len, List.take_length] at pn
      have pl5 : ps.length ≤ 5 := by
        have := congrArg List.length pn
        rw [List.length_map] at this
        omega
      have pok : PsOk ps := by
        refine ⟨by rw [pn]; exact nok.nd.sublist (List.take_sublist _ _), by omega, fun q hq => ?_⟩
        have m : q.1 ∈ ns := List.mem_of_mem_take (pn ▸ List.mem_map.mpr ⟨q, hq, rfl⟩ : q.1 ∈ ns.take j.toNat)
        exact ⟨(nok.all _ m).1, pv q hq⟩
      refine ⟨D, as, kIs ps, rfl, SqL.of gD, pr.sq, fun Pa nPa => ?_⟩
      rw [kIs_merge pok.nd]
      have kpA := kp3.trans kpG
      have gowA := kpG _ _ owp gow3
      have pap := PG.ne nPa
      have hPa : L2.upd G Pa (.dK (kIs ps)) Pa = some (.dK (kIs ps)) := upd_same
      have gow6 : L2.upd G Pa (.dK (kIs ps)) ow = some (.lst (strL ns)) := kpN gowA nPa
      have kp6 := kpA.new (o := .dK (kIs ps)) nPa
      have P6 := (PG.new (o := .dK (kIs ps)) nPa).mono (show c + 7 + ((strL (ns.take j.toNat)).length : Int) ≤ c + 12 by rw [strL_len]; omega)
      generalize L2.upd G Pa (.dK (kIs ps)) = G6 at hPa gow6 kp6 P6 ⊢
      clear pr gD kpG PG nPa gowA kpA gsl gow3 kp3 P3 nsl slp
      refine ⟨ow, rfl, ⟨_, SqL.of gow6⟩, fun D2 nD2 => lc_it walk_list
        (fun i G => Kp p G6 G ∧ Pe G p k0 (c + 12 + 4 * i) ∧ ∃ (as : List Addr) (kvs : List (Key × V)) (ts : List (List Nat × Int × Int)), (ts.map (·.1)).Sublist (ns.take i) ∧ TsOk ts ∧ G D2 = some (.lst (as.map V.ref)) ∧ PrP G as kvs ts)
        ⟨Kp.refl.new nD2, (P6.new nD2).mono (by omega), [], [], [], List.nil_sublist _, (fun _ z => nomatch z), upd_same, .nil⟩ (fun i G _ z => SqL.of (z.1 _ _ owp gow6)) ?_ ?_⟩
      · rintro i y G7 G8 hi ⟨kpG, PG, as2, kvs, ts, sub, tok, gD2, pp⟩ ⟨rfl, ey⟩
        rw [strL_len] at hi
        have eq : ns[i]? = some ns[i] := List.getElem?_eq_getElem hi
        unfold strL at ey
        rw [List.getElem?_map, eq] at ey
        generalize hn : ns[i] = n at eq ey
        obtain rfl : V.str (ofL n) = y := Option.some.inj ey
        have Dp := P6.ne nD2
        have Dk := P6.neL nD2
        have tkn : ns.take (i + 1) = ns.take i ++ [n] := by rw [List.take_add_one, eq]; rfl
        refine ⟨rfl, p, k0, _, 3, rfl, PG, by decide, by decide, by omega, fun r1 G9 r0 r3 k9 P9 => ?_⟩
        have gD9 := k9 _ _ Dp gD2
        show if decide (0 < r1) = true then _ else _
        by_cases z : (0 : Int) < r1
        · rw [if_pos (decide_eq_true z)]
          refine ⟨p, k0, _, rfl, P9, by omega, fun q G10 t b nq k10 P10 gq b0 St Sb => ⟨by show 2 ≤ sizeLine; decide, fun T_ nT => ?_⟩⟩
          have gD10 := k10 _ _ Dp gD9
          have gD11 : L2.upd G10 T_ (.tup [.str (ofL n), .ref q]) D2 = _ := kpN gD10 nT
          have al := pp.len
          have sl2 := sub.length_le
          rw [List.length_map, List.length_take] at sl2
          have k910 := k9.trans k10
          refine ⟨_, gD11, by rw [List.length_map, sizeLine_eq]; omega, ((kpG.trans k910).new nT).mut nD2, ((P10.new nT).mut Dp Dk).mono (by omega), as2 ++ [T_], kvs ++ [(.inr (ofL n), .ref q)], ts ++ [(n, t, b)], ?_, ?_, by rw [upd_same, List.map_append]; rfl, ?_⟩
          · rw [List.map_append, tkn]
            exact List.Sublist.append sub (List.Sublist.refl _)
          · intro x hx
            rcases List.mem_append.mp hx with hx | hx
            · exact tok x hx
            · rw [List.mem_singleton.mp hx]
              exact ⟨b0, St, Sb⟩
          · refine PrP.snoc (upd_tup gD11 _ _ upd_same) (upd_tup gD11 _ _ (kpN gq nT)) (pp.mo fun a xs e => upd_tup gD11 a xs (kpN (kp_tup PG k910 a xs e) nT))
        · rw [if_neg (by simpa using z)]
          exact ⟨kpG.trans k9, P9.mono (by omega), as2, kvs, ts, by rw [tkn]; exact sub.trans (List.sublist_append_left _ _), tok, gD9, pp.mo (kp_tup PG k9)⟩
      · rintro G7 ⟨kpG, PG, as2, kvs, ts, sub, tok, gD2, pp⟩
        rw [strL_len, n5, List.take_of_length_le (by omega)] at sub
        have tnd : (ts.map (·.1)).Nodup := nok.nd.sublist sub
        have tno : ∀ x ∈ ts, x.1 ≠ otherN := fun x hx => (nok.all _ (sub.subset (List.mem_map.mpr ⟨x, hx, rfl⟩))).2
        have tl5 : ts.length ≤ 5 := by
          have := sub.length_le
          rw [List.length_map] at this
          omega
        have tnm : ∀ x ∈ ts, Nm x.1 := fun x hx => (nok.all _ (sub.subset (List.mem_map.mpr ⟨x, hx, rfl⟩))).1
        refine ⟨D2, as2, kvs, rfl, SqL.of gD2, pp.pairs, fun Td nTd => ?_⟩
        rw [pp.kps.merge tnd]
        have kp8 := (kp6.trans kpG).new (o := .dK kvs) nTd
        have P8 := (PG.new (o := .dK kvs) nTd).mono (show c + 12 + 4 * ((strL ns).length : Int) ≤ c + 32 by rw [strL_len]; omega)
        have hTd : L2.upd G7 Td (.dK kvs) Td = some (.dK kvs) := upd_same
        have hPa7 := kpG _ _ pap hPa
        have hPa8 : L2.upd G7 Td (.dK kvs) Pa = some (.dK (kIs ps)) := kpN hPa7 nTd
        have TP : Td ≠ Pa := fun e => by rw [e, hPa7] at nTd; cases nTd
        have tdp := PG.ne nTd
        have tdk := PG.neL nTd
        have tdH : H Td = none := Kp.freeF (kp6.trans kpG) tdp nTd
        have kps8 : KPs (L2.upd G7 Td (.dK kvs)) kvs ts := pp.kps.mo fun q t b e => kpN e nTd
        generalize L2.upd G7 Td (.dK kvs) = G8 at kp8 P8 hTd hPa8 kps8 ⊢
        clear pp gD2 kpG PG nTd hPa7 kp6 P6 hPa gow6 nD2 now gow k1 P1
        refine ⟨p, k0, _, rfl, P8, by omega, fun q9 G9 t9 b9 nq9 k9 P9 gq9 b90 St9 Sb9 => ?_⟩
        have hTd9 := k9 _ _ tdp hTd
        have hPa9 := k9 _ _ pap hPa8
        have kps9 : KPs G9 kvs ts := kps8.mo fun q t b e => kp_tup P8 k9 q _ e
        have oN : (Str.ofString "other") = ofL otherN := by decide +kernel
        refine ⟨Td, _, rfl, DPut.k (k := .inr (Str.ofString "other")) hTd9 (by rw [kps9.len, sizeLine_eq]; omega), ?_⟩
        rw [oN, putK_new _ (kps9.out tno)]
        have kp10 := (kp8.trans k9).mut (o := .dK (kvs ++ [(.inr (ofL otherN), .ref q9)])) tdH
        have P10 : Pe (L2.upd G9 Td (.dK (kvs ++ [(.inr (ofL otherN), .ref q9)]))) p k0 (c + 32 + 3) := P9.mut tdp tdk
        have hTd10 : L2.upd G9 Td (.dK (kvs ++ [(.inr (ofL otherN), .ref q9)])) Td = some (.dK (kvs ++ [(.inr (ofL otherN), .ref q9)])) := upd_same
        have hPa10 : L2.upd G9 Td (.dK (kvs ++ [(.inr (ofL otherN), .ref q9)])) Pa = some (.dK (kIs ps)) := by rw [upd_ne (Ne.symm TP)]; exact hPa9
        have kps10 : KPs (L2.upd G9 Td (.dK (kvs ++ [(.inr (ofL otherN), .ref q9)]))) (kvs ++ [(.inr (ofL otherN), .ref q9)]) (ts ++ [(otherN, t9, b9)]) := by
          have nt : ∀ q xs, G9 q = some (.tup xs) → L2.upd G9 Td (.dK (kvs ++ [(.inr (ofL otherN), .ref q9)])) q = some (.tup xs) := fun q xs e => by rw [upd_ne (fun z => by rw [z, hTd9] at e; cases e)]; exact e
          exact KPs.snoc (nt _ _ gq9) (kps9.mo fun q t b e => nt _ _ e)
        generalize L2.upd G9 Td (.dK (kvs ++ [(.inr (ofL otherN), .ref q9)])) = G10 at kp10 P10 hTd10 hPa10 kps10 ⊢
        generalize kvs ++ [(.inr (ofL otherN), .ref q9)] = us at hTd10 kps10 ⊢
        have wok : TsOk (ts ++ [(otherN, t9, b9)]) := fun x hx => by
          rcases List.mem_append.mp hx with hx | hx
          · exact tok x hx
          · rw [List.mem_singleton.mp hx]
            exact ⟨b90, St9, Sb9⟩
        have wnd : ((ts ++ [(otherN, t9, b9)]).map (·.1)).Nodup := by
          rw [List.map_append, List.nodup_append]
          refine ⟨tnd, by simp, fun a ha b hb e => ?_⟩
          obtain ⟨x, hx, rfl⟩ := List.mem_map.mp ha
          have hb : b = otherN := by simpa using hb
          exact tno x hx (e.trans hb)
        have wnm : ∀ x ∈ ts ++ [(otherN, t9, b9)], Nm x.1 := fun x hx => by
          rcases List.mem_append.mp hx with hx | hx
          · exact tnm x hx
          · rw [List.mem_singleton.mp hx]
            show Nm otherN
            decide +kernel
        have wl : (ts ++ [(otherN, t9, b9)]).length ≤ 6 := by rw [List.length_append]; show ts.length + 1 ≤ 6; omega
        generalize ts ++ [(otherN, t9, b9)] = ws at kps10 wok wnd wnm wl ⊢
        clear kps9 hPa9 hTd9 gq9 k9 P9 kps8 hTd hPa8 kp8 P8 tno tnd tnm tl5 tok sub
        refine mkLn hPa10 pok fun r D3 G11 qs nr nD3 s11 at11 pm11 srt11 => ?_
        have hTd11 := s11 _ _ hTd10
        have hPa11 := s11 _ _ hPa10
        have kps11 : KPs G11 us ws := kps10.mo fun q t b e => s11 _ _ e
        have kp11 := kp10.trans (Kp.same s11)
        have P11 := P10.same s11
        have D3T : D3 ≠ Td := fun e => by rw [e, hTd10] at nD3; cases nD3
        clear kps10 hTd10 hPa10 P10 kp10 srt11
        refine ⟨Td, .dK us, hTd11, trivial, fun od => ⟨Td, od, rfl, .inl ⟨us, upd_same, fun D4 nD4 => lc_it (te := teQ K A) walk_keys
          (fun i G => Same (L2.upd G11 Td (.frz od (.dK us))) G ∧ ∃ (as : List Addr) (kv2 : List (Key × V)), G D4 = some (.lst (as.map V.ref)) ∧ PrR G (NuV A G) as kv2 ((ws.map red1).take i))
          ⟨Same.new (Same.refl _) nD4, [], [], upd_same, .nil⟩ (fun i G _ z => z.1 _ _ upd_same) ?_ ?_⟩⟩⟩
        · rintro i y G12 G13 hi ⟨s1, as4, kv2, gD4, pr⟩ ⟨rfl, ky, v, e1, rfl⟩
          obtain ⟨n, t, b, e2, rfl⟩ := kps11.at_ i ky v e1
          have me := List.mem_of_getElem? e2
          obtain ⟨q, v1, hq⟩ := kps11.get wnd me
          obtain ⟨b0, St, Sb⟩ := wok _ me
          have bz : b ≠ 0 := Int.ne_of_gt b0
          have hq13 : G13 q = some (.tup [.int t, .int b]) := s1 _ _ (by rw [upd_ne (fun z => by rw [z, hTd11] at hq; cases hq)]; exact hq)
          have dg : DGet G13 Td (.str (ofL n)) (some (.ref q)) := by
            have := dget_f (k := .inr (ofL n)) (s1 _ _ (upd_same : L2.upd G11 Td (.frz od (.dK us)) Td = _))
            rwa [v1] at this
          refine ⟨rfl, Td, .ref q, rfl, dg, _, _, .inr (SqT.of hq13), rfl, Td, .ref q, rfl, dg, _, _, .inr (SqT.of hq13), rfl, mkR bz (St.mono (by decide)) (Sb.mono (by decide)) fun r4 G14 nr4 s14 am4 => ⟨by show 2 ≤ sizeLine; decide, fun T_ nT4 => ?_⟩⟩
          have s15 := Same.new (o := .tup [.str (ofL n), .ref r4]) (Same.refl G14) nT4
          have gD15 := s15 _ _ (s14 _ _ gD4)
          have al := pr.len
          rw [List.length_take, List.length_map] at al
          have tk : (ws.map red1).take (i + 1) = (ws.map red1).take i ++ [(n, nT t b, nB t b)] := by rw [List.take_add_one, List.getElem?_map, e2]; rfl
          refine ⟨_, gD15, by rw [List.length_map, sizeLine_eq]; omega, Same.mut ((s1.trans s14).trans s15) nD4, as4 ++ [T_], kv2 ++ [(.inr (ofL n), .ref r4)], by rw [upd_same, List.map_append]; rfl, ?_⟩
          rw [tk]
          have nu4 : NuV A G14 (.ref r4) (nT t b) (nB t b) := ⟨.inl ⟨r4, rfl, am4⟩, low_n bz, (St.nT bz).mono (by decide), (Sb.nB bz).mono (by decide)⟩
          exact PrR.snoc (upd_tup gD15 _ _ upd_same) ((nu4.mo s15).upd gD15) (pr.mo (fun a xs e => upd_tup gD15 a xs (s15 _ _ (s14 _ _ e))) fun v t b z => ((z.mo s14).mo s15).upd gD15)
        · rintro G12 ⟨s1, as4, kv2, gD4, pr⟩
          have ul : us.length = ws.length := kps11.len
          rw [ul, List.take_of_length_le (by rw [List.length_map]; omega)] at pr
          have D4T : D4 ≠ Td := fun e => by rw [e, upd_same] at nD4; cases nD4
          have gT := s1 _ _ upd_same
          have s2 := back_lock hTd11 s1
          refine ⟨gT, ?_⟩
          have gD5 : L2.upd G12 Td (.dK us) D4 = some (.lst (as4.map V.ref)) := by rw [upd_ne D4T]; exact gD4
          have pr5 : PrR (L2.upd G12 Td (.dK us)) (NuV A (L2.upd G12 Td (.dK us))) as4 kv2 (ws.map red1) := pr.mo (fun a xs e => by rw [upd_ne (fun z => by rw [z, gT] at e; cases e)]; exact e) fun v t b z => z.updF gT
          generalize L2.upd G12 Td (.dK us) = G13 at s2 gD5 pr5 ⊢
          have rnd : ((ws.map red1).map (·.1)).Nodup := by
            have e : (ws.map red1).map (·.1) = ws.map (·.1) := by rw [List.map_map]; rfl
            rw [e]
            exact wnd
          refine ⟨D4, as4, kv2, rfl, SqL.of gD5, pr5.pairs, fun Pd nPd => ?_⟩
          rw [pr5.krs.merge rnd]
          have s3 := Same.new (o := .dK kv2) (Same.refl G13) nPd
          have hPd : L2.upd G13 Pd (.dK kv2) Pd = some (.dK kv2) := upd_same
          have kr5 : KRs (NuV A (L2.upd G13 Pd (.dK kv2))) kv2 (ws.map red1) := pr5.krs.mo fun v t b z => z.mo s3
          have s23 := s2.trans s3
          generalize L2.upd G13 Pd (.dK kv2) = G14 at s3 hPd kr5 s23 ⊢
          have wd : GwOk (ws.map red1) := ⟨rnd, by rw [List.length_map]; omega, fun x hx => by
            obtain ⟨z, hz, rfl⟩ := List.mem_map.mp hx
            exact wnm z hz⟩
          refine mkG4 hPd kr5 wd fun G15 x Dg gvs rs nx nDg s4 gat kr pm => ?_
          have s5 := s23.trans s4
          have at15 := at11.mo s5
          have DD : D3 ≠ Dg := fun e => by rw [← e] at nDg; have := s23 _ _ at11.2; rw [nDg] at this; cases this
          have hTd15 := s5 _ _ hTd11
          have hPa15 := s5 _ _ hPa11
          have kps15 : KPs G15 us ws := kps11.mo fun q t b e => s5 _ _ e
          have kp15 := kp11.trans (Kp.same s5)
          have P15 := P11.same s5
          have qok : PsOk qs := ⟨(pm11.map _).nodup_iff.mpr pok.nd, by rw [pm11.length_eq]; exact pok.l64, fun z hz => pok.all z (pm11.mem_iff.mp hz)⟩
          have ql5 : qs.length ≤ 5 := by rw [pm11.length_eq]; exact pl5
          have kra : KRs (AmS A G15) gvs (rs.filter nz) := krs_ams kr fun z hz => by
            obtain ⟨y, hy, rfl⟩ := List.mem_map.mp (pm.mem_iff.mp (List.mem_filter.mp hz).1)
            obtain ⟨b0, St, Sb⟩ := wok y hy
            have bz : y.2.2 ≠ 0 := Int.ne_of_gt b0
            exact ⟨low_n bz, (St.nT bz).mono (by decide), (Sb.nB bz).mono (by decide)⟩
          obtain ⟨⟨dr, hr_⟩, hD3⟩ := id at15
          clear kr5 pr5 pr gD5 hPd s3 s23 s2 gT s1 gD4 nPd kps11 hTd11 hPa11 kp11 P11 at11
          refine ⟨r, dr, _, rfl, hr_, rfl, r, D3, x, Dg, qs, gvs, rs.filter nz, rfl, at15, qok, by omega, gat, DD, kra, fun fd_ G16 nfd s6 am6 => ?_⟩
          obtain ⟨fl, fv⟩ := tot_val wok wnd pm qs
          obtain ⟨d0, dv⟩ := due_val wok ps
          rw [wS_perm pm11] at fv
          have fz : (totK (sel (rs.filter nz) qs)).2 ≠ 0 := by have := fl.1; omega
          have cross : (totK (sel (rs.filter nz) qs)).1 * (dueS ws ps).2 = (dueS ws ps).1 * (totK (sel (rs.filter nz) qs)).2 := (rv_eq fz (by omega)).mp (fv.trans dv.symm)
          have hPa16 := s6 _ _ hPa15
          have hTd16 := s6 _ _ hTd15
          have PT : Pa ≠ Td := Ne.symm TP
          refine ⟨Pa, Td, ps, us, ws, rfl, hPa16, pok, pl5, hTd16, PT, kps15.mo (fun q t b e => s6 _ _ e), wok, fun dq G17 ndq s7 hdq => ⟨_, _, rfl, ?_⟩⟩
          have am7 := am6.mo s7
          obtain ⟨fx, hfx⟩ := id am7
          refine ⟨_, _, _, _, true, rfl, .ins hfx U.cls U.ha U.hn U.ht U.hm, (fun u r => r), kit_self K A, ?_⟩
          refine ⟨fun h => absurd h (by decide), fun _ => ?_⟩
          obtain ⟨dS1, dS2⟩ := due_sm wok ps (0, 1) 0 (fun z hz => ⟨(pok.all z hz).2.1, (pok.all z hz).2.2.1⟩) (by unfold Sm; decide) (by unfold Sm; decide)
          have dS1 : Sm 1001 (dueS ws ps).1 := dS1.mono (by omega)
          have dS2 : Sm 1001 (dueS ws ps).2 := dS2.mono (by omega)
          obtain ⟨fle1, fle2⟩ := low_le fl (by omega) (fv.trans dv.symm)
          have fS1 : Sm 1001 (totK (sel (rs.filter nz) qs)).1 := Nat.lt_of_le_of_lt fle1 dS1
          have fS2 : Sm 1001 (totK (sel (rs.filter nz) qs)).2 := Nat.lt_of_le_of_lt fle2 dS2
          refine ⟨fd_, A, fx, _, _, rfl, hfx, U.cls, U.nT, rfl, _, _, .inr (SqT.of hdq), rfl, fS1.cMul dS2, _, _, .inr (SqT.of hdq), rfl, fd_, A, fx, _, _, rfl, hfx, U.cls, U.nB, rfl, dS1.cMul fS2, ?_⟩
          refine eq2_ne cross ⟨fun h => absurd h (by decide), fun _ => ?_⟩
          have s67 := s6.trans s7
          have at17 := at15.mo s67
          have gat17 := gat.mo s67
          have kra17 := kra.mo fun v t b z => z.mo s67
          refine ⟨⟨dr, _, s67 _ _ hr_⟩, r, D3, qs, rfl, at17, qok, fun r2 D5 G18 us2 nr2 nD5 s8 at2 pm2 => ?_⟩
          obtain ⟨⟨d2, hr2⟩, _⟩ := id at2
          have DD5 : D5 ≠ Dg := fun e => by rw [e, gat17.2] at nD5; cases nD5
          have nqok := qok.neg
          have uok : PsOk us2 := ⟨(pm2.map _).nodup_iff.mpr nqok.nd, by rw [pm2.length_eq]; exact nqok.l64, fun z hz => nqok.all z (pm2.mem_iff.mp hz)⟩
          have ul5 : us2.length ≤ 5 := by rw [pm2.length_eq, List.length_map]; exact ql5
          refine ⟨r2, d2, _, rfl, hr2, rfl, r2, D5, x, Dg, us2, gvs, rs.filter nz, rfl, at2, uok, by omega, gat17.mo s8, DD5, kra17.mo fun v t b z => z.mo s8, fun f2 G19 nf2 s9 am9 => ?_⟩
          obtain ⟨gl, gv⟩ := tot_val wok wnd pm us2
          rw [wS_perm pm2, wS_neg, wS_perm pm11] at gv
          have s89 := s8.trans s9
          have am8 := am7.mo s89
          refine ⟨⟨fx, _, s89 _ _ hfx⟩, fd_, _, _, rfl, am8, fl, fS1.mono (by decide), fS2.mono (by decide), fun n3 G20 nn3 s10 am10 => ?_⟩
          have lown : Low (-(totK (sel (rs.filter nz) qs)).1) (totK (sel (rs.filter nz) qs)).2 := low_neg fl
          have same : (totK (sel (rs.filter nz) us2)).1 = -(totK (sel (rs.filter nz) qs)).1 ∧ (totK (sel (rs.filter nz) us2)).2 = (totK (sel (rs.filter nz) qs)).2 := low_rv gl lown (by rw [gv, rv_neg, fv])
          have ge : gEq (totK (sel (rs.filter nz) us2)).1 (totK (sel (rs.filter nz) us2)).2 (-(totK (sel (rs.filter nz) qs)).1) (totK (sel (rs.filter nz) qs)).2 = true := by
            rw [same.1, same.2]
            simp [gEq]
          have uS1 : Sm 4300 (totK (sel (rs.filter nz) us2)).1 := by rw [same.1]; exact (fS1.neg).mono (by decide)
          have uS2 : Sm 4300 (totK (sel (rs.filter nz) us2)).2 := by rw [same.2]; exact fS2.mono (by decide)
          have am2 := am9.mo s10
          have i2 : IsI A G20 f2 := let ⟨e1, e2⟩ := am2; ⟨e1, _, e2⟩
          have i3 : IsI A G20 n3 := let ⟨e1, e2⟩ := am10; ⟨e1, _, e2⟩
          refine ⟨⟨i2, i3, f2, .ref n3, _, _, _, _, rfl, am2, .inl ⟨n3, rfl, am10⟩, gl, lown, uS1, uS2, (fS1.neg).mono (by decide), fS2.mono (by decide), fun G21 s11 => ⟨true, congrArg V.bl ge, ?_⟩⟩⟩
          refine ⟨fun h => absurd h (by decide), fun _ => ?_⟩
          have s12 := (s89.trans s10).trans s11
          have at21 := at17.mo s12
          have am21 := am7.mo s12
          refine ⟨r, dr, _, rfl, s12 _ _ (s67 _ _ hr_), rfl, rfl, r, D3, x, Dg, qs, gvs, rs.filter nz, rfl, at21, qok, by omega, gat17.mo s12, DD, kra17.mo fun v t b z => z.mo s12, fun f3 G22 nf3 s13 am3 => ?_⟩
          have am22 := am21.mo s13
          have i4 : IsI A G22 fd_ := let ⟨e1, e2⟩ := am22; ⟨e1, _, e2⟩
          have i5 : IsI A G22 f3 := let ⟨e1, e2⟩ := am3; ⟨e1, _, e2⟩
          refine ⟨i4, i5, fd_, .ref f3, _, _, _, _, rfl, am22, .inl ⟨f3, rfl, am3⟩, fl, fl, fS1.mono (by decide), fS2.mono (by decide), fS1.mono (by decide), fS2.mono (by decide), fun G23 s14 => ?_⟩
          have ge2 : gEq (totK (sel (rs.filter nz) qs)).1 (totK (sel (rs.filter nz) qs)).2 (totK (sel (rs.filter nz) qs)).1 (totK (sel (rs.filter nz) qs)).2 = true := by simp [gEq]
          rw [ge2]
          have s15 := ((s67.trans s12).trans s13).trans s14
          exact k _ (kp15.trans (Kp.same s15)) ((P15.same s15).mono (by omega))

end
end LW
set_option Elab.async false
set_option linter.all false
set_option maxRecDepth 100000
set_option maxHeartbeats 4000000
namespace LW
open PySem PySem.Spec PyProof.Rows L2 HX NumText
section
variable {P : Program} {w : World} {K : PySem.W.Frag} {mg : Str → Option Value} {base : Heap}

def spLaw (K : PySem.W.Frag) : Sp := fun vs H Q _ => ∃ (a : Addr) (ns : List Int), vs = [.ref a] ∧ SqL K H a (ns.map V.int) ∧ ∀ H', Q (.bl true) H'
theorem ok_law {f : Addr} {fd : FuncData} (F : Fun K "law" "law" s_law f fd) (T : Txt K mg) (T2 : Txt2 mg) (cPn : CalO P w K mg base "_law_pen" 1 ["_law_script"] (spPen K) (fun _ => True)) (cS : CalO P w K mg base "_law_sums_right" 10 ["_law_pen_here"] spSums (fun _ => True)) (cR : CalO P w K mg base "_law_refused_right" 10 ["_law_pen_here"] spRef (fun _ => True)) : FnG P w K mg base CX0 12 f fd ["_law_script"] (spLaw K) := by
  refine fun_okG F sc_law (fun vs H Q E h => ?_) (fun cdv A' outer s H vs Q E gd hr h => ?_)
  · obtain ⟨a, ns, rfl, _⟩ := h
    rfl
  · obtain ⟨a, ns, rfl, hs, k⟩ := h
    refine ⟨_, (pss_cons (ps_set (i := 1) sc_law.nd rfl (Or.inl rfl) (pe_cO cPn (hr.mono (by decide)) (pa_cons (pc 0) pa_nil)))
    (pss_cons (ps_for PassesOwn.never rfl (pi_range1 (by rfl) T.b_range (pa_cons pe_int pa_nil)) (pg_name (i := 2) sc_law.nd rfl (Or.inl rfl)) (pss_one (s_if (PW.pt (w_or (pt_not (t_val (pe_cO cS (hr.mono (by decide)) (pa_cons (pc 1) pa_nil)))) (pw_or1 (pt_not (t_val (pe_cO cR (hr.mono (by decide)) (pa_cons (pc 1) pa_nil))))))) (pss_one (ps_ret pe_bl)) pss_nil)))
    (pss_one (ps_ret pe_bl)))), ?_⟩
    refine ⟨a, ns, rfl, hs, fun p l G np sG P0 => ?_⟩
    refine ⟨8, rfl, by decide, by decide, for_range (lo := 0) (n := 8) (fun i σ G => ∃ x2, σ = [some (.ref a), some (.ref p), x2] ∧ Pe G p l (100 * i)) ⟨none, rfl, P0.mono (by omega)⟩ ?_ ?_⟩
    · rintro i σ G hi ⟨x2, rfl, Pi⟩
      refine ⟨p, l, 100 * i, rfl, Pi, by omega, fun G1 k1 P1 => ?_⟩
      refine ⟨fun h => absurd h (by decide), fun _ => ?_⟩
      refine ⟨p, l, _, rfl, P1, by omega, fun G2 k2 P2 => ?_⟩
      exact ⟨fun h => absurd h (by decide), fun _ => ⟨_, rfl, P2.mono (by omega)⟩⟩
    · rintro σ G ⟨x2, rfl, _⟩
      exact k _

end
end LW
set_option Elab.async false
set_option linter.all false
set_option maxRecDepth 100000
set_option maxHeartbeats 4000000
/-! A51: a head by one run: defs and facts told by a Hook, addresses found by functions of what is known -/
namespace HX
open PySem PySem.Spec PyProof.Rows L2
/-- one def: how it is found, its names, its text, its defaults -/
structure DefZ where
  adr : PySem.W.Frag → Addr
  name : Str
  qual : Str
  st : Stmt
  dfl : List He.Dv := []
def fnZ (K : PySem.W.Frag) (a : Addr) : He.FnW := match K.lookup a with
  | some ⟨_, _, .func fd, _⟩ => some (fd.name, fd.qualname, fd.params, fd.body, fd.scope, fd.globals, fd.closure, fd.builtins)
  | _ => none
def DefZ.val (d : DefZ) : He.FnW := some (d.name, d.qual, defArgs d.st, .stmts (defBody d.st), defScope d.st, mainGlobals, [], builtinsNs)
def DefZ.dvs (K : PySem.W.Frag) (d : DefZ) : List V := d.dfl.map (He.Dv.v K)
def DefZ.ok (K : PySem.W.Frag) (d : DefZ) : Bool := PySem.W.keepIn K (.ref (d.adr K)) && (match K.lookup (d.adr K) with
  | some ⟨_, _, .func fd, _⟩ => PySem.W.codeIn K fd.code d.qual && (He.dflB K fd.defaults (d.dvs K) && He.kwdB K fd.kwdefaults [])
  | _ => false)
theorem DefZ.funD {K : PySem.W.Frag} {d : DefZ} (e : fnZ K (d.adr K) = d.val) (c : d.ok K = true) : ∃ fd, FunD K d.name d.qual (defArgs d.st) (defBody d.st) (defScope d.st) (d.dvs K) [] (d.adr K) fd := by
  obtain ⟨kp, c2⟩ := He.ba c
  unfold fnZ at e
  cases q : K.lookup (d.adr K) with
  | none => rw [q] at c2; cases c2
  | some o =>
    obtain ⟨oc, od, dt, osl⟩ := o
    rw [q] at c2 e
    cases dt with
    | func fd =>
      obtain ⟨n1, n2, n3, n4, n5, n6, n7, n8, n9, n10, n11, n12, n13, n14, n15⟩ := fd
      have e2 : (some (n1, n2, n3, n4, n5, n6, n7, n15) : He.FnW) = some (d.name, d.qual, defArgs d.st, .stmts (defBody d.st), defScope d.st, mainGlobals, [], builtinsNs) := e
      simp only [Option.some.injEq, Prod.mk.injEq] at e2
      obtain ⟨z1, z2, z3, z4, z5, z6, z7, z8⟩ := e2
      subst z1 z2 z3 z4 z5 z6 z7 z8
      have c3 : (PySem.W.codeIn K n13 d.qual && (He.dflB K n8 (d.dvs K) && He.kwdB K n9 [])) = true := c2
      obtain ⟨k1, k2⟩ := He.ba c3
      obtain ⟨k3, k4⟩ := He.ba k2
      exact ⟨_, ⟨oc, od, n8, n9, n10, n11, n12, n13, n14, osl, rfl, q, k1, He.dflB_ok k3, He.kwdB_ok k4⟩, kp⟩
    | _ => cases c2
theorem funD_fun {K : PySem.W.Frag} {x q : Str} {st : Stmt} {f : Addr} {fd : FuncData} (F : FunD K x q (defArgs st) (defBody st) (defScope st) [] [] f fd) : Fun K x q st f fd := by
  obtain ⟨oc, od, dV, kV, doc, pm, an, cdv, ct, osl, rfl, lk, hcd, hD, hK⟩ := F.ex
  rcases hD with ⟨_, rfl⟩ | ⟨e, _⟩
  · exact ⟨⟨oc, od, kV, doc, pm, an, cdv, ct, osl, rfl, lk, hcd⟩, F.kp⟩
  · exact absurd rfl e
abbrev AlZ : Type := List He.FnW × Bool
def obsZ (fn : List DefZ) (ck : PySem.W.Frag → List Bool) (K : PySem.W.Frag) : AlZ := (fn.map fun d => fnZ K (d.adr K), (fn.all fun d => d.ok K) && (ck K).all id)
def valZ (fn : List DefZ) : AlZ := (fn.map DefZ.val, true)
def SaysZ (fn : List DefZ) (ck : PySem.W.Frag → List Bool) (K : PySem.W.Frag) : Prop := obsZ fn ck K = valZ fn
def obsZG (n : Nat) (fn : List DefZ) (ck : PySem.W.Frag → List Bool) (g : Addr → Option Obj) : AlZ := obsZ fn ck (He.frG g (cStatics :: He.asD g n))
def hookZ (n : Nat) (fn : List DefZ) (ck : PySem.W.Frag → List Bool) : PySem.W.Hook where
  α := AlZ
  obs := fun s => obsZG n fn ck s.heap.get?
  val := fun _ => valZ fn
  says := fun _ h => ∃ K : PySem.W.Frag, K.In h ∧ SaysZ fn ck K
  of := fun _ _ e => ⟨_, He.frG_in, e⟩
  keeps := fun _ _ _ ⟨K, hK, c⟩ k => ⟨K, PySem.W.Frag.In.keeps hK k, c⟩
theorem obsZG_eq {n : Nat} {fn : List DefZ} {ck : PySem.W.Frag → List Bool} {g : Addr → Option Obj} {s : Shared} (h : ∀ a, g a = s.heap.get? a) : obsZG n fn ck g = (hookZ n fn ck).obs s := by
  have e : g = s.heap.get? := funext h
  rw [e]
  rfl
section
variable {fn : List DefZ} {ck : PySem.W.Frag → List Bool} {K : PySem.W.Frag}
theorem SaysZ.def_ (c : SaysZ fn ck K) (i : Nat) {d : DefZ} (h : fn[i]? = some d := by rfl) : ∃ fd, FunD K d.name d.qual (defArgs d.st) (defBody d.st) (defScope d.st) (d.dvs K) [] (d.adr K) fd := by
  have e1 : (fn.map fun d => fnZ K (d.adr K)) = fn.map DefZ.val := congrArg (fun z : AlZ => z.1) c
  have e2 : ((fn.all fun d => d.ok K) && (ck K).all id) = true := congrArg (fun z : AlZ => z.2) c
  refine DefZ.funD ?_ (List.all_eq_true.mp (He.ba e2).1 d (List.mem_of_getElem? h))
  have z := congrArg (·[i]?) e1
  simp only [List.getElem?_map, h, Option.map_some, Option.some.injEq] at z
  exact z
theorem SaysZ.is (c : SaysZ fn ck K) (i : Nat) {b : Bool} (h : (ck K)[i]? = some b) : b = true := by
  have e2 : ((fn.all fun d => d.ok K) && (ck K).all id) = true := congrArg (fun z : AlZ => z.2) c
  exact List.all_eq_true.mp (He.ba e2).2 b (List.mem_of_getElem? h)
end
/-- a law by facts, for a def at which nothing is being shown -/
theorem walkGE {l : PySem.W.OpenLaw} {n k : Nat} {q : Program} {loose : List Str} {XP : (Str → Option Value) → Heap → Prop} {YP : World → Heap → Prop} {d : DefRec} {sp : PySem.W.Frag → Sp} {x : Str}
    (hm : l.most = some n) (hn : n ≤ sizeLine) (hdf : d.params.defaults = []) (hr : Room k callerA)
    (F : ∀ (w : World) (mg : Str → Option Value) (fa : Addr) (h : Heap), YP w h → h.Ns mainGlobals mg → mg d.name = some (.ref fa) →
      ∃ (K : PySem.W.Frag) (fd : FuncData), K.In h ∧ (∀ (s : Shared) (u : Value), BindsTo s fd ⟨[u], []⟩ [(x, u)]) ∧
        ∀ base : Heap, K.In base → base.Ns mainGlobals mg → FnG l.prog w K mg base CX0 k fa fd [x] (sp K))
    (hsp : ∀ (K : PySem.W.Frag) (H : Hp) (a : Addr) (ns : List Int), ns.length ≤ n → Only H → SqL K H a (ns.map V.int) → sp K [.ref a] H (fun v _ => v = .bl true) fun _ _ _ => False) :
    PySem.W.WalkO q loose XP YP l.row.toRowW d [] (fun f vs => PySem.call f vs) := by
  refine Att.attach_call hm hdf fun w s₀ s mg mb fa o pm cd doc a vs ns G Y ho hd hcd hmg hobj hi hlen hg => ?_
  obtain ⟨K, fd, kin, b1, f1⟩ := F w mg fa _ Y G.T.g hmg
  have rv := vals_ints hi
  have lv := hi.length
  cases e : K.lookup a with
  | some ob =>
    have z := kin a ob e
    rw [hobj] at z
    cases z
    refine law_goG (vs := vs) kin G.T.g G.T.b G.T.builtins G.T.nolimit hg (fun _ => none) (fun _ => .inl rfl) (fun _ _ z => nomatch z) (fun _ z => absurd rfl z) hr f1 b1 ?_ fun _ _ z => z
    refine hsp _ _ a ns hlen (fun _ => .inl rfl) (.inr ⟨_, vs.toArray, _, e, rfl, rfl, rfl, ?_, by simpa using rv⟩)
    rw [List.size_toArray, lv]
    exact Nat.le_trans hlen hn
  | none =>
    have at_ : ∀ b u, scr a { cls := .type "list", data := .seq vs.toArray } ns b = some u → b = a ∧ u = .frz { cls := .type "list", data := .seq vs.toArray } (.lst (ns.map V.int)) := fun b u z => by
      unfold scr at z
      split at z
      · rename_i hb
        exact ⟨hb, (Option.some.inj z).symm⟩
      · cases z
    refine law_goG (vs := vs) kin G.T.g G.T.b G.T.builtins G.T.nolimit hg (scr a { cls := .type "list", data := .seq vs.toArray } ns) (fun b => ?_) (fun b u z => ?_) (fun b z => ?_) hr f1 b1 ?_ fun _ _ z => z
    · cases z : scr a { cls := .type "list", data := .seq vs.toArray } ns b with
      | none => exact .inl rfl
      | some u => exact .inr ⟨_, _, by rw [(at_ b u z).2]⟩
    · obtain ⟨rfl, rfl⟩ := at_ b u z
      exact ⟨hobj, by rw [List.length_map]; exact Nat.le_trans hlen hn, vs, _, rv, hobj⟩
    · cases y : scr a { cls := .type "list", data := .seq vs.toArray } ns b with
      | none => exact absurd y z
      | some u =>
        obtain ⟨rfl, _⟩ := at_ b u y
        exact ⟨hobj, e⟩
    · refine hsp _ _ a ns hlen (fun b => ?_) (.inl (.inr ⟨_, if_pos rfl⟩))
      cases z : scr a { cls := .type "list", data := .seq vs.toArray } ns b with
      | none => exact .inl rfl
      | some u => exact .inr ⟨_, _, by rw [(at_ b u z).2]⟩
end HX
namespace HX
def cfEq : (a b : PySem.W.CFound) → Decidable (a = b)
  | .val v, .val v' => if h : v = v' then .isTrue (h ▸ rfl) else .isFalse (fun e => h (PySem.W.CFound.val.inj e))
  | .get a b c d, .get a' b' c' d' => if h : a = a' ∧ b = b' ∧ c = c' ∧ d = d' then .isTrue (by obtain ⟨rfl, rfl, rfl, rfl⟩ := h; rfl) else .isFalse (fun e => h (PySem.W.CFound.get.inj e))
  | .val _, .get _ _ _ _ => .isFalse (fun e => nomatch e)
  | .get _ _ _ _, .val _ => .isFalse (fun e => nomatch e)
instance : DecidableEq PySem.W.CFound := cfEq
end HX
namespace HX
open PySem PySem.Spec PyProof.Rows L2
/-- an own exception class below ValueError -/
def oexB (K : PySem.W.Frag) (C : Addr) : Bool := match K.lookup C with
  | some ⟨.type t, _, .cls cd, sl⟩ => (match cd.mro, sl.toList with
    | .ref C' :: bm, [_, _, _, _, some (.builtin n), _] => decide (t = "type") && (decide (C' = C) && (decide (n = "ValueError.__new__") && (!cd.hasDel && (cd.hasDict && PySem.HandSPX.refsVE bm))))
    | _, _ => false)
  | _ => false
theorem oexB_ok {K : PySem.W.Frag} {C : Addr} (h : oexB K C = true) : ∃ nm q N bs bm sn sub ab col dd k0 k1 k2 k3 k5, K.lookup C = some (excClassObj nm q C N bs bm true sn sub ab col dd k0 k1 k2 k3 k5 "ValueError.__new__") ∧ PySem.HandSPX.refsVE bm = true := by
  unfold oexB at h
  split at h
  · rename_i t dd cd sl lk
    split at h
    · rename_i C' bm a0 a1 a2 a3 n a5 e1 e2
      obtain ⟨h1, h2⟩ := He.ba h
      obtain ⟨h2, h3⟩ := He.ba h2
      obtain ⟨h3, h4⟩ := He.ba h3
      obtain ⟨h4, h5⟩ := He.ba h4
      obtain ⟨h5, h6⟩ := He.ba h5
      have h1 := of_decide_eq_true h1
      have h2 := of_decide_eq_true h2
      have h3 := of_decide_eq_true h3
      subst h1 h2 h3
      obtain ⟨c1, c2, c3, c4, c5, c6, c7, c8, c9, c10, c11⟩ := cd
      have e1 : c3 = .ref C' :: bm := e1
      have h4 : (!c11) = true := h4
      have h5 : c6 = true := h5
      obtain rfl : c11 = false := by simpa using h4
      subst e1 h5
      obtain ⟨l⟩ := sl
      have e2 : l = [a0, a1, a2, a3, some (.builtin "ValueError.__new__"), a5] := e2
      subst e2
      exact ⟨c1, c5, c4, c2, bm, c7, c8, c9, c10, dd, a0, a1, a2, a3, a5, lk, h6⟩
    · cases h
  · cases h
/-- addresses by what is known -/
def cfP : Option PySem.W.CFound → Addr
  | some (.get _ (.ref p) _ _) => p
  | _ => 0
def rcF : Option (List Value) → Addr
  | some (.ref f :: _) => f
  | _ => 0
def rcR : Option (List Value) → List Value
  | some (_ :: r) => r
  | _ => []
def gTok : Option (Option Value) → Tok
  | some (some (.int _ t)) => t
  | some (some (.str _ t)) => t
  | _ => 0
def cTok : Option PySem.W.CFound → Tok
  | some (.val (.int _ t)) => t
  | some (.val (.str _ t)) => t
  | _ => 0
end HX

set_option Elab.async false
set_option linter.all false
set_option maxRecDepth 100000
set_option maxHeartbeats 4000000
/-! A52: the head's facts over objects at told addresses: the tree walked once, the list of objects laid once -/
namespace HX
open PySem PySem.Spec PyProof.Rows L2
def frT {α : Type} : PySem.W.BT → (PySem.W.BT → α) → α
  | .nil, k => k .nil
  | .node v l r, k => frT l fun l => frT r fun r => k (.node v l r)
theorem frT_eq {α : Type} : ∀ (t : PySem.W.BT) (k : PySem.W.BT → α), frT t k = k t
  | .nil, _ => rfl
  | .node v l r, k => by
    show frT l (fun l => frT r fun r => k (.node v l r)) = _
    rw [frT_eq l, frT_eq r]
def frK {α : Type} (g : Addr → Option Obj) : List Addr → PySem.W.Frag → (PySem.W.Frag → α) → α
  | [], acc, k => k acc
  | a :: r, acc, k => match g a with
    | some ⟨c, d, dt, sl⟩ => frK g r ((a, ⟨c, d, dt, sl⟩) :: acc) k
    | none => frK g r acc k
theorem frK_ex {α : Type} {g : Addr → Option Obj} (k : PySem.W.Frag → α) : ∀ (as : List Addr) (acc : PySem.W.Frag), (∀ a o, acc.lookup a = some o → g a = some o) → ∃ K : PySem.W.Frag, (∀ a o, K.lookup a = some o → g a = some o) ∧ frK g as acc k = k K
  | [], acc, h => ⟨acc, h, rfl⟩
  | a :: r, acc, h => by
    cases e : g a with
    | none =>
      obtain ⟨K, h1, h2⟩ := frK_ex k r acc h
      refine ⟨K, h1, ?_⟩
      rw [← h2]
      show (match g a with | some ⟨c, d, dt, sl⟩ => frK g r ((a, ⟨c, d, dt, sl⟩) :: acc) k | none => frK g r acc k) = _
      rw [e]
    | some o =>
      obtain ⟨c, d, dt, sl⟩ := o
      obtain ⟨K, h1, h2⟩ := frK_ex (g := g) k r ((a, ⟨c, d, dt, sl⟩) :: acc) (fun b o q => by
        have q2 : (match b == a with | true => some (⟨c, d, dt, sl⟩ : Obj) | false => acc.lookup b) = some o := q
        cases z : (b == a) with
        | true =>
          rw [z] at q2
          rw [beq_iff_eq.mp z, e]
          exact q2
        | false =>
          rw [z] at q2
          exact h b o q2)
      refine ⟨K, h1, ?_⟩
      rw [← h2]
      show (match g a with | some ⟨c, d, dt, sl⟩ => frK g r ((a, ⟨c, d, dt, sl⟩) :: acc) k | none => frK g r acc k) = _
      rw [e]
def hookL (as : List Addr) (fn : List DefZ) (ck : PySem.W.Frag → List Bool) : PySem.W.Hook where
  α := AlZ
  obs := fun s => frK s.heap.get? as [] (obsZ fn ck)
  val := fun _ => valZ fn
  says := fun _ h => ∃ K : PySem.W.Frag, K.In h ∧ SaysZ fn ck K
  of := fun _ _ e => by
    obtain ⟨K, h1, h2⟩ := frK_ex (g := _) (obsZ fn ck) as [] (fun _ _ z => nomatch z)
    exact ⟨K, h1, h2.symm.trans e⟩
  keeps := fun _ _ _ ⟨K, hK, c⟩ k => ⟨K, PySem.W.Frag.In.keeps hK k, c⟩
def obL (as : List Addr) (fn : List DefZ) (ck : PySem.W.Frag → List Bool) (s : PySem.W.SharedT) : AlZ := frT s.tree fun T => frK (HandSHeadRun.getT { s with tree := T }) as [] (obsZ fn ck)
theorem obL_eq {as : List Addr} {fn : List DefZ} {ck : PySem.W.Frag → List Bool} (s : PySem.W.SharedT) : obL as fn ck s = (hookL as fn ck).obs s.abs := by
  have e : HandSHeadRun.getT s = s.abs.heap.get? := funext (HandSHeadRun.getT_eq s)
  show frT s.tree (fun T => frK (HandSHeadRun.getT { s with tree := T }) as [] (obsZ fn ck)) = frK s.abs.heap.get? as [] (obsZ fn ck)
  rw [frT_eq, ← e]
end HX

set_option Elab.async false
set_option linter.all false
set_option maxRecDepth 100000
set_option maxHeartbeats 40000000
namespace LW
open PySem PySem.Spec PyProof.Rows L2 HX NumText
theorem exm_mk {K : PySem.W.Frag} {C S : Addr} (h1 : PySem.W.subIn K (.ref S) (.type "BaseException") = some true) (h2 : PySem.W.isClsIn K S = true) (h3 : PySem.W.typeIn K (.ref S) = some (.type "type")) (h4 : PySem.W.subIn K (.ref C) (.ref S) = some true) :
    PySem.W.exmOne K (.ref C) (.ref S) = some true := by
  have e1 : (PySem.W.subIn K (.ref S) (.type "BaseException") == some true) = true := by rw [h1] <;> rfl
  have e2 : ((PySem.W.clsIn K S).isSome && PySem.W.typeIn K (.ref S) == some (.type "type")) = true := by
    have h2' : (PySem.W.clsIn K S).isSome = true := h2
    rw [h2', h3] <;> rfl
  unfold PySem.W.exmOne
  rw [if_pos e1]
  show (if ((PySem.W.clsIn K S).isSome && PySem.W.typeIn K (.ref S) == some (.type "type")) = true then PySem.W.subIn K (.ref C) (.ref S) else none) = some true
  rw [if_pos e2, h4]
theorem kb_2 {K : PySem.W.Frag} {f : Addr} {fd : FuncData} {x q p0 p : Str} {st : Stmt} (F : Fun K x q st f fd) (hb : ∀ (kV doc pm : Value) (an : Option Addr) (cdv ct : Value) (s : Shared) (z u : Value), BindsTo s (PySem.W.fnOf x q (defArgs st) (defBody st) (defScope st) .none kV doc pm an cdv ct) ⟨[z], [(p, u)]⟩ [(p0, z), (p, u)]) : KBn K fd [p0, p] 1 [p] (fun us ws => us ++ ws) (fun vs zs => vs ++ zs) := by
  obtain ⟨oc, od, kV, doc, pm, an, cdv, ct, osl, rfl, lk, hcd⟩ := F.ex
  exact ⟨fun s us ws _ l1 l2 => match us, ws, l1, l2 with | [z], [u], _, _ => hb kV doc pm an cdv ct s z u, fun r1 r2 => r1.append r2⟩
theorem all_mk {l : PySem.W.OpenLaw} {w : World} {K : PySem.W.Frag} {h : Heap} {mg : Str → Option Value} {fa : Addr} (X : K.In h) (G : h.Ns mainGlobals mg) (hfa : mg "law" = some (.ref fa))
    {A : Addr} {f_I : Addr} {p_of : Addr} {f_of : Addr} {rest_of : List Value} {p_num : Addr} {f_num : Addr} {rest_num : List Value} {t_MOST_LETTERS : Tok} {f_eq : Addr} {f_neg : Addr} {S : Addr} {BN : Addr} {BI : Addr} {f_IBI : Addr} {Ln : Addr} {tM : Tok} {f_li : Addr} {f_lng : Addr} {f_ls : Addr} {C : Addr} {f_G0 : Addr} {f_gg : Addr} {f_gc : Addr} {f_isint : Addr} {f_within : Addr} {f_sop : Addr} {f_isn : Addr} {f_need : Addr} {f_wp : Addr} {f_asc : Addr} {f_pen : Addr} {f_draw : Addr} {f_pick : Addr} {f_acc : Addr} {f_frac : Addr} {f_due : Addr} {f_sums : Addr} {f_heard : Addr} {f_ref : Addr} {f_law : Addr} {fd_I : FuncData} {fd_of : FuncData} {fd_num : FuncData} {fd_eq : FuncData} {fd_neg : FuncData} {fd_IBI : FuncData} {fd_li : FuncData} {fd_lng : FuncData} {fd_ls : FuncData} {fd_G0 : FuncData} {fd_gg : FuncData} {fd_gc : FuncData} {fd_isint : FuncData} {fd_within : FuncData} {fd_sop : FuncData} {fd_isn : FuncData} {fd_need : FuncData} {fd_wp : FuncData} {fd_asc : FuncData} {fd_pen : FuncData} {fd_draw : FuncData} {fd_pick : FuncData} {fd_acc : FuncData} {fd_frac : FuncData} {fd_due : FuncData} {fd_sums : FuncData} {fd_heard : FuncData} {fd_ref : FuncData} {fd_law : FuncData}
    (n_int : PySem.W.nsIn K mainGlobals "int" = some none)
    (n_len : PySem.W.nsIn K mainGlobals "len" = some none)
    (n_abs : PySem.W.nsIn K mainGlobals "abs" = some none)
    (n_list : PySem.W.nsIn K mainGlobals "list" = some none)
    (n_range : PySem.W.nsIn K mainGlobals "range" = some none)
    (n_isinstance : PySem.W.nsIn K mainGlobals "isinstance" = some none)
    (n_repr : PySem.W.nsIn K mainGlobals "repr" = some none)
    (n_bool : PySem.W.nsIn K mainGlobals "bool" = some none)
    (n_str : PySem.W.nsIn K mainGlobals "str" = some none)
    (n_dict : PySem.W.nsIn K mainGlobals "dict" = some none)
    (n_sorted : PySem.W.nsIn K mainGlobals "sorted" = some none)
    (n_all : PySem.W.nsIn K mainGlobals "all" = some none)
    (hn : PySem.W.specialIn K (.builtin "object.__class__") "__get__" = some (some (.builtin "getset_descriptor.__get__")))
    (ht : PySem.W.takesIn K (.builtin "object.__class__") = some true)
    (a_A : PySem.W.nsIn K mainGlobals "Amount" = some (some (.ref A)))
    (pg_A : PySem.W.plainGet K A Str.empty = true)
    (hd_A : PySem.W.hasDictIn K A = true)
    (po_A : PySem.W.plainOver K A = true)
    (sa_A : PySem.W.findIn K (.ref A) "__setattr__" = some (some (.builtin "object.__setattr__")))
    (mk_A : PySem.W.makesIn K A = true)
    (kA_A : PySem.W.keepIn K (.ref A) = true)
    (ha_A : PySem.W.findIn K (.ref A) "__class__" = some (some (.builtin "object.__class__")))
    (hm_A : PySem.W.mroIn K A (.type "object") = some true)
    (sub_A : PySem.W.subIn K (.ref A) (.type "int") = some false)
    (rd_A : PySem.W.readsIn K A (.type "type") = true)
    (gat_A : PySem.W.specialIn K (.ref A) "__getattribute__" = some (some (.builtin "type.__getattribute__")))
    (no_A_top : PySem.W.findIn K (.ref A) "top" = some none)
    (no_A_bottom : PySem.W.findIn K (.ref A) "bottom" = some none)
    (first_A : PySem.W.selfFirst K A = true)
    (hgcd : PySem.W.nsIn K mainGlobals "gcd" = some (some (.builtin "math.gcd")))
    (tI : PySem.W.kitOne K (.ref A) (.type "int") = some false)
    (tA : PySem.W.kitOne K (.type "int") (.ref A) = some false)
    (a_I : PySem.W.findIn K (.ref A) "__init__" = some (some (.ref f_I)))
    (i_I : PySem.W.isFn K (.ref f_I) = true)
    (a_of : PySem.W.findCls K (.ref A) (.type "type") "of" = some (.get (.builtin "staticmethod.__get__") (.ref p_of) .none (.ref A)))
    (r_of : PySem.W.recIn K p_of "staticmethod" = some (.ref f_of :: rest_of))
    (i_of : PySem.W.isFn K (.ref f_of) = true)
    (k_of : PySem.W.keepIn K (.ref f_of) = true)
    (a_num : PySem.W.findCls K (.ref A) (.type "type") "is_number" = some (.get (.builtin "staticmethod.__get__") (.ref p_num) .none (.ref A)))
    (r_num : PySem.W.recIn K p_num "staticmethod" = some (.ref f_num :: rest_num))
    (i_num : PySem.W.isFn K (.ref f_num) = true)
    (k_num : PySem.W.keepIn K (.ref f_num) = true)
    (g_MOST_LETTERS : PySem.W.nsIn K mainGlobals "MOST_LETTERS" = some (some (.int 8 t_MOST_LETTERS)))
    (hlcm : PySem.W.nsIn K mainGlobals "lcm" = some (some (.builtin "math.lcm")))
    (a_eq : PySem.W.findIn K (.ref A) "__eq__" = some (some (.ref f_eq)))
    (i_eq : PySem.W.isFn K (.ref f_eq) = true)
    (k_eq : PySem.W.keepIn K (.ref f_eq) = true)
    (a_neg : PySem.W.findIn K (.ref A) "__neg__" = some (some (.ref f_neg)))
    (i_neg : PySem.W.isFn K (.ref f_neg) = true)
    (k_neg : PySem.W.keepIn K (.ref f_neg) = true)
    (ne_A : PySem.W.findIn K (.ref A) "__ne__" = some (some (.builtin "object.__ne__")))
    (a_S : PySem.W.nsIn K mainGlobals "ShiftError" = some (some (.ref S)))
    (a_BN : PySem.W.nsIn K mainGlobals "BadInput" = some (some (.ref BN)))
    (iS : PySem.W.isClsIn K S = true)
    (tS : PySem.W.typeIn K (.ref S) = some (.type "type"))
    (bS : PySem.W.subIn K (.ref S) (.type "BaseException") = some true)
    (a_BI : PySem.W.nsIn K mainGlobals "BadItem" = some (some (.ref BI)))
    (xB_BI : oexB K BI = true)
    (sa_BI : PySem.W.findIn K (.ref BI) "__setattr__" = some (some (.builtin "object.__setattr__")))
    (eC_BI : PySem.W.subIn K (.ref BI) (.type "BaseException") = some true)
    (tC_BI : PySem.W.typeIn K (.ref BI) = some (.type "type"))
    (kC_BI : PySem.W.keepIn K (.ref BI) = true)
    (ga_BI : PySem.W.findIn K (.ref BI) "__getattribute__" = some (some (.builtin "BaseException.__getattribute__")))
    (gg_BI : PySem.W.findIn K (.ref BI) "__getattr__" = some none)
    (hd_BI : PySem.W.hasDictIn K BI = true)
    (ha_BI : PySem.W.findIn K (.ref BI) "__class__" = some (some (.builtin "object.__class__")))
    (hn_BI : PySem.W.specialIn K (.builtin "object.__class__") "__get__" = some (some (.builtin "getset_descriptor.__get__")))
    (ht_BI : PySem.W.takesIn K (.builtin "object.__class__") = some true)
    (hm_BI : PySem.W.mroIn K BI (.type "object") = some true)
    (no_BI_part : PySem.W.findIn K (.ref BI) "part" = some none)
    (a_IBI : PySem.W.findIn K (.ref BI) "__init__" = some (some (.ref f_IBI)))
    (t_IBI : PySem.W.typeIn K (.ref f_IBI) = some (.type "function"))
    (sBS : PySem.W.subIn K (.ref BI) (.ref S) = some true)
    (a_Ln : PySem.W.nsIn K mainGlobals "Linear" = some (some (.ref Ln)))
    (pg_Ln : PySem.W.plainGet K Ln Str.empty = true)
    (hd_Ln : PySem.W.hasDictIn K Ln = true)
    (po_Ln : PySem.W.plainOver K Ln = true)
    (sa_Ln : PySem.W.findIn K (.ref Ln) "__setattr__" = some (some (.builtin "object.__setattr__")))
    (mk_Ln : PySem.W.makesIn K Ln = true)
    (kA_Ln : PySem.W.keepIn K (.ref Ln) = true)
    (ha_Ln : PySem.W.findIn K (.ref Ln) "__class__" = some (some (.builtin "object.__class__")))
    (hm_Ln : PySem.W.mroIn K Ln (.type "object") = some true)
    (sub_Ln : PySem.W.subIn K (.ref Ln) (.type "int") = some false)
    (rd_Ln : PySem.W.readsIn K Ln (.type "type") = true)
    (gat_Ln : PySem.W.specialIn K (.ref Ln) "__getattribute__" = some (some (.builtin "type.__getattribute__")))
    (no_Ln__parts : PySem.W.findIn K (.ref Ln) "_parts" = some none)
    (fM : PySem.W.findCls K (.ref Ln) (.type "type") "MOST" = some (.val (.int 9 tM)))
    (a_li : PySem.W.findIn K (.ref Ln) "__init__" = some (some (.ref f_li)))
    (i_li : PySem.W.isFn K (.ref f_li) = true)
    (k_li : PySem.W.keepIn K (.ref f_li) = true)
    (a_lng : PySem.W.findIn K (.ref Ln) "__neg__" = some (some (.ref f_lng)))
    (i_lng : PySem.W.isFn K (.ref f_lng) = true)
    (k_lng : PySem.W.keepIn K (.ref f_lng) = true)
    (a_ls : PySem.W.findIn K (.ref Ln) "sum_of" = some (some (.ref f_ls)))
    (i_ls : PySem.W.isFn K (.ref f_ls) = true)
    (k_ls : PySem.W.keepIn K (.ref f_ls) = true)
    (kLD : PySem.W.kitOne K (.ref Ln) (.type "dict") = some false)
    (a_C : PySem.W.nsIn K mainGlobals "Gaps" = some (some (.ref C)))
    (pg_C : PySem.W.plainGet K C Str.empty = true)
    (hd_C : PySem.W.hasDictIn K C = true)
    (po_C : PySem.W.plainOver K C = true)
    (sa_C : PySem.W.findIn K (.ref C) "__setattr__" = some (some (.builtin "object.__setattr__")))
    (mk_C : PySem.W.makesIn K C = true)
    (kA_C : PySem.W.keepIn K (.ref C) = true)
    (ha_C : PySem.W.findIn K (.ref C) "__class__" = some (some (.builtin "object.__class__")))
    (hm_C : PySem.W.mroIn K C (.type "object") = some true)
    (sub_C : PySem.W.subIn K (.ref C) (.type "int") = some false)
    (rd_C : PySem.W.readsIn K C (.type "type") = true)
    (gat_C : PySem.W.specialIn K (.ref C) "__getattribute__" = some (some (.builtin "type.__getattribute__")))
    (no_C__told : PySem.W.findIn K (.ref C) "_told" = some none)
    (a_G0 : PySem.W.findIn K (.ref C) "__init__" = some (some (.ref f_G0)))
    (i_G0 : PySem.W.isFn K (.ref f_G0) = true)
    (a_gg : PySem.W.findIn K (.ref C) "__getitem__" = some (some (.ref f_gg)))
    (i_gg : PySem.W.isFn K (.ref f_gg) = true)
    (k_gg : PySem.W.keepIn K (.ref f_gg) = true)
    (a_gc : PySem.W.findIn K (.ref C) "__contains__" = some (some (.ref f_gc)))
    (i_gc : PySem.W.isFn K (.ref f_gc) = true)
    (k_gc : PySem.W.keepIn K (.ref f_gc) = true)
    (fn_gg : PySem.W.fnIn K f_gg = true)
    (a_isint : PySem.W.nsIn K mainGlobals "is_int" = some (some (.ref f_isint)))
    (a_within : PySem.W.nsIn K mainGlobals "is_int_within" = some (some (.ref f_within)))
    (a_sop : PySem.W.nsIn K mainGlobals "sum_of_products" = some (some (.ref f_sop)))
    (a_isn : PySem.W.nsIn K mainGlobals "is_name" = some (some (.ref f_isn)))
    (a_need : PySem.W.nsIn K mainGlobals "need_name" = some (some (.ref f_need)))
    (a_wp : PySem.W.nsIn K mainGlobals "wrong_part" = some (some (.ref f_wp)))
    (a_asc : PySem.W.nsIn K mainGlobals "_ascending_names" = some (some (.ref f_asc)))
    (a_pen : PySem.W.nsIn K mainGlobals "_law_pen" = some (some (.ref f_pen)))
    (a_draw : PySem.W.nsIn K mainGlobals "_law_draw" = some (some (.ref f_draw)))
    (a_pick : PySem.W.nsIn K mainGlobals "_law_pick" = some (some (.ref f_pick)))
    (a_acc : PySem.W.nsIn K mainGlobals "_law_accounts" = some (some (.ref f_acc)))
    (a_frac : PySem.W.nsIn K mainGlobals "_law_fraction" = some (some (.ref f_frac)))
    (a_due : PySem.W.nsIn K mainGlobals "_law_sum" = some (some (.ref f_due)))
    (a_sums : PySem.W.nsIn K mainGlobals "_law_sums_right" = some (some (.ref f_sums)))
    (a_heard : PySem.W.nsIn K mainGlobals "_law_heard" = some (some (.ref f_heard)))
    (a_ref : PySem.W.nsIn K mainGlobals "_law_refused_right" = some (some (.ref f_ref)))
    (a_law : PySem.W.nsIn K mainGlobals "law" = some (some (.ref f_law)))
    (F_I : FunD K "__init__" "Amount.__init__" (defArgs s_Amount_init) (defBody s_Amount_init) (defScope s_Amount_init) [.int 1] [] f_I fd_I)
    (F_of : Fun K "of" "Amount.of" s_Amount_of f_of fd_of)
    (F_num : Fun K "is_number" "Amount.is_number" s_Amount_is_number f_num fd_num)
    (F_eq : Fun K "__eq__" "Amount.__eq__" s_Amount_eq f_eq fd_eq)
    (F_neg : Fun K "__neg__" "Amount.__neg__" s_Amount_neg f_neg fd_neg)
    (F_IBI : Fun K "__init__" "BadItem.__init__" s_BadItem_init f_IBI fd_IBI)
    (F_li : Fun K "__init__" "Linear.__init__" s_Linear_init f_li fd_li)
    (F_lng : Fun K "__neg__" "Linear.__neg__" s_Linear_neg f_lng fd_lng)
    (F_ls : Fun K "sum_of" "Linear.sum_of" s_Linear_sum_of f_ls fd_ls)
    (F_G0 : FunD K "__init__" "Gaps.__init__" (defArgs s_Gaps_init) (defBody s_Gaps_init) (defScope s_Gaps_init) [.non] [] f_G0 fd_G0)
    (F_gg : Fun K "__getitem__" "Gaps.__getitem__" s_Gaps_getitem f_gg fd_gg)
    (F_gc : Fun K "__contains__" "Gaps.__contains__" s_Gaps_contains f_gc fd_gc)
    (F_isint : Fun K "is_int" "is_int" s_is_int f_isint fd_isint)
    (F_within : Fun K "is_int_within" "is_int_within" s_is_int_within f_within fd_within)
    (F_sop : Fun K "sum_of_products" "sum_of_products" s_sum_of_products f_sop fd_sop)
    (F_isn : Fun K "is_name" "is_name" s_is_name f_isn fd_isn)
    (F_need : Fun K "need_name" "need_name" s_need_name f_need fd_need)
    (F_wp : Fun K "wrong_part" "wrong_part" s_wrong_part f_wp fd_wp)
    (F_asc : Fun K "_ascending_names" "_ascending_names" s__ascending_names f_asc fd_asc)
    (F_pen : Fun K "_law_pen" "_law_pen" s__law_pen f_pen fd_pen)
    (F_draw : Fun K "_law_draw" "_law_draw" s__law_draw f_draw fd_draw)
    (F_pick : Fun K "_law_pick" "_law_pick" s__law_pick f_pick fd_pick)
    (F_acc : Fun K "_law_accounts" "_law_accounts" s__law_accounts f_acc fd_acc)
    (F_frac : Fun K "_law_fraction" "_law_fraction" s__law_fraction f_frac fd_frac)
    (F_due : Fun K "_law_sum" "_law_sum" s__law_sum f_due fd_due)
    (F_sums : Fun K "_law_sums_right" "_law_sums_right" s__law_sums_right f_sums fd_sums)
    (F_heard : Fun K "_law_heard" "_law_heard" s__law_heard f_heard fd_heard)
    (F_ref : Fun K "_law_refused_right" "_law_refused_right" s__law_refused_right f_ref fd_ref)
    (D_law : FunD K "law" "law" (defArgs s_law) (defBody s_law) (defScope s_law) [] [] f_law fd_law) :
    ∃ fd : FuncData, (∀ (s : Shared) (v : Value), BindsTo s fd ⟨[v], []⟩ [("_law_script", v)]) ∧ ∀ base : Heap, K.In base → base.Ns mainGlobals mg → FnG l.prog w K mg base CX0 12 fa fd ["_law_script"] (spLaw K) := by
  have F_law := funD_fun D_law
  have e := hfa.symm.trans (PySem.W.mg_of X G a_law)
  cases e
  have mn_int := PySem.W.mg_none_of X G n_int
  have mn_len := PySem.W.mg_none_of X G n_len
  have mn_abs := PySem.W.mg_none_of X G n_abs
  have mn_list := PySem.W.mg_none_of X G n_list
  have mn_range := PySem.W.mg_none_of X G n_range
  have mn_isinstance := PySem.W.mg_none_of X G n_isinstance
  have mn_repr := PySem.W.mg_none_of X G n_repr
  have mn_bool := PySem.W.mg_none_of X G n_bool
  have mn_str := PySem.W.mg_none_of X G n_str
  have mn_dict := PySem.W.mg_none_of X G n_dict
  have mn_sorted := PySem.W.mg_none_of X G n_sorted
  have mn_all := PySem.W.mg_none_of X G n_all
  have m_A := PySem.W.mg_of X G a_A
  have cls_A : Cls K A := ⟨pg_A, hd_A, po_A, sa_A⟩
  obtain ⟨ds1_I, v1_I, b1_I⟩ := F_I.binds1 (ps := ["self", "top", "bottom"]) 2 0 (by decide) rfl fun _ _ _ _ _ _ _ us its h1 h2 => match us, its, h1, h2 with | [_, _], [_], _, _ => ⟨_, rfl, rfl⟩
  obtain ⟨ds2_I, v2_I, b2_I⟩ := F_I.binds1 (ps := ["self", "top", "bottom"]) 3 1 (by decide) rfl fun _ _ _ _ _ _ _ us its h1 h2 => match us, its, h1, h2 with | [_, _, _], [_], _, _ => ⟨_, rfl, rfl⟩
  cases v2_I
  have b_of := F_of.binds (ps := ["number"]) fun _ _ _ _ _ _ us hl => match us, hl with | [_], _ => rfl
  have b_num := F_num.binds (ps := ["value"]) fun _ _ _ _ _ _ us hl => match us, hl with | [_], _ => rfl
  have mg_MOST_LETTERS := PySem.W.mg_of X G g_MOST_LETTERS
  have b_eq := F_eq.binds (ps := ["self", "other"]) fun _ _ _ _ _ _ us hl => match us, hl with | [_, _], _ => rfl
  have b_neg := F_neg.binds (ps := ["self"]) fun _ _ _ _ _ _ us hl => match us, hl with | [_], _ => rfl
  have m_S := PySem.W.mg_of X G a_S
  have m_BN := PySem.W.mg_of X G a_BN
  have m_BI := PySem.W.mg_of X G a_BI
  have ox_BI : OexC K BI := ⟨oexB_ok xB_BI, sa_BI, eC_BI, tC_BI, kC_BI⟩
  have ex_BI : ExC K BI := ⟨ga_BI, gg_BI, eC_BI, hd_BI, ha_BI, hn_BI, ht_BI, hm_BI⟩
  have b_IBI := F_IBI.binds (ps := ["self", "part"]) fun _ _ _ _ _ _ us hl => match us, hl with | [_, _], _ => rfl
  have rx_BI : RxC K mg "BadItem" BI f_IBI := ⟨ox_BI, a_IBI, t_IBI, m_BI⟩
  have zE_BI : ∀ base : Heap, ErrC l.prog w K mg base "BadItem" BI ["self", "part"] (spI1 BI "part") := fun base => ⟨f_IBI, _, rx_BI, ok_init1 F_IBI ox_BI no_BI_part sc_BadItem_init ⟨_, _, _, _, rfl⟩, b_IBI⟩
  have m_Ln := PySem.W.mg_of X G a_Ln
  have cls_Ln : Cls K Ln := ⟨pg_Ln, hd_Ln, po_Ln, sa_Ln⟩
  have b_li := F_li.binds (ps := ["self", "parts"]) fun _ _ _ _ _ _ us hl => match us, hl with | [_, _], _ => rfl
  have b_lng := F_lng.binds (ps := ["self"]) fun _ _ _ _ _ _ us hl => match us, hl with | [_], _ => rfl
  have b_ls := F_ls.binds (ps := ["self", "gaps"]) fun _ _ _ _ _ _ us hl => match us, hl with | [_, _], _ => rfl
  have m_C := PySem.W.mg_of X G a_C
  have cls_C : Cls K C := ⟨pg_C, hd_C, po_C, sa_C⟩
  obtain ⟨ds1_G0, v1_G0, b1_G0⟩ := F_G0.binds1 (ps := ["self", "values"]) 1 0 (by decide) rfl fun _ _ _ _ _ _ _ us its h1 h2 => match us, its, h1, h2 with | [_], [_], _, _ => ⟨_, rfl, rfl⟩
  obtain ⟨ds2_G0, v2_G0, b2_G0⟩ := F_G0.binds1 (ps := ["self", "values"]) 2 1 (by decide) rfl fun _ _ _ _ _ _ _ us its h1 h2 => match us, its, h1, h2 with | [_, _], [_], _, _ => ⟨_, rfl, rfl⟩
  cases v2_G0
  have b_gg := F_gg.binds (ps := ["self", "account"]) fun _ _ _ _ _ _ us hl => match us, hl with | [_, _], _ => rfl
  have b_gc := F_gc.binds (ps := ["self", "value"]) fun _ _ _ _ _ _ us hl => match us, hl with | [_, _], _ => rfl
  have b_isint := F_isint.binds (ps := ["value"]) fun _ _ _ _ _ _ us hl => match us, hl with | [_], _ => rfl
  have m_isint := PySem.W.mg_of X G a_isint
  have b_within := F_within.binds (ps := ["value", "least", "most"]) fun _ _ _ _ _ _ us hl => match us, hl with | [_, _, _], _ => rfl
  have m_within := PySem.W.mg_of X G a_within
  have b_sop := F_sop.binds (ps := ["pairs"]) fun _ _ _ _ _ _ us hl => match us, hl with | [_], _ => rfl
  have m_sop := PySem.W.mg_of X G a_sop
  have b_isn := F_isn.binds (ps := ["value"]) fun _ _ _ _ _ _ us hl => match us, hl with | [_], _ => rfl
  have m_isn := PySem.W.mg_of X G a_isn
  have b_need := F_need.binds (ps := ["value"]) fun _ _ _ _ _ _ us hl => match us, hl with | [_], _ => rfl
  have m_need := PySem.W.mg_of X G a_need
  have b_wp := F_wp.binds (ps := ["parts"]) fun _ _ _ _ _ _ us hl => match us, hl with | [_], _ => rfl
  have m_wp := PySem.W.mg_of X G a_wp
  have b_asc := F_asc.binds (ps := ["values"]) fun _ _ _ _ _ _ us hl => match us, hl with | [_], _ => rfl
  have m_asc := PySem.W.mg_of X G a_asc
  have b_pen := F_pen.binds (ps := ["_law_script"]) fun _ _ _ _ _ _ us hl => match us, hl with | [_], _ => rfl
  have m_pen := PySem.W.mg_of X G a_pen
  have b_draw := F_draw.binds (ps := ["_law_pen_here", "_law_many"]) fun _ _ _ _ _ _ us hl => match us, hl with | [_, _], _ => rfl
  have m_draw := PySem.W.mg_of X G a_draw
  have b_pick := F_pick.binds (ps := ["_law_pen_here", "_law_some"]) fun _ _ _ _ _ _ us hl => match us, hl with | [_, _], _ => rfl
  have m_pick := PySem.W.mg_of X G a_pick
  have b_acc := F_acc.binds (ps := ["_law_pen_here", "_law_many"]) fun _ _ _ _ _ _ us hl => match us, hl with | [_, _], _ => rfl
  have m_acc := PySem.W.mg_of X G a_acc
  have b_frac := F_frac.binds (ps := ["_law_pen_here"]) fun _ _ _ _ _ _ us hl => match us, hl with | [_], _ => rfl
  have m_frac := PySem.W.mg_of X G a_frac
  have b_due := F_due.binds (ps := ["_law_parts", "_law_told"]) fun _ _ _ _ _ _ us hl => match us, hl with | [_, _], _ => rfl
  have m_due := PySem.W.mg_of X G a_due
  have b_sums := F_sums.binds (ps := ["_law_pen_here"]) fun _ _ _ _ _ _ us hl => match us, hl with | [_], _ => rfl
  have m_sums := PySem.W.mg_of X G a_sums
  have b_heard := F_heard.binds (ps := ["_law_thing"]) fun _ _ _ _ _ _ us hl => match us, hl with | [_], _ => rfl
  have m_heard := PySem.W.mg_of X G a_heard
  have b_ref := F_ref.binds (ps := ["_law_pen_here"]) fun _ _ _ _ _ _ us hl => match us, hl with | [_], _ => rfl
  have m_ref := PySem.W.mg_of X G a_ref
  have b_law := F_law.binds (ps := ["_law_script"]) fun _ _ _ _ _ _ us hl => match us, hl with | [_], _ => rfl
  have m_law := PySem.W.mg_of X G a_law
  refine ⟨fd_law, fun s v => FunD.bindsA (ps := ["_law_script"]) D_law (fun _ _ _ _ _ _ us hl => match us, hl with | [_], _ => rfl) s [v] rfl, fun base _ _ => ?_⟩
  have T_ : Txt K mg := ⟨mn_int, mn_len, mn_abs, mn_list, mn_range, mn_isinstance, mn_repr, mn_bool⟩
  have T2_ : Txt2 mg := ⟨mn_str⟩
  have U : AmC K mg A f_I p_of f_of p_num f_num (.type "type") := ⟨m_A, PySem.W.mg_of X G hgcd, cls_A, no_A_top, no_A_bottom, ⟨mk_A, a_I, i_I, kA_A⟩, ha_A, hn, ht, hm_A, tI, tA, ⟨⟨rd_A, gat_A⟩, a_of, ⟨_, r_of⟩, F_of.kp⟩, ⟨⟨rd_A, gat_A⟩, a_num, ⟨_, r_num⟩, F_num.kp⟩⟩
  have cI : CalO l.prog w K mg base "is_int" 1 ["value"] (spIsInt A) (fun _ => True) := ⟨_, _, ok_is_int F_isint T_ U, m_isint, F_isint.kp, b_isint, trivial⟩
  have cIV : CalO l.prog w K mg base "is_int" 1 ["value"] spIsIntV (fun _ => True) := ⟨_, _, ok_isintV F_isint T_, m_isint, F_isint.kp, b_isint, trivial⟩
  have cW : CalO l.prog w K mg base "is_int_within" 2 ["value", "least", "most"] spWithin (fun _ => True) := ⟨_, _, ok_within F_within T_ cIV, m_within, F_within.kp, b_within, trivial⟩
  have FI : FnOk l.prog w K mg base CX0 2 f_I _ ["self", "top", "bottom"] (spInit A) := ok_init F_I T_ U cI
  have FO := ok_of (P := l.prog) (w := w) (base := base) F_of T_ U FI b1_I v1_I b2_I
  have f_eq_ := ok_Amount_eq (P := l.prog) (w := w) (base := base) F_eq T_ U cI
  have cEq : CmC l.prog w K mg base A .Eq "int.__eq__" (spCmp A gEq) (spCmp A gEq) := ⟨_, _, _, _, cmpO_eq sub_A a_eq i_eq, f_eq_.mono (by decide), f_eq_.mono (by decide), b_eq, b_eq⟩
  have FNg := ok_Amount_neg (P := l.prog) (w := w) (base := base) F_neg T_ U FI b1_I v1_I b2_I
  have exTS := exm_mk bS iS tS sBS
  have V_ : TxI K mg S BI := ⟨m_S, m_BI, ex_BI, exTS, kit_self K BI, no_BI_part⟩
  have rL : ClX.CRead K Ln (.type "type") := ⟨rd_Ln, gat_Ln⟩
  have cM : ClX.CVal K Ln (.type "type") "MOST" (.int 9) (.int 9 tM) := ⟨fM, ⟨_, rfl⟩⟩
  have cN : CalO l.prog w K mg base "is_name" 1 ["value"] spIsName (fun _ => True) := ⟨_, _, ok_is_name F_isn T_ T2_ ⟨_, mg_MOST_LETTERS⟩, m_isn, F_isn.kp, b_isn, trivial⟩
  have cNN : CalO l.prog w K mg base "need_name" 2 ["value"] spNeed0 (fun _ => True) := ⟨_, _, ok_need0 F_need cN, m_need, F_need.kp, b_need, trivial⟩
  have cAs : CalO l.prog w K mg base "_ascending_names" 3 ["values"] spAsc (fun _ => True) := ⟨_, _, ok_asc F_asc T_ T2_ mn_sorted cNN, m_asc, F_asc.kp, b_asc, trivial⟩
  have cWp : CalO l.prog w K mg base "wrong_part" 4 ["parts"] (spWrong K) (fun _ => True) := ⟨_, _, ok_wrong F_wp T_ T2_ mn_all mn_dict m_Ln rL ⟨_, cM⟩ cN cW, m_wp, F_wp.kp, b_wp, trivial⟩
  have cSp : CalO l.prog w K mg base "sum_of_products" 6 ["pairs"] (spSop K A) (fun _ => True) := ⟨_, _, ok_sop F_sop T_ U FI b1_I v1_I b2_I (PySem.W.mg_of X G hlcm), m_sop, F_sop.kp, b_sop, trivial⟩
  have FG : FnOk l.prog w K mg base CX0 5 f_G0 _ ["self", "values"] (spGInit A C) := ok_ginit F_G0 T_ U FO b_of cAs mn_dict cls_C no_C__told
  have mG : Mk K C f_G0 := ⟨mk_C, a_G0, i_G0, kA_C⟩
  have FGc := ok_gcon (P := l.prog) (w := w) (base := base) F_gc T_ T2_ cls_C no_C__told
  have FGg := ok_gget (P := l.prog) (w := w) (base := base) F_gg T_ T2_ cls_C no_C__told a_gc i_gc FGc b_gc
  have FL : FnOk l.prog w K mg base (CX l.prog w) 6 f_li _ ["self", "parts"] (spLInit K Ln BI) := ok_linit F_li T_ T2_ mn_sorted cls_Ln no_Ln__parts (zE_BI base) cWp
  have mL : Mk K Ln f_li := ⟨mk_Ln, a_li, i_li, kA_Ln⟩
  have FLn := ok_lneg (P := l.prog) (w := w) (base := base) F_lng T_ T2_ cls_Ln no_Ln__parts m_Ln mL FL b_li
  have FSum := ok_lsum (P := l.prog) (w := w) (base := base) (A := A) F_ls T_ T2_ cls_Ln no_Ln__parts a_gc i_gc FGc b_gc a_gg i_gg fn_gg (FGg.mono (by decide)) b_gg cSp
  have LC_ : LnC K mg Ln := ⟨m_Ln, cls_Ln, no_Ln__parts, ha_Ln, hn, ht, hm_Ln, kLD⟩
  have mSum : Meth K Ln "sum_of" f_ls := ⟨a_ls, i_ls, k_ls⟩
  have kSum : KBn K _ ["self", "gaps"] 1 ["gaps"] (fun us ws => us ++ ws) (fun vs zs => vs ++ zs) := kb_2 (x := "sum_of") (q := "Linear.sum_of") (st := s_Linear_sum_of) (p0 := "self") (p := "gaps") F_ls (fun _ _ _ _ _ _ _ _ _ => .of_eq rfl)
  have cPn : CalO l.prog w K mg base "_law_pen" 1 ["_law_script"] (spPen K) (fun _ => True) := ⟨_, _, ok_pen F_pen T_, m_pen, F_pen.kp, b_pen, trivial⟩
  have cD : CalO l.prog w K mg base "_law_draw" 1 ["_law_pen_here", "_law_many"] spDraw (fun _ => True) := ⟨_, _, ok_draw F_draw T_, m_draw, F_draw.kp, b_draw, trivial⟩
  have cP : CalO l.prog w K mg base "_law_pick" 2 ["_law_pen_here", "_law_some"] (spPick K) (fun _ => True) := ⟨_, _, ok_pick F_pick T_ cD, m_pick, F_pick.kp, b_pick, trivial⟩
  have cAcc : CalO l.prog w K mg base "_law_accounts" 3 ["_law_pen_here", "_law_many"] spAcc (fun _ => True) := ⟨_, _, ok_acc F_acc T_ T2_ cD cP, m_acc, F_acc.kp, b_acc, trivial⟩
  have cFr : CalO l.prog w K mg base "_law_fraction" 3 ["_law_pen_here"] spFrac (fun _ => True) := ⟨_, _, ok_frac F_frac T_ cD cP, m_frac, F_frac.kp, b_frac, trivial⟩
  have cDu : CalO l.prog w K mg base "_law_sum" 1 ["_law_parts", "_law_told"] spDueS (fun _ => True) := ⟨_, _, ok_due F_due T_, m_due, F_due.kp, b_due, trivial⟩
  have cHe : CalO l.prog w K mg base "_law_heard" 9 ["_law_thing"] (spHeard4 K) (fun _ => True) := ⟨_, _, ok_heard F_heard T_ T2_ V_ m_Ln mL FL b_li, m_heard, F_heard.kp, b_heard, trivial⟩
  have cR : CalO l.prog w K mg base "_law_refused_right" 10 ["_law_pen_here"] spRef (fun _ => True) := ⟨_, _, ok_refused F_ref T_ T2_ mn_dict LC_ m_Ln mL FL b_li cP cAcc cHe, m_ref, F_ref.kp, b_ref, trivial⟩
  have cS : CalO l.prog w K mg base "_law_sums_right" 10 ["_law_pen_here"] spSums (fun _ => True) := ⟨_, _, ok_sums F_sums T_ T2_ U mn_dict LC_ m_Ln mL FL b_li FI b2_I m_C mG FG b2_G0 mSum FSum b_ls kSum a_lng i_lng FLn b_lng a_neg i_neg FNg b_neg sub_A hm_A ne_A a_eq i_eq (f_eq_.mono (by decide)) b_eq cEq cD cP cAcc cFr cDu, m_sums, F_sums.kp, b_sums, trivial⟩
  exact ok_law F_law T_ T2_ cPn cS cR
theorem sp_law_of (K : PySem.W.Frag) (H : Hp) (a : Addr) (ns : List Int) (hl : ns.length ≤ 63) (ho : Only H) (h : SqL K H a (ns.map V.int)) : spLaw K [.ref a] H (fun v _ => v = .bl true) fun _ _ _ => False := ⟨a, ns, rfl, h, fun _ => rfl⟩
end LW

set_option Elab.async false
set_option linter.all false
set_option maxRecDepth 100000
set_option maxHeartbeats 0
namespace LW
open PySem PySem.Spec PyProof.Rows L2 HX NumText
def z_A (K : PySem.W.Frag) : Addr := He.ga K "Amount"
def z_f_I (K : PySem.W.Frag) : Addr := He.ma K (z_A K) "__init__"
def z_p_of (K : PySem.W.Frag) : Addr := cfP (PySem.W.findCls K (.ref (z_A K)) (.type "type") "of")
def z_f_of (K : PySem.W.Frag) : Addr := rcF (PySem.W.recIn K (z_p_of K) "staticmethod")
def z_rest_of (K : PySem.W.Frag) : List Value := rcR (PySem.W.recIn K (z_p_of K) "staticmethod")
def z_p_num (K : PySem.W.Frag) : Addr := cfP (PySem.W.findCls K (.ref (z_A K)) (.type "type") "is_number")
def z_f_num (K : PySem.W.Frag) : Addr := rcF (PySem.W.recIn K (z_p_num K) "staticmethod")
def z_rest_num (K : PySem.W.Frag) : List Value := rcR (PySem.W.recIn K (z_p_num K) "staticmethod")
def z_t_MOST_LETTERS (K : PySem.W.Frag) : Tok := gTok (PySem.W.nsIn K mainGlobals "MOST_LETTERS")
def z_f_eq (K : PySem.W.Frag) : Addr := He.ma K (z_A K) "__eq__"
def z_f_neg (K : PySem.W.Frag) : Addr := He.ma K (z_A K) "__neg__"
def z_S (K : PySem.W.Frag) : Addr := He.ga K "ShiftError"
def z_BN (K : PySem.W.Frag) : Addr := He.ga K "BadInput"
def z_BI (K : PySem.W.Frag) : Addr := He.ga K "BadItem"
def z_f_IBI (K : PySem.W.Frag) : Addr := He.ma K (z_BI K) "__init__"
def z_Ln (K : PySem.W.Frag) : Addr := He.ga K "Linear"
def z_tM (K : PySem.W.Frag) : Tok := cTok (PySem.W.findCls K (.ref (z_Ln K)) (.type "type") "MOST")
def z_f_li (K : PySem.W.Frag) : Addr := He.ma K (z_Ln K) "__init__"
def z_f_lng (K : PySem.W.Frag) : Addr := He.ma K (z_Ln K) "__neg__"
def z_f_ls (K : PySem.W.Frag) : Addr := He.ma K (z_Ln K) "sum_of"
def z_C (K : PySem.W.Frag) : Addr := He.ga K "Gaps"
def z_f_G0 (K : PySem.W.Frag) : Addr := He.ma K (z_C K) "__init__"
def z_f_gg (K : PySem.W.Frag) : Addr := He.ma K (z_C K) "__getitem__"
def z_f_gc (K : PySem.W.Frag) : Addr := He.ma K (z_C K) "__contains__"
def z_f_isint (K : PySem.W.Frag) : Addr := He.ga K "is_int"
def z_f_within (K : PySem.W.Frag) : Addr := He.ga K "is_int_within"
def z_f_sop (K : PySem.W.Frag) : Addr := He.ga K "sum_of_products"
def z_f_isn (K : PySem.W.Frag) : Addr := He.ga K "is_name"
def z_f_need (K : PySem.W.Frag) : Addr := He.ga K "need_name"
def z_f_wp (K : PySem.W.Frag) : Addr := He.ga K "wrong_part"
def z_f_asc (K : PySem.W.Frag) : Addr := He.ga K "_ascending_names"
def z_f_pen (K : PySem.W.Frag) : Addr := He.ga K "_law_pen"
def z_f_draw (K : PySem.W.Frag) : Addr := He.ga K "_law_draw"
def z_f_pick (K : PySem.W.Frag) : Addr := He.ga K "_law_pick"
def z_f_acc (K : PySem.W.Frag) : Addr := He.ga K "_law_accounts"
def z_f_frac (K : PySem.W.Frag) : Addr := He.ga K "_law_fraction"
def z_f_due (K : PySem.W.Frag) : Addr := He.ga K "_law_sum"
def z_f_sums (K : PySem.W.Frag) : Addr := He.ga K "_law_sums_right"
def z_f_heard (K : PySem.W.Frag) : Addr := He.ga K "_law_heard"
def z_f_ref (K : PySem.W.Frag) : Addr := He.ga K "_law_refused_right"
def z_f_law (K : PySem.W.Frag) : Addr := He.ga K "law"
def ck_0 (K : PySem.W.Frag) : List Bool := [
  decide (PySem.W.nsIn K mainGlobals "int" = some none),
  decide (PySem.W.nsIn K mainGlobals "len" = some none),
  decide (PySem.W.nsIn K mainGlobals "abs" = some none),
  decide (PySem.W.nsIn K mainGlobals "list" = some none),
  decide (PySem.W.nsIn K mainGlobals "range" = some none),
  decide (PySem.W.nsIn K mainGlobals "isinstance" = some none),
  decide (PySem.W.nsIn K mainGlobals "repr" = some none),
  decide (PySem.W.nsIn K mainGlobals "bool" = some none),
  decide (PySem.W.nsIn K mainGlobals "str" = some none),
  decide (PySem.W.nsIn K mainGlobals "dict" = some none),
  decide (PySem.W.nsIn K mainGlobals "sorted" = some none),
  decide (PySem.W.nsIn K mainGlobals "all" = some none),
  decide (PySem.W.specialIn K (.builtin "object.__class__") "__get__" = some (some (.builtin "getset_descriptor.__get__"))),
  decide (PySem.W.takesIn K (.builtin "object.__class__") = some true),
  decide (PySem.W.nsIn K mainGlobals "Amount" = some (some (.ref (z_A K)))),
  decide (PySem.W.plainGet K (z_A K) Str.empty = true),
  decide (PySem.W.hasDictIn K (z_A K) = true),
  decide (PySem.W.plainOver K (z_A K) = true),
  decide (PySem.W.findIn K (.ref (z_A K)) "__setattr__" = some (some (.builtin "object.__setattr__"))),
  decide (PySem.W.makesIn K (z_A K) = true),
  decide (PySem.W.keepIn K (.ref (z_A K)) = true),
  decide (PySem.W.findIn K (.ref (z_A K)) "__class__" = some (some (.builtin "object.__class__"))),
  decide (PySem.W.mroIn K (z_A K) (.type "object") = some true),
  decide (PySem.W.subIn K (.ref (z_A K)) (.type "int") = some false),
  decide (PySem.W.readsIn K (z_A K) (.type "type") = true),
  decide (PySem.W.specialIn K (.ref (z_A K)) "__getattribute__" = some (some (.builtin "type.__getattribute__"))),
  decide (PySem.W.findIn K (.ref (z_A K)) "top" = some none),
  decide (PySem.W.findIn K (.ref (z_A K)) "bottom" = some none),
  decide (PySem.W.selfFirst K (z_A K) = true),
  decide (PySem.W.nsIn K mainGlobals "gcd" = some (some (.builtin "math.gcd")))]
def ck_1 (K : PySem.W.Frag) : List Bool := [
  decide (PySem.W.kitOne K (.ref (z_A K)) (.type "int") = some false),
  decide (PySem.W.kitOne K (.type "int") (.ref (z_A K)) = some false),
  decide (PySem.W.findIn K (.ref (z_A K)) "__init__" = some (some (.ref (z_f_I K)))),
  decide (PySem.W.isFn K (.ref (z_f_I K)) = true),
  decide (PySem.W.findCls K (.ref (z_A K)) (.type "type") "of" = some (.get (.builtin "staticmethod.__get__") (.ref (z_p_of K)) .none (.ref (z_A K)))),
  decide (PySem.W.recIn K (z_p_of K) "staticmethod" = some (.ref (z_f_of K) :: (z_rest_of K))),
  decide (PySem.W.isFn K (.ref (z_f_of K)) = true),
  decide (PySem.W.keepIn K (.ref (z_f_of K)) = true),
  decide (PySem.W.findCls K (.ref (z_A K)) (.type "type") "is_number" = some (.get (.builtin "staticmethod.__get__") (.ref (z_p_num K)) .none (.ref (z_A K)))),
  decide (PySem.W.recIn K (z_p_num K) "staticmethod" = some (.ref (z_f_num K) :: (z_rest_num K))),
  decide (PySem.W.isFn K (.ref (z_f_num K)) = true),
  decide (PySem.W.keepIn K (.ref (z_f_num K)) = true),
  decide (PySem.W.nsIn K mainGlobals "MOST_LETTERS" = some (some (.int 8 (z_t_MOST_LETTERS K)))),
  decide (PySem.W.nsIn K mainGlobals "lcm" = some (some (.builtin "math.lcm"))),
  decide (PySem.W.findIn K (.ref (z_A K)) "__eq__" = some (some (.ref (z_f_eq K)))),
  decide (PySem.W.isFn K (.ref (z_f_eq K)) = true),
  decide (PySem.W.keepIn K (.ref (z_f_eq K)) = true),
  decide (PySem.W.findIn K (.ref (z_A K)) "__neg__" = some (some (.ref (z_f_neg K)))),
  decide (PySem.W.isFn K (.ref (z_f_neg K)) = true),
  decide (PySem.W.keepIn K (.ref (z_f_neg K)) = true),
  decide (PySem.W.findIn K (.ref (z_A K)) "__ne__" = some (some (.builtin "object.__ne__"))),
  decide (PySem.W.nsIn K mainGlobals "ShiftError" = some (some (.ref (z_S K)))),
  decide (PySem.W.nsIn K mainGlobals "BadInput" = some (some (.ref (z_BN K)))),
  decide (PySem.W.isClsIn K (z_S K) = true),
  decide (PySem.W.typeIn K (.ref (z_S K)) = some (.type "type")),
  decide (PySem.W.subIn K (.ref (z_S K)) (.type "BaseException") = some true),
  decide (PySem.W.nsIn K mainGlobals "BadItem" = some (some (.ref (z_BI K)))),
  decide (oexB K (z_BI K) = true),
  decide (PySem.W.findIn K (.ref (z_BI K)) "__setattr__" = some (some (.builtin "object.__setattr__"))),
  decide (PySem.W.subIn K (.ref (z_BI K)) (.type "BaseException") = some true)]
def ck_2 (K : PySem.W.Frag) : List Bool := [
  decide (PySem.W.typeIn K (.ref (z_BI K)) = some (.type "type")),
  decide (PySem.W.keepIn K (.ref (z_BI K)) = true),
  decide (PySem.W.findIn K (.ref (z_BI K)) "__getattribute__" = some (some (.builtin "BaseException.__getattribute__"))),
  decide (PySem.W.findIn K (.ref (z_BI K)) "__getattr__" = some none),
  decide (PySem.W.hasDictIn K (z_BI K) = true),
  decide (PySem.W.findIn K (.ref (z_BI K)) "__class__" = some (some (.builtin "object.__class__"))),
  decide (PySem.W.specialIn K (.builtin "object.__class__") "__get__" = some (some (.builtin "getset_descriptor.__get__"))),
  decide (PySem.W.takesIn K (.builtin "object.__class__") = some true),
  decide (PySem.W.mroIn K (z_BI K) (.type "object") = some true),
  decide (PySem.W.findIn K (.ref (z_BI K)) "part" = some none),
  decide (PySem.W.findIn K (.ref (z_BI K)) "__init__" = some (some (.ref (z_f_IBI K)))),
  decide (PySem.W.typeIn K (.ref (z_f_IBI K)) = some (.type "function")),
  decide (PySem.W.subIn K (.ref (z_BI K)) (.ref (z_S K)) = some true),
  decide (PySem.W.nsIn K mainGlobals "Linear" = some (some (.ref (z_Ln K)))),
  decide (PySem.W.plainGet K (z_Ln K) Str.empty = true),
  decide (PySem.W.hasDictIn K (z_Ln K) = true),
  decide (PySem.W.plainOver K (z_Ln K) = true),
  decide (PySem.W.findIn K (.ref (z_Ln K)) "__setattr__" = some (some (.builtin "object.__setattr__"))),
  decide (PySem.W.makesIn K (z_Ln K) = true),
  decide (PySem.W.keepIn K (.ref (z_Ln K)) = true),
  decide (PySem.W.findIn K (.ref (z_Ln K)) "__class__" = some (some (.builtin "object.__class__"))),
  decide (PySem.W.mroIn K (z_Ln K) (.type "object") = some true),
  decide (PySem.W.subIn K (.ref (z_Ln K)) (.type "int") = some false),
  decide (PySem.W.readsIn K (z_Ln K) (.type "type") = true),
  decide (PySem.W.specialIn K (.ref (z_Ln K)) "__getattribute__" = some (some (.builtin "type.__getattribute__"))),
  decide (PySem.W.findIn K (.ref (z_Ln K)) "_parts" = some none),
  decide (PySem.W.findCls K (.ref (z_Ln K)) (.type "type") "MOST" = some (.val (.int 9 (z_tM K)))),
  decide (PySem.W.findIn K (.ref (z_Ln K)) "__init__" = some (some (.ref (z_f_li K)))),
  decide (PySem.W.isFn K (.ref (z_f_li K)) = true),
  decide (PySem.W.keepIn K (.ref (z_f_li K)) = true)]
def ck_3 (K : PySem.W.Frag) : List Bool := [
  decide (PySem.W.findIn K (.ref (z_Ln K)) "__neg__" = some (some (.ref (z_f_lng K)))),
  decide (PySem.W.isFn K (.ref (z_f_lng K)) = true),
  decide (PySem.W.keepIn K (.ref (z_f_lng K)) = true),
  decide (PySem.W.findIn K (.ref (z_Ln K)) "sum_of" = some (some (.ref (z_f_ls K)))),
  decide (PySem.W.isFn K (.ref (z_f_ls K)) = true),
  decide (PySem.W.keepIn K (.ref (z_f_ls K)) = true),
  decide (PySem.W.kitOne K (.ref (z_Ln K)) (.type "dict") = some false),
  decide (PySem.W.nsIn K mainGlobals "Gaps" = some (some (.ref (z_C K)))),
  decide (PySem.W.plainGet K (z_C K) Str.empty = true),
  decide (PySem.W.hasDictIn K (z_C K) = true),
  decide (PySem.W.plainOver K (z_C K) = true),
  decide (PySem.W.findIn K (.ref (z_C K)) "__setattr__" = some (some (.builtin "object.__setattr__"))),
  decide (PySem.W.makesIn K (z_C K) = true),
  decide (PySem.W.keepIn K (.ref (z_C K)) = true),
  decide (PySem.W.findIn K (.ref (z_C K)) "__class__" = some (some (.builtin "object.__class__"))),
  decide (PySem.W.mroIn K (z_C K) (.type "object") = some true),
  decide (PySem.W.subIn K (.ref (z_C K)) (.type "int") = some false),
  decide (PySem.W.readsIn K (z_C K) (.type "type") = true),
  decide (PySem.W.specialIn K (.ref (z_C K)) "__getattribute__" = some (some (.builtin "type.__getattribute__"))),
  decide (PySem.W.findIn K (.ref (z_C K)) "_told" = some none),
  decide (PySem.W.findIn K (.ref (z_C K)) "__init__" = some (some (.ref (z_f_G0 K)))),
  decide (PySem.W.isFn K (.ref (z_f_G0 K)) = true),
  decide (PySem.W.findIn K (.ref (z_C K)) "__getitem__" = some (some (.ref (z_f_gg K)))),
  decide (PySem.W.isFn K (.ref (z_f_gg K)) = true),
  decide (PySem.W.keepIn K (.ref (z_f_gg K)) = true),
  decide (PySem.W.findIn K (.ref (z_C K)) "__contains__" = some (some (.ref (z_f_gc K)))),
  decide (PySem.W.isFn K (.ref (z_f_gc K)) = true),
  decide (PySem.W.keepIn K (.ref (z_f_gc K)) = true),
  decide (PySem.W.fnIn K (z_f_gg K) = true),
  decide (PySem.W.nsIn K mainGlobals "is_int" = some (some (.ref (z_f_isint K))))]
def ck_4 (K : PySem.W.Frag) : List Bool := [
  decide (PySem.W.nsIn K mainGlobals "is_int_within" = some (some (.ref (z_f_within K)))),
  decide (PySem.W.nsIn K mainGlobals "sum_of_products" = some (some (.ref (z_f_sop K)))),
  decide (PySem.W.nsIn K mainGlobals "is_name" = some (some (.ref (z_f_isn K)))),
  decide (PySem.W.nsIn K mainGlobals "need_name" = some (some (.ref (z_f_need K)))),
  decide (PySem.W.nsIn K mainGlobals "wrong_part" = some (some (.ref (z_f_wp K)))),
  decide (PySem.W.nsIn K mainGlobals "_ascending_names" = some (some (.ref (z_f_asc K)))),
  decide (PySem.W.nsIn K mainGlobals "_law_pen" = some (some (.ref (z_f_pen K)))),
  decide (PySem.W.nsIn K mainGlobals "_law_draw" = some (some (.ref (z_f_draw K)))),
  decide (PySem.W.nsIn K mainGlobals "_law_pick" = some (some (.ref (z_f_pick K)))),
  decide (PySem.W.nsIn K mainGlobals "_law_accounts" = some (some (.ref (z_f_acc K)))),
  decide (PySem.W.nsIn K mainGlobals "_law_fraction" = some (some (.ref (z_f_frac K)))),
  decide (PySem.W.nsIn K mainGlobals "_law_sum" = some (some (.ref (z_f_due K)))),
  decide (PySem.W.nsIn K mainGlobals "_law_sums_right" = some (some (.ref (z_f_sums K)))),
  decide (PySem.W.nsIn K mainGlobals "_law_heard" = some (some (.ref (z_f_heard K)))),
  decide (PySem.W.nsIn K mainGlobals "_law_refused_right" = some (some (.ref (z_f_ref K)))),
  decide (PySem.W.nsIn K mainGlobals "law" = some (some (.ref (z_f_law K))))]
def cks (K : PySem.W.Frag) : List Bool := ck_0 K ++ (ck_1 K ++ (ck_2 K ++ (ck_3 K ++ (ck_4 K))))
def fns : List DefZ := [
  ⟨z_f_I, "__init__", "Amount.__init__", s_Amount_init, [.int 1]⟩,
  ⟨z_f_of, "of", "Amount.of", s_Amount_of, []⟩,
  ⟨z_f_num, "is_number", "Amount.is_number", s_Amount_is_number, []⟩,
  ⟨z_f_eq, "__eq__", "Amount.__eq__", s_Amount_eq, []⟩,
  ⟨z_f_neg, "__neg__", "Amount.__neg__", s_Amount_neg, []⟩,
  ⟨z_f_IBI, "__init__", "BadItem.__init__", s_BadItem_init, []⟩,
  ⟨z_f_li, "__init__", "Linear.__init__", s_Linear_init, []⟩,
  ⟨z_f_lng, "__neg__", "Linear.__neg__", s_Linear_neg, []⟩,
  ⟨z_f_ls, "sum_of", "Linear.sum_of", s_Linear_sum_of, []⟩,
  ⟨z_f_G0, "__init__", "Gaps.__init__", s_Gaps_init, [.non]⟩,
  ⟨z_f_gg, "__getitem__", "Gaps.__getitem__", s_Gaps_getitem, []⟩,
  ⟨z_f_gc, "__contains__", "Gaps.__contains__", s_Gaps_contains, []⟩,
  ⟨z_f_isint, "is_int", "is_int", s_is_int, []⟩,
  ⟨z_f_within, "is_int_within", "is_int_within", s_is_int_within, []⟩,
  ⟨z_f_sop, "sum_of_products", "sum_of_products", s_sum_of_products, []⟩,
  ⟨z_f_isn, "is_name", "is_name", s_is_name, []⟩,
  ⟨z_f_need, "need_name", "need_name", s_need_name, []⟩,
  ⟨z_f_wp, "wrong_part", "wrong_part", s_wrong_part, []⟩,
  ⟨z_f_asc, "_ascending_names", "_ascending_names", s__ascending_names, []⟩,
  ⟨z_f_pen, "_law_pen", "_law_pen", s__law_pen, []⟩,
  ⟨z_f_draw, "_law_draw", "_law_draw", s__law_draw, []⟩,
  ⟨z_f_pick, "_law_pick", "_law_pick", s__law_pick, []⟩,
  ⟨z_f_acc, "_law_accounts", "_law_accounts", s__law_accounts, []⟩,
  ⟨z_f_frac, "_law_fraction", "_law_fraction", s__law_fraction, []⟩,
  ⟨z_f_due, "_law_sum", "_law_sum", s__law_sum, []⟩,
  ⟨z_f_sums, "_law_sums_right", "_law_sums_right", s__law_sums_right, []⟩,
  ⟨z_f_heard, "_law_heard", "_law_heard", s__law_heard, []⟩,
  ⟨z_f_ref, "_law_refused_right", "_law_refused_right", s__law_refused_right, []⟩,
  ⟨z_f_law, "law", "law", s_law, []⟩]
theorem facts {l : PySem.W.OpenLaw} {w : World} {K : PySem.W.Frag} {h : Heap} {mg : Str → Option Value} {fa : Addr} (X : K.In h) (G : h.Ns mainGlobals mg) (hfa : mg "law" = some (.ref fa)) (c : SaysZ fns cks K) :
    ∃ fd : FuncData, (∀ (s : Shared) (v : Value), BindsTo s fd ⟨[v], []⟩ [("_law_script", v)]) ∧ ∀ base : Heap, K.In base → base.Ns mainGlobals mg → FnG l.prog w K mg base CX0 12 fa fd ["_law_script"] (spLaw K) := by
  obtain ⟨fd_I, F_I⟩ := c.def_ 0 (d := ⟨z_f_I, "__init__", "Amount.__init__", s_Amount_init, [.int 1]⟩) rfl
  obtain ⟨fd_of, F_of⟩ := c.def_ 1 (d := ⟨z_f_of, "of", "Amount.of", s_Amount_of, []⟩) rfl
  obtain ⟨fd_num, F_num⟩ := c.def_ 2 (d := ⟨z_f_num, "is_number", "Amount.is_number", s_Amount_is_number, []⟩) rfl
  obtain ⟨fd_eq, F_eq⟩ := c.def_ 3 (d := ⟨z_f_eq, "__eq__", "Amount.__eq__", s_Amount_eq, []⟩) rfl
  obtain ⟨fd_neg, F_neg⟩ := c.def_ 4 (d := ⟨z_f_neg, "__neg__", "Amount.__neg__", s_Amount_neg, []⟩) rfl
  obtain ⟨fd_IBI, F_IBI⟩ := c.def_ 5 (d := ⟨z_f_IBI, "__init__", "BadItem.__init__", s_BadItem_init, []⟩) rfl
  obtain ⟨fd_li, F_li⟩ := c.def_ 6 (d := ⟨z_f_li, "__init__", "Linear.__init__", s_Linear_init, []⟩) rfl
  obtain ⟨fd_lng, F_lng⟩ := c.def_ 7 (d := ⟨z_f_lng, "__neg__", "Linear.__neg__", s_Linear_neg, []⟩) rfl
  obtain ⟨fd_ls, F_ls⟩ := c.def_ 8 (d := ⟨z_f_ls, "sum_of", "Linear.sum_of", s_Linear_sum_of, []⟩) rfl
  obtain ⟨fd_G0, F_G0⟩ := c.def_ 9 (d := ⟨z_f_G0, "__init__", "Gaps.__init__", s_Gaps_init, [.non]⟩) rfl
  obtain ⟨fd_gg, F_gg⟩ := c.def_ 10 (d := ⟨z_f_gg, "__getitem__", "Gaps.__getitem__", s_Gaps_getitem, []⟩) rfl
  obtain ⟨fd_gc, F_gc⟩ := c.def_ 11 (d := ⟨z_f_gc, "__contains__", "Gaps.__contains__", s_Gaps_contains, []⟩) rfl
  obtain ⟨fd_isint, F_isint⟩ := c.def_ 12 (d := ⟨z_f_isint, "is_int", "is_int", s_is_int, []⟩) rfl
  obtain ⟨fd_within, F_within⟩ := c.def_ 13 (d := ⟨z_f_within, "is_int_within", "is_int_within", s_is_int_within, []⟩) rfl
  obtain ⟨fd_sop, F_sop⟩ := c.def_ 14 (d := ⟨z_f_sop, "sum_of_products", "sum_of_products", s_sum_of_products, []⟩) rfl
  obtain ⟨fd_isn, F_isn⟩ := c.def_ 15 (d := ⟨z_f_isn, "is_name", "is_name", s_is_name, []⟩) rfl
  obtain ⟨fd_need, F_need⟩ := c.def_ 16 (d := ⟨z_f_need, "need_name", "need_name", s_need_name, []⟩) rfl
  obtain ⟨fd_wp, F_wp⟩ := c.def_ 17 (d := ⟨z_f_wp, "wrong_part", "wrong_part", s_wrong_part, []⟩) rfl
  obtain ⟨fd_asc, F_asc⟩ := c.def_ 18 (d := ⟨z_f_asc, "_ascending_names", "_ascending_names", s__ascending_names, []⟩) rfl
  obtain ⟨fd_pen, F_pen⟩ := c.def_ 19 (d := ⟨z_f_pen, "_law_pen", "_law_pen", s__law_pen, []⟩) rfl
  obtain ⟨fd_draw, F_draw⟩ := c.def_ 20 (d := ⟨z_f_draw, "_law_draw", "_law_draw", s__law_draw, []⟩) rfl
  obtain ⟨fd_pick, F_pick⟩ := c.def_ 21 (d := ⟨z_f_pick, "_law_pick", "_law_pick", s__law_pick, []⟩) rfl
  obtain ⟨fd_acc, F_acc⟩ := c.def_ 22 (d := ⟨z_f_acc, "_law_accounts", "_law_accounts", s__law_accounts, []⟩) rfl
  obtain ⟨fd_frac, F_frac⟩ := c.def_ 23 (d := ⟨z_f_frac, "_law_fraction", "_law_fraction", s__law_fraction, []⟩) rfl
  obtain ⟨fd_due, F_due⟩ := c.def_ 24 (d := ⟨z_f_due, "_law_sum", "_law_sum", s__law_sum, []⟩) rfl
  obtain ⟨fd_sums, F_sums⟩ := c.def_ 25 (d := ⟨z_f_sums, "_law_sums_right", "_law_sums_right", s__law_sums_right, []⟩) rfl
  obtain ⟨fd_heard, F_heard⟩ := c.def_ 26 (d := ⟨z_f_heard, "_law_heard", "_law_heard", s__law_heard, []⟩) rfl
  obtain ⟨fd_ref, F_ref⟩ := c.def_ 27 (d := ⟨z_f_ref, "_law_refused_right", "_law_refused_right", s__law_refused_right, []⟩) rfl
  obtain ⟨fd_law, F_law⟩ := c.def_ 28 (d := ⟨z_f_law, "law", "law", s_law, []⟩) rfl
  exact all_mk X G hfa (A := z_A K) (f_I := z_f_I K) (p_of := z_p_of K) (f_of := z_f_of K) (rest_of := z_rest_of K) (p_num := z_p_num K) (f_num := z_f_num K) (rest_num := z_rest_num K) (t_MOST_LETTERS := z_t_MOST_LETTERS K) (f_eq := z_f_eq K) (f_neg := z_f_neg K) (S := z_S K) (BN := z_BN K) (BI := z_BI K) (f_IBI := z_f_IBI K) (Ln := z_Ln K) (tM := z_tM K) (f_li := z_f_li K) (f_lng := z_f_lng K) (f_ls := z_f_ls K) (C := z_C K) (f_G0 := z_f_G0 K) (f_gg := z_f_gg K) (f_gc := z_f_gc K) (f_isint := z_f_isint K) (f_within := z_f_within K) (f_sop := z_f_sop K) (f_isn := z_f_isn K) (f_need := z_f_need K) (f_wp := z_f_wp K) (f_asc := z_f_asc K) (f_pen := z_f_pen K) (f_draw := z_f_draw K) (f_pick := z_f_pick K) (f_acc := z_f_acc K) (f_frac := z_f_frac K) (f_due := z_f_due K) (f_sums := z_f_sums K) (f_heard := z_f_heard K) (f_ref := z_f_ref K) (f_law := z_f_law K) (n_int := of_decide_eq_true (c.is 0 rfl)) (n_len := of_decide_eq_true (c.is 1 rfl)) (n_abs := of_decide_eq_true (c.is 2 rfl)) (n_list := of_decide_eq_true (c.is 3 rfl)) (n_range := of_decide_eq_true (c.is 4 rfl)) (n_isinstance := of_decide_eq_true (c.is 5 rfl)) (n_repr := of_decide_eq_true (c.is 6 rfl)) (n_bool := of_decide_eq_true (c.is 7 rfl)) (n_str := of_decide_eq_true (c.is 8 rfl)) (n_dict := of_decide_eq_true (c.is 9 rfl)) (n_sorted := of_decide_eq_true (c.is 10 rfl)) (n_all := of_decide_eq_true (c.is 11 rfl)) (hn := of_decide_eq_true (c.is 12 rfl)) (ht := of_decide_eq_true (c.is 13 rfl)) (a_A := of_decide_eq_true (c.is 14 rfl)) (pg_A := of_decide_eq_true (c.is 15 rfl)) (hd_A := of_decide_eq_true (c.is 16 rfl)) (po_A := of_decide_eq_true (c.is 17 rfl)) (sa_A := of_decide_eq_true (c.is 18 rfl)) (mk_A := of_decide_eq_true (c.is 19 rfl)) (kA_A := of_decide_eq_true (c.is 20 rfl)) (ha_A := of_decide_eq_true (c.is 21 rfl)) (hm_A := of_decide_eq_true (c.is 22 rfl)) (sub_A := of_decide_eq_true (c.is 23 rfl)) (rd_A := of_decide_eq_true (c.is 24 rfl)) (gat_A := of_decide_eq_true (c.is 25 rfl)) (no_A_top := of_decide_eq_true (c.is 26 rfl)) (no_A_bottom := of_decide_eq_true (c.is 27 rfl)) (first_A := of_decide_eq_true (c.is 28 rfl)) (hgcd := of_decide_eq_true (c.is 29 rfl)) (tI := of_decide_eq_true (c.is 30 rfl)) (tA := of_decide_eq_true (c.is 31 rfl)) (a_I := of_decide_eq_true (c.is 32 rfl)) (i_I := of_decide_eq_true (c.is 33 rfl)) (a_of := of_decide_eq_true (c.is 34 rfl)) (r_of := of_decide_eq_true (c.is 35 rfl)) (i_of := of_decide_eq_true (c.is 36 rfl)) (k_of := of_decide_eq_true (c.is 37 rfl)) (a_num := of_decide_eq_true (c.is 38 rfl)) (r_num := of_decide_eq_true (c.is 39 rfl)) (i_num := of_decide_eq_true (c.is 40 rfl)) (k_num := of_decide_eq_true (c.is 41 rfl)) (g_MOST_LETTERS := of_decide_eq_true (c.is 42 rfl)) (hlcm := of_decide_eq_true (c.is 43 rfl)) (a_eq := of_decide_eq_true (c.is 44 rfl)) (i_eq := of_decide_eq_true (c.is 45 rfl)) (k_eq := of_decide_eq_true (c.is 46 rfl)) (a_neg := of_decide_eq_true (c.is 47 rfl)) (i_neg := of_decide_eq_true (c.is 48 rfl)) (k_neg := of_decide_eq_true (c.is 49 rfl)) (ne_A := of_decide_eq_true (c.is 50 rfl)) (a_S := of_decide_eq_true (c.is 51 rfl)) (a_BN := of_decide_eq_true (c.is 52 rfl)) (iS := of_decide_eq_true (c.is 53 rfl)) (tS := of_decide_eq_true (c.is 54 rfl)) (bS := of_decide_eq_true (c.is 55 rfl)) (a_BI := of_decide_eq_true (c.is 56 rfl)) (xB_BI := of_decide_eq_true (c.is 57 rfl)) (sa_BI := of_decide_eq_true (c.is 58 rfl)) (eC_BI := of_decide_eq_true (c.is 59 rfl)) (tC_BI := of_decide_eq_true (c.is 60 rfl)) (kC_BI := of_decide_eq_true (c.is 61 rfl)) (ga_BI := of_decide_eq_true (c.is 62 rfl)) (gg_BI := of_decide_eq_true (c.is 63 rfl)) (hd_BI := of_decide_eq_true (c.is 64 rfl)) (ha_BI := of_decide_eq_true (c.is 65 rfl)) (hn_BI := of_decide_eq_true (c.is 66 rfl)) (ht_BI := of_decide_eq_true (c.is 67 rfl)) (hm_BI := of_decide_eq_true (c.is 68 rfl)) (no_BI_part := of_decide_eq_true (c.is 69 rfl)) (a_IBI := of_decide_eq_true (c.is 70 rfl)) (t_IBI := of_decide_eq_true (c.is 71 rfl)) (sBS := of_decide_eq_true (c.is 72 rfl)) (a_Ln := of_decide_eq_true (c.is 73 rfl)) (pg_Ln := of_decide_eq_true (c.is 74 rfl)) (hd_Ln := of_decide_eq_true (c.is 75 rfl)) (po_Ln := of_decide_eq_true (c.is 76 rfl)) (sa_Ln := of_decide_eq_true (c.is 77 rfl)) (mk_Ln := of_decide_eq_true (c.is 78 rfl)) (kA_Ln := of_decide_eq_true (c.is 79 rfl)) (ha_Ln := of_decide_eq_true (c.is 80 rfl)) (hm_Ln := of_decide_eq_true (c.is 81 rfl)) (sub_Ln := of_decide_eq_true (c.is 82 rfl)) (rd_Ln := of_decide_eq_true (c.is 83 rfl)) (gat_Ln := of_decide_eq_true (c.is 84 rfl)) (no_Ln__parts := of_decide_eq_true (c.is 85 rfl)) (fM := of_decide_eq_true (c.is 86 rfl)) (a_li := of_decide_eq_true (c.is 87 rfl)) (i_li := of_decide_eq_true (c.is 88 rfl)) (k_li := of_decide_eq_true (c.is 89 rfl)) (a_lng := of_decide_eq_true (c.is 90 rfl)) (i_lng := of_decide_eq_true (c.is 91 rfl)) (k_lng := of_decide_eq_true (c.is 92 rfl)) (a_ls := of_decide_eq_true (c.is 93 rfl)) (i_ls := of_decide_eq_true (c.is 94 rfl)) (k_ls := of_decide_eq_true (c.is 95 rfl)) (kLD := of_decide_eq_true (c.is 96 rfl)) (a_C := of_decide_eq_true (c.is 97 rfl)) (pg_C := of_decide_eq_true (c.is 98 rfl)) (hd_C := of_decide_eq_true (c.is 99 rfl)) (po_C := of_decide_eq_true (c.is 100 rfl)) (sa_C := of_decide_eq_true (c.is 101 rfl)) (mk_C := of_decide_eq_true (c.is 102 rfl)) (kA_C := of_decide_eq_true (c.is 103 rfl)) (ha_C := of_decide_eq_true (c.is 104 rfl)) (hm_C := of_decide_eq_true (c.is 105 rfl)) (sub_C := of_decide_eq_true (c.is 106 rfl)) (rd_C := of_decide_eq_true (c.is 107 rfl)) (gat_C := of_decide_eq_true (c.is 108 rfl)) (no_C__told := of_decide_eq_true (c.is 109 rfl)) (a_G0 := of_decide_eq_true (c.is 110 rfl)) (i_G0 := of_decide_eq_true (c.is 111 rfl)) (a_gg := of_decide_eq_true (c.is 112 rfl)) (i_gg := of_decide_eq_true (c.is 113 rfl)) (k_gg := of_decide_eq_true (c.is 114 rfl)) (a_gc := of_decide_eq_true (c.is 115 rfl)) (i_gc := of_decide_eq_true (c.is 116 rfl)) (k_gc := of_decide_eq_true (c.is 117 rfl)) (fn_gg := of_decide_eq_true (c.is 118 rfl)) (a_isint := of_decide_eq_true (c.is 119 rfl)) (a_within := of_decide_eq_true (c.is 120 rfl)) (a_sop := of_decide_eq_true (c.is 121 rfl)) (a_isn := of_decide_eq_true (c.is 122 rfl)) (a_need := of_decide_eq_true (c.is 123 rfl)) (a_wp := of_decide_eq_true (c.is 124 rfl)) (a_asc := of_decide_eq_true (c.is 125 rfl)) (a_pen := of_decide_eq_true (c.is 126 rfl)) (a_draw := of_decide_eq_true (c.is 127 rfl)) (a_pick := of_decide_eq_true (c.is 128 rfl)) (a_acc := of_decide_eq_true (c.is 129 rfl)) (a_frac := of_decide_eq_true (c.is 130 rfl)) (a_due := of_decide_eq_true (c.is 131 rfl)) (a_sums := of_decide_eq_true (c.is 132 rfl)) (a_heard := of_decide_eq_true (c.is 133 rfl)) (a_ref := of_decide_eq_true (c.is 134 rfl)) (a_law := of_decide_eq_true (c.is 135 rfl)) (F_I := F_I) (F_of := funD_fun F_of) (F_num := funD_fun F_num) (F_eq := funD_fun F_eq) (F_neg := funD_fun F_neg) (F_IBI := funD_fun F_IBI) (F_li := funD_fun F_li) (F_lng := funD_fun F_lng) (F_ls := funD_fun F_ls) (F_G0 := F_G0) (F_gg := funD_fun F_gg) (F_gc := funD_fun F_gc) (F_isint := funD_fun F_isint) (F_within := funD_fun F_within) (F_sop := funD_fun F_sop) (F_isn := funD_fun F_isn) (F_need := funD_fun F_need) (F_wp := funD_fun F_wp) (F_asc := funD_fun F_asc) (F_pen := funD_fun F_pen) (F_draw := funD_fun F_draw) (F_pick := funD_fun F_pick) (F_acc := funD_fun F_acc) (F_frac := funD_fun F_frac) (F_due := funD_fun F_due) (F_sums := funD_fun F_sums) (F_heard := funD_fun F_heard) (F_ref := funD_fun F_ref) (D_law := F_law)
abbrev R : PySem.W.OpenRow := PySem.W.OpenLaw.row PySem.Challenge.rw_holeshift_k04_sums_of_gaps_and_wrong_par
def asL : List Addr := [632, 631, 629, 624, 623, 621, 609, 608, 606, 599, 598, 596, 501, 500, 498, 287, 286, 284, 270, 269, 267, 260, 259, 257, 250, 249, 247, 240, 239, 237, 734, 733, 731, 727, 726, 724, 720, 719, 717, 713, 712, 710, 706, 705, 703, 698, 694, 693, 691, 687, 686, 684, 680, 679, 677, 672, 668, 667, 665, 661, 660, 658, 654, 653, 651, 647, 646, 644, 640, 639, 637, 616, 595, 590, 554, 553, 551, 546, 542, 541, 539, 534, 530, 529, 527, 523, 522, 520, 516, 515, 513, 509, 508, 506, 493, 456, 455, 453, 449, 448, 446, 442, 441, 439, 435, 434, 432, 428, 427, 425, 421, 420, 418, 414, 413, 411, 407, 406, 404, 400, 399, 397, 393, 392, 390, 386, 385, 383, 379, 378, 376, 372, 371, 369, 365, 364, 362, 358, 357, 355, 351, 350, 348, 344, 343, 341, 337, 336, 334, 330, 329, 327, 323, 322, 320, 316, 315, 313, 309, 308, 306, 302, 301, 299, 295, 294, 292, 280, 279, 277, 233, 232, 230, 173, 172, 170, 154, 153, 151, 135, 134, 132, 116, 115, 113, 97, 96, 94, 589, 229, 805, 804, 802, 797, 793, 792, 790, 785, 781, 780, 778, 774, 773, 771, 766, 762, 761, 759, 755, 754, 752, 748, 747, 745, 738, 577, 573, 572, 570, 565, 558, 481, 477, 476, 474, 470, 469, 467, 460, 218, 217, 215, 211, 210, 208, 204, 203, 201, 197, 196, 194, 189, 177, 158, 139, 120, 101, 82, 70, 57, 46, 45, 43, 630, 622, 607, 597, 499, 285, 268, 258, 248, 238, 732, 725, 718, 711, 704, 699, 692, 685, 678, 673, 666, 659, 652, 645, 638, 634, 626, 617, 611, 601, 591, 552, 547, 540, 535, 528, 521, 514, 507, 503, 494, 454, 447, 440, 433, 426, 419, 412, 405, 398, 391, 384, 377, 370, 363, 356, 349, 342, 335, 328, 321, 314, 307, 300, 293, 289, 278, 272, 262, 252, 242, 231, 171, 152, 133, 114, 95, 736, 729, 722, 715, 708, 701, 696, 689, 682, 675, 670, 663, 656, 649, 642, 619, 593, 556, 549, 544, 537, 532, 525, 518, 511, 496, 458, 451, 444, 437, 430, 423, 416, 409, 402, 395, 388, 381, 374, 367, 360, 353, 346, 339, 332, 325, 318, 311, 304, 297, 282, 235, 175, 156, 137, 118, 99, 803, 798, 791, 786, 779, 772, 767, 760, 753, 746, 742, 741, 636, 628, 614, 604, 578, 571, 566, 562, 561, 505, 482, 475, 468, 464, 463, 291, 275, 265, 255, 245, 216, 209, 202, 195, 60, 44, 807, 800, 795, 788, 783, 776, 769, 764, 757, 750, 580, 575, 568, 484, 479, 472, 220, 213, 206, 199, 48, 633, 625, 610, 600, 502, 288, 271, 261, 251, 241, 735, 728, 721, 714, 707, 700, 695, 688, 681, 674, 669, 662, 655, 648, 641, 618, 592, 555, 548, 543, 536, 531, 524, 517, 510, 495, 457, 450, 443, 436, 429, 422, 415, 408, 401, 394, 387, 380, 373, 366, 359, 352, 345, 338, 331, 324, 317, 310, 303, 296, 281, 234, 174, 155, 136, 117, 98, 635, 627, 612, 602, 504, 290, 273, 263, 253, 243, 806, 799, 794, 787, 782, 775, 768, 763, 756, 749, 737, 730, 723, 716, 709, 702, 697, 690, 683, 676, 671, 664, 657, 650, 643, 620, 594, 579, 574, 567, 557, 550, 545, 538, 533, 526, 519, 512, 497, 483, 478, 471, 459, 452, 445, 438, 431, 424, 417, 410, 403, 396, 389, 382, 375, 368, 361, 354, 347, 340, 333, 326, 319, 312, 305, 298, 283, 236, 219, 212, 205, 198, 176, 157, 138, 119, 100, 47, 808, 801, 796, 789, 784, 777, 770, 765, 758, 751, 581, 576, 569, 485, 480, 473, 221, 214, 207, 200, 49, 615, 605, 276, 266, 256, 246, 613, 603, 274, 264, 254, 244, 739, 559, 461, 190, 178, 159, 140, 121, 102, 83, 71, 58, 0, 740, 560, 462, 191, 179, 160, 141, 122, 103, 84, 72, 59, 4, 6, 3, 2]
abbrev hk : PySem.W.Hook := hookL asL fns cks
def ob (s : PySem.W.SharedT) : AlZ := obL asL fns cks s
theorem ob_eq (s : PySem.W.SharedT) : ob s = hk.obs s.abs := obL_eq s
def loose : List PySem.Str := (["_wall", "ShiftError", "BadInput", "NoAnswer", "BadName", "BadAmount", "BadItem", "BadGaps", "BadText", "NoDivisor", "MOST_FIGURES", "is_int", "is_int_within", "sum_of_products", "_is_figures", "Amount", "MOST_LETTERS", "is_name", "need_name", "wrong_part", "Linear", "_ascending_names", "_read_gap", "gaps_of", "Gaps", "_law_pen", "_law_draw", "_law_pick", "_law_accounts", "_law_fraction"] : List PySem.Str) ++ (["_law_sum", "_law_sums_right", "_law_heard", "_law_refused_right"] : List PySem.Str)
theorem run (w : World) : HandSHeadRun.RunEqI R (PySem.W.view R.prog [0, 41]) hk ob 12000 loose w := by
  unfold HandSHeadRun.RunEqI
  kernel_rfl
end LW
open PySem PySem.W PySem.Calls PyProof.Rows
theorem PySem.Challenge.cw_holeshift_k04_sums_of_gaps_and_wrong_par_holds : PySem.Challenge.rw_holeshift_k04_sums_of_gaps_and_wrong_par.Holds := by
  w_on; o_law
  refine HandSHeadRun.head_imp (r := OpenLaw.row PySem.Challenge.rw_holeshift_k04_sums_of_gaps_and_wrong_par) (q := view (OpenLaw.row PySem.Challenge.rw_holeshift_k04_sums_of_gaps_and_wrong_par).prog [0, 41]) (H := LW.hk) (ob := LW.ob) (M := 12000) (loose := LW.loose) (d := HandSHeadRun.topDef (OpenLaw.row PySem.Challenge.rw_holeshift_k04_sums_of_gaps_and_wrong_par).prog 41) (kwd := []) LW.ob_eq
    LW.run (by kernel_rfl) (by kernel_rfl) (by kernel_rfl) (by rfl) (by first | assumption | decide +kernel) (by decide +kernel) ⟨rfl, rfl, rfl, rfl, rfl, by decide +kernel⟩ ?hw ?hc
  case hw => w_witness2
  case hc =>
    refine HX.walkGE (l := PySem.Challenge.rw_holeshift_k04_sums_of_gaps_and_wrong_par) (n := 63) (k := 12) (x := "_law_script") (sp := LW.spLaw) rfl (by decide) (by kernel_rfl) ⟨rfl, by decide, by decide⟩ ?F (fun K H a ns hl ho h => LW.sp_law_of K H a ns hl ho h)
    intro w mg fa h Y G hmg0
    obtain ⟨K, KX, c⟩ := Y
    have hmg : mg ("law" : PySem.Str) = some (.ref fa) := by
      have e : (HandSHeadRun.topDef (OpenLaw.row PySem.Challenge.rw_holeshift_k04_sums_of_gaps_and_wrong_par).prog 41).name = ("law" : PySem.Str) := by kernel_rfl
      rw [← e]
      exact hmg0
    obtain ⟨fd, hb, hF⟩ := LW.facts (l := PySem.Challenge.rw_holeshift_k04_sums_of_gaps_and_wrong_par) (w := w) KX G hmg c
    exact ⟨K, fd, KX, hb, hF⟩
