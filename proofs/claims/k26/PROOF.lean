import PyProof.Rows.All
import Wide.All
import OpenK.AllK
import Wide.FinOn
import HandS.ForMost
import HandS.ForExc
import HandS.ExcInit
import HandS.Wide
import PyProof.ReprRoads
import PyProof.ReprLen
import HandS.ExcField
import HandS.ExcIs
import KE.KExcIs
import HandS.IsInst
import HandS.Defaults
import HandS.AnyAll
import HandS.Walk
import HandS.Text
import HandS.ExcValue
import HandS.Iter
import HandS.ClsMeth
import HandS.MakeKw
import HandS.Gcd
import HandS.StrMore
import KE.IntTextLaws
import HandS.Property
import HandS.FStr
import KE.KCallOwn
import PyProof.Rows.StrOr
import OpenK.KOwn
import KE.IntTextText
import HandS.RaiseMore
import HandS.Lambda
import HandS.EndTab
import HandS.Codes
import HandS.Steps
import KE.DataFind
import OpenK.KMeth
import OpenK.KOps
import HandS.SuiteRaise
import HandS.RaiseFrom
import HandS.ExcInitHot
import HandS.WordsExc
import HandS.Style
import HandS.DictComp
import HandS.OwnEq
import HandS.Conv
import PyProof.TupleOfGen
import KE.KFmtOwn
import PyProof.Rows.StrMeet
import PyProof.Rows.TmSorted
import PyProof.Rows.StrRev
import PyProof.StrOps2
import PySem.Challenge.RW_holeshift_k26_texts_of_gaps
set_option Elab.async false
set_option linter.all false
set_option maxRecDepth 100000
set_option maxHeartbeats 2000000
namespace HX
open PySem PySem.Spec PyProof.Rows L2

/-- a def's promise where nothing is being shown (no repr runs around it) -/
structure FnG (P : Program) (w : World) (K : PySem.W.Frag) (mg : Str → Option Value) (base : Heap) (CX : CXT) (k : Nat) (f : Addr) (fd : FuncData) (ps : List Str) (sp : Sp) : Prop where
  len : ∀ vs H Q E, sp vs H Q E → vs.length = ps.length
  go : ∀ (A : Around) (out : List Env) (s : Shared) (H : Hp) (ar : Args) (us : List Value) (vs : List V) (Q : VK) (E : XK),
    A.guards = some [] → Room k A → Env0 P w K mg base A out s H → BindsTo s fd ar (ps.zip us) → Vals vs us → sp vs H Q E →
      codeAny (model P w) A (.call (.ref f) ar) (CR CX out P w H s Q E) s

section
variable {P : Program} {w : World} {K : PySem.W.Frag} {mg : Str → Option Value} {base : Heap} {CX : CXT} {k : Nat} {f : Addr} {fd : FuncData} {ps : List Str} {sp : Sp}
theorem FnG.of (F : FnOk P w K mg base CX k f fd ps sp) : FnG P w K mg base CX k f fd ps sp :=
  ⟨F.len, fun A out s H ar us vs Q E _ r e b v h => F.run A out s H ar us vs Q E r e b v h⟩
theorem FnG.mono {j : Nat} (F : FnG P w K mg base CX j f fd ps sp) (h : j ≤ k) : FnG P w K mg base CX k f fd ps sp :=
  ⟨F.len, fun A out s H ar us vs Q E g r => F.go A out s H ar us vs Q E g (r.mono h)⟩

/-- a def by its body -/
theorem fnG_of {nm qual : Str} {prm : Arguments} {body : List Stmt} {sc : Scope} {dV kV doc pm cdv ct oc : Value} {an od : Option Addr} {osl : Array (Option Value)} {N : List Str}
    (lk : K.lookup f = some ⟨oc, od, .func (PySem.W.fnOf nm qual prm body sc dV kV doc pm an cdv ct), osl⟩)
    (hcd : PySem.W.codeIn K cdv qual = true) (S : FnScope N ps sc) (ln : ∀ vs H Q E, sp vs H Q E → vs.length = ps.length)
    (hb : ∀ (A : Around) (out : List Env) (s : Shared) (H : Hp) (vs : List V) (Q : VK) (E : XK), A.guards = some [] →
      Room k (A.deeper (envOfC qual sc s.heap.objs.size f cdv)) → sp vs H Q E →
        ∃ t, PSs (cxOf CX P w K mg base N qual sc f cdv A out s H E) body t ∧ t { nx := fun _ G => Q .non G, rt := Q } (start N vs) H) :
    FnG P w K mg base CX (k + 1) f (PySem.W.fnOf nm qual prm body sc dV kV doc pm an cdv ct) ps sp := by
  refine ⟨ln, fun A out s H ar us vs Q E hgd hr e0 bd rv hsp => ?_⟩
  have n0 := ln _ _ _ _ hsp
  have stay : ∀ b o, base.get? b = some o → s.heap.get? b = some o := fun b o z => (e0.bs b o z).1
  have kin : K.In s.heap := e0.mod.kin.keeps stay
  have lim : s.heap.NoLimit := e0.mod.nolimit.keeps stay
  refine codeAny_call_function hr.depth (kin _ _ lk) rfl S.co S.gen rfl (PySem.W.codeRec_of kin hcd) (bd _ _ _ _ ?_)
  refine wpAny_newFunctionEnv_cells S.kind (fun ⟨x, u⟩ hx => ?_) fun env he s1 ic => ?_
  · rcases S.par x (List.of_mem_zip hx).1 with z | z
    · exact .inl z
    · exact .inr ⟨z, PySem.W.cellsFrom_some _ _ _ (.inl z)⟩
  · subst he
    refine ⟨lim.keeps ic.toInCall.keep, codeAny_func ?_⟩
    obtain ⟨t, pt, go⟩ := hb A out s H vs Q E hgd (hr.deeper _) hsp
    refine wpAny_mono (pt.run [] s1 _ H _ (inv_start S hr.hd e0 n0 rv ic) go) (fun fl s' q => ?_) fun _ _ z => z
    cases fl with
    | ret u =>
      obtain ⟨v, _, G, J, r, z⟩ := q
      exact ⟨v, G, J.os, J.bare, J.base, J.hok, r, z⟩
    | next =>
      obtain ⟨_, G, J, z⟩ := q
      exact ⟨V.non, G, J.os, J.bare, J.base, J.hok, rfl, z⟩
    | brk => exact False.elim (let ⟨_, _, _, z⟩ := q; z)
    | cont => exact False.elim (let ⟨_, _, _, z⟩ := q; z)

theorem fun_okG {x qual : Str} {st : Stmt} {N : List Str} (F : Fun K x qual st f fd) (S : FnScope N ps (defScope st)) (ln : ∀ vs H Q E, sp vs H Q E → vs.length = ps.length)
    (hb : ∀ (cdv : Value) (A : Around) (out : List Env) (s : Shared) (H : Hp) (vs : List V) (Q : VK) (E : XK), A.guards = some [] →
      Room k (A.deeper (envOfC qual (defScope st) s.heap.objs.size f cdv)) → sp vs H Q E →
        ∃ t, PSs (cxOf CX0 P w K mg base N qual (defScope st) f cdv A out s H E).nox (defBody st) t ∧ t { nx := fun _ G => Q .non G, rt := Q } (start N vs) H) :
    FnG P w K mg base CX0 (k + 1) f fd ps sp := by
  obtain ⟨_, _, _, _, _, _, cdv, _, _, rfl, lk, hcd⟩ := F.ex
  refine fnG_of lk hcd S ln fun A out s H vs Q E g hr hs => ?_
  obtain ⟨t, p, q⟩ := hb cdv A out s H vs Q E g hr hs
  exact ⟨t, p.nox, q⟩
end

section
variable {X : Cx} {CX : CXT} {k : Nat} {f : Addr} {fd : FuncData} {ps : List Str} {sp : Sp} {dvs : List V} {ds : List Value} {E : XK} {x : Str} {p pos : Pos} {e : Expr} {es : List Expr} {t : TA}
theorem run_fnG {pins : List (Addr × Obj)} {σ : L2.St} {H : Hp} {s : Shared} {Q : VK} {us : List Value} {vs : List V} (F : FnG X.prog X.w X.K X.mg X.base CX k f fd ps sp) (gd : X.A.guards = some []) (hr : Room k X.A)
    (hb : Binds X.K fd ps ds) (hd : Vals dvs ds) (hx : Passes CX X E) (I : Inv X pins σ H s) (r : Vals vs us) (h : sp (vs ++ dvs) H Q E) :
    wpAny (model X.prog X.w) X.A (call (.ref f) us) (EP X pins σ Q) X.xe s := by
  have rr : Vals (vs ++ dvs) (us ++ ds) := r.append hd
  have n0 : (us ++ ds).length = ps.length := rr.length.symm.trans (F.len _ _ _ _ h)
  have run := F.go X.A X.stack s H ⟨us, []⟩ (us ++ ds) (vs ++ dvs) Q E gd hr I.env0 (hb s us I.kIn n0) rr h
  refine wpAny_call (codeAny_mono run fun r s' q => ?_)
  match r, q with
  | .error e, q => exact hx pins σ H s e s' I q
  | .ok (.ret u), q => exact I.after q
  | .ok .next, q => exact False.elim q
  | .ok .brk, q => exact False.elim q
  | .ok .cont, q => exact False.elim q
theorem pe_callG (F : FnG X.prog X.w X.K X.mg X.base CX k f fd ps sp) (gd : X.A.guards = some []) (hr : Room k X.A) (hg : Gl X x) (hm : X.mg x = some (.ref f)) (hk : PySem.W.keepIn X.K (.ref f) = true)
    (hb : Binds X.K fd ps ds) (hd : Vals dvs ds) (hx : Passes CX X E) (ha : PA X (e :: es) t) (hdb : (x == ("__debug__" : Str)) = false := by decide)
    (he : starEach (e :: es) X.env = (false, eval e X.env) :: starEach es X.env := by rfl) (hpl : (backTo pos (starEach es X.env)).any (·.1) = false := by rfl) :
    PE X (.Call (.Name x p) (e :: es) [] pos) (tCall sp dvs E t) :=
  ⟨fun pins s σ H Q I h => wpAny_Call_Name_kw (ld_glob I hg hm (PySem.W.callWith_K (h₀ := X.base) I.ok.mod.kin hk
    (thn (ha.run pos pins s σ H _ I h) fun us s1 ⟨vs, H1, I1, r, q⟩ => ⟨I1.kIn, run_fnG F gd hr hb hd hx I1 r q⟩) he hpl) hdb)⟩
end
end HX

set_option Elab.async false
set_option linter.all false
set_option maxRecDepth 100000
set_option maxHeartbeats 2000000
namespace HX
open PySem PySem.Spec PyProof.Rows L2

/-- the heap that knows the script alone, locked -/
def scr (a : Addr) (o : Obj) (ns : List Int) : Hp := fun b => if b = a then some (.frz o (.lst (ns.map V.int))) else none

section
variable {P : Program} {w : World} {K : PySem.W.Frag} {mg mb : Str → Option Value} {CX : CXT} {k : Nat} {fa a : Addr} {fd : FuncData} {x : Str} {sp : Sp} {s : Shared} {vs : List Value} {ns : List Int}
theorem law_goG (kin : K.In s.heap) (hn : s.heap.Ns mainGlobals mg) (hb : s.heap.Ns builtinsNs mb) (hbb : ∀ y : Str, y ≠ "__name__" → mb y = bootBuiltins y) (lim : s.heap.NoLimit) (hg : s.gens = #[])
    (H : Hp) (only : Only H) (hok : HOk P w H s.heap) (at1 : ∀ b, H b ≠ none → s.heap.get? b = some { cls := .type "list", data := .seq vs.toArray } ∧ K.lookup b = none)
    (hr : Room k callerA) (F : ∀ base : Heap, K.In base → base.Ns mainGlobals mg → FnG P w K mg base CX k fa fd [x] sp)
    (bind1 : ∀ (s : Shared) (u : Value), BindsTo s fd ⟨[u], []⟩ [(x, u)])
    (hsp : sp [.ref a] H (fun v _ => v = .bl true) fun _ _ _ => False) (hCX : ∀ e s', CX [] H s (fun _ _ _ => False) e s' → False) :
    codeAny (model P w) callerA (.call (.ref fa) ⟨[.ref a], []⟩) (fun r s' => r = .ok (.ret (.bool true)) ∧ OldK s.heap s'.heap ∧ s'.os = s.os ∧ AllBare s'.gens) s := by
  have untr : ∀ b o, s.heap.get? b = some o → (o ≠ { cls := .type "list", data := .seq vs.toArray } ∨ K.lookup b ≠ none) → H b = none := fun b o e d => by
    cases q : H b with
    | none => rfl
    | some u =>
      obtain ⟨z1, z2⟩ := at1 b (by rw [q]; exact fun z => nomatch z)
      rcases d with d | d
      · exact absurd (Option.some.inj (e.symm.trans z1)) d
      · exact absurd z2 d
  have isNs : ∀ {b : Addr} {m : Str → Option Value}, s.heap.Ns b m → (hidT s.heap H).Ns b m := fun {b m} z => by
    obtain ⟨o, es, ep, e, d, r⟩ := z
    refine ⟨o, es, ep, hidT_get e (untr b o e (.inl fun z => ?_)), d, r⟩
    rw [z] at d
    cases d
  have kinB : K.In (hidT s.heap H) := fun b o e => hidT_get (kin b o e) (untr b o (kin b o e) (.inr (by rw [e]; exact fun z => nomatch z)))
  have md : Mod K mg (hidT s.heap H) := ⟨kinB, isNs hn, ⟨mb, isNs hb, hbb⟩, let ⟨m, z1, z2⟩ := lim; ⟨m, isNs z1, z2⟩⟩
  have e0 : Env0 P w K mg (hidT s.heap H) callerA [] s H :=
    ⟨rfl, md, fun _ _ e => of_hidT e, Nat.le_of_eq (hidT_size _ _), trivial, fun b z => absurd (show b ∈ ([] : List Addr) from z) List.not_mem_nil, hok, AllBare.of_eq hg⟩
  have run := (F _ kinB (isNs hn)).go callerA [] s H ⟨[.ref a], []⟩ [.ref a] [.ref a] (fun v _ => v = .bl true) (fun _ _ _ => False) rfl hr e0 (bind1 s (.ref a)) (.cons rfl .nil) hsp
  refine codeAny_mono run fun r s' q => ?_
  match r, q with
  | .error e, q => exact (hCX e s' q).elim
  | .ok .next, q => exact False.elim q
  | .ok .brk, q => exact False.elim q
  | .ok .cont, q => exact False.elim q
  | .ok (.ret u), q =>
    obtain ⟨v, G, os, bare, un, hok', rv, ev⟩ := q
    subst ev
    obtain rfl : u = Value.bool true := rv
    refine ⟨rfl, OldK.of_keep fun b o e => ?_, os, bare⟩
    rcases only b with n | ⟨ob, xs, n⟩
    · exact un.keep b o e n (fun z => absurd (show b ∈ ([] : List Addr) from z) List.not_mem_nil) List.not_mem_nil
    · have y1 := (hok b _ n).1
      have y2 := (hok' b _ (un.frzs b ob _ n)).1
      exact (y2.trans y1.symm).trans e
end

/-- the end of a law whose def keeps an FnG promise -/
theorem walkG {l : PySem.W.OpenLaw} {n k : Nat} {q : Program} {loose : List Str} {XP : (Str → Option Value) → Heap → Prop} {YP : World → Heap → Prop} {d : DefRec} {K : Params → PySem.W.Frag} {sp : PySem.W.Frag → Sp} {x : Str}
    (hm : l.most = some n) (hn : n ≤ sizeLine) (hdf : d.params.defaults = []) (hr : Room k callerA) (hY : ∀ (w : World) (h : Heap), YP w h → (K w.params).In h)
    (F : ∀ (w : World) (mg : Str → Option Value) (fa : Addr) (h : Heap), (K w.params).In h → h.Ns mainGlobals mg → mg d.name = some (.ref fa) →
      ∃ fd : FuncData, (∀ (s : Shared) (u : Value), BindsTo s fd ⟨[u], []⟩ [(x, u)]) ∧
        ∀ base : Heap, (K w.params).In base → base.Ns mainGlobals mg → FnG l.prog w (K w.params) mg base CX0 k fa fd [x] (sp (K w.params)))
    (hsp : ∀ (K : PySem.W.Frag) (H : Hp) (a : Addr) (ns : List Int), ns.length ≤ n → Only H → SqL K H a (ns.map V.int) → sp K [.ref a] H (fun v _ => v = .bl true) fun _ _ _ => False) :
    PySem.W.WalkO q loose XP YP l.row.toRowW d [] (fun f vs => PySem.call f vs) := by
  refine Att.attach_call hm hdf fun w s₀ s mg mb fa o pm cd doc a vs ns G Y ho hd hcd hmg hobj hi hlen hg => ?_
  have kin := hY w _ Y
  obtain ⟨fd, b1, f1⟩ := F w mg fa _ kin G.T.g hmg
  have rv := vals_ints hi
  have lv := hi.length
  cases e : (K w.params).lookup a with
  | some ob =>
    have z := kin a ob e
    rw [hobj] at z
    cases z
    refine law_goG (vs := vs) kin G.T.g G.T.b G.T.builtins G.T.nolimit hg (fun _ => none) (fun _ => .inl rfl) (fun _ _ z => nomatch z) (fun _ z => absurd rfl z) hr f1 b1 ?_ fun _ _ z => z
    refine hsp _ _ a ns hlen (fun _ => .inl rfl) (.inr ⟨_, vs.toArray, _, e, rfl, rfl, rfl, ?_, by simpa using rv⟩)
    rw [List.size_toArray, lv]
    exact Nat.le_trans hlen hn
  | none =>
    have at_ : ∀ b u, scr a { cls := .type "list", data := .seq vs.toArray } ns b = some u → b = a ∧ u = .frz { cls := .type "list", data := .seq vs.toArray } (.lst (ns.map V.int)) := fun b u z => by
      unfold scr at z
      split at z
      · rename_i hb
        exact ⟨hb, (Option.some.inj z).symm⟩
      · cases z
    refine law_goG (vs := vs) kin G.T.g G.T.b G.T.builtins G.T.nolimit hg (scr a { cls := .type "list", data := .seq vs.toArray } ns) (fun b => ?_) (fun b u z => ?_) (fun b z => ?_) hr f1 b1 ?_ fun _ _ z => z
    · cases z : scr a { cls := .type "list", data := .seq vs.toArray } ns b with
      | none => exact .inl rfl
      | some u => exact .inr ⟨_, _, by rw [(at_ b u z).2]⟩
    · obtain ⟨rfl, rfl⟩ := at_ b u z
      exact ⟨hobj, by rw [List.length_map]; exact Nat.le_trans hlen hn, vs, _, rv, hobj⟩
    · cases y : scr a { cls := .type "list", data := .seq vs.toArray } ns b with
      | none => exact absurd y z
      | some u =>
        obtain ⟨rfl, _⟩ := at_ b u y
        exact ⟨hobj, e⟩
    · refine hsp _ _ a ns hlen (fun b => ?_) (.inl (.inr ⟨_, if_pos rfl⟩))
      cases z : scr a { cls := .type "list", data := .seq vs.toArray } ns b with
      | none => exact .inl rfl
      | some u => exact .inr ⟨_, _, by rw [(at_ b u z).2]⟩
end HX

set_option Elab.async false
set_option linter.all false
set_option maxRecDepth 100000
set_option maxHeartbeats 2000000
namespace HX
open PySem PySem.Spec PyProof.Rows L2

/-! ### what a value tells as data: None, bools, ints, texts, lists, tuples, dicts with int and text keys -/
def keyD : Key → PyData
  | .inl i => .int i
  | .inr x => .str x
mutual
inductive Da (H : Hp) : V → PyData → Prop
  | non : Da H .non .none
  | bl (b : Bool) : Da H (.bl b) (.bool b)
  | int (i : Int) : Da H (.int i) (.int i)
  | str (x : Str) : Da H (.str x) (.str x)
  | lst {a : Addr} {xs : List V} {ds : List PyData} : H a = some (.lst xs) → a ≠ sysModules → Das H xs ds → Da H (.ref a) (.list ds)
  | tup {a : Addr} {xs : List V} {ds : List PyData} : H a = some (.tup xs) → Das H xs ds → Da H (.ref a) (.tuple ds)
  | dic {a : Addr} {kvs : List (Key × V)} {ps : List (PyData × PyData)} : H a = some (.dK kvs) → Dks H kvs ps → Da H (.ref a) (.dict ps)
inductive Das (H : Hp) : List V → List PyData → Prop
  | nil : Das H [] []
  | cons {v : V} {vs : List V} {d : PyData} {ds : List PyData} : Da H v d → Das H vs ds → Das H (v :: vs) (d :: ds)
inductive Dks (H : Hp) : List (Key × V) → List (PyData × PyData) → Prop
  | nil : Dks H [] []
  | cons {k : Key} {v : V} {kvs : List (Key × V)} {d : PyData} {ps : List (PyData × PyData)} : Da H v d → Dks H kvs ps → Dks H ((k, v) :: kvs) ((keyD k, d) :: ps)
end
theorem Das.len {H : Hp} : ∀ {vs : List V} {ds : List PyData}, Das H vs ds → vs.length = ds.length
  | _, _, .nil => rfl
  | _, _, .cons _ t => by rw [List.length_cons, List.length_cons, t.len]
theorem Das.get {H : Hp} : ∀ {vs : List V} {ds : List PyData} {i : Nat} {v : V}, Das H vs ds → vs[i]? = some v → ∃ d, ds[i]? = some d ∧ Da H v d
  | _, _, _, _, .nil, e => by simp at e
  | _, _, 0, v, .cons h _, e => by
    simp at e
    subst e
    exact ⟨_, rfl, h⟩
  | _, _, i + 1, v, .cons _ t, e => by
    obtain ⟨d, h1, h2⟩ := t.get (i := i) (v := v) (by simpa using e)
    exact ⟨d, by simpa using h1, h2⟩
theorem Das.app {H : Hp} : ∀ {vs us : List V} {ds es : List PyData}, Das H vs ds → Das H us es → Das H (vs ++ us) (ds ++ es)
  | _, _, _, _, .nil, t => t
  | _, _, _, _, .cons h t, t2 => .cons h (t.app t2)
mutual
theorem Da.mo {H H' : Hp} (m : Same H H') : ∀ {d : PyData} {v : V}, Da H v d → Da H' v d
  | _, _, .non => .non
  | _, _, .bl b => .bl b
  | _, _, .int i => .int i
  | _, _, .str x => .str x
  | _, _, .lst s n t => .lst (m _ _ s) n (Das.mo m t)
  | _, _, .tup s t => .tup (m _ _ s) (Das.mo m t)
  | _, _, .dic s t => .dic (m _ _ s) (Dks.mo m t)
theorem Das.mo {H H' : Hp} (m : Same H H') : ∀ {ds : List PyData} {vs : List V}, Das H vs ds → Das H' vs ds
  | _, _, .nil => .nil
  | _, _, .cons h t => .cons (Da.mo m h) (Das.mo m t)
theorem Dks.mo {H H' : Hp} (m : Same H H') : ∀ {ps : List (PyData × PyData)} {kvs : List (Key × V)}, Dks H kvs ps → Dks H' kvs ps
  | _, _, .nil => .nil
  | _, _, .cons h t => .cons (Da.mo m h) (Dks.mo m t)
end
section
variable {X : Cx} {pins : List (Addr × Obj)} {σ : L2.St} {H : Hp} {s : Shared}
theorem key_reads {h : Heap} {k : Key} {v : Value} (e : keyIs k v = true) : Reads h v (keyD k) [] := by
  rcases keyIs_shape e with ⟨i, t, rfl, rfl⟩ | ⟨x, t, rfl, rfl⟩
  · exact .int i t
  · exact .str x t
mutual
/-- .. as it stands in the heap; of the addresses that are read, none is sys.modules -/
theorem Da.reads (I : Inv X pins σ H s) : ∀ {d : PyData} {v : V} {u : Value}, Da H v d → RelV v u → ∃ as, Reads s.heap u d as ∧ sysModules ∉ as
  | _, _, _, .non, r => by cases r; exact ⟨_, .none, fun z => nomatch z⟩
  | _, _, _, .bl b, r => by cases r; exact ⟨_, .bool b, fun z => nomatch z⟩
  | _, _, _, .int i, r => by obtain ⟨t, rfl⟩ := r; exact ⟨_, .int i t, fun z => nomatch z⟩
  | _, _, _, .str x, r => by obtain ⟨t, rfl⟩ := r; exact ⟨_, .str x t, fun z => nomatch z⟩
  | _, _, _, .lst h nz t, r => by
    cases r
    obtain ⟨its, rv, ⟨o, n, ho, hc, _, hd⟩, _⟩ := I.list (SqL.of h)
    obtain ⟨as, hr, qs⟩ := Das.reads I t rv
    exact ⟨_, .list ho hc hd (by simpa using hr), fun z => (List.mem_cons.mp z).elim (fun e => nz e.symm) qs⟩
  | _, _, _, .tup h t, r => by
    cases r
    obtain ⟨its, rv, ⟨o, ho, hc, n, hd⟩, _⟩ := I.tuple (SqT.of h)
    obtain ⟨as, hr, q⟩ := Das.reads I t rv
    exact ⟨_, .tuple ho hc hd (by simpa using hr), q⟩
  | _, _, _, .dic (a := a) (kvs := kvs) h t, r => by
    cases r
    obtain ⟨_, nsys, vs, kv, o, es, ep, ho, hx, hd, _, hp, _⟩ := (show ObjOk X.prog X.w H s.heap a (.dK kvs) from I.hok a _ h)
    obtain ⟨bs, hr1, hr2, q⟩ := Dks.reads I t kv hp
    refine ⟨_, .dict (as := []) (bs := bs) ho hx.1 hd hr1 hr2, fun hm => ?_⟩
    rcases List.mem_cons.mp hm with e | hm
    · rw [← e] at nsys
      simp at nsys
    · exact q (by simpa using hm)
theorem Das.reads (I : Inv X pins σ H s) : ∀ {ds : List PyData} {vs : List V} {us : List Value}, Das H vs ds → Vals vs us → ∃ as, ReadsAll s.heap us ds as ∧ sysModules ∉ as
  | _, _, _, .nil, r => by cases r; exact ⟨_, .nil, fun z => nomatch z⟩
  | _, _, _, .cons h t, r => by
    cases r with
    | cons r1 r2 =>
      obtain ⟨as, h1, q1⟩ := Da.reads I h r1
      obtain ⟨bs, h2, q2⟩ := Das.reads I t r2
      exact ⟨_, .cons h1 h2, fun hm => (List.mem_append.mp hm).elim q1 q2⟩
theorem Dks.reads (I : Inv X pins σ H s) : ∀ {ps : List (PyData × PyData)} {kvs : List (Key × V)} {vs : List (Key × Value)} {es : List DictEntry}, Dks H kvs ps → KV kvs vs → Pairs (mixKind X.prog X.w) es vs →
    ∃ bs, ReadsAll s.heap (es.map (·.key)) (ps.map (·.1)) [] ∧ ReadsAll s.heap (es.map (·.val)) (ps.map (·.2)) bs ∧ sysModules ∉ bs
  | _, _, _, _, .nil, r, p => by cases r; cases p; exact ⟨_, .nil, .nil, fun z => nomatch z⟩
  | _, _, _, _, .cons h t, r, p => by
    cases r with
    | cons r1 r2 =>
      cases p with
      | cons p1 p2 p3 =>
        obtain ⟨e1, e2⟩ := r1
        obtain ⟨as, h1, q1⟩ := Da.reads I h e2
        obtain ⟨bs, h2, h3, q2⟩ := Dks.reads I t r2 p3
        rw [← e1] at p1
        refine ⟨as ++ bs, .cons (key_reads p1) h2, .cons (by show Reads s.heap (DictEntry.val _) _ _; rw [p2]; exact h1) h3, fun hm => (List.mem_append.mp hm).elim q1 q2⟩
end
/-- data that repr can show: not deep, not long -/
structure OkD (d : PyData) : Prop where
  sh : d.showable = true
  dp : d.depth ≤ 60
  lv : d.leavesShort 1000 = true
  wt : d.weight ≤ 10000
theorem OkD.len {d : PyData} (h : OkD d) : d.shown.length ≤ sizeLine := by
  have e := PyData.shown_le 1000 (by decide) d h.lv
  have w := h.wt
  rw [sizeLine_eq]
  omega
/-- repr of a list, a tuple, a dict -/
def rRepr : List V → Hp → VK → Prop := fun xs H Q => ∃ (a : Addr) (d : PyData), xs = [.ref a] ∧ Da H (.ref a) d ∧ OkD d ∧ Q (.str d.shown) H
theorem call_reprD (gd : X.A.guards = some []) (hu : X.A.units + 64 < cLine) : CallR X (.builtin "repr") rRepr := by
  intro pins s σ H xs us Q I r h
  obtain ⟨a, d, rfl, hd, ok, q⟩ := h
  obtain ⟨u, rfl, ru⟩ := vals1 r
  obtain ⟨as, hr, hsys⟩ := Da.reads I hd ru
  cases ru
  have hz := ok.dp
  exact repr_of_reads' hr ok.sh (fun _ => hsys) gd (by omega) (fun _ _ e => e) (fun h' t tk k => ⟨.str d.shown, H, I.kept k, ⟨_, rfl⟩, q⟩) ok.len
end
end HX

set_option Elab.async false
set_option linter.all false
set_option maxRecDepth 100000
set_option maxHeartbeats 2000000
namespace HX
open PySem PySem.Spec PyProof.Rows L2

/-! ### an exception that was caught, kept as a value: at a, of the class cls, its own dict at d -/
def exT (a : Addr) (cls : Value) (d : Option Addr) : HO := .ext fun h => ∃ oe vs, h.get? a = some oe ∧ Zc cls d oe ∧ oe.data = .fields vs
theorem exT_ok {P : Program} {w : World} {H : Hp} {h : Heap} {a : Addr} {cls : Value} {d : Option Addr} {oe : Obj} {vs : Array Value} (e : h.get? a = some oe) (z : Zc cls d oe) (q : oe.data = .fields vs) : ObjOk P w H h a (exT a cls d) :=
  ⟨⟨oe, vs, e, z, q⟩, ⟨oe, e⟩, fun _ _ ⟨o, us, x1, x2⟩ k => ⟨o, us, k o x1, x2⟩⟩
theorem exT_at {P : Program} {w : World} {H : Hp} {h : Heap} {a : Addr} {cls : Value} {d : Option Addr} (ok : HOk P w H h) (e : H a = some (exT a cls d)) : ∃ oe vs, h.get? a = some oe ∧ Zc cls d oe ∧ oe.data = .fields vs := by
  have x : ObjOk P w H h a (.ext fun h => ∃ oe vs, h.get? a = some oe ∧ Zc cls d oe ∧ oe.data = .fields vs) := ok a _ e
  exact x.1

section
variable {X : Cx} {pins : List (Addr × Obj)} {σ : L2.St} {H : Hp} {sI s' s : Shared} {B : Heap}
/-- back on the ground, the exception tracked -/
theorem landedK {a : Addr} {cls : Value} {d : Option Addr} {oe : Obj} {vs : Array Value} (I : Inv X pins σ H sI) (nb : ∀ b o, sI.heap.get? b = some o → b ∉ frs X.stack → B.get? b = some o) (st : B.StaysIn s'.heap)
    (up : sI.heap.UpToSlots s'.heap) (os : s'.os = sI.os) (ag : AllBare s'.gens) (na : H a = none) (nB : B.get? a = none) (nf : a ∉ frs X.stack) (he : s'.heap.get? a = some oe) (hz : Zc cls d oe) (hd : oe.data = .fields vs) :
    Inv X pins σ (upd H a (exT a cls d)) s' := by
  have nI : ∀ b o, sI.heap.get? b = some o → b ≠ a := fun b o e z => by
    subst z
    rw [nb b o e nf] at nB
    cases nB
  have fr : ∀ b ∈ frs X.stack, ∀ o, sI.heap.get? b = some o → ∃ sl, s'.heap.get? b = some { o with slots := sl } := fun b hb o e => by
    obtain ⟨_, o', e', q⟩ := I.stack.mem hb
    rw [e] at e'
    cases e'
    exact up b o e q
  have hk : HOk X.prog X.w H s'.heap := (I.inGround nb).kept st
  have hok : HOk X.prog X.w (upd H a (exT a cls d)) s'.heap := fun b u e => by
    by_cases hb : b = a
    · subst hb
      rw [upd_same] at e
      cases e
      exact exT_ok he hz hd
    · rw [upd_ne hb] at e
      exact (hk b u e).stay (fun _ _ _ z => z) (fun c z => by rw [upd_ne (ne_of_none z na)]; exact z) fun c xs z => by rw [upd_ne (ne_of_none z na)]; exact z
  have un : Un (frs X.stack) [] H (upd H a (exT a cls d)) sI.heap s'.heap := {
    keep := fun b o e _ hb _ => st b o (nb b o e hb)
    slot := fun b o e _ hb _ => fr b hb o e
    free := fun b o e n _ => by rw [upd_ne (nI b o e)]; exact n
    there := fun b o e _ => by
      by_cases hb : b ∈ frs X.stack
      · obtain ⟨sl, q⟩ := fr b hb o e
        exact ⟨_, q⟩
      · exact ⟨o, st b o (nb b o e hb)⟩
    tups := fun b xs e => by rw [upd_ne (ne_of_none e na)]; exact e
    frzs := fun b o u e => by rw [upd_ne (ne_of_none e na)]; exact e
    tbls := fun b ps e => ⟨#[], by rw [upd_ne (ne_of_none e na), e]; simp⟩ }
  exact I.call' (ch := []) os un hok ag fun _ z => nomatch z
theorem inSuite (I : Inv X pins σ H s) (a : Addr) : Inv (X.suite a (X.pn ++ pins)) [] σ H s :=
  ⟨I.ok.suite _ _, I.os, I.bare, I.base, I.loc, I.cell, I.free, I.freeC, fun p hp => I.pin p (by rw [List.append_nil] at hp; exact hp), I.hok, I.len⟩
theorem outSuite {a : Addr} {pn' : List (Addr × Obj)} (I : Inv (X.suite a (X.pn ++ pins)) pn' σ H s) (ok : X.Ok) : Inv X pins σ H s :=
  ⟨ok, I.os, I.bare, I.base, I.loc, I.cell, I.free, I.freeC, fun p hp => I.pin p (List.mem_append_left _ hp), I.hok, I.len⟩
end

/-- what 'except x as n' wishes of an exception of the body, where the suite keeps it as a value -/
def wKeep (K : PySem.W.Frag) (c : Value) (i : Nat) (ts : TS) (Wout : WX) (D : Ends) : WX := fun cls d σ H =>
  ∃ b, PySem.W.exmOne K cls c = some b ∧
    (b = true → ∀ a, H a = none → ts { nx := fun σ' G => D.nx (σ'.set i none) G, rt := D.rt, bk := fun σ' G => D.bk (σ'.set i none) G, ct := fun σ' G => D.ct (σ'.set i none) G } (σ.set i (some (.ref a))) (upd H a (exT a cls d))) ∧
    (b = false → Wout cls d σ H)

section
variable {X : Cx} {x n : Str} {c : Value} {i : Nat} {body rest : List Stmt} {b₀ : Stmt} {np pos pos' : Pos} {tb : WX → TS} {ts : TS} {Wout : WX}
theorem ps_try_keep (hs : X.stack = X.env :: X.outer) (hf : X.env.frame = some X.env.locals) (hN : X.N.Nodup) (hi : X.N[i]? = some n) (hln : X.env.kindOf n = some .local) (hc : Names X x c) (tk : Takes X Wout)
    (hb : ∀ (W : WX) (pn : List (Addr × Obj)) (xe : Value → Shared → Prop), Takes (X.tr pn xe) W → PassesOwn (model X.prog X.w) X.A X.env xe → PSs (X.tr pn xe) body (tb W))
    (hsu : ∀ (a : Addr) (pn : List (Addr × Obj)), PSs (X.suite a pn) (b₀ :: rest) ts) :
    PS X (.Try body [.ExceptHandler (some (.Name x np)) (some n) (b₀ :: rest) pos'] [] [] pos) (fun D σ H => tb (wKeep X.K c i ts Wout D) D σ H) := by
  refine ⟨fun pins s σ H D I h => ?_⟩
  have ok := I.ok
  have hfr : X.A.frames = some (X.env :: X.outer) := by rw [ok.frames, hs]
  have hloc : Loc X.env.scope n := .inl hln
  refine wpAny_Try_except ?_
  refine wpAny_mono ((hb (wKeep X.K c i ts Wout D) (X.pn ++ pins)
    (fun e s₁ => wpAny (model X.prog X.w) X.A (noteFrame e X.env) (fun _ s₂ => wpAny (model X.prog X.w) X.A (setFlight e none)
      (fun _ s₃ => wpAny (model X.prog X.w) X.A (handleBy e X.env [.ExceptHandler (some (.Name x np)) (some n) (b₀ :: rest) pos']) (SP X pins D) X.xe s₃) X.xe s₂) X.xe s₁)
    (fun u s' xx => ?_) PassesOwn.looking).run [] s σ H D (I.toTry _) h) (fun f s1 q => ?_) (fun _ _ z => z)
  · obtain ⟨a, B, sI, pins', σ', G, cls, d, rfl, J', nb, up, sky, na, os, ag, b, hb1, yes, no⟩ := xx
    have J : Inv X pins σ' G sI := J'.ofTry ok
    have sky2 : Sky B (X.env :: X.outer) a (Zc cls d) X.env.locals s'.heap := by rw [← hs]; exact sky
    show wpAny (model X.prog X.w) X.A (noteFrame (.ref a) X.env) _ _ _
    refine Sky.land Zc.steady hfr hf sky2 fun h3 fl3 up3 => ?_
    obtain ⟨oe3, vs3, he3, hz3, hd3⟩ := fl3.there
    have nfr : a ∉ frs X.stack := by
      rw [hs]
      intro hm
      obtain ⟨_, o, e, q⟩ := fl3.2.2.1.mem hm
      rw [he3] at e
      cases e
      exact q _ hd3
    have J3 := landedK (s' := { s' with heap := h3 }) J nb fl3.1 (up.trans up3) os ag na fl3.2.1 nfr he3 hz3 hd3
    have S3 := inSuite J3 a
    refine wpAny_handleBy_cons (codeAny_handlers_test ?_) (by intro q; cases q)
    have LT : PySem.W.Looks (model X.prog X.w) h3 (typeOf (.ref a)) cls := fun A Q E s k q => wpAny_typeOf_ref (k _ _ he3) (by rw [hz3.1]; exact q)
    have LM := PySem.W.exm_one (M := model X.prog X.w) J3.kIn LT hb1
    have test : ∀ {Q : Value → Shared → Prop} {E : Value → Shared → Prop}, Q c { s' with heap := h3 } → wpAny (model X.prog X.w) (X.A.mark (some (.ref a))) (eval (.Name x np) X.env) Q E { s' with heap := h3 } := fun {Q E} q => by
      obtain ⟨z1, z2, z3 | ⟨z3, z4, z5⟩⟩ := hc
      · exact ld_glob S3 z1 z3 q z2
      · exact ld_blt S3 z1 z3 z4 q z5 z2
    refine test (LM.here ?_)
    cases b with
    | true =>
      refine codeAny_handlers_suite_as ?_
      refine HandSPX.lands_againZ fl3 fun h4 fl4 up4 => ?_
      obtain ⟨oe4, vs4, he4, hz4, hd4⟩ := fl4.there
      have J4 := landedK (s' := { s' with heap := h4 }) J nb fl4.1 ((up.trans up3).trans up4) os ag na fl4.2.1 nfr he4 hz4 hd4
      refine store_ok (X := X.suite a (X.pn ++ pins)) (v := .ref a) (inSuite J4 a) hN hi hloc rfl (fun s5 S5 => ?_) (.inr hln)
      have leave : ∀ {σ6 : L2.St} {G6 : Hp} {s6 : Shared} {Q : Shared → Prop}, Inv (X.suite a (X.pn ++ pins)) [] σ6 G6 s6 → (∀ s7, Inv X pins (σ6.set i none) G6 s7 → Q s7) →
          wpAny (model X.prog X.w) X.A (do bindName X.env n .none; unbindBehindTheSuite X.env n pos') (fun _ s7 => Q s7) X.xe s6 := fun S6 hq => gone_ok (outSuite S6 ok) hN hi hln hq
      refine wpAny_mono ((hsu a (X.pn ++ pins)).run [] s5 _ _ _ S5 (yes rfl a na)) (fun f s6 q => ?_) (fun _ _ z => False.elim z)
      match f, q with
      | .next, ⟨σ6, G6, S6, q6⟩ => exact leave S6 fun s7 J7 => ⟨_, _, J7, q6⟩
      | .brk, ⟨σ6, G6, S6, q6⟩ => exact leave S6 fun s7 J7 => ⟨_, _, J7, q6⟩
      | .cont, ⟨σ6, G6, S6, q6⟩ => exact leave S6 fun s7 J7 => ⟨_, _, J7, q6⟩
      | .ret u, ⟨v6, σ6, G6, S6, r6, q6⟩ => exact leave S6 fun s7 J7 => ⟨_, _, _, J7, r6, q6⟩
    | false =>
      show wpAny _ X.A (handleBy (.ref a) X.env []) _ _ _
      refine wpAny_handleBy_nil ?_
      obtain ⟨k1, k2, k3, oe, vs, T, oT, ts', he, hz, hd, h1, hr⟩ := id fl3
      unfold PySem.passOn
      refine wpAny_bind (wpAny_field he hd h1 ?_)
      rw [if_neg (show ¬ ((Value.ref T == Value.none) = true) from by simp)]
      have fin : wpAny (model X.prog X.w) X.A (setFlight (.ref a) X.env.frame) (fun _ s4 => wpAny (model X.prog X.w) X.A (throw (.ref a) : Sem Flow) (SP X pins D) X.xe s4) X.xe { s' with heap := h3 } := by
        rw [hf]
        refine HandSPX.setFlight_upZ fl3 fun h4 hh4 up4 => wpAny_throw (tk _ _ ?_)
        exact ⟨a, B, sI, pins, σ', G, cls, d, rfl, J, nb, (up.trans up3).trans up4, .inr (.inr (by rw [hs]; exact hh4)), na, os, ag, no rfl⟩
      first
        | exact wpAny_bind (wpAny_pure (wpAny_bind fin))
        | exact wpAny_bind fin
  · match f, q with
    | .next, ⟨σ', G, J', z⟩ => exact wpAny_execs_nil ⟨σ', G, J'.ofTry ok, z⟩
    | .brk, ⟨σ', G, J', z⟩ => exact ⟨σ', G, J'.ofTry ok, z⟩
    | .cont, ⟨σ', G, J', z⟩ => exact ⟨σ', G, J'.ofTry ok, z⟩
    | .ret u, ⟨v, σ', G, J', r, z⟩ => exact ⟨v, σ', G, J'.ofTry ok, r, z⟩
end

/-! ### such a value's class and fields -/
/-- what an own exception class must have -/
structure ExC (K : PySem.W.Frag) (C : Addr) : Prop where
  ga : PySem.W.findIn K (.ref C) "__getattribute__" = some (some (.builtin "BaseException.__getattribute__"))
  gg : PySem.W.findIn K (.ref C) "__getattr__" = some none
  sub : PySem.W.subIn K (.ref C) (.type "BaseException") = some true
  hd : PySem.W.hasDictIn K C = true
  ha : PySem.W.findIn K (.ref C) "__class__" = some (some (.builtin "object.__class__"))
  hn : PySem.W.specialIn K (.builtin "object.__class__") "__get__" = some (some (.builtin "getset_descriptor.__get__"))
  ht : PySem.W.takesIn K (.builtin "object.__class__") = some true
  hm : PySem.W.mroIn K C (.type "object") = some true
theorem instAt_of {h : Heap} {a C : Addr} {oe od : Obj} {vs : Array Value} {d : Addr} (he : h.get? a = some oe) (hz : Zc (.ref C) (some d) oe) (hf : oe.data = .fields vs) (ho : h.get? d = some od) : PySem.W.InstAt h a oe C (some od) := by
  obtain ⟨c1, d1, dt, sl⟩ := oe
  obtain ⟨rfl, rfl⟩ := hz
  dsimp only at hf
  subst hf
  exact ⟨he, rfl, rfl, ho⟩
theorem instAt_of0 {h : Heap} {a C : Addr} {oe : Obj} {vs : Array Value} (he : h.get? a = some oe) (hz : Zc (.ref C) none oe) (hf : oe.data = .fields vs) : PySem.W.InstAt h a oe C none := by
  obtain ⟨c1, d1, dt, sl⟩ := oe
  obtain ⟨rfl, rfl⟩ := hz
  dsimp only at hf
  subst hf
  exact ⟨he, rfl, rfl, trivial⟩
section
variable {X : Cx} {e : Expr} {te : TE} {f : Str} {pos : Pos}
/-- e.f -/
def tExf (K : PySem.W.Frag) (f : Str) (te : TE) : TE := fun σ H Q => te σ H fun x G => ∃ (a C d : Addr) (fs : List (Str × V)) (v : V), x = .ref a ∧ G a = some (exT a (.ref C) (some d)) ∧ G d = some (.xd fs) ∧ ExC K C ∧ PySem.W.findIn K (.ref C) f = some none ∧ fs.lookup f = some v ∧ Q v G
theorem pe_exf (he : PE X e te) (hb : attributeBase e f X.env (eval e X.env) = eval e X.env := by rfl) : PE X (.Attribute e f pos) (tExf X.K f te) := by
  refine ⟨fun pins s σ H Q I h => attr_of hb (thn (he.run pins s σ H _ I h) fun u s1 ⟨x, G, I1, rx, a, C, d, fs, v, ex, ea, ed, T, no, l, q⟩ => ?_)⟩
  subst ex
  obtain rfl : u = Value.ref a := rx
  obtain ⟨oe, vs, z1, z2, z3⟩ := exT_at I1.hok ea
  obtain ⟨mA, hns, hr⟩ := (show ObjOk X.prog X.w G s1.heap d (.xd fs) from I1.hok d _ ed)
  obtain ⟨od, ho, hl⟩ := lookIn_ns hns
  obtain ⟨w', hu, ru⟩ := RelO.some_of (v := v) (o := mA f) (by rw [← l]; exact hr f)
  exact HandSPX.exc_get I1.kIn (instAt_of z1 z2 z3 ho) T.ga T.gg T.sub (PySem.W.findObj_own T.hd no rfl (by rw [hl, hu])) (handed_of ru) ⟨v, G, I1.tok _, ru, q⟩
/-- isinstance(e, c) -/
def rIsX (K : PySem.W.Frag) : List V → Hp → VK → Prop := fun xs H Q => ∃ (a D : Addr) (d : Option Addr) (c : V) (cv : Value) (b : Bool), xs = [.ref a, c] ∧ H a = some (exT a (.ref D) d) ∧ (∀ dd, d = some dd → ∃ fs, H dd = some (.xd fs)) ∧ ExC K D ∧ (∀ u, RelV c u → u = cv) ∧
  PySem.W.kitOne K (.ref D) cv = some b ∧ Q (.bl b) H
theorem call_isX : CallR X (.builtin "isinstance") (rIsX X.K) := by
  intro pins s σ H xs us Q I r h
  obtain ⟨a, D, d, c, cv, b, rfl, ea, ed, T, hc, hk, q⟩ := h
  obtain ⟨u, u2, rfl, r1, r2⟩ := vals2 r
  cases r1
  have e2 := hc _ r2
  subst e2
  obtain ⟨oe, vs, z1, z2, z3⟩ := exT_at I.hok ea
  have hcl : (PySem.W.clsIn X.K D).isSome = true := by
    obtain ⟨cd, z, _⟩ := PySem.W.any_some T.hd
    rw [z]
    rfl
  cases d with
  | none => exact PySem.W.kia_one (PySem.W.kitx_exc hcl T.ga T.gg T.sub T.ha T.hn T.ht T.hm) I.kIn (instAt_of0 z1 z2 z3) hk (fun z => nomatch z) fun tk => ⟨.bl b, H, I.kept (t' := tk) fun _ _ z => z, rfl, q⟩
  | some dd =>
    obtain ⟨fs, ed⟩ := ed dd rfl
    obtain ⟨mA, ⟨od, _, _, ho, _⟩, _⟩ := (show ObjOk X.prog X.w H s.heap dd (.xd fs) from I.hok dd _ ed)
    exact PySem.W.kia_one (PySem.W.kitx_exc hcl T.ga T.gg T.sub T.ha T.hn T.ht T.hm) I.kIn (instAt_of z1 z2 z3 ho) hk (fun z => nomatch z) fun tk => ⟨.bl b, H, I.kept (t' := tk) fun _ _ z => z, rfl, q⟩
end
end HX

set_option Elab.async false
set_option linter.all false
set_option maxRecDepth 100000
set_option maxHeartbeats 2000000
namespace HX
open PySem PySem.Spec PyProof.Rows L2

/-! ### own error classes whose __init__ keeps one field, two fields -/
def spI1 (C : Addr) (f : Str) : Sp := fun vs H Q _ => ∃ (a : Addr) (v : V), vs = [.ref a, v] ∧ H a = some (exo a C none) ∧
  ∀ dx, H dx = none → dx ≠ a → Q .non (upd (upd H dx (exd dx [(f, v)])) a (exo a C (some dx)))
def spI2 (C : Addr) (f g : Str) : Sp := fun vs H Q _ => ∃ (a : Addr) (v u : V), vs = [.ref a, v, u] ∧ H a = some (exo a C none) ∧
  ∀ dx, H dx = none → dx ≠ a → Q .non (upd (upd (upd H dx (exd dx [(f, v)])) a (exo a C (some dx))) dx (exd dx [(g, u), (f, v)]))
/-- what the written part says of such a class -/
structure RxC (K : PySem.W.Frag) (mg : Str → Option Value) (x : Str) (C fI : Addr) : Prop where
  o : OexC K C
  iC : PySem.W.findIn K (.ref C) "__init__" = some (some (.ref fI))
  tI : PySem.W.typeIn K (.ref fI) = some (.type "function")
  gC : mg x = some (.ref C)
section
variable {P : Program} {w : World} {K : PySem.W.Frag} {mg : Str → Option Value} {base : Heap} {C fI : Addr} {fd : FuncData} {qual f g : Str} {st : Stmt}
theorem ok_init1 (F : Fun K "__init__" qual st fI fd) (T : OexC K C) (no : PySem.W.findIn K (.ref C) f = some none) (S : FnScope ["self", f] ["self", f] (defScope st))
    (hb : ∃ p1 p2 p3 p4, defBody st = [.Assign [.Attribute (.Name "self" p1) f p2] (.Name f p3) p4])
    (v0 : Vis (defScope st) "self" := by exact Or.inl rfl) (v1 : Vis (defScope st) f := by exact Or.inl rfl)
    (hd : (f == ("__debug__" : Str)) = false := by decide) (hcd : (f == ("__classdict__" : Str)) = false := by decide) : FnOk P w K mg base CX0 1 fI fd ["self", f] (spI1 C f) := by
  obtain ⟨p1, p2, p3, p4, eb⟩ := hb
  refine F.ok S (fun vs H Q E h => ?_) (fun cdv A outer s H vs Q E hr h => ?_)
  · obtain ⟨a, v, rfl, _⟩ := h
    rfl
  · obtain ⟨a, v, rfl, ha, k⟩ := h
    rw [eb]
    refine ⟨_, pss_one (ps_ost (pe_var (i := 0) rfl v0) (pe_var (i := 1) rfl v1 hd hcd)), ?_⟩
    exact ⟨v, rfl, _, rfl, a, C, rfl, T, no, .inl ⟨ha, fun dx n ne => k dx n ne⟩⟩
theorem ok_init2 (F : Fun K "__init__" qual st fI fd) (T : OexC K C) (no : PySem.W.findIn K (.ref C) f = some none) (no2 : PySem.W.findIn K (.ref C) g = some none) (S : FnScope ["self", f, g] ["self", f, g] (defScope st))
    (hb : ∃ p1 p2 p3 p4 q1 q2 q3 q4, defBody st = [.Assign [.Attribute (.Name "self" p1) f p2] (.Name f p3) p4, .Assign [.Attribute (.Name "self" q1) g q2] (.Name g q3) q4])
    (v0 : Vis (defScope st) "self" := by exact Or.inl rfl) (v1 : Vis (defScope st) f := by exact Or.inl rfl) (v2 : Vis (defScope st) g := by exact Or.inl rfl)
    (hd : (f == ("__debug__" : Str)) = false := by decide) (hcd : (f == ("__classdict__" : Str)) = false := by decide)
    (hd2 : (g == ("__debug__" : Str)) = false := by decide) (hcd2 : (g == ("__classdict__" : Str)) = false := by decide) : FnOk P w K mg base CX0 1 fI fd ["self", f, g] (spI2 C f g) := by
  obtain ⟨p1, p2, p3, p4, q1, q2, q3, q4, eb⟩ := hb
  refine F.ok S (fun vs H Q E h => ?_) (fun cdv A outer s H vs Q E hr h => ?_)
  · obtain ⟨a, v, u, rfl, _⟩ := h
    rfl
  · obtain ⟨a, v, u, rfl, ha, k⟩ := h
    rw [eb]
    refine ⟨_, pss_cons (ps_ost (pe_var (i := 0) rfl v0) (pe_var (i := 1) rfl v1 hd hcd)) (pss_one (ps_ost (pe_var (i := 0) rfl v0) (pe_var (i := 2) rfl v2 hd2 hcd2))), ?_⟩
    refine ⟨v, rfl, _, rfl, a, C, rfl, T, no, .inl ⟨ha, fun dx n ne => ?_⟩⟩
    exact ⟨u, rfl, _, rfl, a, C, rfl, T, no2, .inr ⟨dx, [(f, v)], upd_same, by rw [upd_ne ne, upd_same], by show 1 ≤ 900; decide, k dx n ne⟩⟩
end

theorem lay_gone {H : Hp} {a dx : Addr} {o1 o2 o3 u : HO} (na : H a = none) (ne : dx ≠ a) : upd (del (upd (upd (upd H a o1) dx o2) a o3) a) dx u = upd H dx u := by
  funext b
  by_cases h1 : b = dx
  · rw [h1, upd_same, upd_same]
  · rw [upd_ne h1, upd_ne h1]
    by_cases h2 : b = a
    · rw [h2, del_same, na]
    · rw [del_ne h2, upd_ne h2, upd_ne h1, upd_ne h2]
theorem lay_gone2 {H : Hp} {a dx : Addr} {o1 o2 o3 o4 u : HO} (na : H a = none) (ne : dx ≠ a) : upd (del (upd (upd (upd (upd H a o1) dx o2) a o3) dx o4) a) dx u = upd H dx u := by
  funext b
  by_cases h1 : b = dx
  · rw [h1, upd_same, upd_same]
  · rw [upd_ne h1, upd_ne h1]
    by_cases h2 : b = a
    · rw [h2, del_same, na]
    · rw [del_ne h2, upd_ne h1, upd_ne h2, upd_ne h1, upd_ne h2]

/-- the answer where such an error is made: its own dict d is new and holds the field -/
theorem mk1_ans {H : Hp} {C : Addr} {f : Str} {v : V} {Q : XK} (h : ∀ d, H d = none → Q (.ref C) (some d) (upd H d (.xd [(f, v)]))) :
    [v].length ≤ 1000 ∧ ∀ a, H a = none → spI1 C f (.ref a :: ([v] ++ [])) (upd H a (exo a C none))
      (fun u G => u = .non ∧ ∃ (d : Addr) (fs : List (Str × V)), G a = some (exo a C (some d)) ∧ G d = some (exd d fs) ∧ H d = none ∧ Q (.ref C) (some d) (upd (del G a) d (.xd fs))) (fun _ _ _ => False) := by
  refine ⟨by show 1 ≤ 1000; decide, fun a na => ⟨a, v, rfl, upd_same, fun dx nx ne => ?_⟩⟩
  rw [upd_ne ne] at nx
  exact ⟨rfl, dx, _, upd_same, by rw [upd_ne ne, upd_same], nx, by rw [lay_gone na ne]; exact h dx nx⟩
theorem mk2_ans {H : Hp} {C : Addr} {f g : Str} {v u : V} {Q : XK} (h : ∀ d, H d = none → Q (.ref C) (some d) (upd H d (.xd [(g, u), (f, v)]))) :
    [v, u].length ≤ 1000 ∧ ∀ a, H a = none → spI2 C f g (.ref a :: ([v, u] ++ [])) (upd H a (exo a C none))
      (fun z G => z = .non ∧ ∃ (d : Addr) (fs : List (Str × V)), G a = some (exo a C (some d)) ∧ G d = some (exd d fs) ∧ H d = none ∧ Q (.ref C) (some d) (upd (del G a) d (.xd fs))) (fun _ _ _ => False) := by
  refine ⟨by show 2 ≤ 1000; decide, fun a na => ⟨a, v, u, rfl, upd_same, fun dx nx ne => ?_⟩⟩
  rw [upd_ne ne] at nx
  exact ⟨rfl, dx, _, by rw [upd_ne (Ne.symm ne), upd_same], upd_same, nx, by rw [lay_gone2 na ne]; exact h dx nx⟩
section
variable {X : Cx} {x f g : Str} {C fI : Addr} {fd : FuncData} {k : Nat} {e : Expr} {es : List Expr} {ta : TA} {W : WX} {p pos pos2 : Pos} {ps : List Str} {sp : Sp}
/-- raise C(e, ..) -/
theorem ps_raiseO (hc : X.calm = true) (T : RxC X.K X.mg x C fI) (F : FnOk X.prog X.w X.K X.mg X.base CX0 k fI fd ps sp) (b : Binds X.K fd ps []) (hr : Room (k + 1) X.A) (tk : Takes X W) (he : PA X (e :: es) ta) (hg : Gl X x)
    (hdb : (x == ("__debug__" : Str)) = false := by decide) (hs : starEach (e :: es) X.env = (false, eval e X.env) :: starEach es X.env := by rfl) (hpl : (backTo pos (starEach es X.env)).any (·.1) = false := by rfl) :
    PS X (.Raise (some (.Call (.Name x p) (e :: es) [] pos)) none pos2) (fun _ σ H => tMkO C sp [] ta σ H fun cls d G => W cls d σ G) :=
  ps_raise hc tk (pmk_oex T.o T.iC T.tI F hr b .nil (fun _ _ _ _ _ _ _ z => z.elim) hg T.gC he hdb hs hpl)
end
end HX

set_option Elab.async false
set_option linter.all false
set_option maxRecDepth 100000
set_option maxHeartbeats 2000000
namespace HX
open PySem PySem.Spec PyProof.Rows L2

/-! ### readings that reckon: a name, a test, operators by the values' kinds -/
def cV (i : Nat) : TE := fun σ H Q => match σ[i]? with
  | some (some v) => Q v H
  | _ => False
def cT (te : TE) : TT := fun σ H Q => te σ H fun x G => match x with
  | .bl k => Q k G
  | _ => False
def rI2 (C : Int → Int → Prop) (g : Int → Int → V) : R2 := fun x y H Q => match x, y with
  | .int i, .int j => C i j ∧ Q (g i j) H
  | _, _ => False
/-- one factor below 2 ^ 64, or both together below a million bits -/
def CMulU (i j : Int) : Prop := CMul i j ∨ CMulW i j
def rI1 (g : Int → Int → V) : R2 := fun x y H Q => match x, y with
  | .int i, .int j => Q (g i j) H
  | _, _ => False
def rAdd2 : R2 := fun x y H Q => match x, y with
  | .int i, .int j => Q (.int (i + j)) H
  | .str a, .str b => a.length + b.length ≤ sizeLine ∧ Q (.str (a ++ b)) H
  | _, _ => False
def eqD2 (K : PySem.W.Frag) (a b : Addr) (H : Hp) (Q : Bool → Prop) : Prop := ∃ d e, Dp K H (.ref a) d ∧ Dp K H (.ref b) e ∧ SeqAt.shaped d = true ∧ SeqAt.shaped e = true ∧ Q (PyData.eqv d e)
def rEq2 (K : PySem.W.Frag) (neg : Bool) : R2 := fun x y H Q => match x, y with
  | .int i, .int j => Q (.bl (xor neg (decide (i = j)))) H
  | .str i, .str j => Q (.bl (xor neg (decide (i = j)))) H
  | .bl i, .bl j => Q (.bl (xor neg (decide (i = j)))) H
  | .non, .non => Q (.bl (xor neg true)) H
  | .non, .int _ => Q (.bl neg) H
  | .int _, .non => Q (.bl neg) H
  | .non, .str _ => Q (.bl neg) H
  | .str _, .non => Q (.bl neg) H
  | .int _, .str _ => Q (.bl neg) H
  | .str _, .int _ => Q (.bl neg) H
  | .ref a, .ref b => eqD2 K a b H fun k => Q (.bl (xor neg k)) H
  | _, _ => False
def rOrd2 (g : Int → Int → Bool) (h : Str → Str → Bool) : R2 := fun x y H Q => match x, y with
  | .int i, .int j => Q (.bl (g i j)) H
  | .str i, .str j => Q (.bl (h i j)) H
  | _, _ => False
def rIs2 (neg : Bool) : R2 := fun x y H Q => match y with
  | .non => Q (.bl (xor neg (decide (x = .non)))) H
  | _ => False
/-- t[i]: of lists, tuples, texts, dicts with text keys -/
def rIx2 (K : PySem.W.Frag) : R2 := fun x y H Q => match x, y with
  | .ref p, .int i => ∃ xs v, (SqL K H p xs ∨ SqT K H p xs) ∧ atI xs i = some v ∧ Q v H
  | .str z, .int i => z.length ≤ sizeLine ∧ ∃ c, atI z.cps.toList i = some c ∧ Q (.str ⟨#[c]⟩) H
  | _, _ => False
section
variable {X : Cx} {a b e : Expr} {ta tb te : TE} {pos : Pos} {f : Value → Value → Sem Value}
theorem pc (i : Nat) {x : Str} (hN : X.N[i]? = some x := by rfl) (hv : Vis X.env.scope x := by first | exact Or.inl rfl | exact Or.inr (Or.inl rfl) | exact Or.inr (Or.inr rfl)) (hd : (x == ("__debug__" : Str)) = false := by decide)
    (hcd : (x == ("__classdict__" : Str)) = false := by decide) : PE X (.Name x pos) (cV i) := by
  refine ⟨fun pins s σ H Q I h => ?_⟩
  refine (pe_var hN hv hd hcd).run pins s σ H Q I ?_
  unfold cV at h
  split at h
  · rename_i v e
    exact ⟨v, e, h⟩
  · exact h.elim
theorem opC {C : Int → Int → Prop} {g : Int → Int → V} (h : OpR X f (rI C g)) : OpR X f (rI2 C g) := fun pins s σ H x y v u Q I rx ry q => by
  unfold rI2 at q
  split at q
  · exact h pins s σ H _ _ v u Q I rx ry ⟨_, _, rfl, rfl, q.1, q.2⟩
  · exact q.elim
theorem opC0 {g : Int → Int → V} (h : OpR X f (rI0 g)) : OpR X f (rI1 g) := fun pins s σ H x y v u Q I rx ry q => by
  unfold rI1 at q
  split at q
  · exact h pins s σ H _ _ v u Q I rx ry ⟨_, _, rfl, rfl, q⟩
  · exact q.elim
theorem o_add : OpR X (binaryOp .Add) rAdd2 := fun pins s σ H x y v u Q I rx ry q => by
  unfold rAdd2 at q
  split at q
  · exact op_add pins s σ H _ _ v u Q I rx ry ⟨_, _, rfl, rfl, q⟩
  · exact op_add_str pins s σ H _ _ v u Q I rx ry ⟨_, _, rfl, rfl, q.1, q.2⟩
  · exact q.elim
theorem o_sub : OpR X (binaryOp .Sub) (rI1 fun i j => .int (i - j)) := opC0 op_sub
theorem o_mul : OpR X (binaryOp .Mult) (rI2 CMulU fun i j => .int (i * j)) := fun pins s σ H x y v u Q I rx ry q => by
  unfold rI2 at q
  split at q
  · rcases q.1 with c | c
    · exact op_mul pins s σ H _ _ v u Q I rx ry ⟨_, _, rfl, rfl, c, q.2⟩
    · exact op_mulW pins s σ H _ _ v u Q I rx ry ⟨_, _, rfl, rfl, c, q.2⟩
  · exact q.elim
theorem o_fdiv : OpR X (binaryOp .FloorDiv) (rI2 CDivW fun i j => .int (i / j)) := opC op_fdivW
theorem o_mod : OpR X (binaryOp .Mod) (rI2 (fun _ j => 0 < j) fun i j => .int (i % j)) := opC op_mod
theorem o_pow : OpR X (binaryOp .Pow) (rI2 CPow fun i j => .int (i ^ j.toNat)) := opC op_pow
theorem o_lt : OpR X (compareOp .Lt) (rOrd2 (fun i j => decide (i < j)) fun i j => decide (i.cps.toList < j.cps.toList)) := fun pins s σ H x y v u Q I rx ry q => by
  unfold rOrd2 at q
  split at q
  · exact op_lt pins s σ H _ _ v u Q I rx ry ⟨_, _, rfl, rfl, q⟩
  · exact op_lt_str pins s σ H _ _ v u Q I rx ry ⟨_, _, rfl, rfl, q⟩
  · exact q.elim
theorem o_le : OpR X (compareOp .LtE) (rI1 fun i j => .bl (decide (i ≤ j))) := opC0 op_le
theorem o_gt : OpR X (compareOp .Gt) (rI1 fun i j => .bl (decide (j < i))) := opC0 op_gt
theorem o_ge : OpR X (compareOp .GtE) (rI1 fun i j => .bl (decide (j ≤ i))) := opC0 op_ge
theorem o_is : OpR X (compareOp .Is) (rIs2 false) := fun pins s σ H x y v u Q I rx ry q => by
  unfold rIs2 at q
  split at q
  · exact op_isN pins s σ H _ _ v u Q I rx ry ⟨rfl, by simpa using q⟩
  · exact q.elim
theorem o_isnot : OpR X (compareOp .IsNot) (rIs2 true) := fun pins s σ H x y v u Q I rx ry q => by
  unfold rIs2 at q
  split at q
  · exact op_notN pins s σ H _ _ v u Q I rx ry ⟨rfl, by simpa using q⟩
  · exact q.elim
theorem o_eq (hu : X.A.units + 64 < cLine) : OpR X (compareOp .Eq) (rEq2 X.K false) := fun pins s σ H x y v u Q I rx ry q => by
  unfold rEq2 at q
  split at q
  case h_11 =>
    obtain ⟨d, e, q1, q2, q3, q4, q5⟩ := q
    exact op_eqD hu pins s σ H _ _ v u Q I rx ry ⟨d, e, q1, q2, q3, q4, by simpa using q5⟩
  case h_12 => exact q.elim
  all_goals exact op_eq pins s σ H _ _ v u Q I rx ry ⟨rfl, by simpa [dec_int, dec_bl, dec_str] using q⟩
theorem o_ne (hu : X.A.units + 64 < cLine) : OpR X (compareOp .NotEq) (rEq2 X.K true) := fun pins s σ H x y v u Q I rx ry q => by
  unfold rEq2 at q
  split at q
  case h_11 =>
    obtain ⟨d, e, q1, q2, q3, q4, q5⟩ := q
    exact op_neD hu pins s σ H _ _ v u Q I rx ry ⟨d, e, q1, q2, q3, q4, by simpa using q5⟩
  case h_12 => exact q.elim
  all_goals exact op_ne pins s σ H _ _ v u Q I rx ry ⟨rfl, by simpa [dec_int, dec_bl, dec_str] using q⟩
theorem ix2 : IxR X (rIx2 X.K) := fun ve se pins s σ H x y v u Q I rx ry q hs => by
  unfold rIx2 at q
  split at q
  · obtain ⟨xs, w', z | z, h1, h2⟩ := q
    · exact ix_list ve se pins s σ H _ _ v u Q I rx ry ⟨_, xs, _, w', rfl, rfl, z, h1, h2⟩ hs
    · exact ix_tup ve se pins s σ H _ _ v u Q I rx ry ⟨_, xs, _, w', rfl, rfl, z, h1, h2⟩ hs
  · obtain ⟨h1, c, h2, h3⟩ := q
    exact ix_str ve se pins s σ H _ _ v u Q I rx ry ⟨_, _, c, rfl, rfl, h1, h2, h3⟩ hs
  · exact q.elim
theorem p_ix (ha : PE X a ta) (hb : PE X b tb) (hs : PlainIx b := by exact fun _ _ => rfl) : PE X (.Subscript a b pos) (tOp (rIx2 X.K) ta tb) := pe_ix ix2 ha hb hs
theorem p_cmp {op : CmpOp} {r : R2} (ho : OpR X (compareOp op) r) (ha : PE X a ta) (hb : PE X b tb) (hm : behindInMarks op b = false := by first | exact nomark _ | rfl) : PE X (.Compare a [op] [b] pos) (tOp r ta tb) := pe_cmpR ho ha hb hm
theorem tT_of {te : TE} {σ : L2.St} {H : Hp} {Q : Bool → Hp → Prop} (mono : ∀ {R R' : VK}, (∀ v G, R v G → R' v G) → te σ H R → te σ H R') (h : cT te σ H Q) : tTest te σ H Q :=
  mono (fun v G q => by
    split at q
    · exact ⟨_, rfl, q⟩
    · exact q.elim) h
/-- a value that is True or False as a test -/
theorem t_val (h : PE X e te) (he : ∀ whole, isTrue e X.env whole = (do let v ← whole; standAt e.pos; holding [v] (truthy v)) := by intro _; rfl) : PT X e (cT te) := by
  refine ⟨fun pins s σ H Q I hw => isTrue_plain (thn (h.run pins s σ H _ I hw) fun v s1 ⟨x, G, I1, r1, q1⟩ => ?_) (he _)⟩
  dsimp only at q1
  split at q1
  · cases r1
    exact wpAny_truthy_bool ⟨G, I1, q1⟩
  · exact q1.elim
theorem t_cmp {op : CmpOp} {r : R2} (ho : OpR X (compareOp op) r) (ha : PE X a ta) (hb : PE X b tb) (hm : behindInMarks op b = false := by first | exact nomark _ | rfl) : PT X (.Compare a [op] [b] pos) (cT (tOp r ta tb)) := by
  refine ⟨fun pins s σ H Q I h => wpAny_isTrue_Compare1 (thn (ha.run pins s σ H _ I h) fun v s1 ⟨x, H1, I1, r1, q1⟩ => thn (hb.run pins s1 σ H1 _ I1 q1) fun u s2 ⟨y, H2, I2, r2, q2⟩ =>
    thn (ho pins s2 σ H2 x y v u _ I2 r1 r2 q2) fun c s3 ⟨z, H3, I3, r3, q3⟩ => ?_) hm⟩
  dsimp only at q3
  split at q3
  · cases r3
    exact wpAny_truthy_bool ⟨H3, I3, q3⟩
  · exact q3.elim
/-! ### ways: each under its own answer -/
def cIfS (c : TT) (t u : TS) : TS := fun D σ H => c σ H fun b G => (b = true → t D σ G) ∧ (b = false → u D σ G)
theorem s_if {c : Expr} {p q : List Stmt} {tc : TT} {t u : TS} (hc : PT X c tc) (hp : PSs X p t) (hq : PSs X q u) : PS X (.If c p q pos) (cIfS tc t u) := by
  refine ⟨fun pins s σ H D I h => wpAny_If (thn (hc.run pins s σ H _ I h) fun d s1 ⟨G, I1, z⟩ => ?_)⟩
  cases d with
  | true => exact hp.run pins s1 σ G D I1 (z.1 rfl)
  | false => exact hq.run pins s1 σ G D I1 (z.2 rfl)
def cIfE (t : TT) (ta tb : TE) : TE := fun σ H Q => t σ H fun c G => (c = true → ta σ G Q) ∧ (c = false → tb σ G Q)
theorem e_if {c : Expr} {tc : TT} (hc : PT X c tc) (ha : PE X a ta) (hb : PE X b tb) : PE X (.IfExp c a b pos) (cIfE tc ta tb) := by
  refine ⟨fun pins s σ H Q I h => wpAny_IfExp (thn (hc.run pins s σ H _ I h) fun d s1 ⟨G, I1, z⟩ => ?_)⟩
  cases d with
  | true => exact ha.run pins s1 σ G Q I1 (z.1 rfl)
  | false => exact hb.run pins s1 σ G Q I1 (z.2 rfl)
def cAnd (t u : TT) : TT := fun σ H Q => t σ H fun c G => (c = true → u σ G Q) ∧ (c = false → Q false G)
def cOr (t u : TT) : TT := fun σ H Q => t σ H fun c G => (c = true → Q true G) ∧ (c = false → u σ G Q)
theorem w_and {rest : List Expr} {t u : TT} (ha : PT X a t) (hb : PW X (.BoolOp .And (b :: rest) pos) u) : PW X (.BoolOp .And (a :: b :: rest) pos) (cAnd t u) := by
  refine ⟨fun wh pins s σ H Q I h => isTrue_and (thn (ha.run pins s σ H _ I h) fun c s1 ⟨G, I1, z⟩ => ?_)⟩
  cases c with
  | true => exact hb.run wh pins s1 σ G Q I1 (z.1 rfl)
  | false => exact ⟨G, I1, z.2 rfl⟩
theorem w_or {rest : List Expr} {t u : TT} (ha : PT X a t) (hb : PW X (.BoolOp .Or (b :: rest) pos) u) : PW X (.BoolOp .Or (a :: b :: rest) pos) (cOr t u) := by
  refine ⟨fun wh pins s σ H Q I h => isTrue_or (thn (ha.run pins s σ H _ I h) fun c s1 ⟨G, I1, z⟩ => ?_)⟩
  cases c with
  | true => exact ⟨G, I1, z.1 rfl⟩
  | false => exact hb.run wh pins s1 σ G Q I1 (z.2 rfl)
/-- and, or, not as values, of True and False -/
def cAndV (ta tb : TE) : TE := fun σ H Q => ta σ H fun x G => match x with
  | .bl c => (c = true → tb σ G Q) ∧ (c = false → Q (.bl false) G)
  | _ => False
def cOrV (ta tb : TE) : TE := fun σ H Q => ta σ H fun x G => match x with
  | .bl c => (c = true → Q (.bl true) G) ∧ (c = false → tb σ G Q)
  | _ => False
def cNotV (ta : TE) : TE := fun σ H Q => ta σ H fun x G => match x with
  | .bl c => Q (.bl (!c)) G
  | _ => False
theorem e_and {rest : List Expr} (ha : PE X a ta) (hb : PE X (.BoolOp .And (b :: rest) pos) tb) : PE X (.BoolOp .And (a :: b :: rest) pos) (cAndV ta tb) := by
  refine ⟨fun pins s σ H Q I h => BoolOp_and (thn (ha.run pins s σ H _ I h) fun v s1 ⟨x, G, I1, r1, z⟩ => ?_)⟩
  dsimp only at z
  split at z
  · rename_i c
    cases r1
    refine wpAny_truthy_bool ?_
    cases c with
    | true => exact hb.run pins s1 σ G Q I1 (z.1 rfl)
    | false => exact ⟨.bl false, G, I1, rfl, z.2 rfl⟩
  · exact z.elim
theorem e_or {rest : List Expr} (ha : PE X a ta) (hb : PE X (.BoolOp .Or (b :: rest) pos) tb) : PE X (.BoolOp .Or (a :: b :: rest) pos) (cOrV ta tb) := by
  refine ⟨fun pins s σ H Q I h => BoolOp_or (thn (ha.run pins s σ H _ I h) fun v s1 ⟨x, G, I1, r1, z⟩ => ?_)⟩
  dsimp only at z
  split at z
  · rename_i c
    cases r1
    refine wpAny_truthy_bool ?_
    cases c with
    | false => exact hb.run pins s1 σ G Q I1 (z.2 rfl)
    | true => exact ⟨.bl true, G, I1, rfl, z.1 rfl⟩
  · exact z.elim
theorem e_not (ha : PE X a ta) : PE X (.UnaryOp .Not a pos) (cNotV ta) := by
  refine ⟨fun pins s σ H Q I h => UnaryOp_ (thn (ha.run pins s σ H _ I h) fun v s1 ⟨x, G, I1, r1, z⟩ => ?_)⟩
  dsimp only at z
  split at z
  · cases r1
    exact not_of (wpAny_truthy_bool ⟨.bl _, G, I1, rfl, z⟩)
  · exact z.elim
/-- a op b op' c, as a test, as a value -/
def cChain (r r' : R2) (ta tb tc : TE) : TE := fun σ H Q => ta σ H fun x H1 => tb σ H1 fun y H2 => r x y H2 fun z H3 => match z with
  | .bl k => (k = true → tc σ H3 fun u H4 => r' y u H4 Q) ∧ (k = false → Q (.bl false) H3)
  | _ => False
theorem t_chain {c : Expr} {tc : TE} {op op' : CmpOp} {r r' : R2} (ho : OpR X (compareOp op) r) (ho' : OpR X (compareOp op') r') (ha : PE X a ta) (hb : PE X b tb) (hc : PE X c tc)
    (hm : lastMarks [op, op'] [b, c] = false := by with_unfolding_all rfl) : PT X (.Compare a [op, op'] [b, c] pos) (cT (cChain r r' ta tb tc)) := by
  refine ⟨fun pins s σ H Q I h => isTrue_chain (thn (ha.run pins s σ H _ I h) fun v s1 ⟨x, H1, I1, r1, q1⟩ => test_link (thn (hb.run pins s1 σ H1 _ I1 q1) fun u s2 ⟨y, H2, I2, r2, q2⟩ =>
    thn (ho pins s2 σ H2 x y v u _ I2 r1 r2 q2) fun d s3 ⟨z, H3, I3, r3, q3⟩ => ?_)) hm⟩
  dsimp only at q3
  split at q3
  · rename_i k
    cases r3
    refine wpAny_truthy_bool ?_
    cases k with
    | false => exact ite_ff ⟨H3, I3, q3.2 rfl⟩
    | true =>
      refine ite_tt (test_last (thn (hc.run pins s3 σ H3 _ I3 (q3.1 rfl)) fun w4 s4 ⟨z4, H4, I4, r4, q4⟩ => thn (ho' pins s4 σ H4 y z4 u w4 _ I4 r2 r4 q4) fun d' s5 ⟨z5, H5, I5, r5, q5⟩ => ?_))
      dsimp only at q5
      split at q5
      · cases r5
        exact wpAny_truthy_bool ⟨H5, I5, q5⟩
      · exact q5.elim
  · exact q3.elim
theorem e_chain {c : Expr} {tc : TE} {op op' : CmpOp} {r r' : R2} (ho : OpR X (compareOp op) r) (ho' : OpR X (compareOp op') r') (ha : PE X a ta) (hb : PE X b tb) (hc : PE X c tc)
    (hm : lastMarks [op, op'] [b, c] = false := by with_unfolding_all rfl) : PE X (.Compare a [op, op'] [b, c] pos) (cChain r r' ta tb tc) := by
  refine ⟨fun pins s σ H Q I h => Compare_chain (thn (ha.run pins s σ H _ I h) fun v s1 ⟨x, H1, I1, r1, q1⟩ => chain_link (thn (hb.run pins s1 σ H1 _ I1 q1) fun u s2 ⟨y, H2, I2, r2, q2⟩ =>
    thn (ho pins s2 σ H2 x y v u _ I2 r1 r2 q2) fun d s3 ⟨z, H3, I3, r3, q3⟩ => ?_)) hm⟩
  dsimp only at q3
  split at q3
  · rename_i k
    cases r3
    refine wpAny_truthy_bool ?_
    cases k with
    | false => exact ite_ff ⟨.bl false, H3, I3, rfl, q3.2 rfl⟩
    | true => exact ite_tt (chain_last (thn (hc.run pins s3 σ H3 _ I3 (q3.1 rfl)) fun w4 s4 ⟨z4, H4, I4, r4, q4⟩ => ho' pins s4 σ H4 y z4 u w4 Q I4 r2 r4 q4))
  · exact q3.elim
/-- two statements with a word of one's own between them -/
def cCut (t u : TS) : TS := fun D σ H => ∃ M : L2.St → Hp → Prop, t { D with nx := M } σ H ∧ ∀ σ' G, M σ' G → u D σ' G
theorem s_cut {st : Stmt} {rest : List Stmt} {t u : TS} (h1 : PS X st t) (h2 : PSs X rest u) : PSs X (st :: rest) (cCut t u) := by
  refine ⟨fun pins s σ H D I ⟨M, h, k⟩ => wpAny_execs_cons (thn (h1.run pins s σ H { D with nx := M } I h) fun f s1 q => ?_)⟩
  match f, q with
  | .next, ⟨σ', G, I', q⟩ => exact h2.run pins s1 σ' G D I' (k σ' G q)
  | .ret v, q => exact q
  | .brk, q => exact q
  | .cont, q => exact q
theorem eqs {α : Type} [DecidableEq α] {a : α} {R : Bool → Prop} (h : R true) : R (xor false (decide (a = a))) := by
  rw [decide_eq_true rfl]
  exact h
end
end HX

set_option Elab.async false
set_option linter.all false
set_option maxRecDepth 100000
set_option maxHeartbeats 2000000
namespace HX
open PySem PySem.Spec PyProof.Rows L2

/-! ### the defs of the text, as their callers see them: by the module's name x -/
section
variable (P : Program) (w : World) (K : PySem.W.Frag) (mg : Str → Option Value) (base : Heap)
/-- raises nothing -/
def CalO (x : Str) (k : Nat) (ps : List Str) (sp : Sp) (B : FuncData → Prop) : Prop := ∃ (f : Addr) (fd : FuncData), FnOk P w K mg base CX0 k f fd ps sp ∧ mg x = some (.ref f) ∧ PySem.W.keepIn K (.ref f) = true ∧ Binds K fd ps [] ∧ B fd
/-- raises nothing, where nothing is being shown -/
def CalG (x : Str) (k : Nat) (ps : List Str) (sp : Sp) (B : FuncData → Prop) : Prop := ∃ (f : Addr) (fd : FuncData), FnG P w K mg base CX0 k f fd ps sp ∧ mg x = some (.ref f) ∧ PySem.W.keepIn K (.ref f) = true ∧ Binds K fd ps [] ∧ B fd
/-- may raise -/
def CalX (x : Str) (k : Nat) (ps : List Str) (sp : Sp) (B : FuncData → Prop) : Prop := ∃ (f : Addr) (fd : FuncData), FnOk P w K mg base (CX P w) k f fd ps sp ∧ mg x = some (.ref f) ∧ PySem.W.keepIn K (.ref f) = true ∧ Binds K fd ps [] ∧ B fd
end
section
variable {X : Cx} {k : Nat} {ps : List Str} {sp : Sp} {x : Str} {p pos : Pos} {e : Expr} {es : List Expr} {t tk' : TA} {W : WX} {B : FuncData → Prop} {ks : List Str} {kws : List Keyword} {g : List Value → List Value → List Value} {gV : List V → List V → List V}
theorem pe_cO (C : CalO X.prog X.w X.K X.mg X.base x k ps sp B) (hr : Room k X.A) (ha : PA X (e :: es) t) (hg : Gl X x := by rfl) (hdb : (x == ("__debug__" : Str)) = false := by decide)
    (he : starEach (e :: es) X.env = (false, eval e X.env) :: starEach es X.env := by rfl) (hpl : (backTo pos (starEach es X.env)).any (·.1) = false := by rfl) : PE X (.Call (.Name x p) (e :: es) [] pos) (tCall sp [] E0 t) := by
  obtain ⟨f, fd, F, hm, hk, hb, _⟩ := C
  exact pe_call F hr hg hm hk hb .nil pass0 ha hdb he hpl
theorem pe_cG (C : CalG X.prog X.w X.K X.mg X.base x k ps sp B) (gd : X.A.guards = some []) (hr : Room k X.A) (ha : PA X (e :: es) t) (hg : Gl X x := by rfl) (hdb : (x == ("__debug__" : Str)) = false := by decide)
    (he : starEach (e :: es) X.env = (false, eval e X.env) :: starEach es X.env := by rfl) (hpl : (backTo pos (starEach es X.env)).any (·.1) = false := by rfl) : PE X (.Call (.Name x p) (e :: es) [] pos) (tCall sp [] E0 t) := by
  obtain ⟨f, fd, F, hm, hk, hb, _⟩ := C
  exact pe_callG F gd hr hg hm hk hb .nil pass0 ha hdb he hpl
theorem pe_cX (C : CalX X.prog X.w X.K X.mg X.base x k ps sp B) (hr : Room k X.A) (tk : Takes X W) (ha : PA X (e :: es) t) (hg : Gl X x := by rfl) (hdb : (x == ("__debug__" : Str)) = false := by decide)
    (he : starEach (e :: es) X.env = (false, eval e X.env) :: starEach es X.env := by rfl) (hpl : (backTo pos (starEach es X.env)).any (·.1) = false := by rfl) : PE X (.Call (.Name x p) (e :: es) [] pos) (tCallS sp (WE W) t) := by
  obtain ⟨f, fd, F, hm, hk, hb, _⟩ := C
  exact pe_callS F hr hg hm hk hb (fun σ => passAt tk σ) ha hdb he hpl
end
/-! ### calls by keywords alone -/
section
variable {X : Cx} {k : Nat} {ps : List Str} {sp : Sp} {x : Str} {p pos : Pos} {t : TA} {W : WX} {B : FuncData → Prop} {ks : List Str} {kws : List Keyword} {g : List Value → List Value → List Value} {gV : List V → List V → List V} {CY : CXT} {f : Addr} {fd : FuncData} {E : XK}
theorem run_kw {pins : List (Addr × Obj)} {σ : L2.St} {H : Hp} {s : Shared} {Q : VK} {ws : List Value} {zs : List V} (F : FnOk X.prog X.w X.K X.mg X.base CY k f fd ps sp) (hr : Room k X.A) (hb : KBn X.K fd ps 0 ks g gV)
    (hx : ∀ e s', CY X.stack H s E e s' → X.xe e s') (I : Inv X pins σ H s) (rz : Vals zs ws) (l2 : zs.length = ks.length) (h : sp (gV [] zs) H Q E) : wpAny (model X.prog X.w) X.A (call (.ref f) [] (ks.zip ws)) (EP X pins σ Q) X.xe s := by
  have l3 : ws.length = ks.length := rz.length.symm.trans l2
  have run := F.run X.A X.stack s H ⟨[], ks.zip ws⟩ (g [] ws) (gV [] zs) Q E hr I.env0 (hb.to s [] ws I.kIn rfl l3) (hb.rel .nil rz) h
  refine wpAny_call (codeAny_mono run fun r s' q => ?_)
  match r, q with
  | .error e, q => exact hx e s' q
  | .ok (.ret u), q => exact I.after q
  | .ok .next, q => exact False.elim q
  | .ok .brk, q => exact False.elim q
  | .ok .cont, q => exact False.elim q
/-- f(k = e, ..) -/
def cKw (m : Nat) (sp : Sp) (gV : List V → List V → List V) (E : L2.St → XK) (t : TA) : TE := fun σ H Q => t σ H fun zs G => zs.length = m ∧ sp (gV [] zs) G Q (E σ)
theorem pe_kO (C : CalO X.prog X.w X.K X.mg X.base x k ps sp B) (hB : ∀ fd, B fd → KBn X.K fd ps 0 ks g gV) (hr : Room k X.A) (hkw : PK X kws t) (hg : Gl X x := by rfl)
    (hall : (backToKw pos (keywordEach kws X.env)).all (·.1.isSome) = true := by rfl) (hks : (backToKw pos (keywordEach kws X.env)).filterMap (·.1) = ks := by rfl) (hdb : (x == ("__debug__" : Str)) = false := by decide)
    (hpl : ((backTo pos (starEach [] X.env)).any (·.1) || (backToKw pos (keywordEach kws X.env)).any (·.1.isNone)) = false := by rfl) : PE X (.Call (.Name x p) [] kws pos) (cKw ks.length sp gV (fun _ => E0) t) := by
  obtain ⟨f, fd, F, hm, hk, _, hb⟩ := C
  refine ⟨fun pins s σ H Q I h => wpAny_Call_Name_kw (ld_glob I hg hm ?_ hdb)⟩
  refine PySem.W.callWith_KW0 (h₀ := X.base) I.ok.mod.kin hk hall (thn (hkw.run pos pins s σ H _ I h) fun ws s2 ⟨zs, G, I2, rz, l2, q⟩ => ⟨I2.kIn, ?_⟩) hpl
  rw [hks]
  exact run_kw F hr (hB fd hb) (fun _ _ z => z.elim) I2 rz l2 q
theorem pe_kX (C : CalX X.prog X.w X.K X.mg X.base x k ps sp B) (hB : ∀ fd, B fd → KBn X.K fd ps 0 ks g gV) (hr : Room k X.A) (tk : Takes X W) (hkw : PK X kws t) (hg : Gl X x := by rfl)
    (hall : (backToKw pos (keywordEach kws X.env)).all (·.1.isSome) = true := by rfl) (hks : (backToKw pos (keywordEach kws X.env)).filterMap (·.1) = ks := by rfl) (hdb : (x == ("__debug__" : Str)) = false := by decide)
    (hpl : ((backTo pos (starEach [] X.env)).any (·.1) || (backToKw pos (keywordEach kws X.env)).any (·.1.isNone)) = false := by rfl) : PE X (.Call (.Name x p) [] kws pos) (cKw ks.length sp gV (WE W) t) := by
  obtain ⟨f, fd, F, hm, hk, _, hb⟩ := C
  refine ⟨fun pins s σ H Q I h => wpAny_Call_Name_kw (ld_glob I hg hm ?_ hdb)⟩
  refine PySem.W.callWith_KW0 (h₀ := X.base) I.ok.mod.kin hk hall (thn (hkw.run pos pins s σ H _ I h) fun ws s2 ⟨zs, G, I2, rz, l2, q⟩ => ⟨I2.kIn, ?_⟩) hpl
  rw [hks]
  exact run_kw F hr (hB fd hb) (fun e s' c => passAt tk σ pins G s2 e s' I2 c) I2 rz l2 q
end
/-! ### built-ins by the values' kinds -/
section
variable {X : Cx}
def rInt2 : List V → Hp → VK → Prop := fun xs H Q => match xs with
  | [.int i] => Q (.int i) H
  | [.bl k] => Q (.int (if k then 1 else 0)) H
  | _ => False
theorem c_int : CallR X (.type "int") rInt2 := fun pins s σ H xs us Q I r q => by
  unfold rInt2 at q
  split at q
  · exact call_int1 pins s σ H _ us Q I r (.inl ⟨_, rfl, q⟩)
  · exact call_int1 pins s σ H _ us Q I r (.inr ⟨_, rfl, q⟩)
  · exact q.elim
def rAbs2 : List V → Hp → VK → Prop := fun xs H Q => match xs with
  | [.int i] => Q (.int (if i < 0 then -i else i)) H
  | _ => False
theorem c_abs : CallR X (.builtin "abs") rAbs2 := fun pins s σ H xs us Q I r q => by
  unfold rAbs2 at q
  split at q
  · exact call_abs pins s σ H _ us Q I r ⟨_, rfl, q⟩
  · exact q.elim
def rLen2 (K : PySem.W.Frag) : List V → Hp → VK → Prop := fun xs H Q => match xs with
  | [.str y] => y.length ≤ sizeLine ∧ Q (.int y.length) H
  | [.ref p] => ∃ ys : List V, (SqL K H p ys ∨ SqT K H p ys) ∧ Q (.int ys.length) H
  | _ => False
theorem c_len : CallR X (.builtin "len") (rLen2 X.K) := fun pins s σ H xs us Q I r q => by
  unfold rLen2 at q
  split at q
  · exact call_len pins s σ H _ us Q I r ⟨_, _, rfl, ⟨q.1, rfl⟩, q.2⟩
  · obtain ⟨ys, h | h, q⟩ := q
    · exact call_len pins s σ H _ us Q I r ⟨_, _, rfl, .inl ⟨ys, h, rfl⟩, q⟩
    · exact call_len pins s σ H _ us Q I r ⟨_, _, rfl, .inr ⟨ys, h, rfl⟩, q⟩
  · exact q.elim
/-- isinstance of plain values and own instances, and one class -/
def rIsi2 (K : PySem.W.Frag) : List V → Hp → VK → Prop := fun xs H Q => ∃ (x c : V) (t cv : Value) (b : Bool), xs = [x, c] ∧ TyOf K H x t ∧ (∀ u, RelV c u → u = cv) ∧ PySem.W.kitOne K t cv = some b ∧ Q (.bl b) H
theorem c_isi : CallR X (.builtin "isinstance") (rIsi2 X.K) := fun pins s σ H xs us Q I r q => by
  obtain ⟨x, c, t, cv, b, rfl, ty, hc, hk, q⟩ := q
  obtain ⟨u, u2, rfl, r1, r2⟩ := vals2 r
  have e2 := hc _ r2
  subst e2
  exact isinst_ok I r1 ty hk fun tk => ⟨.bl b, H, I.tok tk, rfl, q⟩
end
end HX

set_option Elab.async false
set_option linter.all false
set_option maxRecDepth 100000
set_option maxHeartbeats 2000000
namespace HX
open PySem PySem.Spec PyProof.Rows L2

/-! ### the pen: its cells at l, how many were begun, what is left of a great one -/
structure Pn (H : Hp) (p l : Addr) (ns : List Int) (c g : Int) : Prop where
  at_ : H p = some (.lst [.ref l, .int c, .int g])
  cel : H l = some (.lst (ns.map V.int))
  ne : l ≠ p
  c0 : 0 ≤ c
  g0 : 0 ≤ g
/-- all but p is as it was -/
def Kp (p : Addr) (H H' : Hp) : Prop := ∀ b o, b ≠ p → H b = some o → H' b = some o
/-- H without p -/
def Hd (p : Addr) (H : Hp) : Hp := fun b => if b = p then none else H b
theorem Hd.at_ {p b : Addr} {H : Hp} {o : HO} (n : b ≠ p) (e : H b = some o) : Hd p H b = some o := by unfold Hd; rw [if_neg n]; exact e
theorem Hd.un {p b : Addr} {H : Hp} {o : HO} (e : Hd p H b = some o) : b ≠ p ∧ H b = some o := by
  unfold Hd at e
  split at e
  · cases e
  · rename_i n
    exact ⟨n, e⟩
theorem Kp.hd {p : Addr} {H H' : Hp} (k : Kp p H H') : Same (Hd p H) (Hd p H') := fun b o e => Hd.at_ (Hd.un e).1 (k b o (Hd.un e).1 (Hd.un e).2)
theorem Hd.sub {p : Addr} {H : Hp} : Same (Hd p H) H := fun _ _ e => (Hd.un e).2
theorem Kp.refl {p : Addr} {H : Hp} : Kp p H H := fun _ _ _ e => e
theorem Kp.trans {p : Addr} {H H1 H2 : Hp} (a : Kp p H H1) (b : Kp p H1 H2) : Kp p H H2 := fun c o n e => b c o n (a c o n e)
theorem Kp.upd {p : Addr} {H H1 : Hp} {o : HO} (a : Kp p H H1) : Kp p H (L2.upd H1 p o) := fun c u n e => by rw [upd_ne n]; exact a c u n e
theorem Kp.new {p q : Addr} {H H1 : Hp} {o : HO} (a : Kp p H H1) (h : H1 q = none) : Kp p H (L2.upd H1 q o) := fun c u n e => by
  have z := a c u n e
  rw [upd_ne (ne_of_none z h)]
  exact z
theorem Kp.same {p : Addr} {H H1 : Hp} (a : Same H H1) : Kp p H H1 := fun c u _ e => a c u e
theorem Same.new {H H1 : Hp} {q : Addr} {o : HO} (a : Same H H1) (h : H1 q = none) : Same H (L2.upd H1 q o) := fun c u e => by
  have z := a c u e
  rw [upd_ne (ne_of_none z h)]
  exact z
theorem Same.mut {H H1 : Hp} {q : Addr} {o : HO} (a : Same H H1) (h : H q = none) : Same H (L2.upd H1 q o) := fun c u e => by
  rw [upd_ne (ne_of_none e h)]
  exact a c u e
theorem Kp.mut {p : Addr} {H H1 : Hp} {q : Addr} {o : HO} (a : Kp p H H1) (h : H q = none) : Kp p H (L2.upd H1 q o) := fun c u n e => by
  rw [upd_ne (ne_of_none e h)]
  exact a c u n e
theorem Kp.seq {K : PySem.W.Frag} {p a : Addr} {H H1 : Hp} {xs : List V} (k : Kp p H H1) (n : a ≠ p) (h : SqL K H a xs) : SqL K H1 a xs := by
  rcases h with (h | ⟨o, h⟩) | h
  · exact .inl (.inl (k _ _ n h))
  · exact .inl (.inr ⟨o, k _ _ n h⟩)
  · exact .inr h
theorem Kp.seqT {K : PySem.W.Frag} {p a : Addr} {H H1 : Hp} {xs : List V} (k : Kp p H H1) (n : a ≠ p) (h : SqT K H a xs) : SqT K H1 a xs := by
  rcases h with (h | ⟨o, h⟩) | h
  · exact .inl (.inl (k _ _ n h))
  · exact .inl (.inr ⟨o, k _ _ n h⟩)
  · exact .inr h
theorem Pn.put {H H1 : Hp} {p l : Addr} {ns : List Int} {c g c' g' : Int} (P : Pn H p l ns c g) (k : Kp p H H1) (hc : 0 ≤ c') (hg : 0 ≤ g') (e : H1 p = some (.lst [.ref l, .int c', .int g'])) : Pn H1 p l ns c' g' :=
  ⟨e, k _ _ P.ne P.cel, P.ne, hc, hg⟩
theorem Pn.same {H H1 : Hp} {p l : Addr} {ns : List Int} {c g : Int} (P : Pn H p l ns c g) (k : Same H H1) : Pn H1 p l ns c g := P.put (.same k) P.c0 P.g0 (k _ _ P.at_)
theorem Pn.new {H : Hp} {p l q : Addr} {ns : List Int} {c g : Int} {o : HO} (P : Pn H p l ns c g) (h : H q = none) : Pn (L2.upd H q o) p l ns c g := P.same (Same.new (Same.refl H) h)
/-- a pen at p, its cells at l, that has been asked c times at most -/
def Pe (H : Hp) (p l : Addr) (c : Int) : Prop := ∃ ns c0 g, Pn H p l ns c0 g ∧ c0 ≤ c
theorem Pe.mono {H : Hp} {p l : Addr} {c c' : Int} (P : Pe H p l c) (h : c ≤ c') : Pe H p l c' := let ⟨ns, c0, g, q, e⟩ := P; ⟨ns, c0, g, q, Int.le_trans e h⟩
theorem Pe.same {H H1 : Hp} {p l : Addr} {c : Int} (P : Pe H p l c) (k : Same H H1) : Pe H1 p l c := let ⟨ns, c0, g, q, e⟩ := P; ⟨ns, c0, g, q.same k, e⟩
theorem Pe.new {H : Hp} {p l q : Addr} {c : Int} {o : HO} (P : Pe H p l c) (h : H q = none) : Pe (L2.upd H q o) p l c := P.same (Same.new (Same.refl H) h)
theorem Pe.atP {H : Hp} {p l : Addr} {c : Int} (P : Pe H p l c) : ∃ o, H p = some o := let ⟨_, _, _, q, _⟩ := P; ⟨_, q.at_⟩
theorem Pe.atL {H : Hp} {p l : Addr} {c : Int} (P : Pe H p l c) : ∃ o, H l = some o := let ⟨_, _, _, q, _⟩ := P; ⟨_, q.cel⟩
theorem Pe.ne {H : Hp} {p l q : Addr} {c : Int} (P : Pe H p l c) (h : H q = none) : q ≠ p := let ⟨_, e⟩ := P.atP; Ne.symm (ne_of_none e h)
theorem Pe.neL {H : Hp} {p l q : Addr} {c : Int} (P : Pe H p l c) (h : H q = none) : q ≠ l := let ⟨_, e⟩ := P.atL; Ne.symm (ne_of_none e h)
theorem Pe.mut {H : Hp} {p l q : Addr} {c : Int} {o : HO} (P : Pe H p l c) (h : q ≠ p) (h2 : q ≠ l) : Pe (L2.upd H q o) p l c := by
  obtain ⟨ns, c0, g, q0, e⟩ := P
  exact ⟨ns, c0, g, ⟨by rw [upd_ne (Ne.symm h)]; exact q0.at_, by rw [upd_ne (Ne.symm h2)]; exact q0.cel, q0.ne, q0.c0, q0.g0⟩, e⟩
/-- an object that the pen isn't: it is no list of a list and two numbers -/
theorem Pe.ne2 {H : Hp} {p l a : Addr} {c : Int} {o : HO} (P : Pe H p l c) (h : H a = some o) (n : ∀ l c g, o ≠ .lst [.ref l, .int c, .int g]) : a ≠ p := by
  obtain ⟨ns, c0, g, q, _⟩ := P
  exact ne_of h q.at_ (n _ _ _)

/-! ### what the draws promise -/
def spPen (K : PySem.W.Frag) : Sp := fun vs H Q _ => ∃ (a : Addr) (ns : List Int), vs = [.ref a] ∧ SqL K H a (ns.map V.int) ∧ ∀ (p l : Addr) (H' : Hp), H p = none → Same H H' → Pe H' p l 0 → Q (.ref p) H'
def spDraw : Sp := fun vs H Q _ => ∃ (p l : Addr) (c many : Int), vs = [.ref p, .int many] ∧ Pe H p l c ∧ 0 < many ∧ many.natAbs < 2 ^ 250 ∧ c < 1000000 ∧
  ∀ (r : Int) (H' : Hp), 0 ≤ r → r < many → Kp p H H' → Pe H' p l (c + 1) → Q (.int r) H'
/-- one of a text's signs, of a list's or a tuple's items -/
def spPick (K : PySem.W.Frag) : Sp := fun vs H Q _ => ∃ (p l : Addr) (c : Int) (x : V), vs = [.ref p, x] ∧ Pe H p l c ∧ c < 1000000 ∧
  ((∃ z : Str, x = .str z ∧ 0 < z.length ∧ z.length ≤ 1000000 ∧ ∀ (ch : Nat) (H' : Hp), ch ∈ z.cps.toList → Kp p H H' → Pe H' p l (c + 1) → Q (.str ⟨#[ch]⟩) H') ∨
    ∃ (a : Addr) (xs : List V), x = .ref a ∧ a ≠ p ∧ (SqL K H a xs ∨ SqT K H a xs) ∧ 0 < xs.length ∧ xs.length ≤ 1000000 ∧ ∀ (v : V) (H' : Hp), v ∈ xs → Kp p H H' → Pe H' p l (c + 1) → Q v H')

theorem mul_lt {a b x y : Int} (h0 : 0 ≤ x) (h1 : x < a) (h2 : 0 ≤ y) (h3 : y < b) : x * y < a * b := by
  have z1 : x * y ≤ x * b := Int.mul_le_mul_of_nonneg_left (by omega) h0
  have z2 : x * b ≤ (a - 1) * b := Int.mul_le_mul_of_nonneg_right (by omega) (by omega)
  have z3 : (a - 1) * b = a * b - b := by rw [Int.sub_mul]; omega
  omega
theorem dp_ints {K : PySem.W.Frag} {H : Hp} : ∀ ns : List Int, DpAll K H (ns.map V.int) (ns.map PyData.int)
  | [] => .nil
  | n :: ns => .cons (.int n) (dp_ints ns)
theorem can_ints : ∀ ns : List Int, PyData.canLayAll0 (ns.map PyData.int) = true
  | [] => rfl
  | n :: ns => by
    rw [List.map_cons, PyData.canLayAll0, PyData.canLay0, can_ints ns]
    rfl
theorem depth_ints : ∀ ns : List Int, PyData.depthAll (ns.map PyData.int) = 0
  | [] => by simp [PyData.depthAll]
  | n :: ns => by
    have := depth_ints ns
    simp [PyData.depthAll, PyData.depth, this]
theorem shaped_ints (ns : List Int) : SeqAt.shaped (.list (ns.map PyData.int)) = true := by
  unfold SeqAt.shaped
  rw [PyData.canLay0, can_ints, PyData.depth, depth_ints]
  rfl
theorem at_mod {ns : List Int} (c : Int) (h : 0 < (ns.length : Int)) : ∃ z, atI (ns.map V.int) (c % ns.length) = some (.int z) := by
  have h0 := Int.emod_nonneg c (b := (ns.length : Int)) (by omega)
  have h1 := Int.emod_lt_of_pos c h
  obtain ⟨j, hj⟩ : ∃ j : Nat, c % ns.length = (j : Int) := ⟨(c % ns.length).toNat, by omega⟩
  have hlt : j < ns.length := by omega
  refine ⟨ns[j], ?_⟩
  rw [hj]
  exact atI_nat (by rw [List.getElem?_map, List.getElem?_eq_getElem hlt]; rfl)
theorem at_in {α : Type} {xs : List α} {r : Int} (h0 : 0 ≤ r) (h1 : r < xs.length) : ∃ v, atI xs r = some v ∧ v ∈ xs := by
  obtain ⟨j, rfl⟩ : ∃ j : Nat, r = (j : Int) := ⟨r.toNat, by omega⟩
  have hlt : j < xs.length := by omega
  exact ⟨xs[j], atI_nat (List.getElem?_eq_getElem hlt), List.getElem_mem hlt⟩
theorem small_bits {n : Nat} (h : n ≤ 1000000) : (n : Int).natAbs < 2 ^ 250 := Nat.lt_of_le_of_lt (show (n : Int).natAbs ≤ 1000000 by omega) (by decide)
theorem cut_ints (ns : List Int) (lo hi : Option Int) : ∃ ms : List Int, cutV (ns.map V.int) lo hi = ms.map V.int := by
  unfold cutV
  exact ⟨_, by rw [← List.map_drop, ← List.map_take]⟩
theorem size_line_big : 1000000 ≤ sizeLine := by rw [sizeLine_eq]; decide
/-! ### letters -/
def abc : List Nat := ("abcdefghijklmnopqrstuvwxyz" : Str).cps.toList
theorem tl_join1 {a : Str} (ha : TL.tl a = []) : ∀ cs : List Nat, (Txt.join a (cs.map fun c => (⟨#[c]⟩ : Str))).cps.toList = cs := fun cs => by
  show TL.tl _ = cs
  rw [TL.join_eq, TL.tl_join, ha]
  induction cs with
  | nil => rfl
  | cons c cs ih =>
    cases cs with
    | nil => rfl
    | cons d cs =>
      rw [List.map_cons, List.map_cons, List.map_cons, List.map_cons, TL.joinL]
      rw [List.map_cons, List.map_cons] at ih
      rw [ih]
      rfl
def spLetters : Sp := fun vs H Q _ => ∃ (p l : Addr) (c n : Int), vs = [.ref p, .int n] ∧ Pe H p l c ∧ 0 ≤ n ∧ n ≤ 1000 ∧ c + n < 1000000 ∧
  ∀ (z : Str) (H' : Hp), (z.length : Int) = n → (∀ ch ∈ z.cps.toList, ch ∈ abc) → Kp p H H' → Pe H' p l (c + n) → Q (.str z) H'
/-! ### a module's constants -/
theorem p_gs {X : Cx} {x z : Str} {pos : Pos} (h : ∃ t, X.mg x = some (.str z t)) (hg : Gl X x := by rfl) (hd : (x == ("__debug__" : Str)) = false := by decide) : PE X (.Name x pos) (tC (.str z)) := by
  obtain ⟨t, h⟩ := h
  exact pe_glob hg h ⟨t, rfl⟩ hd
theorem p_gi {X : Cx} {x : Str} {i : Int} {pos : Pos} (h : ∃ t, X.mg x = some (.int i t)) (hg : Gl X x := by rfl) (hd : (x == ("__debug__" : Str)) = false := by decide) : PE X (.Name x pos) (tC (.int i)) := by
  obtain ⟨t, h⟩ := h
  exact pe_glob hg h ⟨t, rfl⟩ hd
theorem p_gc {X : Cx} {x : Str} {C : Addr} {pos : Pos} (h : X.mg x = some (.ref C)) (hg : Gl X x := by rfl) (hd : (x == ("__debug__" : Str)) = false := by decide) : PE X (.Name x pos) (tC (.ref C)) := pe_glob hg h rfl hd
/-! ### own error classes, as the text that raises them sees them -/
def ErrC (P : Program) (w : World) (K : PySem.W.Frag) (mg : Str → Option Value) (base : Heap) (x : Str) (C : Addr) (ps : List Str) (sp : Sp) : Prop :=
  ∃ (fI : Addr) (fd : FuncData), RxC K mg x C fI ∧ FnOk P w K mg base CX0 1 fI fd ps sp ∧ Binds K fd ps []
theorem ps_rz {X : Cx} {x : Str} {C : Addr} {ps : List Str} {sp : Sp} {e : Expr} {es : List Expr} {ta : TA} {W : WX} {p pos pos2 : Pos} (Z : ErrC X.prog X.w X.K X.mg X.base x C ps sp) (hc : X.calm = true) (hr : Room 2 X.A) (tk : Takes X W) (he : PA X (e :: es) ta)
    (hg : Gl X x := by rfl) (hdb : (x == ("__debug__" : Str)) = false := by decide) (hs : starEach (e :: es) X.env = (false, eval e X.env) :: starEach es X.env := by rfl) (hpl : (backTo pos (starEach es X.env)).any (·.1) = false := by rfl) :
    PS X (.Raise (some (.Call (.Name x p) (e :: es) [] pos)) none pos2) (fun _ σ H => tMkO C sp [] ta σ H fun cls d G => W cls d σ G) := by
  obtain ⟨fI, fd, T, F, b⟩ := Z
  exact ps_raiseO hc T F b hr tk he hg hdb hs hpl
/-! ### names -/
def isStrD : PyData → Bool
  | .str _ => true
  | _ => false
theorem Da.isStr {K : PySem.W.Frag} {H : Hp} {x : V} {d : PyData} (h : Da H x d) : ∃ t, TyOf K H x t ∧ PySem.W.kitOne K t (.type "str") = some (isStrD d) := by
  cases h with
  | non => exact ⟨_, .non, kit_ty (by show kitB _ _ = some false; decide +kernel)⟩
  | bl b => exact ⟨_, .bl b, kit_ty (by show kitB _ _ = some false; decide +kernel)⟩
  | int i => exact ⟨_, .int i, kit_ty (by show kitB _ _ = some false; decide +kernel)⟩
  | str x => exact ⟨_, .str x, kit_ty (by show kitB _ _ = some true; decide +kernel)⟩
  | lst e _ => exact ⟨_, .lst e, kit_ty (by show kitB _ _ = some false; decide +kernel)⟩
  | tup e _ => exact ⟨_, .tup e, kit_ty (by show kitB _ _ = some false; decide +kernel)⟩
  | dic e _ => exact ⟨_, .dK e, kit_ty (by show kitB _ _ = some false; decide +kernel)⟩
def nameS (z : Str) : Bool := decide (1 ≤ z.length) && (decide (z.length ≤ 8) && z.cps.toList.all fun c => decide (c ∈ abc))
def nameD : PyData → Bool
  | .str z => nameS z
  | _ => false
def shortD : PyData → Prop
  | .str z => z.length ≤ 1000000
  | _ => True
def spIsName : Sp := fun vs H Q _ => ∃ (x : V) (d : PyData), vs = [x] ∧ Da H x d ∧ shortD d ∧ ∀ H', Same H H' → Q (.bl (nameD d)) H'
def spNeedName (C : Addr) : Sp := fun vs H Q E => ∃ (x : V) (d : PyData), vs = [x] ∧ Da H x d ∧ shortD d ∧ (nameD d = true → ∀ H', Same H H' → Q .non H') ∧
  (nameD d = false → ∀ H' dd, Same H H' → H dd = none → H' dd = some (.xd [("value", x)]) → E (.ref C) (some dd) H')
theorem isStr_str {d : PyData} (h : isStrD d = true) : ∃ z, d = .str z := by
  cases d <;> first | exact ⟨_, rfl⟩ | cases h
theorem nameD_not {d : PyData} (h : isStrD d = false) : nameD d = false := by
  cases d <;> first | rfl | cases h
theorem abc_lt {c : Nat} (h : c ∈ abc) : c < 200 := by
  have e : (abc.all fun c => decide (c < 200)) = true := by decide +kernel
  exact of_decide_eq_true (List.all_eq_true.mp e c h)
theorem nameS_true {z : Str} (h1 : 1 ≤ z.length) (h2 : z.length ≤ 8) (h3 : ∀ c ∈ z.cps.toList, c ∈ abc) : nameS z = true := by
  unfold nameS
  rw [decide_eq_true h1, decide_eq_true h2]
  simp only [Bool.true_and]
  rw [List.all_eq_true]
  exact fun c hc => decide_eq_true (h3 c hc)
theorem nameS_false {z : Str} (h : z.length = 0 ∨ 8 < z.length ∨ ∃ c ∈ z.cps.toList, c ∉ abc) : nameS z = false := by
  cases e : nameS z with
  | false => rfl
  | true =>
    unfold nameS at e
    simp only [Bool.and_eq_true, decide_eq_true_eq] at e
    obtain ⟨e1, e2, e3⟩ := e
    rcases h with h | h | ⟨c, hc, h⟩
    · omega
    · omega
    · exact absurd (of_decide_eq_true (List.all_eq_true.mp e3 c hc)) h
theorem cutS_sub (z : Str) (lo hi : Option Int) : (cutS z lo hi).length ≤ z.length ∧ ∀ c ∈ (cutS z lo hi).cps.toList, c ∈ z.cps.toList :=
  ⟨cutS_length z lo hi, fun c hc => List.mem_of_mem_drop (List.mem_of_mem_take hc)⟩
/-- a short text of small signs -/
def OkS (z : Str) : Prop := z.length ≤ 200 ∧ ∀ c ∈ z.cps.toList, c < 200
theorem OkS.app {x y : Str} (hx : OkS x) (hy : OkS y) (h : x.length + y.length ≤ 200) : OkS (x ++ y) :=
  ⟨by rw [Str.length_append]; exact h, fun c hc => by
    have e : c ∈ TL.tl x ++ TL.tl y := by rw [← TL.tl_append]; exact hc
    exact (List.mem_append.mp e).elim (hx.2 c) (hy.2 c)⟩
theorem OkS.sub {x y : Str} (hx : OkS x) (h1 : y.length ≤ x.length) (h2 : ∀ c ∈ y.cps.toList, c ∈ x.cps.toList) : OkS y := ⟨Nat.le_trans h1 hx.1, fun c hc => hx.2 c (h2 c hc)⟩
theorem mem_appL {x y : Str} {c : Nat} (h : c ∈ x.cps.toList) : c ∈ (x ++ y).cps.toList := by
  show c ∈ TL.tl (x ++ y)
  rw [TL.tl_append]
  exact List.mem_append_left _ h
theorem mem_appR {x y : Str} {c : Nat} (h : c ∈ y.cps.toList) : c ∈ (x ++ y).cps.toList := by
  show c ∈ TL.tl (x ++ y)
  rw [TL.tl_append]
  exact List.mem_append_right _ h
theorem okS_one {c : Nat} (h : c < 200) : OkS ⟨#[c]⟩ := ⟨by show 1 ≤ 200; decide, fun x hx => by rw [List.mem_singleton.mp hx]; exact h⟩
theorem len_tl (z : Str) : z.length = z.cps.toList.length := by simp [Str.length]
end HX

set_option Elab.async false
set_option linter.all false
set_option maxRecDepth 100000
set_option maxHeartbeats 2000000
namespace PySem
namespace HXK
open Builtin Builtin.ObjectAttr HandSPX

/-! ### an own exception made by keywords alone: C(k = e, ..) -/
section
variable {M : Model} {prog : Program} {w : World} {A : Around} {E : Value → Shared → Prop} {R : Result → Shared → Prop} {h : Heap} {g : Array GenState} {dr : Drawn} {tk : Nat} {os : OsState}
variable {nm q : Str} {C N fI : Addr} {bs bm bB : List Value} {sn : List Str} {sub : List Value} {ab : Bool} {col : Option Bool} {dd : Option Addr} {k0 k1 k2 k3 k5 : Option Value} {B nI iI : String} {kw : List (Str × Value)}
theorem kwx_check (Fx : ExcBaseFacts B nI iI bB) (hT : ∀ X : String, bm.contains (.type X) = bB.contains (.type X)) {Q : Unit → Shared → Prop}
    (hC : h.get? C = some (excClassObj nm q C N bs bm true sn sub ab col dd k0 k1 k2 k3 k5 nI)) (hkw : kw.length ≤ 2) (z : Q () ⟨h, g, dr, tk, os⟩) : wpAny M A (checkBuiltinCall nI ⟨[.ref C], kw⟩) Q E ⟨h, g, dr, tk, os⟩ := by
  have c1 : (Value.ref C :: bm).contains (.type B) = true := by rw [List.contains_cons, hT, Fx.hasB, Bool.or_true]
  have st := Fx.noStar
  simp only [checkBuiltinCall, Fx.newKind, Fx.newSplit, Fx.newRow]
  repeat (first | refine wpAny_loadPart_at hC ?_ | (refine wpAny_isSubtype_exc hC ?_; rw [c1]) | refine wpAny_staticBase_exc hC ?_ | refine wpAny_madeBy_exc hC ?_ | simp only [bne_self_eq_false, Bool.false_eq_true, if_false] | wp_step)
  exact z
theorem kwx_new (Fx : ExcBaseFacts B nI iI bB) (hT : ∀ X : String, bm.contains (.type X) = bB.contains (.type X))
    (hC : h.get? C = some (excClassObj nm q C N bs bm true sn sub ab col dd k0 k1 k2 k3 k5 nI))
    (z : R (.ok (.ret (.ref (h.objs.size + 1)))) ⟨(h.push (PySem.W.kdv_tup [])).push (excO C h.objs.size), g, dr, tk, os⟩) :
    codeAny (model prog w) A (.builtin nI ⟨[.ref C], kw⟩) R ⟨h, g, dr, tk, os⟩ := by
  have ends := Fx.ends
  have c1 : (Value.ref C :: bm).contains (.type B) = true := by rw [List.contains_cons, hT, Fx.hasB, Bool.or_true]
  have c2 : (Value.ref C :: bm).contains (.type "AttributeError") = false := by rw [List.contains_cons, hT, Fx.noAttr]; rfl
  have c3 : (Value.ref C :: bm).contains (.type "NameError") = false := by rw [List.contains_cons, hT, Fx.noName]; rfl
  have hrest : ([] : List Value).length ≤ sizeLine := Nat.zero_le _
  refine codeAny_builtinAt Fx.entry ?_
  unfold Builtin.«BaseException.__new__»
  refine wpAt_bind ?_
  show wpAt _ _ _ (stack >>= _) _ _ _
  refine wpAt_bind (wpAt_stack fun p below => wpAt_of_wpAny ?_)
  wp_walk
  refine wpAt_of_wpAny ?_
  rw [Fx.owner]
  repeat (first | with_reducible refine wpAny_madeHere_exc Fx.canon hC ?_ | with_reducible refine wpAny_loadPart_at hC ?_ | (with_reducible refine wpAny_isSubtype_exc hC ?_; first | rw [c1] | rw [c2] | rw [c3]) | wp_step)
  show R _ _
  rw [Heap.size_push]
  exact z
theorem kwx_type (Fx : ExcBaseFacts B nI iI bB) (hT : ∀ X : String, bm.contains (.type X) = bB.contains (.type X)) {Q : Fin → Shared → Prop} (hl : kw.length ≤ 2)
    (hC : h.get? C = some (excClassObj nm q C N bs bm true sn sub ab col dd k0 k1 k2 k3 k5 nI))
    (i0 : PySem.W.Looks (model prog w) h (typeLookup (.ref C) "__init__") (some (.ref fI))) (b0 : ∀ self, PySem.W.Looks (model prog w) h (bindSpecial (.ref fI) self) (.ref fI, [self]))
    (z : codeAny (model prog w) A (.call (.ref fI) ⟨[.ref (h.objs.size + 1)], kw⟩)
      (fun r s' => match r with | .ok (.ret v) => v = .none ∧ Q (.done (.ret (.ref (h.objs.size + 1)))) s' | .ok _ => False | .error e => E e s')
      ⟨(h.push (PySem.W.kdv_tup [])).push (excO C h.objs.size), g, dr, tk, os⟩) :
    wpAny (model prog w) A (Builtin.«type.__call__» ⟨[.ref C], kw⟩) Q E ⟨h, g, dr, tk, os⟩ := by
  repeat (first | with_reducible refine wpAny_loadPart_at hC ?_ | with_reducible refine wpAny_madeBy_exc hC ?_ | wp_step)
  refine codeAny_call_builtin_code (Code.quiet_builtin _ Fx.quiet) (kwx_check Fx hT hC hl ?_)
  refine kwx_new Fx hT hC ?_
  show wpAny _ _ _ _ _ _
  have old : ∀ b o, h.get? b = some o → ((h.push (PySem.W.kdv_tup [])).push (excO C h.objs.size)).get? b = some o := fun b o e => Heap.get?_push_of_some _ (Heap.get?_push_of_some _ e)
  have hC1 := old _ _ hC
  have hx : ((h.push (PySem.W.kdv_tup [])).push (excO C h.objs.size)).get? (h.objs.size + 1) = some (excO C h.objs.size) := by heap_get
  have own : (Value.ref C :: bm).contains (.ref C) = true := by simp
  have i1 := i0.keeps old
  have b1 := (b0 (.ref (h.objs.size + 1))).keeps old
  unfold isInstance
  repeat (first | with_reducible refine wpAny_loadPart_at hx ?_ | (with_reducible refine wpAny_isSubtype_exc hC1 ?_; rw [own]) | wp_step)
  show wpAny _ _ (typeLookup (.ref C) _) _ _ _
  refine i1.at ?_
  refine wpAny_holding (wpAny_bind (b1.at ?_))
  refine wpAny_bind (wpAny_call (codeAny_mono z fun r s' z => ?_))
  rcases r with e | (v | _ | _ | _) <;> first | exact z | exact z.elim | skip
  obtain ⟨rfl, z⟩ := z
  first
    | exact wpAny_pure (wpAny_pure z)
    | (wp_walk; exact z)
theorem kwx_tc {Q : Unit → Shared → Prop} (hl : kw.length ≤ 2) (hC : h.get? C = some (excClassObj nm q C N bs bm true sn sub ab col dd k0 k1 k2 k3 k5 nI))
    (z : Q () ⟨h, g, dr, tk, os⟩) : wpAny M A (checkBuiltinCall "type.__call__" ⟨[.ref C], kw⟩) Q E ⟨h, g, dr, tk, os⟩ := by
  have f3 := tc_sub
  have ty : (⟨h, g, dr, tk, os⟩ : Shared).TypeIs (.ref C) "type" := ⟨_, hC, rfl⟩
  simp only [checkBuiltinCall, tc_kind, tc_split]
  repeat (any_goals (first | assumption | with_reducible refine wpAny_loadPart_at hC ?_ | with_reducible refine wpAny_onRaise ?_ | with_reducible refine wpAny_map ?_ | wp_step))
theorem kwx_call (Fx : ExcBaseFacts B nI iI bB) (hT : ∀ X : String, bm.contains (.type X) = bB.contains (.type X)) (hl : kw.length ≤ 2)
    (hC : h.get? C = some (excClassObj nm q C N bs bm true sn sub ab col dd k0 k1 k2 k3 k5 nI))
    (i0 : PySem.W.Looks (model prog w) h (typeLookup (.ref C) "__init__") (some (.ref fI))) (b0 : ∀ self, PySem.W.Looks (model prog w) h (bindSpecial (.ref fI) self) (.ref fI, [self]))
    (z : codeAny (model prog w) (A.under (.builtin "type.__call__" ⟨[.ref C], kw⟩)) (.call (.ref fI) ⟨[.ref (h.objs.size + 1)], kw⟩) (PySem.W.InitBack (h.objs.size + 1) R)
      ⟨(h.push (PySem.W.kdv_tup [])).push (excO C h.objs.size), g, dr, tk, os⟩) :
    codeAny (model prog w) A (.call (.ref C) ⟨[], kw⟩) R ⟨h, g, dr, tk, os⟩ := by
  have f1 := tc_lookup
  have f2 := tc_bind (.ref C)
  have ty : (⟨h, g, dr, tk, os⟩ : Shared).TypeIs (.ref C) "type" := ⟨_, hC, rfl⟩
  refine codeAny_of_tree ?_
  show wpAny _ _ (callAny (.ref C) _) _ _ _
  repeat (any_goals (first | assumption | with_reducible refine wpAny_loadPart_at hC ?_ | wp_step))
  refine ⟨rfl, ?_⟩
  refine codeAny_call_builtin_at (Code.quiet_builtin _ (by decide +kernel)) entry_typeCall (kwx_tc hl hC (kwx_type Fx hT hl hC i0 b0 ?_))
  refine codeAny_mono z fun r s' z => ?_
  rcases r with e | (v | _ | _ | _) <;> exact z
end
end HXK
end PySem

set_option Elab.async false
set_option linter.all false
set_option maxRecDepth 100000
set_option maxHeartbeats 2000000
namespace HX
open PySem PySem.Spec PyProof.Rows L2

/-! ### an own exception as a value: at e, of the class at C, its fields fs -/
def Er (H : Hp) (e C : Addr) (fs : List (Str × V)) : Prop := ∃ od : Option Addr, H e = some (exT e (.ref C) od) ∧ ((∃ d, od = some d ∧ H d = some (.xd fs)) ∨ (od = none ∧ fs = []))
theorem Er.mo {H H' : Hp} {e C : Addr} {fs : List (Str × V)} (m : Same H H') : Er H e C fs → Er H' e C fs
  | ⟨od, h, q⟩ => ⟨od, m _ _ h, q.elim (fun ⟨d, a, b⟩ => .inl ⟨d, a, m _ _ b⟩) .inr⟩
section
variable {X : Cx} {x f g : Str} {C fI : Addr} {fd : FuncData} {k : Nat} {e e1 e2 : Expr} {es : List Expr} {te te1 te2 : TE} {ta : TA} {p pos : Pos} {ps : List Str} {sp : Sp}
/-- what the maker's end gives the value's reader -/
def QV (H1 : Hp) (C a : Addr) (Q : VK) : VK := fun v H2 => v = .non ∧ ∃ d fs, H2 a = some (exo a C (some d)) ∧ H2 d = some (exd d fs) ∧ H1 d = none ∧ Q (.ref a) (upd (upd (del H2 a) d (.xd fs)) a (exT a (.ref C) (some d)))
theorem end_xv {pins : List (Addr × Obj)} {σ : L2.St} {H1 H2 : Hp} {Q : VK} {hp hp2 h2 : Heap} {g1 g2 : Array GenState} {d1 d2 : Drawn} {t1 t2 : Nat} {os1 os2 : OsState} {a C d : Addr} {fs : List (Str × V)} (I1 : Inv X pins σ H1 ⟨hp, g1, d1, t1, os1⟩)
    (ha : hp.objs.size ≤ a) (k : ∀ b o, hp.get? b = some o → hp2.get? b = some o) (un : Un (frs X.stack) [] (upd H1 a (exo a C none)) H2 hp2 h2) (hok : HOk X.prog X.w H2 h2) (ho : os2 = os1) (hb : AllBare g2)
    (ea : H2 a = some (exo a C (some d))) (ed : H2 d = some (exd d fs)) (hd1 : H1 d = none) (q : Q (.ref a) (upd (upd (del H2 a) d (.xd fs)) a (exT a (.ref C) (some d)))) : EP X pins σ Q (.ref a) ⟨h2, g2, d2, t2, os2⟩ := by
  obtain ⟨t0, G, J, kG, ge, hoe, na⟩ := mk_end0 (d2 := d2) (t2 := t2) I1 ha k un hok ho hb ea ed hd1
  exact ⟨.ref a, _, J.laidN (t' := t2) kG ge na (exT_ok hoe ⟨rfl, rfl⟩ rfl), rfl, q⟩
theorem pe_xv {R : List V → Hp → VK → Prop} (imp : ∀ vs H1 Q, R vs H1 Q → vs.length ≤ 1000 ∧ ∀ a, H1 a = none → sp (.ref a :: vs) (upd H1 a (exo a C none)) (QV H1 C a Q) fun _ _ _ => False) (T : RxC X.K X.mg x C fI) (Fi : FnOk X.prog X.w X.K X.mg X.base CX0 k fI fd ps sp) (b : Binds X.K fd ps []) (hr : Room (k + 1) X.A) (ha : PA X (e :: es) ta) (hg : Gl X x)
    (hdb : (x == ("__debug__" : Str)) = false := by decide) (hs : starEach (e :: es) X.env = (false, eval e X.env) :: starEach es X.env := by rfl) (hpl : (backTo pos (starEach es X.env)).any (·.1) = false := by rfl) :
    PE X (.Call (.Name x p) (e :: es) [] pos) (fun σ H Q => ta σ H fun vs H1 => R vs H1 Q) := by
  refine ⟨fun pins s σ H Q I h => ?_⟩
  obtain ⟨nm, q, N, bs, bm, sn, sub, ab, col, dd, k0, k1, k2, k3, k5, hC, hbm⟩ := T.o.cls
  refine wpAny_Call_Name_kw (ld_glob I hg T.gC ?_ hdb)
  refine PySem.W.callWith_K (h₀ := X.base) I.ok.mod.kin T.o.kC (thn (ha.run pos pins s σ H _ I h) fun us s1 ⟨vs, H1, I1, r1, qR⟩ => ⟨I1.kIn, ?_⟩) hs hpl
  obtain ⟨hz, q1⟩ := imp _ _ _ qR
  show wpAny _ _ (call (.ref C) us) _ _ _
  obtain ⟨hp, gn, dr, tk, os⟩ := s1
  have z1 : hp.objs.size ≤ hp.objs.size + 1 := Nat.le_succ _
  have hn : H1 (hp.objs.size + 1) = none := I1.hok.fresh z1
  have hq := q1 (hp.objs.size + 1) hn
  have old : ∀ b o, hp.get? b = some o → ((hp.push (PySem.W.kdv_tup us)).push (PySem.HandSPX.excO C hp.objs.size)).get? b = some o := fun b o z => Heap.get?_push_of_some _ (Heap.get?_push_of_some _ z)
  have at_ : ((hp.push (PySem.W.kdv_tup us)).push (PySem.HandSPX.excO C hp.objs.size)).get? (hp.objs.size + 1) = some (PySem.HandSPX.excO C hp.objs.size) := by heap_get
  have I2 : Inv X pins σ (upd H1 (hp.objs.size + 1) (exo (hp.objs.size + 1) C none)) ⟨(hp.push (PySem.W.kdv_tup us)).push (PySem.HandSPX.excO C hp.objs.size), gn, dr, tk, os⟩ :=
    I1.laid (t' := tk) (a := hp.objs.size + 1) (o := exo (hp.objs.size + 1) C none) (h' := (hp.push (PySem.W.kdv_tup us)).push (PySem.HandSPX.excO C hp.objs.size)) old z1 (exo_ok at_)
  have r2 : Vals (V.ref (hp.objs.size + 1) :: vs) (Value.ref (hp.objs.size + 1) :: us) := .cons rfl r1
  have hl : ((Value.ref (hp.objs.size + 1) :: us) ++ []).length = ps.length := by
    rw [List.append_nil, ← r2.length]
    exact Fi.len _ _ _ _ hq
  have hus : us.length ≤ sizeLine := by
    rw [← Paired.length r1, sizeLine_eq]
    omega
  have bd := b (Shared.mk _ gn dr tk os) (Value.ref (hp.objs.size + 1) :: us) I2.kIn hl
  rw [List.append_nil] at bd
  refine wpAny_call (PySem.HandSPX.call_own F.excBase_ValueError (fun Y => PySem.HandSPX.refsVE_contains Y bm hbm) (I1.kIn _ _ hC) (PySem.W.looks_findIn I1.kIn T.iC) (fun self => PySem.W.bind_fn I1.kIn self T.tI) hus
    (codeAny_mono (Fi.run _ X.stack _ _ ⟨Value.ref (hp.objs.size + 1) :: us, []⟩ (Value.ref (hp.objs.size + 1) :: us) _ _ (fun _ _ _ => False) (hr.make C us []) (I2.env0.make C us []) bd r2 hq) fun r s' hq' => ?_))
  match r, hq' with
  | .error er, hq' => exact False.elim hq'
  | .ok .next, hq' => exact False.elim hq'
  | .ok .brk, hq' => exact False.elim hq'
  | .ok .cont, hq' => exact False.elim hq'
  | .ok (.ret u), hq' =>
    obtain ⟨v, H2, os2, bare2, un2, hok2, rv, ev, d, fs, ea, ed, hd1, q2⟩ := hq'
    subst ev
    obtain ⟨h2, g2, d2, t2, os'⟩ := s'
    exact ⟨rv, end_xv I1 z1 old un2 hok2 os2 bare2 ea ed hd1 q2⟩
theorem pe_xk {R : List V → Hp → VK → Prop} {ks : List Str} {kws : List Keyword} {gg : List Value → List Value → List Value} {gV : List V → List V → List V} (imp : ∀ zs H1 Q, R zs H1 Q → zs.length = ks.length ∧ ∀ a, H1 a = none → sp (gV [.ref a] zs) (upd H1 a (exo a C none)) (QV H1 C a Q) fun _ _ _ => False) (T : RxC X.K X.mg x C fI) (Fi : FnOk X.prog X.w X.K X.mg X.base CX0 k fI fd ps sp) (b : KBn X.K fd ps 1 ks gg gV) (hks2 : ks.length ≤ 2) (hr : Room (k + 1) X.A) (hkw : PK X kws ta) (hg : Gl X x)
    (hdb : (x == ("__debug__" : Str)) = false := by decide) (hall : (backToKw pos (keywordEach kws X.env)).all (·.1.isSome) = true := by rfl) (hks : (backToKw pos (keywordEach kws X.env)).filterMap (·.1) = ks := by rfl)
    (hpl : ((backTo pos (starEach [] X.env)).any (·.1) || (backToKw pos (keywordEach kws X.env)).any (·.1.isNone)) = false := by rfl) :
    PE X (.Call (.Name x p) [] kws pos) (fun σ H Q => ta σ H fun zs H1 => R zs H1 Q) := by
  refine ⟨fun pins s σ H Q I h => ?_⟩
  obtain ⟨nm, q, N, bs, bm, sn, sub, ab, col, dd, k0, k1, k2, k3, k5, hC, hbm⟩ := T.o.cls
  refine wpAny_Call_Name_kw (ld_glob I hg T.gC ?_ hdb)
  refine PySem.W.callWith_KW0 (h₀ := X.base) I.ok.mod.kin T.o.kC hall (thn (hkw.run pos pins s σ H _ I h) fun ws s1 ⟨zs, H1, I1, rz, qR⟩ => ⟨I1.kIn, ?_⟩) hpl
  obtain ⟨l1, q1⟩ := imp _ _ _ qR
  rw [hks]
  show wpAny _ _ (call (.ref C) [] (ks.zip ws)) _ _ _
  obtain ⟨hp, gn, dr, tk, os⟩ := s1
  have z1 : hp.objs.size ≤ hp.objs.size + 1 := Nat.le_succ _
  have hn : H1 (hp.objs.size + 1) = none := I1.hok.fresh z1
  have hq := q1 (hp.objs.size + 1) hn
  have old : ∀ b o, hp.get? b = some o → ((hp.push (PySem.W.kdv_tup [])).push (PySem.HandSPX.excO C hp.objs.size)).get? b = some o := fun b o z => Heap.get?_push_of_some _ (Heap.get?_push_of_some _ z)
  have at_ : ((hp.push (PySem.W.kdv_tup [])).push (PySem.HandSPX.excO C hp.objs.size)).get? (hp.objs.size + 1) = some (PySem.HandSPX.excO C hp.objs.size) := by heap_get
  have I2 : Inv X pins σ (upd H1 (hp.objs.size + 1) (exo (hp.objs.size + 1) C none)) ⟨(hp.push (PySem.W.kdv_tup [])).push (PySem.HandSPX.excO C hp.objs.size), gn, dr, tk, os⟩ :=
    I1.laid (t' := tk) (a := hp.objs.size + 1) (o := exo (hp.objs.size + 1) C none) (h' := (hp.push (PySem.W.kdv_tup [])).push (PySem.HandSPX.excO C hp.objs.size)) old z1 (exo_ok at_)
  have lw : ws.length = ks.length := rz.length.symm.trans l1
  have lkw : (ks.zip ws).length ≤ 2 := by
    rw [List.length_zip, lw, Nat.min_self]
    exact hks2
  have bd := b.to (Shared.mk _ gn dr tk os) [Value.ref (hp.objs.size + 1)] ws I2.kIn rfl lw
  have r2 := b.rel (vs := [V.ref (hp.objs.size + 1)]) (us := [Value.ref (hp.objs.size + 1)]) (.cons rfl .nil) rz
  refine wpAny_call (PySem.HXK.kwx_call F.excBase_ValueError (fun Y => PySem.HandSPX.refsVE_contains Y bm hbm) lkw (I1.kIn _ _ hC) (PySem.W.looks_findIn I1.kIn T.iC) (fun self => PySem.W.bind_fn I1.kIn self T.tI)
    (codeAny_mono (Fi.run _ X.stack _ _ ⟨[Value.ref (hp.objs.size + 1)], ks.zip ws⟩ (gg [Value.ref (hp.objs.size + 1)] ws) _ _ (fun _ _ _ => False) (hr.make C [] (ks.zip ws)) (I2.env0.make C [] (ks.zip ws)) bd r2 hq) fun r s' hq' => ?_))
  match r, hq' with
  | .error er, hq' => exact False.elim hq'
  | .ok .next, hq' => exact False.elim hq'
  | .ok .brk, hq' => exact False.elim hq'
  | .ok .cont, hq' => exact False.elim hq'
  | .ok (.ret u), hq' =>
    obtain ⟨v, H2, os2, bare2, un2, hok2, rv, ev, d, fs, ea, ed, hd1, q2⟩ := hq'
    subst ev
    obtain ⟨h2, g2, d2, t2, os'⟩ := s'
    exact ⟨rv, end_xv I1 z1 old un2 hok2 os2 bare2 ea ed hd1 q2⟩
/-- C(), no own __init__, kept -/
def tX0 (C : Addr) : TE := fun _ H Q => ∀ a H', Same H H' → H a = none → Er H' a C [] → Q (.ref a) H'
theorem pe_x0 {bmB : List Value} {B newId initId : String} (Fx : ExcBaseFacts B newId initId bmB) (q : PySem.W.excIn X.K C bmB newId = true) (gC : X.mg x = some (.ref C)) (kC : PySem.W.keepIn X.K (.ref C) = true) (hg : Gl X x) (hdb : (x == ("__debug__" : Str)) = false := by decide) :
    PE X (.Call (.Name x p) [] [] pos) (tX0 C) := by
  refine ⟨fun pins s σ H Q I h => ?_⟩
  refine wpAny_Call_Name_kw (ld_glob I hg gC ?_ hdb)
  refine PySem.W.callWith_KW0 (h₀ := X.base) I.ok.mod.kin kC rfl ?_ rfl
  refine PyProof.Rows.kwAll_nil ⟨I.kIn, ?_⟩
  show wpAny _ _ (call (.ref C) []) _ _ _
  obtain ⟨bm, N, nm, qn, bs, hdct, sn, sub, ab, col, dd, k0, k1, k2, k3, k5, mN, hC, hN, hni, T⟩ := exc_obj I.kIn q
  refine wpAny_call_exc_subT Fx T hC hN hni (fun h' a hm => ?_) (Nat.zero_le _)
  have hn : H a = none := I.hok.gone hm.new
  obtain ⟨t, ht, _, _⟩ := hm.there
  exact ⟨.ref a, upd H a (exT a (.ref C) none), I.laidN hm.keeps hm.new hn (exT_ok ht ⟨rfl, rfl⟩ rfl), rfl, h a _ (Same.new (Same.refl _) hn) hn ⟨none, upd_same, .inr ⟨rfl, rfl⟩⟩⟩
/-! ### .. by their fields -/
def R1 (C : Addr) (f : Str) : List V → Hp → VK → Prop := fun vs H1 Q => ∃ v, vs = [v] ∧ ∀ a H', Same H1 H' → H1 a = none → Er H' a C [(f, v)] → Q (.ref a) H'
def R2 (C : Addr) (f g : Str) : List V → Hp → VK → Prop := fun vs H1 Q => ∃ v u, vs = [v, u] ∧ ∀ a H', Same H1 H' → H1 a = none → Er H' a C [(g, u), (f, v)] → Q (.ref a) H'
def R2s (C : Addr) (f g : Str) : List V → Hp → VK → Prop := fun vs H1 Q => ∃ v u, vs = [u, v] ∧ ∀ a H', Same H1 H' → H1 a = none → Er H' a C [(g, u), (f, v)] → Q (.ref a) H'
def sw {α : Type} : List α → List α
  | [a, b] => [b, a]
  | _ => []
theorem sw_vals {vs : List V} {us : List Value} (r : Vals vs us) : Vals (sw vs) (sw us) := by
  cases r with
  | nil => exact .nil
  | cons r1 r =>
    cases r with
    | nil => exact .nil
    | cons r2 r =>
      cases r with
      | nil => exact .cons r2 (.cons r1 .nil)
      | cons _ _ => exact .nil
theorem same_xv {H1 : Hp} {a d : Addr} {o1 o2 u : HO} {H2 : Hp} (na : H1 a = none) (nd : H1 d = none) (e : ∀ b, b ≠ a → b ≠ d → H2 b = H1 b) : Same H1 (upd (upd (del H2 a) d u) a o2) := fun b o z => by
  have n1 := ne_of_none z na
  have n2 := ne_of_none z nd
  rw [upd_ne n1, upd_ne n2, del_ne n1, e b n1 n2]
  exact z
theorem imp1 {C : Addr} {f : Str} (vs : List V) (H1 : Hp) (Q : VK) (h : R1 C f vs H1 Q) : vs.length ≤ 1000 ∧ ∀ a, H1 a = none → spI1 C f (.ref a :: vs) (upd H1 a (exo a C none)) (QV H1 C a Q) fun _ _ _ => False := by
  obtain ⟨v, rfl, k⟩ := h
  refine ⟨by show 1 ≤ 1000; decide, fun a na => ⟨a, v, rfl, upd_same, fun dx nx ne => ⟨rfl, dx, _, upd_same, by rw [upd_ne ne, upd_same], ?_, k a _ (same_xv (o1 := .own 0) na ?_ fun b n1 n2 => ?_) na ?_⟩⟩⟩
  · rw [upd_ne ne] at nx
    exact nx
  · rw [upd_ne ne] at nx
    exact nx
  · rw [upd_ne n1, upd_ne n2, upd_ne n1]
  · exact ⟨some dx, upd_same, .inl ⟨dx, rfl, by rw [upd_ne ne, upd_same]⟩⟩
theorem imp2 {C : Addr} {f g : Str} (vs : List V) (H1 : Hp) (Q : VK) (h : R2 C f g vs H1 Q) : vs.length ≤ 1000 ∧ ∀ a, H1 a = none → spI2 C f g (.ref a :: vs) (upd H1 a (exo a C none)) (QV H1 C a Q) fun _ _ _ => False := by
  obtain ⟨v, u, rfl, k⟩ := h
  refine ⟨by show 2 ≤ 1000; decide, fun a na => ⟨a, v, u, rfl, upd_same, fun dx nx ne => ⟨rfl, dx, _, by rw [upd_ne (Ne.symm ne), upd_same], upd_same, ?_, k a _ (same_xv (o1 := .own 0) na ?_ fun b n1 n2 => ?_) na ?_⟩⟩⟩
  · rw [upd_ne ne] at nx
    exact nx
  · rw [upd_ne ne] at nx
    exact nx
  · rw [upd_ne n2, upd_ne n1, upd_ne n2, upd_ne n1]
  · exact ⟨some dx, upd_same, .inl ⟨dx, rfl, by rw [upd_ne ne, upd_same]⟩⟩
end
/-- an error class of one field, of two -/
def Er1 (P : Program) (w : World) (K : PySem.W.Frag) (mg : Str → Option Value) (base : Heap) (x : Str) (C : Addr) (f : Str) : Prop :=
  ∃ (fI : Addr) (fd : FuncData), RxC K mg x C fI ∧ FnOk P w K mg base CX0 1 fI fd ["self", f] (spI1 C f) ∧ Binds K fd ["self", f] [] ∧ KBn K fd ["self", f] 1 [f] (fun us ws => us ++ ws) (fun vs zs => vs ++ zs)
def Er2 (P : Program) (w : World) (K : PySem.W.Frag) (mg : Str → Option Value) (base : Heap) (x : Str) (C : Addr) (f g : Str) : Prop :=
  ∃ (fI : Addr) (fd : FuncData), RxC K mg x C fI ∧ FnOk P w K mg base CX0 1 fI fd ["self", f, g] (spI2 C f g) ∧ Binds K fd ["self", f, g] [] ∧ KBn K fd ["self", f, g] 1 [g, f] (fun us ws => us ++ sw ws) (fun vs zs => vs ++ sw zs)
section
variable {X : Cx} {x f g : Str} {C : Addr} {e e2 : Expr} {te te2 : TE} {ta : TA} {kws : List Keyword} {p pos : Pos}
theorem pe_e1 (Z : Er1 X.prog X.w X.K X.mg X.base x C f) (hr : Room 2 X.A) (ha : PA X [e] ta) (hg : Gl X x := by rfl)
    (hdb : (x == ("__debug__" : Str)) = false := by decide) (hs : starEach [e] X.env = (false, eval e X.env) :: starEach [] X.env := by rfl) (hpl : (backTo pos (starEach [] X.env)).any (·.1) = false := by rfl) :
    PE X (.Call (.Name x p) [e] [] pos) (fun σ H Q => ta σ H fun vs H1 => R1 C f vs H1 Q) := by
  obtain ⟨fI, fd, T, Fi, b, _⟩ := Z
  exact pe_xv imp1 T Fi b hr ha hg hdb hs hpl
theorem pe_e2 (Z : Er2 X.prog X.w X.K X.mg X.base x C f g) (hr : Room 2 X.A) (ha : PA X [e, e2] ta) (hg : Gl X x := by rfl)
    (hdb : (x == ("__debug__" : Str)) = false := by decide) (hs : starEach [e, e2] X.env = (false, eval e X.env) :: starEach [e2] X.env := by rfl) (hpl : (backTo pos (starEach [e2] X.env)).any (·.1) = false := by rfl) :
    PE X (.Call (.Name x p) [e, e2] [] pos) (fun σ H Q => ta σ H fun vs H1 => R2 C f g vs H1 Q) := by
  obtain ⟨fI, fd, T, Fi, b, _⟩ := Z
  exact pe_xv imp2 T Fi b hr ha hg hdb hs hpl
theorem pe_e1k (Z : Er1 X.prog X.w X.K X.mg X.base x C f) (hr : Room 2 X.A) (hkw : PK X kws ta) (hg : Gl X x := by rfl)
    (hdb : (x == ("__debug__" : Str)) = false := by decide) (hall : (backToKw pos (keywordEach kws X.env)).all (·.1.isSome) = true := by rfl) (hks : (backToKw pos (keywordEach kws X.env)).filterMap (·.1) = [f] := by rfl)
    (hpl : ((backTo pos (starEach [] X.env)).any (·.1) || (backToKw pos (keywordEach kws X.env)).any (·.1.isNone)) = false := by rfl) :
    PE X (.Call (.Name x p) [] kws pos) (fun σ H Q => ta σ H fun vs H1 => R1 C f vs H1 Q) := by
  obtain ⟨fI, fd, T, Fi, _, b⟩ := Z
  refine pe_xk (fun zs H1 Q h => ?_) T Fi b (by show 1 ≤ 2; decide) hr hkw hg hdb hall hks hpl
  have q := (imp1 zs H1 Q h).2
  obtain ⟨v, rfl, _⟩ := h
  exact ⟨rfl, q⟩
theorem pe_e2k (Z : Er2 X.prog X.w X.K X.mg X.base x C f g) (hr : Room 2 X.A) (hkw : PK X kws ta) (hg : Gl X x := by rfl)
    (hdb : (x == ("__debug__" : Str)) = false := by decide) (hall : (backToKw pos (keywordEach kws X.env)).all (·.1.isSome) = true := by rfl) (hks : (backToKw pos (keywordEach kws X.env)).filterMap (·.1) = [g, f] := by rfl)
    (hpl : ((backTo pos (starEach [] X.env)).any (·.1) || (backToKw pos (keywordEach kws X.env)).any (·.1.isNone)) = false := by rfl) :
    PE X (.Call (.Name x p) [] kws pos) (fun σ H Q => ta σ H fun vs H1 => R2s C f g vs H1 Q) := by
  obtain ⟨fI, fd, T, Fi, _, b⟩ := Z
  refine pe_xk (fun zs H1 Q h => ?_) T Fi b (by show 2 ≤ 2; decide) hr hkw hg hdb hall hks hpl
  obtain ⟨v, u, rfl, q⟩ := h
  exact ⟨rfl, (imp2 [v, u] H1 Q ⟨v, u, rfl, q⟩).2⟩
theorem Er.at_ {G : Hp} {a C : Addr} {fs : List (Str × V)} (h : Er G a C fs) (n : fs ≠ []) : ∃ d, G a = some (exT a (.ref C) (some d)) ∧ G d = some (.xd fs) := by
  obtain ⟨od, e, q⟩ := h
  rcases q with ⟨d, rfl, z⟩ | ⟨_, z⟩
  · exact ⟨d, e, z⟩
  · exact absurd z n
end
end HX

set_option Elab.async false
set_option linter.all false
set_option maxRecDepth 100000
set_option maxHeartbeats 2000000
namespace HX
open PySem PySem.Spec PyProof.Rows L2

/-! ### new lists that are not sys.modules -/
section
variable {X : Cx} {es : List Expr} {t : TA} {pos : Pos}
def tLstS (t : TA) : TE := fun σ H Q => t σ H fun xs G => xs.length ≤ sizeLine ∧ ∀ p, G p = none → p ≠ sysModules → Q (.ref p) (upd G p (.lst xs))
theorem pe_lstS (h : PA X es t) : PE X (.List es pos) (tLstS t) := by
  refine ⟨fun pins s σ H Q I k => wpAny_List_spliced (thn (h.run pos pins s σ H _ I k) fun us s1 ⟨xs, G, J, r, z, q⟩ => ⟨by rw [← r.length]; exact z, ?_⟩)⟩
  have nw : G s1.heap.objs.size = none := J.hok.fresh (Nat.le_refl _)
  exact ⟨.ref s1.heap.objs.size, upd G s1.heap.objs.size (.lst xs), J.laid (t' := s1.toks) (fun b u e => Heap.get?_push_of_some _ e) (Nat.le_refl _) ⟨z, us, 0, r, Heap.get?_push_size _ rfl⟩, rfl, q _ nw (Ne.symm (Nat.ne_of_lt J.big))⟩
def rSlLS (K : PySem.W.Frag) : V → Option Int → Option Int → Hp → VK → Prop := fun x lo hi H Q => ∃ a xs, x = .ref a ∧ SqL K H a xs ∧ ∀ p, H p = none → p ≠ sysModules → Q (.ref p) (upd H p (.lst (cutV xs lo hi)))
theorem sl_listS : SlR X (rSlLS X.K) := by
  intro pins s σ H x v vl vu lo hi sl Q I rx hs pl pu h
  obtain ⟨a, xs, rfl, hx, q⟩ := h
  obtain ⟨T, id, z1, z2, z3⟩ := sl_list pins s σ H (.ref a) v vl vu lo hi sl (fun v G => ∃ p, v = .ref p ∧ G = upd H p (.lst (cutV xs lo hi)) ∧ H p = none) I rx hs pl pu ⟨a, xs, rfl, hx, fun p n => ⟨p, rfl, rfl, n⟩⟩
  cases rx
  obtain ⟨its, r, ht, hz⟩ := I.list hx
  have hlen := r.length
  refine ⟨"list", _, F.slot_list_getitem.lookup, ht.isList.typeIs, wpAny_getItem_list_slice ht.isList hs pl pu .none (by simp) ?_ (by rw [List.size_toArray]; omega)⟩
  rw [slicePick_cut, ← hlen]
  exact ⟨.ref s.heap.objs.size, _, I.laid (t' := s.toks) (o := .lst (cutV xs lo hi)) (fun b ob q => Heap.get?_push_of_some _ q) (Nat.le_refl _)
    ⟨Nat.le_trans (cutV_length xs lo hi) hz, _, 0, (r.drop (HT.sIx xs.length 0 lo)).take (HT.sIx xs.length xs.length hi - HT.sIx xs.length 0 lo), Heap.get?_push_size _ rfl⟩, rfl, q _ (I.hok.fresh (Nat.le_refl _)) (Ne.symm (Nat.ne_of_lt I.big))⟩
end

/-! ### values that are drawn, of any kind -/
/-- data that repr can show in a list, beside another -/
structure OkT (d : PyData) : Prop where
  sh : d.showable = true
  dp : d.depth ≤ 30
  lv : d.leavesShort 1000 = true
  wt : d.weight ≤ 1000
theorem OkT.l1 {d : PyData} (h : OkT d) : OkD (.list [d]) := by
  obtain ⟨h1, h2, h3, h4⟩ := h
  refine ⟨?_, ?_, ?_, ?_⟩
  · simp [PyData.showable, PyData.showableAll, h1]
  · simp [PyData.depth, PyData.depthAll]; omega
  · simp [PyData.leavesShort, PyData.leavesShortAll, h3]
  · simp [PyData.weight, PyData.weightAll]; omega
theorem OkT.l2 {d e : PyData} (h : OkT d) (k : OkT e) : OkD (.list [d, e]) := by
  obtain ⟨h1, h2, h3, h4⟩ := h
  obtain ⟨k1, k2, k3, k4⟩ := k
  refine ⟨?_, ?_, ?_, ?_⟩
  · simp [PyData.showable, PyData.showableAll, h1, k1]
  · simp [PyData.depth, PyData.depthAll]; omega
  · simp [PyData.leavesShort, PyData.leavesShortAll, h3, k3]
  · simp [PyData.weight, PyData.weightAll]; omega
theorem okD_nil : OkD (.list []) := ⟨by decide +kernel, by decide +kernel, by decide +kernel, by decide +kernel⟩
theorem okT_by {d : PyData} (e : (d.showable && decide (d.depth ≤ 30) && d.leavesShort 1000 && decide (d.weight ≤ 1000)) = true) : OkT d := by
  simp only [Bool.and_eq_true, decide_eq_true_eq] at e
  exact ⟨e.1.1.1, e.1.1.2, e.1.2, e.2⟩
theorem kpN {H : Hp} {q b : Addr} {o u : HO} (e : H b = some u) (h : H q = none) : L2.upd H q o b = some u := by rw [upd_ne (ne_of_none e h)]; exact e
theorem kp2 {H : Hp} {q b : Addr} {o o' u : HO} (e : H b = some u) (h : H q = none) : L2.upd (L2.upd H q o) q o' b = some u := by rw [upd_ne (ne_of_none e h)]; exact kpN e h
theorem Same.upN {H G : Hp} {l : Addr} {o : HO} (s : Same H G) (n : H l = none) : Same H (L2.upd G l o) := fun c u e => by rw [upd_ne (ne_of_none e n)]; exact s c u e
/-- isinstance(e, c) of an own exception's value -/
def rIsE (K : PySem.W.Frag) : List V → Hp → VK → Prop := fun xs H Q => ∃ (a D : Addr) (fs : List (Str × V)) (c : V) (cv : Value) (b : Bool), xs = [.ref a, c] ∧ Er H a D fs ∧ ExC K D ∧ (∀ u, RelV c u → u = cv) ∧ PySem.W.kitOne K (.ref D) cv = some b ∧ Q (.bl b) H
theorem call_isE {X : Cx} : CallR X (.builtin "isinstance") (rIsE X.K) := fun pins s σ H xs us Q I r h => by
  obtain ⟨a, D, fs, c, cv, b, rfl, ⟨od, e, q⟩, T, hc, hk, z⟩ := h
  refine call_isX pins s σ H _ us Q I r ⟨a, D, od, c, cv, b, rfl, e, fun dd ed => ?_, T, hc, hk, z⟩
  rcases q with ⟨d, e1, e2⟩ | ⟨e1, _⟩
  · rw [ed] at e1
    cases e1
    exact ⟨_, e2⟩
  · rw [ed] at e1
    cases e1
theorem okT_int {i : Int} (h : i.natAbs < 2 ^ 900) : OkT (.int i) := by
  have hl : i.natAbs.log2 < 900 := by
    by_cases z : i.natAbs = 0
    · rw [z]
      decide
    · exact (Nat.log2_lt z).mpr h
  have e := int_text_length_le (a := i) (k := 900) (by decide) hl
  refine ⟨by show decide (i.natAbs.log2 < 1920) = true; exact decide_eq_true (by omega), by show 0 ≤ 30; decide, ?_, by simp only [PyData.weight]; split <;> omega⟩
  show decide ((PyData.shown (.int i)).length ≤ 1000) = true
  refine decide_eq_true ?_
  show (Str.ofString (toString i)).length ≤ 1000
  rw [PySem.ofString_length]
  omega
end HX

set_option Elab.async false
set_option linter.all false
set_option maxRecDepth 100000
set_option maxHeartbeats 2000000
/-! ### + - * // % of an own instance and an int -/
namespace PySem
namespace HXO
open W Builtin PyProof.Rows
section
variable {prog : Program} {w : World} {A : Around} {E : Value → Shared → Prop} {s : Shared} {K : Frag} {x C f g : Addr} {ox : Obj} {od : Option Obj}
theorem headed {K : Frag} {C : Addr} (h : selfFirst K C = true) : ∃ cd rest, clsIn K C = some cd ∧ cd.mro = .ref C :: rest := by
  obtain ⟨d, e1, e2⟩ := any_some h
  rcases hq : d.mro with _ | ⟨a, l⟩
  · rw [hq] at e2
    cases e2
  · rw [hq, List.head?_cons] at e2
    cases (beq_iff_eq.mp e2)
    exact ⟨d, l, e1, hq⟩
theorem slotPy {M : Model} {h : Heap} {nm : String} (X : K.In h) (hs : findIn K (.ref C) (PySem.dunder nm) = some (some (.ref f))) (hr : findIn K (.ref C) (PySem.dunderR nm) = some (some (.ref g))) : Looks M h (numberSlotInPython (.ref C) nm) true := by
  intro A Q E s k q
  unfold numberSlotInPython
  refine wpAny_bind (looks_findIn X hs A _ E s k ?_)
  refine wpAny_bind (wpAny_pure ?_)
  refine wpAny_bind (looks_findIn X hr A _ E s k ?_)
  refine wpAny_bind (wpAny_pure ?_)
  exact wpAny_pure q
theorem binL {op : Operator} {b : Value} {r : Option Value} {Q : Value → Shared → Prop} (X : K.In s.heap) (I : InstAt s.heap x ox C od) (hb : typeOf b = pure (.type "int")) (hc : selfFirst K C = true)
    (fU : fillsNumberSlot (.type "int") op.info.2 = pure true) (rU : typeLookup (.type "int") (PySem.dunderR op.info.2) = pure r) (hsub : isSubtype (.type "int") (.ref C) = pure false)
    (hs : findIn K (.ref C) (PySem.dunder op.info.2) = some (some (.ref f))) (hr : findIn K (.ref C) (PySem.dunderR op.info.2) = some (some (.ref g))) (hf : isFn K (.ref f) = true)
    (h : wpAny (model prog w) A (call (.ref f) [.ref x, b]) (W.CmpBack Q) E s) : wpAny (model prog w) A (binaryOp op (.ref x) b) Q E s := by
  obtain ⟨cd, rest, hcd, hm⟩ := headed hc
  rcases hi : op.info with ⟨sg, nm⟩
  rw [hi] at fU rU hs hr
  dsimp only at fU rU hs hr
  simp only [binaryOp, hi]
  refine wpAny_holding (wpAny_bind ?_)
  simp only [binaryOp1]
  refine wpAny_bind (I.type.here (wpAny_bind (wpAny_of_eq hb (wpAny_bind ((fills_K X hcd hm hs).here ?_)))))
  have ne : (Value.ref C == Value.type "int") = false := by simp
  simp only [ne, Bool.false_eq_true, if_false]
  refine wpAny_bind (wpAny_of_eq fU ?_)
  simp only [Bool.and_self, if_true]
  refine wpAny_bind (wpAny_of_eq hsub ?_)
  simp only [Bool.false_eq_true, if_false, Bool.not_false, Bool.and_self, if_true]
  refine wpAny_bind ((slotPy X hs hr).here ?_)
  have hpy : numberSlotInPython (.type "int") nm = pure false := rfl
  simp only [if_true, hpy, pure_bind, Bool.not_false, rU]
  refine wpAny_bind (m := tryMethod (Value.ref x) _ b) ?_
  unfold tryMethod
  refine wpAny_bind (special_fn X I hs (beq_iff_eq.mp hf) (wpAny_mono h (fun v s2 hv => ?_) fun _ _ z => z))
  cases v <;> first | exact hv.elim | exact (wpAny_pure (wpAny_pure (wpAny_pure hv)))
theorem binE {op : Operator} {y : Addr} {oy : Obj} {oe : Option Obj} {Q : Value → Shared → Prop} (X : K.In s.heap) (I : InstAt s.heap x ox C od) (J : InstAt s.heap y oy C oe) (hc : selfFirst K C = true)
    (hs : findIn K (.ref C) (PySem.dunder op.info.2) = some (some (.ref f)))
    (hf : isFn K (.ref f) = true)
    (h : wpAny (model prog w) A (call (.ref f) [.ref x, .ref y]) (W.CmpBack Q) E s) : wpAny (model prog w) A (binaryOp op (.ref x) (.ref y)) Q E s := by
  obtain ⟨cd, rest, hcd, hm⟩ := headed hc
  rcases hi : op.info with ⟨sg, nm⟩
  rw [hi] at hs
  dsimp only at hs
  simp only [binaryOp, hi]
  refine wpAny_holding (wpAny_bind ?_)
  simp only [binaryOp1]
  refine wpAny_bind (I.type.here (wpAny_bind (J.type.here (wpAny_bind ((fills_K X hcd hm hs).here ?_)))))
  simp only [beq_self_eq_true, if_true, pure_bind, Bool.and_false, Bool.false_eq_true, if_false, Bool.false_and]
  refine wpAny_bind (m := tryMethod (.ref x) _ (.ref y)) ?_
  unfold tryMethod
  refine wpAny_bind (special_fn X I hs (beq_iff_eq.mp hf) (wpAny_mono h (fun v s2 hv => ?_) fun _ _ z => z))
  cases v <;> first | exact hv.elim | exact (wpAny_pure (wpAny_pure (wpAny_pure hv)))
theorem fillsI {M : Model} {h : Heap} {nm : String} {ad : Bool} {cd : ClassData} {rest : List Value} (X : K.In h) (hc : clsIn K C = some cd) (hm : cd.mro = .ref C :: rest) (hs : findIn K (.ref C) (PySem.dunderI nm) = some (some (.ref f))) : Looks M h (fillsInplaceSlot (.ref C) nm ad) true := by
  intro A Q E s k q
  unfold fillsInplaceSlot
  refine wpAny_bind ((looks_clsIn X hc).andThen (f := fun d => pure d.mro) .now A _ E s k ?_)
  rw [hm, List.anyM_cons]
  refine wpAny_bind ?_
  refine wpAny_bind (looks_findIn X hs A _ E s k ?_)
  dsimp only
  rw [if_pos (show (!ownNameWrapper (.ref f) (PySem.dunderI nm)) = true from rfl)]
  refine wpAny_pure ?_
  rw [if_pos rfl]
  exact wpAny_pure q
theorem binI {op : Operator} {b : Value} {Q : Value → Shared → Prop} (X : K.In s.heap) (I : InstAt s.heap x ox C od) (hc : selfFirst K C = true)
    (hs : findIn K (.ref C) (PySem.dunderI op.info.2) = some (some (.ref f))) (hf : isFn K (.ref f) = true)
    (h : wpAny (model prog w) A (call (.ref f) [.ref x, b]) (W.CmpBack Q) E s) : wpAny (model prog w) A (inplaceOp op (.ref x) b) Q E s := by
  obtain ⟨cd, rest, hcd, hm⟩ := headed hc
  unfold inplaceOp
  refine wpAny_holding ?_
  dsimp only
  refine wpAny_bind (I.type.here (wpAny_bind ((fillsI X hcd hm hs).here ?_)))
  show wpAny _ _ (if true = true then _ else _) _ _ _
  rw [if_pos rfl]
  refine wpAny_bind (m := tryMethod (Value.ref x) _ b) ?_
  unfold tryMethod
  refine wpAny_bind (special_fn X I hs (beq_iff_eq.mp hf) (wpAny_mono h (fun v s2 hv => ?_) fun _ _ z => z))
  cases v <;> first | exact hv.elim | exact wpAny_pure (wpAny_bind (wpAny_rule (wpAny_pure hv)))
theorem unN {Q : Value → Shared → Prop} (X : K.In s.heap) (I : InstAt s.heap x ox C od) (hs : findIn K (.ref C) "__neg__" = some (some (.ref f))) (hf : isFn K (.ref f) = true)
    (h : wpAny (model prog w) A (call (.ref f) [.ref x]) Q E s) : wpAny (model prog w) A (unaryOp .USub (.ref x)) Q E s := by
  unfold unaryOp
  refine wpAny_holding ?_
  dsimp only
  rw [if_neg (by decide)]
  exact wpAny_bind (special_fn X I hs (beq_iff_eq.mp hf) (wpAny_mono h (fun v s' hv => wpAny_pure hv) fun _ _ e => e))
theorem unA {Q : Value → Shared → Prop} (X : K.In s.heap) (I : InstAt s.heap x ox C od) (hs : findIn K (.ref C) "__abs__" = some (some (.ref f))) (hf : isFn K (.ref f) = true)
    (h : wpAny (model prog w) A.in1 (call (.ref f) [.ref x]) Q E s) : wpAny (model prog w) A (call (.builtin "abs") [.ref x]) Q E s := by
  refine Calls.call_function_entry kind_abs plain_abs entry_abs (args_abs _) ?_
  unfold Builtin.«abs»
  refine wpAny_bind (m := oneArg "abs" _) (wpAny_pure ?_)
  refine wpAny_bind (special_fn X I hs (beq_iff_eq.mp hf) (wpAny_mono h (fun v s' hv => ?_) fun _ _ e => e))
  exact wpAny_pure ⟨v, rfl, hv⟩
/-- v o x, v an int: the int's own method refuses, x's reflected one is called -/
theorem binR {op : Operator} {a : Value} {idl : String} {Q : Value → Shared → Prop} (X : K.In s.heap) (I : InstAt s.heap x ox C od) (ta : typeOf a = pure (.type "int")) (ha : s.TypeIs a "int") (hc : selfFirst K C = true)
    (fU : fillsNumberSlot (.type "int") op.info.2 = pure true) (hsub : subIn K (.ref C) (.type "int") = some false) (hl : Slot "int" (PySem.dunder op.info.2) idl)
    (hN : ∀ Q : Value → Shared → Prop, Q .notImplemented s → wpAny (model prog w) A (call (.builtin idl) [a, .ref x]) Q E s)
    (hs : findIn K (.ref C) (PySem.dunder op.info.2) = some (some (.ref f))) (hr : findIn K (.ref C) (PySem.dunderR op.info.2) = some (some (.ref g))) (hg : isFn K (.ref g) = true)
    (h : wpAny (model prog w) A (call (.ref g) [.ref x, a]) (W.CmpBack Q) E s) : wpAny (model prog w) A (binaryOp op a (.ref x)) Q E s := by
  obtain ⟨cd, rest, hcd, hm⟩ := headed hc
  rcases hi : op.info with ⟨sg, nm⟩
  rw [hi] at fU hl hs hr
  dsimp only at fU hl hs hr
  simp only [binaryOp, hi]
  refine wpAny_holding (wpAny_bind ?_)
  simp only [binaryOp1]
  refine wpAny_bind (wpAny_of_eq ta (wpAny_bind (I.type.here (wpAny_bind (wpAny_of_eq fU ?_)))))
  have ne : (Value.type "int" == Value.ref C) = false := by simp
  simp only [ne, Bool.false_eq_true, if_false]
  refine wpAny_bind ((fills_K X hcd hm hs).here ?_)
  simp only [Bool.and_self, if_true]
  refine wpAny_bind ((looks_subIn X hsub).here ?_)
  have hpy : numberSlotInPython (.type "int") nm = pure false := rfl
  simp only [Bool.false_eq_true, if_false, Bool.not_false, Bool.and_self, if_true, hpy, pure_bind]
  refine wpAny_bind (m := tryMethod a _ (.ref x)) ?_
  unfold tryMethod
  refine wpAny_bind (wpAny_callSpecial?_slot ha hl (hN _ ?_))
  refine wpAny_pure ?_
  refine wpAny_bind (wpAny_bind (special_fn X I hr (beq_iff_eq.mp hg) (wpAny_mono h (fun v s' hv => ?_) fun _ _ e => e)))
  cases v <;> first | exact hv.elim | exact wpAny_pure (wpAny_bind (wpAny_rule (wpAny_pure (wpAny_pure hv))))
theorem ni_add {i : Int} {t : Tok} {dx : Addr} {Q : Value → Shared → Prop} (hx : s.heap.get? x = some (instObj C dx)) (h : Q .notImplemented s) : wpAny (model prog w) A (call (.builtin "int.__add__") [.int i t, .ref x]) Q E s := by
  refine wpAny_call (codeAny_call_builtin F.slot_int_add.plain F.entry_int_add (F.slot_int_add.check _ _ _ _ _ _ _ _ (typeIs_int s i t) (F.args_int_add_2 _ _) ?_))
  unfold Builtin.«int.__add__»
  refine (by (repeat (first | with_reducible refine wpAny_loadPart_at hx ?_ | with_reducible refine wpAny_load hx ?_ | wp_step)); exact h)
theorem ni_sub {i : Int} {t : Tok} {dx : Addr} {Q : Value → Shared → Prop} (hx : s.heap.get? x = some (instObj C dx)) (h : Q .notImplemented s) : wpAny (model prog w) A (call (.builtin "int.__sub__") [.int i t, .ref x]) Q E s := by
  refine wpAny_call (codeAny_call_builtin F.slot_int_sub.plain F.entry_int_sub (F.slot_int_sub.check _ _ _ _ _ _ _ _ (typeIs_int s i t) (F.args_int_sub_2 _ _) ?_))
  unfold Builtin.«int.__sub__»
  refine (by (repeat (first | with_reducible refine wpAny_loadPart_at hx ?_ | with_reducible refine wpAny_load hx ?_ | wp_step)); exact h)
theorem ni_mul {i : Int} {t : Tok} {dx : Addr} {Q : Value → Shared → Prop} (hx : s.heap.get? x = some (instObj C dx)) (h : Q .notImplemented s) : wpAny (model prog w) A (call (.builtin "int.__mul__") [.int i t, .ref x]) Q E s := by
  refine wpAny_call (codeAny_call_builtin F.slot_int_mul.plain F.entry_int_mul (F.slot_int_mul.check _ _ _ _ _ _ _ _ (typeIs_int s i t) (F.args_int_mul_2 _ _) ?_))
  unfold Builtin.«int.__mul__»
  refine (by (repeat (first | with_reducible refine wpAny_loadPart_at hx ?_ | with_reducible refine wpAny_load hx ?_ | wp_step)); exact h)
theorem ni_floordiv {i : Int} {t : Tok} {dx : Addr} {Q : Value → Shared → Prop} (hx : s.heap.get? x = some (instObj C dx)) (h : Q .notImplemented s) : wpAny (model prog w) A (call (.builtin "int.__floordiv__") [.int i t, .ref x]) Q E s := by
  refine wpAny_call (codeAny_call_builtin F.slot_int_floordiv.plain F.entry_int_floordiv (F.slot_int_floordiv.check _ _ _ _ _ _ _ _ (typeIs_int s i t) (F.args_int_floordiv_2 _ _) ?_))
  unfold Builtin.«int.__floordiv__»
  refine (by (repeat (first | with_reducible refine wpAny_loadPart_at hx ?_ | with_reducible refine wpAny_load hx ?_ | wp_step)); exact h)
theorem ni_mod {i : Int} {t : Tok} {dx : Addr} {Q : Value → Shared → Prop} (hx : s.heap.get? x = some (instObj C dx)) (h : Q .notImplemented s) : wpAny (model prog w) A (call (.builtin "int.__mod__") [.int i t, .ref x]) Q E s := by
  refine wpAny_call (codeAny_call_builtin F.slot_int_mod.plain F.entry_int_mod (F.slot_int_mod.check _ _ _ _ _ _ _ _ (typeIs_int s i t) (F.args_int_mod_2 _ _) ?_))
  unfold Builtin.«int.__mod__»
  refine (by (repeat (first | with_reducible refine wpAny_loadPart_at hx ?_ | with_reducible refine wpAny_load hx ?_ | wp_step)); exact h)
end
theorem int_not (C : Addr) : isSubtype (.type "int") (.ref C) = pure false := by rfl
/-- what an int's operator does beside an own instance -/
structure IntOp (op : Operator) (idl : String) : Prop where
  fU : fillsNumberSlot (.type "int") op.info.2 = pure true
  rU : ∃ r, typeLookup (.type "int") (PySem.dunderR op.info.2) = pure r
  sl : Slot "int" (PySem.dunder op.info.2) idl
  ni : ∀ {prog : Program} {w : World} {A : Around} {E : Value → Shared → Prop} {s : Shared} {x C dx : Addr} {i : Int} {t : Tok} {Q : Value → Shared → Prop}, s.heap.get? x = some (instObj C dx) → Q .notImplemented s → wpAny (model prog w) A (call (.builtin idl) [.int i t, .ref x]) Q E s
theorem io_add : IntOp .Add "int.__add__" := ⟨F.fills_int_add, ⟨_, F.slot_int_radd.lookup⟩, F.slot_int_add, ni_add⟩
theorem io_sub : IntOp .Sub "int.__sub__" := ⟨F.fills_int_sub, ⟨_, F.slot_int_rsub.lookup⟩, F.slot_int_sub, ni_sub⟩
theorem io_mul : IntOp .Mult "int.__mul__" := ⟨F.fills_int_mul, ⟨_, F.slot_int_rmul.lookup⟩, F.slot_int_mul, ni_mul⟩
theorem io_fdiv : IntOp .FloorDiv "int.__floordiv__" := ⟨F.fills_int_floordiv, ⟨_, F.slot_int_rfloordiv.lookup⟩, F.slot_int_floordiv, ni_floordiv⟩
theorem io_mod : IntOp .Mod "int.__mod__" := ⟨F.fills_int_mod, ⟨_, F.slot_int_rmod.lookup⟩, F.slot_int_mod, ni_mod⟩
/-- a class with both methods of an operator -/
structure OwnOp (K : Frag) (C : Addr) (op : Operator) (f g : Addr) : Prop where
  first : selfFirst K C = true
  sub : subIn K (.ref C) (.type "int") = some false
  hs : findIn K (.ref C) (PySem.dunder op.info.2) = some (some (.ref f))
  hr : findIn K (.ref C) (PySem.dunderR op.info.2) = some (some (.ref g))
  hf : isFn K (.ref f) = true
  hg : isFn K (.ref g) = true
end HXO
end PySem
namespace HX
open PySem PySem.Spec PyProof.Rows L2
/-- an instance of the class at C is tracked at a -/
def IsI (C : Addr) (H : Hp) (a : Addr) : Prop := ∃ dx fs, H a = some (.ins C dx fs)
/-- x o y of own instances and ints -/
def rOw (C : Addr) (r0 : L2.R2) (spF spG : Sp) (E : XK) : L2.R2 := fun x y H Q => match x, y with
  | .ref a, .ref b => IsI C H a ∧ IsI C H b ∧ spF [.ref a, .ref b] H Q E
  | .ref a, .int j => IsI C H a ∧ spF [.ref a, .int j] H Q E
  | .int i, .ref b => IsI C H b ∧ spG [.ref b, .int i] H Q E
  | .int i, .int j => r0 (.int i) (.int j) H Q
  | _, _ => False
section
variable {X : Cx} {pins : List (Addr × Obj)} {σ : L2.St} {H : Hp} {s : Shared} {a C : Addr}
theorem inst_at (I : Inv X pins σ H s) (h : IsI C H a) : ∃ dx od, PySem.W.InstAt s.heap a (PySem.W.instObj C dx) C (some od) ∧ s.heap.get? a = some (PySem.W.instObj C dx) := by
  obtain ⟨dx, fs, e⟩ := h
  obtain ⟨_, _, ne, ho, mA, ns, _, _⟩ := (show ObjOk X.prog X.w H s.heap a (.ins C dx fs) from I.hok a _ e)
  obtain ⟨od, z, _⟩ := (ObjM.mk ho ns ne).look
  exact ⟨dx, od, z, ho⟩
theorem ep_own {Q : VK} {u : Value} {s' : Shared} (h : EP X pins σ Q u s') : PySem.W.CmpBack (EP X pins σ Q) u s' := by
  obtain ⟨v, G, J, r, q⟩ := id h
  cases u <;> first | exact h | (cases v <;> first | exact r.elim | (obtain ⟨_, r⟩ := r; cases r) | cases r)
/-- the operator, where both methods keep a promise -/
theorem op_ow {op : Operator} {idl : String} {r0 : L2.R2} {f g : Addr} {ff fg : FuncData} {pf pg : List Str} {spF spG : Sp} {CY : CXT} {k : Nat} {E : XK} (io : PySem.HXO.IntOp op idl) (h0 : OpR X (binaryOp op) r0) (O : PySem.HXO.OwnOp X.K C op f g)
    (Ff : FnOk X.prog X.w X.K X.mg X.base CY k f ff pf spF) (Fg : FnOk X.prog X.w X.K X.mg X.base CY k g fg pg spG) (bf : Binds X.K ff pf []) (bg : Binds X.K fg pg []) (hr : Room k X.A) (hx : Passes CY X E) : OpR X (binaryOp op) (rOw C r0 spF spG E) := by
  intro pins s σ H x y v u Q I rx ry q
  unfold rOw at q
  split at q
  · obtain ⟨i1, i2, q⟩ := q
    cases rx
    cases ry
    obtain ⟨dx, od, J, ho⟩ := inst_at I i1
    obtain ⟨dy, od2, J2, ho2⟩ := inst_at I i2
    rename_i a b
    have rv : Vals [V.ref a, V.ref b] [Value.ref a, Value.ref b] := .cons rfl (.cons rfl .nil)
    exact PySem.HXO.binE I.kIn J J2 O.first O.hs O.hf (wpAny_mono (run_fn Ff hr bf .nil hx I rv (by rw [List.append_nil]; exact q)) (fun u s' h => ep_own h) fun _ _ z => z)
  · obtain ⟨i1, q⟩ := q
    cases rx
    obtain ⟨t, rfl⟩ := (show ∃ t, u = Value.int _ t from ry)
    obtain ⟨dx, od, J, ho⟩ := inst_at I i1
    obtain ⟨r, rU⟩ := io.rU
    rename_i a j
    have rv : Vals [V.ref a, V.int j] [Value.ref a, Value.int j t] := .cons rfl (.cons ⟨t, rfl⟩ .nil)
    refine PySem.HXO.binL I.kIn J rfl O.first io.fU rU (PySem.HXO.int_not C) O.hs O.hr O.hf (wpAny_mono (run_fn Ff hr bf .nil hx I rv (by rw [List.append_nil]; exact q)) (fun u s' h => ep_own h) fun _ _ z => z)
  · obtain ⟨i1, q⟩ := q
    cases ry
    obtain ⟨t, rfl⟩ := (show ∃ t, v = Value.int _ t from rx)
    obtain ⟨dx, od, J, ho⟩ := inst_at I i1
    rename_i j a
    have rv : Vals [V.ref a, V.int j] [Value.ref a, Value.int j t] := .cons rfl (.cons ⟨t, rfl⟩ .nil)
    refine PySem.HXO.binR I.kIn J rfl (typeIs_int s _ t) O.first io.fU O.sub io.sl (fun Q z => io.ni ho z) O.hs O.hr O.hg (wpAny_mono (run_fn Fg hr bg .nil hx I rv (by rw [List.append_nil]; exact q)) (fun u s' h => ep_own h) fun _ _ z => z)
  · exact h0 pins s σ H _ _ v u Q I rx ry q
  · exact q.elim
/-- x o= y, by an own method -/
def rIo (C : Addr) (sp : Sp) (E : XK) : TIp := fun x y H Q => ∃ a, x = .ref a ∧ IsI C H a ∧ sp [.ref a, y] H Q E
theorem ip_ow {op : Operator} {f : Addr} {fd : FuncData} {ps : List Str} {sp : Sp} {CY : CXT} {k : Nat} {E : XK} (first : PySem.W.selfFirst X.K C = true) (hs : PySem.W.findIn X.K (.ref C) (PySem.dunderI op.info.2) = some (some (.ref f))) (hf : PySem.W.isFn X.K (.ref f) = true)
    (Fi : FnOk X.prog X.w X.K X.mg X.base CY k f fd ps sp) (b : Binds X.K fd ps []) (hr : Room k X.A) (hx : Passes CY X E) : PIp X op (rIo C sp E) := by
  intro pins s σ H x y v u Q I rx ry q
  obtain ⟨a, rfl, i1, q⟩ := q
  cases rx
  obtain ⟨dx, od, J, ho⟩ := inst_at I i1
  have rv : Vals [V.ref a, y] [Value.ref a, u] := .cons rfl (.cons ry .nil)
  exact PySem.HXO.binI I.kIn J first hs hf (wpAny_mono (run_fn Fi hr b .nil hx I rv (by rw [List.append_nil]; exact q)) (fun u s' h => ep_own h) fun _ _ z => z)
/-- -x, of an own instance or an int -/
def rNg (C : Addr) (sp : Sp) (E : XK) : V → Hp → VK → Prop := fun x H Q => match x with
  | .ref a => IsI C H a ∧ sp [.ref a] H Q E
  | .int i => Q (.int (-i)) H
  | _ => False
theorem un_ow {f : Addr} {fd : FuncData} {ps : List Str} {sp : Sp} {CY : CXT} {k : Nat} {E : XK} (hs : PySem.W.findIn X.K (.ref C) "__neg__" = some (some (.ref f))) (hf : PySem.W.isFn X.K (.ref f) = true)
    (Fi : FnOk X.prog X.w X.K X.mg X.base CY k f fd ps sp) (b : Binds X.K fd ps []) (hr : Room k X.A) (hx : Passes CY X E) : UnR X (unaryOp .USub) (rNg C sp E) := by
  intro pins s σ H x v Q I rx q
  unfold rNg at q
  split at q
  · obtain ⟨i1, q⟩ := q
    cases rx
    obtain ⟨dx, od, J, ho⟩ := inst_at I i1
    rename_i a
    have rv : Vals [V.ref a] [Value.ref a] := .cons rfl .nil
    exact PySem.HXO.unN I.kIn J hs hf (run_fn Fi hr b .nil hx I rv (by rw [List.append_nil]; exact q))
  · exact un_neg pins s σ H _ v Q I rx ⟨_, rfl, q⟩
  · exact q.elim
end
end HX

set_option Elab.async false
set_option linter.all false
set_option maxRecDepth 100000
set_option maxHeartbeats 2000000
namespace HX
open PySem PySem.Spec PyProof.Rows L2

/-! ### C.m(..), m a static method: its record at p, its def at g -/
structure SMet (K : PySem.W.Frag) (C : Addr) (mc : Value) (m : Str) (p g : Addr) : Prop where
  rd : ClX.CRead K C mc
  at_ : PySem.W.findCls K (.ref C) mc m = some (.get (.builtin "staticmethod.__get__") (.ref p) .none (.ref C))
  rc : ∃ rest, PySem.W.recIn K p "staticmethod" = some (.ref g :: rest)
  kp : PySem.W.keepIn K (.ref g) = true
def tSM (C : Addr) (sp : Sp) (E : XK) (ta : TE) (t : TA) : TE := fun σ H Q => ta σ H fun x H1 => x = .ref C ∧ t σ H1 fun vs H2 => sp vs H2 Q E
def tSMK (C : Addr) (m : Nat) (sp : Sp) (gV : List V → List V → List V) (E : XK) (ta : TE) (t : TA) : TE := fun σ H Q => ta σ H fun x H1 => x = .ref C ∧ t σ H1 fun zs H2 => zs.length = m ∧ sp (gV [] zs) H2 Q E
section
variable {X : Cx} {CY : CXT} {k : Nat} {C p g : Addr} {mc : Value} {sp : Sp} {E : XK} {o e : Expr} {es : List Expr} {m : Str} {pos apos : Pos} {ta : TE} {t : TA} {pl : Sem Bool} {fd : FuncData} {ps : List Str} {pins : List (Addr × Obj)} {σ : L2.St} {H : Hp} {s : Shared} {A : Around}
theorem getm_sm {Ex : Value → Shared → Prop} {Q : Value × List Value → Shared → Prop} (I : Inv X pins σ H s) (c : SMet X.K C mc m p g) (h : ∀ s', Inv X pins σ H s' → Q (.ref g, []) s') : wpAny (model X.prog X.w) A (getMethod (.ref C) m pl) Q Ex s := by
  obtain ⟨rest, hp⟩ := c.rc
  refine PySem.W.method_cls I.kIn c.rd.ga (PySem.W.cls_bind I.kIn c.rd.rd c.at_ ?_)
  exact wpAny_call (PySem.W.sm_get (s := { s with toks := s.toks + 1 }) I.kIn hp (PySem.W.handed_on rfl (h _ (I.tok _))))
theorem pe_sm (he : PE X o ta) (c : SMet X.K C mc m p g) (Fm : FnOk X.prog X.w X.K X.mg X.base CY k g fd ps sp) (b : Binds X.K fd ps []) (hr : Room k X.A) (hx : Passes CY X E) (ha : PA X (e :: es) t)
    (hst : starEach (e :: es) X.env = (false, eval e X.env) :: starEach es X.env := by rfl) (hpl : (backTo pos (starEach es X.env)).any (·.1) = false := by rfl)
    (ht : eval (.Call (.Attribute o m apos) (e :: es) [] pos) X.env = (do
      let v ← eval o X.env
      standAt apos.atName
      let (f, first) ← holding [v] (getMethod v m pl)
      callWith pos f first (backTo pos (starEach (e :: es) X.env)) (backToKw pos (keywordEach [] X.env))) := by rfl) : PE X (.Call (.Attribute o m apos) (e :: es) [] pos) (tSM C sp E ta t) := by
  refine ⟨fun pins s σ H Q I h => PySem.W.methodCall_KW (pl := pl) (thn (he.run pins s σ H _ I h) fun u s1 ⟨x, H1, I1, rx, ex, q⟩ => ?_) ht⟩
  subst ex
  obtain rfl : u = Value.ref C := rx
  refine getm_sm I1 c fun s2 I2 => ?_
  refine PySem.W.callWith_K (h₀ := X.base) I2.ok.mod.kin c.kp (thn (ha.run pos pins s2 σ H1 _ I2 q) fun us s3 ⟨vs, H2, I3, rv, q2⟩ => ⟨I3.kIn, ?_⟩) hst hpl
  exact run_fn Fm hr b .nil hx I3 rv (by rw [List.append_nil]; exact q2)
theorem pe_smk {ks : List Str} {kws : List Keyword} {gg : List Value → List Value → List Value} {gV : List V → List V → List V} (he : PE X o ta) (c : SMet X.K C mc m p g) (Fm : FnOk X.prog X.w X.K X.mg X.base CY k g fd ps sp) (b : KBn X.K fd ps 0 ks gg gV) (hr : Room k X.A) (hx : Passes CY X E) (hkw : PK X kws t)
    (hall : (backToKw pos (keywordEach kws X.env)).all (·.1.isSome) = true := by rfl) (hks : (backToKw pos (keywordEach kws X.env)).filterMap (·.1) = ks := by rfl)
    (hpl : ((backTo pos (starEach [] X.env)).any (·.1) || (backToKw pos (keywordEach kws X.env)).any (·.1.isNone)) = false := by rfl)
    (ht : eval (.Call (.Attribute o m apos) [] kws pos) X.env = (do
      let v ← eval o X.env
      standAt apos.atName
      let (f, first) ← holding [v] (getMethod v m pl)
      callWith pos f first (backTo pos (starEach [] X.env)) (backToKw pos (keywordEach kws X.env))) := by rfl) : PE X (.Call (.Attribute o m apos) [] kws pos) (tSMK C ks.length sp gV E ta t) := by
  refine ⟨fun pins s σ H Q I h => PySem.W.methodCall_KW (pl := pl) (thn (he.run pins s σ H _ I h) fun u s1 ⟨x, H1, I1, rx, ex, q⟩ => ?_) ht⟩
  subst ex
  obtain rfl : u = Value.ref C := rx
  refine getm_sm I1 c fun s2 I2 => ?_
  refine PySem.W.callWith_KW0 (h₀ := X.base) I2.ok.mod.kin c.kp hall (thn (hkw.run pos pins s2 σ H1 _ I2 q) fun ws s3 ⟨zs, H2, I3, rz, l2, q2⟩ => ⟨I3.kIn, ?_⟩) hpl
  rw [hks]
  exact run_kw Fm hr b (fun e s' z => hx _ _ _ _ _ _ I3 z) I3 rz l2 q2
/-- abs(x) of an own instance, an int -/
def rAb (C : Addr) (sp : Sp) (E : XK) : List V → Hp → VK → Prop := fun xs H Q => match xs with
  | [.ref a] => IsI C H a ∧ sp [.ref a] H Q E
  | [.int i] => Q (.int (if i < 0 then -i else i)) H
  | _ => False
theorem call_ab {f : Addr} (hs : PySem.W.findIn X.K (.ref C) "__abs__" = some (some (.ref f))) (hf : PySem.W.isFn X.K (.ref f) = true) (Fi : FnOk X.prog X.w X.K X.mg X.base CY k f fd ps sp) (b : Binds X.K fd ps []) (hr : Room (k + 1) X.A) (hx : Passes CY X E) :
    CallR X (.builtin "abs") (rAb C sp E) := by
  intro pins s σ H xs us Q I r q
  unfold rAb at q
  split at q
  · obtain ⟨i1, q⟩ := q
    obtain ⟨u, rfl, ru⟩ := vals1 r
    cases ru
    obtain ⟨dx, od, J, ho⟩ := inst_at I i1
    rename_i a
    have rv : Vals [V.ref a] [Value.ref a] := .cons rfl .nil
    have hl : ([Value.ref a] ++ []).length = ps.length := by
      rw [List.append_nil, ← rv.length]
      exact Fi.len _ _ _ _ q
    have bd := b s [Value.ref a] I.kIn hl
    rw [List.append_nil] at bd
    refine PySem.HXO.unA I.kIn J hs hf (wpAny_call (codeAny_mono (Fi.run X.A.in1 X.stack s H ⟨[Value.ref a], []⟩ [Value.ref a] [V.ref a] Q E hr.in1 I.env0.in1 bd rv q) fun z s' hq => ?_))
    match z, hq with
    | .error e, hq => exact hx pins σ H s e s' I hq
    | .ok (.ret u), hq => exact I.after hq
    | .ok .next, hq => exact False.elim hq
    | .ok .brk, hq => exact False.elim hq
    | .ok .cont, hq => exact False.elim hq
  · exact call_abs pins s σ H _ us Q I r ⟨_, rfl, q⟩
  · exact q.elim
/-- what is never come to -/
theorem ps_dead {st : Stmt} : PS X st fun _ _ _ => False := ⟨fun _ _ _ _ _ _ h => h.elim⟩
theorem pe_dead : PE X e fun _ _ _ => False := ⟨fun _ _ _ _ _ _ h => h.elim⟩
end
end HX

set_option Elab.async false
set_option linter.all false
set_option maxRecDepth 100000
set_option maxHeartbeats 2000000
namespace HX
open PySem PySem.Spec PyProof.Rows L2

/-! ### the lowest terms of p / q -/
def gcdZ (p q : Int) : Int := ((Nat.gcd p.natAbs q.natAbs : Nat) : Int)
def sgZ (q : Int) : Int := if q < 0 then -1 else 1
def nT (p q : Int) : Int := (sgZ q * p) / gcdZ p q
def nB (p q : Int) : Int := (sgZ q * q) / gcdZ p q
/-- t / b stands in lowest terms -/
def Low (t b : Int) : Prop := 0 < b ∧ Nat.gcd t.natAbs b.natAbs = 1
theorem gcdZ_pos {p q : Int} (h : q ≠ 0) : 0 < gcdZ p q := by
  have : 0 < Nat.gcd p.natAbs q.natAbs := Nat.gcd_pos_of_pos_right _ (by omega)
  unfold gcdZ
  omega
theorem gcdZ_p (p q : Int) : gcdZ p q ∣ p := Int.ofNat_dvd_left.mpr (Nat.gcd_dvd_left _ _)
theorem gcdZ_q (p q : Int) : gcdZ p q ∣ q := Int.ofNat_dvd_left.mpr (Nat.gcd_dvd_right _ _)
theorem sgZ_sq (q : Int) : sgZ q = 1 ∨ sgZ q = -1 := by
  unfold sgZ
  split
  · exact .inr rfl
  · exact .inl rfl
theorem nT_mul {p q : Int} : gcdZ p q * nT p q = sgZ q * p := Int.mul_ediv_cancel' (Int.dvd_trans (gcdZ_p p q) (Int.dvd_mul_left _ _))
theorem nB_mul {p q : Int} : gcdZ p q * nB p q = sgZ q * q := Int.mul_ediv_cancel' (Int.dvd_trans (gcdZ_q p q) (Int.dvd_mul_left _ _))
theorem sgZ_abs {q : Int} : sgZ q * q = (q.natAbs : Int) := by
  unfold sgZ
  split <;> omega
theorem nB_pos {p q : Int} (h : q ≠ 0) : 0 < nB p q := by
  have g := gcdZ_pos (p := p) h
  have e := nB_mul (p := p) (q := q)
  rw [sgZ_abs] at e
  rcases Int.lt_or_le 0 (nB p q) with z | z
  · exact z
  · have := Int.mul_nonpos_of_nonneg_of_nonpos (Int.le_of_lt g) z
    omega
theorem cross {p q : Int} (h : q ≠ 0) : nT p q * q = p * nB p q := by
  have g := gcdZ_pos (p := p) h
  have e1 := nT_mul (p := p) (q := q)
  have e2 := nB_mul (p := p) (q := q)
  have s : sgZ q ≠ 0 := by rcases sgZ_sq q with z | z <;> rw [z] <;> decide
  refine Int.eq_of_mul_eq_mul_left (Int.ne_of_gt g) ?_
  calc gcdZ p q * (nT p q * q) = (gcdZ p q * nT p q) * q := by rw [Int.mul_assoc]
    _ = sgZ q * p * q := by rw [e1]
    _ = p * (sgZ q * q) := by rw [Int.mul_comm (sgZ q) p, Int.mul_assoc]
    _ = p * (gcdZ p q * nB p q) := by rw [e2]
    _ = gcdZ p q * (p * nB p q) := by rw [Int.mul_left_comm]
theorem low_n {p q : Int} (h : q ≠ 0) : Low (nT p q) (nB p q) := by
  refine ⟨nB_pos h, ?_⟩
  have g := gcdZ_pos (p := p) h
  have e1 := congrArg Int.natAbs (nT_mul (p := p) (q := q))
  have e2 := congrArg Int.natAbs (nB_mul (p := p) (q := q))
  have sg : (sgZ q).natAbs = 1 := by rcases sgZ_sq q with z | z <;> rw [z] <;> rfl
  rw [Int.natAbs_mul, Int.natAbs_mul, sg, Nat.one_mul] at e1 e2
  have gg : (gcdZ p q).natAbs = Nat.gcd p.natAbs q.natAbs := rfl
  rw [gg] at e1 e2
  have e3 := Nat.gcd_mul_left (Nat.gcd p.natAbs q.natAbs) (nT p q).natAbs (nB p q).natAbs
  rw [e1, e2] at e3
  have g2 : 0 < Nat.gcd p.natAbs q.natAbs := Nat.gcd_pos_of_pos_right _ (by omega)
  exact Nat.eq_of_mul_eq_mul_left g2 (by rw [Nat.mul_one]; exact e3.symm)
/-- two fractions in lowest terms that are equal are the same -/
theorem low_unique {t b t' b' : Int} (h : Low t b) (h' : Low t' b') (e : t * b' = t' * b) : t = t' ∧ b = b' := by
  obtain ⟨p, g⟩ := h
  obtain ⟨p', g'⟩ := h'
  have e' := congrArg Int.natAbs e
  rw [Int.natAbs_mul, Int.natAbs_mul] at e'
  have d1 : b.natAbs ∣ b'.natAbs := by
    have : b.natAbs ∣ t.natAbs * b'.natAbs := ⟨t'.natAbs, by rw [e', Nat.mul_comm]⟩
    exact (Nat.Coprime.dvd_of_dvd_mul_left (Nat.Coprime.symm g) this)
  have d2 : b'.natAbs ∣ b.natAbs := by
    have : b'.natAbs ∣ t'.natAbs * b.natAbs := ⟨t.natAbs, by rw [← e', Nat.mul_comm]⟩
    exact (Nat.Coprime.dvd_of_dvd_mul_left (Nat.Coprime.symm g') this)
  have eb : b = b' := by
    have := Nat.dvd_antisymm d1 d2
    omega
  subst eb
  exact ⟨Int.eq_of_mul_eq_mul_right (by omega) e, rfl⟩
theorem n_unique {p q t b : Int} (hq : q ≠ 0) (h : Low t b) (e : t * q = p * b) : nT p q = t ∧ nB p q = b := by
  refine low_unique (low_n hq) h ?_
  have c := cross (p := p) hq
  refine Int.eq_of_mul_eq_mul_left hq ?_
  calc q * (nT p q * b) = (nT p q * q) * b := by rw [← Int.mul_assoc, Int.mul_comm q]
    _ = p * nB p q * b := by rw [c]
    _ = (p * b) * nB p q := by rw [Int.mul_right_comm]
    _ = t * q * nB p q := by rw [e]
    _ = q * (t * nB p q) := by rw [Int.mul_comm t q, Int.mul_assoc]
theorem low_int (i : Int) : Low i 1 := ⟨by decide, by simp⟩
theorem low_neg {t b : Int} (h : Low t b) : Low (-t) b := ⟨h.1, by rw [Int.natAbs_neg]; exact h.2⟩
theorem low_abs {t b : Int} (h : Low t b) : Low (if t < 0 then -t else t) b := by split; exact low_neg h; exact h
theorem n_self {t b : Int} (h : Low t b) : nT t b = t ∧ nB t b = b := n_unique (by have := h.1; omega) h rfl
theorem nT_le {p q : Int} (h : q ≠ 0) : (nT p q).natAbs ≤ p.natAbs := by
  have e1 := congrArg Int.natAbs (nT_mul (p := p) (q := q))
  have sg : (sgZ q).natAbs = 1 := by rcases sgZ_sq q with z | z <;> rw [z] <;> rfl
  rw [Int.natAbs_mul, Int.natAbs_mul, sg, Nat.one_mul] at e1
  have g := gcdZ_pos (p := p) h
  have : 1 ≤ (gcdZ p q).natAbs := by omega
  calc (nT p q).natAbs = 1 * (nT p q).natAbs := (Nat.one_mul _).symm
    _ ≤ (gcdZ p q).natAbs * (nT p q).natAbs := Nat.mul_le_mul_right _ this
    _ = p.natAbs := e1
theorem nB_le {p q : Int} (h : q ≠ 0) : (nB p q).natAbs ≤ q.natAbs := by
  have e1 := congrArg Int.natAbs (nB_mul (p := p) (q := q))
  have sg : (sgZ q).natAbs = 1 := by rcases sgZ_sq q with z | z <;> rw [z] <;> rfl
  rw [Int.natAbs_mul, Int.natAbs_mul, sg, Nat.one_mul] at e1
  have g := gcdZ_pos (p := p) h
  have : 1 ≤ (gcdZ p q).natAbs := by omega
  calc (nB p q).natAbs = 1 * (nB p q).natAbs := (Nat.one_mul _).symm
    _ ≤ (gcdZ p q).natAbs * (nB p q).natAbs := Nat.mul_le_mul_right _ this
    _ = q.natAbs := e1
/-- the divisor of the program: the gcd with the sign of q -/
theorem fdiv_sg {p q z : Int} (h : q ≠ 0) (d : gcdZ p q ∣ z) : z.fdiv (if q < 0 then -(gcdZ p q) else gcdZ p q) = (sgZ q * z) / gcdZ p q := by
  have g := gcdZ_pos (p := p) h
  obtain ⟨k, rfl⟩ := d
  unfold sgZ
  split
  · have e : gcdZ p q * k = -(gcdZ p q) * -k := (Int.neg_mul_neg _ _).symm
    have e2 : -1 * (gcdZ p q * k) = gcdZ p q * -k := by rw [Int.neg_one_mul, Int.mul_neg]
    rw [e2, Int.mul_ediv_cancel_left _ (Int.ne_of_gt g), e, Int.mul_fdiv_cancel_left _ (by omega)]
  · rw [Int.one_mul, Int.fdiv_eq_ediv_of_nonneg _ (Int.le_of_lt g)]
/-- floor division of a fraction in lowest terms is that of p by q -/
theorem floor_n {p q : Int} (h : q ≠ 0) : nT p q / nB p q = p.fdiv q := by
  have g := gcdZ_pos (p := p) h
  have e1 := nT_mul (p := p) (q := q)
  have e2 := nB_mul (p := p) (q := q)
  have b := nB_pos (p := p) h
  have z : (gcdZ p q * nT p q) / (gcdZ p q * nB p q) = nT p q / nB p q := Int.mul_ediv_mul_of_pos _ _ g
  have pos : 0 ≤ sgZ q * q := by rw [sgZ_abs]; omega
  rw [← z, e1, e2, ← Int.fdiv_eq_ediv_of_nonneg _ pos]
  rcases sgZ_sq q with s | s
  · rw [s, Int.one_mul, Int.one_mul]
  · rw [s, Int.neg_one_mul, Int.neg_one_mul, Int.neg_fdiv_neg]
end HX

set_option Elab.async false
set_option linter.all false
set_option maxRecDepth 100000
set_option maxHeartbeats 2000000
namespace HX
open PySem PySem.Spec PyProof.Rows L2

/-! ### one side alone -/
def rOwL (C : Addr) (sp : Sp) (E : XK) : L2.R2 := fun x y H Q => match x, y with
  | .ref a, .ref b => IsI C H a ∧ IsI C H b ∧ sp [.ref a, .ref b] H Q E
  | .ref a, .int j => IsI C H a ∧ sp [.ref a, .int j] H Q E
  | _, _ => False
def rOwR (C : Addr) (r0 : L2.R2) (sp : Sp) (E : XK) : L2.R2 := fun x y H Q => match x, y with
  | .int i, .ref b => IsI C H b ∧ sp [.ref b, .int i] H Q E
  | .int i, .int j => r0 (.int i) (.int j) H Q
  | _, _ => False
section
variable {X : Cx} {C f g : Addr} {fd : FuncData} {ps : List Str} {sp : Sp} {CY : CXT} {k : Nat} {E : XK} {op : Operator} {idl : String} {r0 : L2.R2}
theorem op_owL (io : PySem.HXO.IntOp op idl) (O : PySem.HXO.OwnOp X.K C op f g) (Ff : FnOk X.prog X.w X.K X.mg X.base CY k f fd ps sp) (bf : Binds X.K fd ps []) (hr : Room k X.A) (hx : Passes CY X E) : OpR X (binaryOp op) (rOwL C sp E) := by
  intro pins s σ H x y v u Q I rx ry q
  unfold rOwL at q
  split at q
  · obtain ⟨i1, i2, q⟩ := q
    cases rx
    cases ry
    obtain ⟨dx, od, J, ho⟩ := inst_at I i1
    obtain ⟨dy, od2, J2, ho2⟩ := inst_at I i2
    rename_i a b
    have rv : Vals [V.ref a, V.ref b] [Value.ref a, Value.ref b] := .cons rfl (.cons rfl .nil)
    exact PySem.HXO.binE I.kIn J J2 O.first O.hs O.hf (wpAny_mono (run_fn Ff hr bf .nil hx I rv (by rw [List.append_nil]; exact q)) (fun u s' h => ep_own h) fun _ _ z => z)
  · obtain ⟨i1, q⟩ := q
    cases rx
    obtain ⟨t, rfl⟩ := (show ∃ t, u = Value.int _ t from ry)
    obtain ⟨dx, od, J, ho⟩ := inst_at I i1
    obtain ⟨r, rU⟩ := io.rU
    rename_i a j
    have rv : Vals [V.ref a, V.int j] [Value.ref a, Value.int j t] := .cons rfl (.cons ⟨t, rfl⟩ .nil)
    exact PySem.HXO.binL I.kIn J rfl O.first io.fU rU (PySem.HXO.int_not C) O.hs O.hr O.hf (wpAny_mono (run_fn Ff hr bf .nil hx I rv (by rw [List.append_nil]; exact q)) (fun u s' h => ep_own h) fun _ _ z => z)
  · exact q.elim
theorem op_owR (io : PySem.HXO.IntOp op idl) (h0 : OpR X (binaryOp op) r0) (O : PySem.HXO.OwnOp X.K C op f g) (Fg : FnOk X.prog X.w X.K X.mg X.base CY k g fd ps sp) (bg : Binds X.K fd ps []) (hr : Room k X.A) (hx : Passes CY X E) : OpR X (binaryOp op) (rOwR C r0 sp E) := by
  intro pins s σ H x y v u Q I rx ry q
  unfold rOwR at q
  split at q
  · obtain ⟨i1, q⟩ := q
    cases ry
    obtain ⟨t, rfl⟩ := (show ∃ t, v = Value.int _ t from rx)
    obtain ⟨dx, od, J, ho⟩ := inst_at I i1
    rename_i j a
    have rv : Vals [V.ref a, V.int j] [Value.ref a, Value.int j t] := .cons rfl (.cons ⟨t, rfl⟩ .nil)
    exact PySem.HXO.binR I.kIn J rfl (typeIs_int s _ t) O.first io.fU O.sub io.sl (fun Q z => io.ni ho z) O.hs O.hr O.hg (wpAny_mono (run_fn Fg hr bg .nil hx I rv (by rw [List.append_nil]; exact q)) (fun u s' h => ep_own h) fun _ _ z => z)
  · exact h0 pins s σ H _ _ v u Q I rx ry q
  · exact q.elim
/-- // by any int but 0, below 2 ^ 9000 -/
def CDivZ (_ j : Int) : Prop := j ≠ 0 ∧ j.natAbs.log2 < 9000
theorem o_fdivZ : OpR X (binaryOp .FloorDiv) (rI2 CDivZ fun i j => .int (i.fdiv j)) := opC (opI fun _ _ _ _ _ _ _ hc q => floordiv_int hc.1 q (.inl (PyProof.noPylong_of_log2 hc.2)))
theorem o_mulW : OpR X (binaryOp .Mult) (rI2 CMulW fun i j => .int (i * j)) := opC op_mulW
end

/-! ### amounts: top t, bottom b -/
def afs (t b : Int) : List (Str × V) := [("top", .int t), ("bottom", .int b)]
def Am (A : Addr) (H : Hp) (a : Addr) (t b : Int) : Prop := ∃ dx, H a = some (.ins A dx (afs t b))
/-- an amount or an int -/
def Nu (A : Addr) (H : Hp) (v : V) (t b : Int) : Prop := (∃ a, v = .ref a ∧ Am A H a t b) ∨ (v = .int t ∧ b = 1)
/-- fewer than n bits -/
def Sm (n : Nat) (i : Int) : Prop := i.natAbs < 2 ^ n
theorem Am.mo {A : Addr} {H G : Hp} {a : Addr} {t b : Int} (s : Same H G) : Am A H a t b → Am A G a t b := fun ⟨dx, e⟩ => ⟨dx, s _ _ e⟩
theorem Nu.mo {A : Addr} {H G : Hp} {v : V} {t b : Int} (s : Same H G) : Nu A H v t b → Nu A G v t b := fun h => h.elim (fun ⟨a, e, z⟩ => .inl ⟨a, e, z.mo s⟩) .inr
theorem Am.isI {A : Addr} {H : Hp} {a : Addr} {t b : Int} (h : Am A H a t b) : IsI A H a := let ⟨dx, e⟩ := h; ⟨dx, _, e⟩
/-- a new amount is the answer -/
def QA (A : Addr) (H : Hp) (Q : VK) (t b : Int) : Prop := ∀ r G, H r = none → Same H G → Am A G r t b → Q (.ref r) G
theorem QA.mo {A : Addr} {H G : Hp} {Q : VK} {t b : Int} (s : Same H G) (h : QA A H Q t b) : QA A G Q t b := fun r G' n s' a => h r G' (s.free n) (s.trans s') a
theorem Sm.mono {m n : Nat} {i : Int} (h : Sm m i) (le : m ≤ n) : Sm n i := Nat.lt_of_lt_of_le h (Nat.pow_le_pow_right (by decide) le)
theorem Sm.mul {m n : Nat} {i j : Int} (h : Sm m i) (k : Sm n j) : Sm (m + n) (i * j) := wide_lt h k
theorem Sm.add {n : Nat} {i j : Int} (h : Sm n i) (k : Sm n j) : Sm (n + 1) (i + j) := by
  unfold Sm at *
  rw [Nat.pow_succ]
  omega
theorem Sm.neg {n : Nat} {i : Int} (h : Sm n i) : Sm n (-i) := by
  unfold Sm at *
  rw [Int.natAbs_neg]
  exact h
theorem Sm.cMul {m n : Nat} {i j : Int} (h : Sm m i) (k : Sm n j) (hm : 0 < m := by decide) (hn : 0 < n := by decide) (le : m + n ≤ 1000000 := by decide) : CMulW i j := wide_mul h k hm hn le
theorem Sm.cDiv {n : Nat} {i j : Int} (h : Sm n j) (z : j ≠ 0) (hn : 0 < n := by decide) (le : n ≤ 9000 := by decide) : CDivZ i j := ⟨z, Nat.lt_of_lt_of_le (PySem.Flt.log2_lt_of hn h) le⟩
theorem Sm.nT {n : Nat} {p q : Int} (h : Sm n p) (z : q ≠ 0) : Sm n (nT p q) := Nat.lt_of_le_of_lt (nT_le z) h
theorem Sm.nB {n : Nat} {p q : Int} (h : Sm n q) (z : q ≠ 0) : Sm n (nB p q) := Nat.lt_of_le_of_lt (nB_le z) h
theorem sm_one : Sm 1 1 := by unfold Sm; decide

/-! ### what the parts of Amount promise -/
def spIsInt (A : Addr) : Sp := fun vs H Q _ => ∃ v, vs = [v] ∧ (((∃ i, v = .int i) ∧ Q (.bl true) H) ∨ ∃ a, v = .ref a ∧ IsI A H a ∧ Q (.bl false) H)
def spInit (A : Addr) : Sp := fun vs H Q _ => ∃ (x dx : Addr) (p q : Int), vs = [.ref x, .int p, .int q] ∧ H x = some (.ins A dx []) ∧ q ≠ 0 ∧ Sm 900 p ∧ Sm 900 q ∧
  ∀ G, (∀ b o, b ≠ x → H b = some o → G b = some o) → G x = some (.ins A dx (afs (nT p q) (nB p q))) → Q .non G
def spIsNum (A : Addr) : Sp := fun vs H Q _ => ∃ v t b, vs = [v] ∧ Nu A H v t b ∧ Q (.bl true) H
def spOf (A : Addr) : Sp := fun vs H Q _ => ∃ v t b, vs = [v] ∧ Nu A H v t b ∧ Sm 900 t ∧ ∀ r G, Same H G → Am A G r t b → Q (.ref r) G
/-- self and a number: a new amount -/
def spBin (A : Addr) (n : Nat) (p q : Int → Int → Int → Int → Int) : Sp := fun vs H Q _ => ∃ (a : Addr) (v : V) (t b c d : Int), vs = [.ref a, v] ∧ Am A H a t b ∧ Nu A H v c d ∧ Low t b ∧ Low c d ∧ Sm n t ∧ Sm n b ∧ Sm n c ∧ Sm n d ∧ q t b c d ≠ 0 ∧ QA A H Q (nT (p t b c d) (q t b c d)) (nB (p t b c d) (q t b c d))
theorem mkA {A : Addr} {H : Hp} {Q : VK} {E : XK} {p q : Int} (z : q ≠ 0) (sp : Sm 900 p) (sq : Sm 900 q) (k : QA A H Q (nT p q) (nB p q)) : ∀ x dx, H x = none → H dx = none → dx ≠ x →
    spInit A (.ref x :: [.int p, .int q]) (upd (upd H dx (.own x)) x (.ins A dx [])) (fun v H2 => v = .non ∧ Q (.ref x) H2) E := fun x dx nx nd ne =>
  ⟨x, dx, p, q, rfl, upd_same, z, sp, sq, fun G kp gx => ⟨rfl, k x G nx (fun b o e => kp b o (ne_of_none e nx) (by rw [upd_ne (ne_of_none e nx), upd_ne (ne_of_none e nd)]; exact e)) ⟨dx, gx⟩⟩⟩
end HX

set_option Elab.async false
set_option linter.all false
set_option maxRecDepth 100000
set_option maxHeartbeats 2000000
/-! ### comparisons of own instances -/
namespace PySem
namespace HXC
open W Builtin PyProof.Rows
section
variable {prog : Program} {w : World} {A : Around} {E : Value → Shared → Prop} {s : Shared} {K : Frag} {x C f : Addr} {ox : Obj} {od : Option Obj}
theorem try_own {b : Value} {name : Str} {Q : Value → Shared → Prop} (X : K.In s.heap) (I : InstAt s.heap x ox C od) (hs : findIn K (.ref C) name = some (some (.ref f))) (hf : isFn K (.ref f) = true)
    (h : wpAny (model prog w) A (call (.ref f) [.ref x, b]) (W.CmpBack Q) E s) : wpAny (model prog w) A (tryCompare (.ref x) name b) (fun r s2 => ∃ v, r = some v ∧ Q v s2) E s := by
  unfold tryCompare
  refine wpAny_bind (ifBound_K X I hs hf (wpAny_mono h (fun v s2 hv => ?_) fun _ _ z => z))
  cases v <;> first | exact hv.elim | exact (wpAny_pure ⟨_, rfl, hv⟩)
/-- x o b, b of a built-in type -/
theorem cmL {op : CmpOp} {b : Value} {T : String} {Q : Value → Shared → Prop} (hu : A.units < cLine) (X : K.In s.heap) (I : InstAt s.heap x ox C od) (hb : s.TypeIs b T) (hsub : isSubtype (.type T) (.ref C) = pure false)
    (hs : findIn K (.ref C) (cmpInfo op).2.1 = some (some (.ref f))) (hf : isFn K (.ref f) = true)
    (h : wpAny (model prog w) A (call (.ref f) [.ref x, b]) (W.CmpBack Q) E s) : wpAny (model prog w) A (richCompare op (.ref x) b) Q E s := by
  have one := try_own X I hs hf h
  unfold richCompare
  simp only [oneThing_ref]
  refine wpAny_holding (wpAny_bind (wpAny_cRoomFor hu ?_))
  refine wpAny_bind (I.type.here (wpAny_bind (wpAny_typeOf hb ?_)))
  have ne : (Value.ref C != Value.type T) = true := by simp
  rw [if_pos ne]
  refine wpAny_bind (wpAny_of_eq hsub ?_)
  simp only [Bool.false_eq_true, if_false]
  refine wpAny_bind (wpAny_mono one (fun r s2 z => ?_) fun _ _ z => z)
  obtain ⟨v, rfl, hq⟩ := z
  exact (wpAny_pure hq)
/-- x o y of one class -/
theorem cmE {op : CmpOp} {y : Addr} {oy : Obj} {oe : Option Obj} {Q : Value → Shared → Prop} (hu : A.units < cLine) (X : K.In s.heap) (I : InstAt s.heap x ox C od) (J : InstAt s.heap y oy C oe)
    (hs : findIn K (.ref C) (cmpInfo op).2.1 = some (some (.ref f))) (hf : isFn K (.ref f) = true)
    (h : wpAny (model prog w) A (call (.ref f) [.ref x, .ref y]) (W.CmpBack Q) E s) : wpAny (model prog w) A (richCompare op (.ref x) (.ref y)) Q E s := by
  have one := try_own X I hs hf h
  unfold richCompare
  simp only [oneThing_ref]
  refine wpAny_holding (wpAny_bind (wpAny_cRoomFor hu ?_))
  refine wpAny_bind (I.type.here (wpAny_bind (J.type.here ?_)))
  have ne : (Value.ref C != Value.ref C) = false := by simp
  rw [if_neg (by rw [ne]; decide)]
  refine wpAny_bind (wpAny_pure ?_)
  simp only [Bool.false_eq_true, if_false]
  refine wpAny_bind (wpAny_mono one (fun r s2 z => ?_) fun _ _ z => z)
  obtain ⟨v, rfl, hq⟩ := z
  exact (wpAny_pure hq)
/-- v o x, v an int -/
theorem cmR {op : CmpOp} {i : Int} {t : Tok} {idl : String} {Q : Value → Shared → Prop} (hu : A.units < cLine) (X : K.In s.heap) (I : InstAt s.heap x ox C od) (hsub : subIn K (.ref C) (.type "int") = some false) (sl : Slot "int" (cmpInfo op).2.1 idl)
    (hN : ∀ Q : Value → Shared → Prop, Q .notImplemented s → wpAny (model prog w) A (call (.builtin idl) [.int i t, .ref x]) Q E s)
    (hs : findIn K (.ref C) (cmpInfo op).2.2 = some (some (.ref f))) (hf : isFn K (.ref f) = true)
    (h : wpAny (model prog w) A (call (.ref f) [.ref x, .int i t]) (W.CmpBack Q) E s) : wpAny (model prog w) A (richCompare op (.int i t) (.ref x)) Q E s := by
  have one := try_own X I hs hf h
  have hO : oneThing? op (.int i t) (.ref x) = none := by rfl
  unfold richCompare
  simp only [hO]
  refine wpAny_holding (wpAny_bind (wpAny_cRoomFor hu ?_))
  refine wpAny_bind (wpAny_of_eq (show typeOf (.int i t) = pure (.type "int") from rfl) (wpAny_bind (I.type.here ?_)))
  have ne : (Value.type "int" != Value.ref C) = true := by simp
  rw [if_pos ne]
  refine wpAny_bind ((looks_subIn X hsub).here ?_)
  simp only [Bool.false_eq_true, if_false, Bool.not_false, if_true]
  refine wpAny_bind (m := tryCompare (.int i t) _ (.ref x)) ?_
  unfold tryCompare
  refine wpAny_bind (wpAny_callSpecialIfBound?_slot (typeIs_int s i t) sl (hN _ ?_))
  refine (wpAny_pure ?_)
  refine wpAny_bind (wpAny_mono one (fun r s2 z => ?_) fun _ _ z => z)
  obtain ⟨v, rfl, hq⟩ := z
  exact (wpAny_pure hq)
theorem nc_lt {i : Int} {t : Tok} {dx : Addr} {Q : Value → Shared → Prop} (hx : s.heap.get? x = some (instObj C dx)) (h : Q .notImplemented s) : wpAny (model prog w) A (call (.builtin "int.__lt__") [.int i t, .ref x]) Q E s := by
  refine wpAny_call (codeAny_call_builtin F.slot_int_lt.plain F.entry_int_lt (F.slot_int_lt.check _ _ _ _ _ _ _ _ (typeIs_int s i t) (F.args_int_lt_2 _ _) ?_))
  unfold Builtin.«int.__lt__»
  refine (by (repeat (first | with_reducible refine wpAny_loadPart_at hx ?_ | with_reducible refine wpAny_load hx ?_ | wp_step)); exact h)
theorem nc_le {i : Int} {t : Tok} {dx : Addr} {Q : Value → Shared → Prop} (hx : s.heap.get? x = some (instObj C dx)) (h : Q .notImplemented s) : wpAny (model prog w) A (call (.builtin "int.__le__") [.int i t, .ref x]) Q E s := by
  refine wpAny_call (codeAny_call_builtin F.slot_int_le.plain F.entry_int_le (F.slot_int_le.check _ _ _ _ _ _ _ _ (typeIs_int s i t) (F.args_int_le_2 _ _) ?_))
  unfold Builtin.«int.__le__»
  refine (by (repeat (first | with_reducible refine wpAny_loadPart_at hx ?_ | with_reducible refine wpAny_load hx ?_ | wp_step)); exact h)
theorem nc_gt {i : Int} {t : Tok} {dx : Addr} {Q : Value → Shared → Prop} (hx : s.heap.get? x = some (instObj C dx)) (h : Q .notImplemented s) : wpAny (model prog w) A (call (.builtin "int.__gt__") [.int i t, .ref x]) Q E s := by
  refine wpAny_call (codeAny_call_builtin F.slot_int_gt.plain F.entry_int_gt (F.slot_int_gt.check _ _ _ _ _ _ _ _ (typeIs_int s i t) (F.args_int_gt_2 _ _) ?_))
  unfold Builtin.«int.__gt__»
  refine (by (repeat (first | with_reducible refine wpAny_loadPart_at hx ?_ | with_reducible refine wpAny_load hx ?_ | wp_step)); exact h)
theorem nc_ge {i : Int} {t : Tok} {dx : Addr} {Q : Value → Shared → Prop} (hx : s.heap.get? x = some (instObj C dx)) (h : Q .notImplemented s) : wpAny (model prog w) A (call (.builtin "int.__ge__") [.int i t, .ref x]) Q E s := by
  refine wpAny_call (codeAny_call_builtin F.slot_int_ge.plain F.entry_int_ge (F.slot_int_ge.check _ _ _ _ _ _ _ _ (typeIs_int s i t) (F.args_int_ge_2 _ _) ?_))
  unfold Builtin.«int.__ge__»
  refine (by (repeat (first | with_reducible refine wpAny_loadPart_at hx ?_ | with_reducible refine wpAny_load hx ?_ | wp_step)); exact h)
theorem nc_eq {i : Int} {t : Tok} {dx : Addr} {Q : Value → Shared → Prop} (hx : s.heap.get? x = some (instObj C dx)) (h : Q .notImplemented s) : wpAny (model prog w) A (call (.builtin "int.__eq__") [.int i t, .ref x]) Q E s := by
  refine wpAny_call (codeAny_call_builtin F.slot_int_eq.plain F.entry_int_eq (F.slot_int_eq.check _ _ _ _ _ _ _ _ (typeIs_int s i t) (F.args_int_eq_2 _ _) ?_))
  unfold Builtin.«int.__eq__»
  refine (by (repeat (first | with_reducible refine wpAny_loadPart_at hx ?_ | with_reducible refine wpAny_load hx ?_ | wp_step)); exact h)
end
end HXC
end PySem
namespace HX
open PySem PySem.Spec PyProof.Rows L2
/-- a class's methods of a comparison: f of o, g of its mirror -/
structure CmpO (K : PySem.W.Frag) (C : Addr) (op : CmpOp) (f g : Addr) (idl : String) : Prop where
  sub : PySem.W.subIn K (.ref C) (.type "int") = some false
  hs : PySem.W.findIn K (.ref C) (cmpInfo op).2.1 = some (some (.ref f))
  hr : PySem.W.findIn K (.ref C) (cmpInfo op).2.2 = some (some (.ref g))
  hf : PySem.W.isFn K (.ref f) = true
  hg : PySem.W.isFn K (.ref g) = true
  rich : ∀ a b, compareOp op a b = richCompare op a b
  sl : Slot "int" (cmpInfo op).2.1 idl
  ni : ∀ {prog : Program} {w : World} {A : Around} {E : Value → Shared → Prop} {s : Shared} {x C dx : Addr} {i : Int} {t : Tok} {Q : Value → Shared → Prop}, s.heap.get? x = some (PySem.W.instObj C dx) → Q .notImplemented s → wpAny (model prog w) A (call (.builtin idl) [.int i t, .ref x]) Q E s
theorem op_cm {X : Cx} {C f g : Addr} {op : CmpOp} {idl : String} {r0 : L2.R2} {ff fg : FuncData} {pf pg : List Str} {spF spG : Sp} {CY : CXT} {k : Nat} {E : XK} (h0 : OpR X (compareOp op) r0) (O : CmpO X.K C op f g idl)
    (Ff : FnOk X.prog X.w X.K X.mg X.base CY k f ff pf spF) (Fg : FnOk X.prog X.w X.K X.mg X.base CY k g fg pg spG) (bf : Binds X.K ff pf []) (bg : Binds X.K fg pg []) (hr : Room k X.A) (hx : Passes CY X E) : OpR X (compareOp op) (rOw C r0 spF spG E) := by
  intro pins s σ H x y v u Q I rx ry q
  have hu := hr.units0
  unfold rOw at q
  split at q
  · obtain ⟨i1, i2, q⟩ := q
    cases rx
    cases ry
    obtain ⟨dx, od, J, ho⟩ := inst_at I i1
    obtain ⟨dy, od2, J2, ho2⟩ := inst_at I i2
    rename_i a b
    have rv : Vals [V.ref a, V.ref b] [Value.ref a, Value.ref b] := .cons rfl (.cons rfl .nil)
    rw [O.rich]
    exact PySem.HXC.cmE hu I.kIn J J2 O.hs O.hf (wpAny_mono (run_fn Ff hr bf .nil hx I rv (by rw [List.append_nil]; exact q)) (fun u s2 h => ep_own h) fun _ _ z => z)
  · obtain ⟨i1, q⟩ := q
    cases rx
    obtain ⟨t, rfl⟩ := (show ∃ t, u = Value.int _ t from ry)
    obtain ⟨dx, od, J, ho⟩ := inst_at I i1
    rename_i a j
    have rv : Vals [V.ref a, V.int j] [Value.ref a, Value.int j t] := .cons rfl (.cons ⟨t, rfl⟩ .nil)
    rw [O.rich]
    exact PySem.HXC.cmL hu I.kIn J (typeIs_int s _ t) (PySem.HXO.int_not C) O.hs O.hf (wpAny_mono (run_fn Ff hr bf .nil hx I rv (by rw [List.append_nil]; exact q)) (fun u s2 h => ep_own h) fun _ _ z => z)
  · obtain ⟨i1, q⟩ := q
    cases ry
    obtain ⟨t, rfl⟩ := (show ∃ t, v = Value.int _ t from rx)
    obtain ⟨dx, od, J, ho⟩ := inst_at I i1
    rename_i j a
    have rv : Vals [V.ref a, V.int j] [Value.ref a, Value.int j t] := .cons rfl (.cons ⟨t, rfl⟩ .nil)
    rw [O.rich]
    exact PySem.HXC.cmR hu I.kIn J O.sub O.sl (fun Q z => O.ni ho z) O.hr O.hg (wpAny_mono (run_fn Fg hr bg .nil hx I rv (by rw [List.append_nil]; exact q)) (fun u s2 h => ep_own h) fun _ _ z => z)
  · exact h0 pins s σ H _ _ v u Q I rx ry q
  · exact q.elim
theorem cmpO_lt {K : PySem.W.Frag} {C f g : Addr} (sub : PySem.W.subIn K (.ref C) (.type "int") = some false) (hs : PySem.W.findIn K (.ref C) "__lt__" = some (some (.ref f))) (hr : PySem.W.findIn K (.ref C) "__gt__" = some (some (.ref g))) (hf : PySem.W.isFn K (.ref f) = true) (hg : PySem.W.isFn K (.ref g) = true) : CmpO K C .Lt f g "int.__lt__" := ⟨sub, hs, hr, hf, hg, fun _ _ => rfl, F.slot_int_lt, PySem.HXC.nc_lt⟩
theorem cmpO_le {K : PySem.W.Frag} {C f g : Addr} (sub : PySem.W.subIn K (.ref C) (.type "int") = some false) (hs : PySem.W.findIn K (.ref C) "__le__" = some (some (.ref f))) (hr : PySem.W.findIn K (.ref C) "__ge__" = some (some (.ref g))) (hf : PySem.W.isFn K (.ref f) = true) (hg : PySem.W.isFn K (.ref g) = true) : CmpO K C .LtE f g "int.__le__" := ⟨sub, hs, hr, hf, hg, fun _ _ => rfl, F.slot_int_le, PySem.HXC.nc_le⟩
theorem cmpO_gt {K : PySem.W.Frag} {C f g : Addr} (sub : PySem.W.subIn K (.ref C) (.type "int") = some false) (hs : PySem.W.findIn K (.ref C) "__gt__" = some (some (.ref f))) (hr : PySem.W.findIn K (.ref C) "__lt__" = some (some (.ref g))) (hf : PySem.W.isFn K (.ref f) = true) (hg : PySem.W.isFn K (.ref g) = true) : CmpO K C .Gt f g "int.__gt__" := ⟨sub, hs, hr, hf, hg, fun _ _ => rfl, F.slot_int_gt, PySem.HXC.nc_gt⟩
theorem cmpO_ge {K : PySem.W.Frag} {C f g : Addr} (sub : PySem.W.subIn K (.ref C) (.type "int") = some false) (hs : PySem.W.findIn K (.ref C) "__ge__" = some (some (.ref f))) (hr : PySem.W.findIn K (.ref C) "__le__" = some (some (.ref g))) (hf : PySem.W.isFn K (.ref f) = true) (hg : PySem.W.isFn K (.ref g) = true) : CmpO K C .GtE f g "int.__ge__" := ⟨sub, hs, hr, hf, hg, fun _ _ => rfl, F.slot_int_ge, PySem.HXC.nc_ge⟩
theorem cmpO_eq {K : PySem.W.Frag} {C f : Addr} (sub : PySem.W.subIn K (.ref C) (.type "int") = some false) (hs : PySem.W.findIn K (.ref C) "__eq__" = some (some (.ref f))) (hf : PySem.W.isFn K (.ref f) = true) : CmpO K C .Eq f f "int.__eq__" := ⟨sub, hs, hs, hf, hf, fun _ _ => rfl, F.slot_int_eq, PySem.HXC.nc_eq⟩
end HX

set_option Elab.async false
set_option linter.all false
set_option maxRecDepth 100000
set_option maxHeartbeats 2000000
namespace HX
open PySem PySem.Spec PyProof.Rows L2 NumText

/-! ### figures -/
def ofL (l : List Nat) : Str := ⟨l.toArray⟩
theorem ofL_cps (l : List Nat) : (ofL l).cps.toList = l := by simp [ofL]
theorem ofL_of (x : Str) : ofL x.cps.toList = x := by cases x; simp [ofL]
theorem ofL_inj {l k : List Nat} (h : ofL l = ofL k) : l = k := by
  have := congrArg (fun x => x.cps.toList) h
  simpa [ofL] using this
theorem ofL_len (l : List Nat) : (ofL l).length = l.length := by simp [ofL, Str.length]
theorem ofL_app (l k : List Nat) : ofL l ++ ofL k = ofL (l ++ k) := by
  show Str.mk (l.toArray ++ k.toArray) = _
  simp [ofL]
/-- the figures of a number -/
def dg (n : Nat) : List Nat := (Nat.toDigits 10 n).map Char.toNat
theorem dg_ne (n : Nat) : dg n ≠ [] := by
  unfold dg
  intro h
  exact Nat.toDigits_ne_nil (List.map_eq_nil_iff.mp h)
theorem dg_all (n : Nat) : AllDigits (dg n) := by
  intro c hc
  obtain ⟨d, hd, rfl⟩ := List.mem_map.mp hc
  have h := Nat.isDigit_of_mem_toDigits (b := 10) (by decide) (by decide) hd
  unfold Char.isDigit at h
  simp only [Bool.and_eq_true, decide_eq_true_eq, ge_iff_le] at h
  exact ⟨by have := h.1; exact this, by have := h.2; exact this⟩
theorem val_map (l : List Char) (hl : ∀ c ∈ l, 48 ≤ c.toNat) : ∀ a : Nat, (l.map Char.toNat).foldl (fun acc c => acc * 10 + (c - 48)) a = Nat.ofDigitChars 10 l a := by
  induction l with
  | nil => intro a; rfl
  | cons c l ih =>
    intro a
    rw [List.map_cons, List.foldl_cons, Nat.ofDigitChars_cons, ih (fun d hd => hl d (List.mem_cons_of_mem _ hd))]
    congr 1
    show a * 10 + (c.toNat - 48) = 10 * a + (c.toNat - '0'.toNat)
    rw [Nat.mul_comm]
    rfl
theorem dg_val (n : Nat) : digitsVal (dg n) = n := by
  unfold digitsVal dg
  rw [val_map _ (fun c hc => by
    have h := Nat.isDigit_of_mem_toDigits (b := 10) (by decide) (by decide) hc
    unfold Char.isDigit at h
    simp only [Bool.and_eq_true, decide_eq_true_eq, ge_iff_le] at h
    exact h.1)]
  exact Nat.ofDigitChars_ten_toDigits
theorem dg_len {n k : Nat} (h : 0 < k) : (dg n).length ≤ k ↔ n < 10 ^ k := by
  unfold dg
  rw [List.length_map]
  exact Nat.length_toDigits_le_iff (by decide) h
theorem dg_inj {m n : Nat} (h : dg m = dg n) : m = n := by
  have := congrArg digitsVal h
  rwa [dg_val, dg_val] at this
/-- the signs of an int's text -/
def it (i : Int) : List Nat := if i < 0 then 45 :: dg i.natAbs else dg i.natAbs
theorem it_text (i : Int) : Str.ofString (toString i) = ofL (it i) := by
  rw [Str.ofString_eq_toList]
  show Str.mk _ = Str.mk _
  congr 2
  unfold it
  match i with
  | .ofNat n =>
    rw [if_neg (show ¬ Int.ofNat n < 0 from Int.not_lt.mpr (Int.natCast_nonneg n))]
    show (Nat.repr n).toList.map Char.toNat = dg n
    rw [Nat.toList_repr]
    rfl
  | .negSucc n =>
    rw [if_pos (Int.negSucc_lt_zero n)]
    show (("-" ++ Nat.repr (n + 1)) : String).toList.map Char.toNat = 45 :: dg (n + 1)
    rw [String.toList_append, Nat.toList_repr]
    rfl
theorem it_len {i : Int} {k : Nat} (h : 0 < k) (hi : i.natAbs < 10 ^ k) : (it i).length ≤ k + 1 := by
  have := (dg_len (n := i.natAbs) h).mpr hi
  unfold it
  split
  · rw [List.length_cons]; omega
  · omega
theorem it_47 (i : Int) : 47 ∉ it i := by
  unfold it
  have h := dg_all i.natAbs
  split
  · intro m
    rcases List.mem_cons.mp m with z | z
    · cases z
    · have := h _ z; omega
  · intro m
    have := h _ m
    omega
theorem it_inj {i j : Int} (h : it i = it j) : i = j := by
  have hd : ∀ n m : Nat, ¬ (45 :: dg n = dg m) := fun n m e => by
    have := dg_all m 45 (by rw [← e]; exact List.mem_cons_self ..)
    omega
  unfold it at h
  split at h
  · rename_i a
    split at h
    · rename_i b
      have := dg_inj (List.cons_inj_right 45 |>.mp h)
      omega
    · exact absurd h (hd _ _)
  · rename_i a
    split at h
    · exact absurd h.symm (hd _ _)
    · have := dg_inj h
      omega
theorem it_read {i : Int} {k : Nat} (h0 : 0 < k) (h4 : k ≤ 600) (hi : i.natAbs < 10 ^ k) : PySem.intText? (ofL (it i)) = some i := by
  have hl := it_len h0 hi
  by_cases h : i < 0
  · have e : it i = 45 :: dg i.natAbs := if_pos h
    rw [intText_neg (x := ofL (it i)) (cs := dg i.natAbs) (by rw [ofL_cps, e]) (dg_all _) (dg_ne _) (by rw [ofL_len]; omega), dg_val]
    congr 1
    omega
  · have e : it i = dg i.natAbs := if_neg h
    rw [intText_digits (x := ofL (it i)) (by rw [ofL_cps, e]; exact dg_all _) (by rw [ofL_cps, e]; exact dg_ne _) (by rw [ofL_len]; omega), ofL_cps, e, dg_val]
    congr 1
    omega

/-! ### parted at the first stroke -/
theorem at_slash (l : List Nat) (i : Nat) : StrLaws.At (ofL l) "/" (ofL l).length i ↔ l[i]? = some 47 := by
  have e : ("/" : Str) = ⟨#[47]⟩ := by decide +kernel
  unfold StrLaws.At
  rw [e, ofL_len]
  constructor
  · rintro ⟨h1, h2⟩
    have h1 : i + 1 ≤ l.length := h1
    unfold Builtin.Str.subAt at h2
    have h3 := congrArg Array.toList (eq_of_beq h2)
    have h4 : (l.drop i).take 1 = [47] := by
      have : ((ofL l).cps.extract i (i + 1)).toList = [47] := h3
      simpa [ofL, List.take_drop] using this
    have h5 : ((l.drop i).take 1)[0]? = some 47 := by rw [h4]; rfl
    simpa using h5
  · intro h
    have hi : i < l.length := by
      rcases Nat.lt_or_ge i l.length with z | z
      · exact z
      · rw [List.getElem?_eq_none z] at h
        cases h
    refine ⟨hi, ?_⟩
    unfold Builtin.Str.subAt
    refine beq_iff_eq.mpr ?_
    show (ofL l).cps.extract i (i + 1) = #[47]
    apply Array.toList_inj.mp
    have h6 : (l.drop i).take 1 = [47] := by
      rw [List.getElem?_eq_getElem hi] at h
      have h7 : l.drop i = l[i] :: l.drop (i + 1) := List.drop_eq_getElem_cons hi
      rw [h7, Option.some.inj h]
      rfl
    simpa [ofL, List.take_drop] using h6
theorem part_no {l : List Nat} (h : 47 ∉ l) : Txt.partition (ofL l) "/" = (ofL l, Str.empty, Str.empty) := by
  unfold Txt.partition
  rcases StrLaws.occ_head (ofL l) "/" 1 (Nat.le_refl 1) with ⟨h0, hn⟩ | ⟨i, r, h0, hi, hn⟩
  · rw [h0]
  · exact absurd (List.mem_of_getElem? ((at_slash l i).mp hi)) h
theorem part_at {pre post : List Nat} (h : 47 ∉ pre) : Txt.partition (ofL (pre ++ 47 :: post)) "/" = (ofL pre, ("/" : Str), ofL post) := by
  have e : ("/" : Str) = ⟨#[47]⟩ := by decide +kernel
  have at0 : (pre ++ 47 :: post)[pre.length]? = some 47 := by simp
  unfold Txt.partition
  rcases StrLaws.occ_head (ofL (pre ++ 47 :: post)) "/" 1 (Nat.le_refl 1) with ⟨h0, hn⟩ | ⟨i, r, h0, hi, hn⟩
  · exact absurd ((at_slash _ _).mpr at0) (hn _)
  · have hi' := (at_slash _ _).mp hi
    have ei : i = pre.length := by
      rcases Nat.lt_trichotomy i pre.length with z | z | z
      · rw [List.getElem?_append_left z] at hi'
        exact absurd (List.mem_of_getElem? hi') h
      · exact z
      · exact absurd ((at_slash _ _).mpr at0) (hn _ z)
    subst ei
    rw [h0]
    have l1 : (("/" : Str)).length = 1 := by rw [e]; rfl
    show (Builtin.Str.strSub (ofL (pre ++ 47 :: post)) 0 pre.length, ("/" : Str), Builtin.Str.strSub (ofL (pre ++ 47 :: post)) (pre.length + ("/" : Str).length) (ofL (pre ++ 47 :: post)).length) = _
    have a1 : Builtin.Str.strSub (ofL (pre ++ 47 :: post)) 0 pre.length = ofL pre := by
      refine StrLaws.mk_of_toList ?_
      rw [StrLaws.strSub_toList, ofL_cps]
      simp
    have a2 : Builtin.Str.strSub (ofL (pre ++ 47 :: post)) (pre.length + ("/" : Str).length) (ofL (pre ++ 47 :: post)).length = ofL post := by
      refine StrLaws.mk_of_toList ?_
      rw [StrLaws.strSub_toList, ofL_cps, l1, ofL_len]
      have e2 : (pre ++ 47 :: post).drop (pre.length + 1) = post := by simp
      rw [e2]
      exact List.take_of_length_le (by rw [List.length_append, List.length_cons]; omega)
    rw [a1, a2]
theorem prefix_minus (l : List Nat) : Txt.removeprefix (ofL l) "-" = match l with
    | 45 :: r => ofL r
    | _ => ofL l := by
  have e : ("-" : Str) = ⟨#[45]⟩ := by decide +kernel
  have l1 : (("-" : Str)).length = 1 := by rw [e]; rfl
  rw [StrLaws.removeprefix_eq, l1, ofL_len, ofL_cps]
  have sub : Builtin.Str.subAt (ofL l) "-" 0 = decide (l.take 1 = [45]) := by
    unfold Builtin.Str.subAt
    rw [e]
    show ((ofL l).cps.extract 0 (0 + 1) == #[45]) = _
    rw [Bool.eq_iff_iff, beq_iff_eq, decide_eq_true_eq, ← Array.toList_inj]
    simp [ofL]
  rw [sub]
  match l with
  | [] => rfl
  | c :: r =>
    by_cases hc : c = 45
    · subst hc
      simp [ofL]
    · have h1 : decide ((c :: r).take 1 = [45]) = false := decide_eq_false (by simp [hc])
      rw [h1, Bool.and_false, if_neg (by decide)]
      split
      · rename_i q z
        cases z
        exact absurd rfl hc
      · rfl
/-- the figures of a text, as the program asks -/
theorem figs_of {l : List Nat} : (Txt.isascii (ofL l) && Txt.isdigit (ofL l)) = true ↔ AllDigits l ∧ l ≠ [] := by
  unfold Txt.isascii Txt.isdigit
  rw [Bool.and_eq_true, Bool.and_eq_true, ← Array.all_toList, ← Array.all_toList, List.all_eq_true, List.all_eq_true, ofL_cps, ofL_len]
  have cls : ∀ c, c < 128 → (Unicode.isDigit c = true ↔ 48 ≤ c ∧ c ≤ 57) := by
    have h : ∀ c, c < 128 → Unicode.isDigit c = decide (48 ≤ c ∧ c ≤ 57) := by decide +kernel
    intro c hc
    rw [h c hc, decide_eq_true_eq]
  constructor
  · rintro ⟨h1, h2, h3⟩
    refine ⟨fun c hc => (cls c (of_decide_eq_true (h1 c hc))).mp (h3 c hc), fun z => ?_⟩
    rw [z] at h2
    exact absurd h2 (by decide)
  · rintro ⟨h1, h2⟩
    refine ⟨fun c hc => decide_eq_true (by have := h1 c hc; omega), decide_eq_true (List.length_pos_iff.mpr h2), fun c hc => (cls c (by have := h1 c hc; omega)).mpr (h1 c hc)⟩
end HX

set_option Elab.async false
set_option linter.all false
set_option maxRecDepth 100000
set_option maxHeartbeats 2000000
/-! ### != of own instances without a method of their own for it, their text, their truth -/
namespace PySem
namespace HXN
open W Builtin PyProof.Rows
section
variable {prog : Program} {w : World} {A : Around} {E : Value → Shared → Prop} {s : Shared} {K : Frag} {x C f : Addr} {ox : Obj} {od : Option Obj}
theorem bound_ne {M : Model} {args : List Value} {Q : Option Value → Shared → Prop} (X : K.In s.heap) (I : InstAt s.heap x ox C od) (hn : findIn K (.ref C) "__ne__" = some (some (.builtin "object.__ne__")))
    (z : wpAny M A (call (.builtin "object.__ne__") (.ref x :: args)) (fun v => Q (some v)) E s) : wpAny M A (callSpecialIfBound? (.ref x) "__ne__" args) Q E s := by
  simp only [callSpecialIfBound?, bindSpecialIfBound?]
  refine wpAny_holding (wpAny_bind (wpAny_bind (wpAny_bind (I.type.here ((looks_findIn X hn).here ?_)))))
  refine wpAny_bind (wpAny_askSetting (wpAny_ite ?_))
  have after : wpAny M A (call (.builtin "object.__ne__") ([.ref x] ++ args) >>= fun v => pure (some v)) Q E s := wpAny_bind (wpAny_mono z (fun v s1 q => wpAny_pure q) fun _ _ q => q)
  split
  · exact wpAny_bind (wpAny_of_eq (PySem.F.cmp_object.ne.bind _) (wpAny_pure (by exact after)))
  · exact wpAny_tryCatch (wpAny_bind (wpAny_of_eq (PySem.F.cmp_object.ne.bind _) (wpAny_pure (by exact after))))
theorem ne_does {b : Value} {Q : Fin → Shared → Prop} (hu : A.units < cLine) (X : K.In s.heap) (I : InstAt s.heap x ox C od) (hs : findIn K (.ref C) "__eq__" = some (some (.ref f))) (hf : isFn K (.ref f) = true)
    (z : wpAny (model prog w) A (call (.ref f) [.ref x, b]) (fun v s1 => ∃ c, v = .bool c ∧ Q (.done (.ret (.bool (!c)))) s1) E s) : wpAny (model prog w) A (Builtin.«object.__ne__» ⟨[.ref x, b], []⟩) Q E s := by
  unfold Builtin.«object.__ne__»
  repeat (first
    | with_reducible refine wpAny_cRoomFor hu ?_
    | (refine wpAny_bind (m := callSpecialIfBound? (.ref x) (Str.ofString "__eq__") [b]) (ifBound_K X I hs hf (wpAny_mono z (fun r s1 q => by
          obtain ⟨c, rfl, q⟩ := q
          repeat (first | exact q | exact wpAny_pure q | exact wpAny_truthy_bool q | (refine wpAny_bind (m := truthy (.bool _)) (wpAny_truthy_bool ?_)) | wp_step)) fun _ _ q => q)))
    | wp_step)
theorem try_ne {b : Value} {Q : Value → Shared → Prop} (hu : A.in1.units < cLine) (X : K.In s.heap) (I : InstAt s.heap x ox C od) (hm : mroIn K C (.type "object") = some true) (hn : findIn K (.ref C) "__ne__" = some (some (.builtin "object.__ne__")))
    (hs : findIn K (.ref C) "__eq__" = some (some (.ref f))) (hf : isFn K (.ref f) = true)
    (z : wpAny (model prog w) A.in1 (call (.ref f) [.ref x, b]) (fun v s1 => ∃ c, v = .bool c ∧ Q (.bool (!c)) s1) E s) : wpAny (model prog w) A (tryCompare (.ref x) "__ne__" b) (fun r s1 => ∃ v, r = some v ∧ Q v s1) E s := by
  unfold tryCompare
  refine wpAny_bind (bound_ne X I hn (wpAny_call (codeAny_call_builtin PySem.F.cmp_object.ne.plain PySem.F.cmpEntry_ne (check_slot PySem.F.cmpKind_ne PySem.F.cmpSplit_ne (I.type.andThen (looks_mroIn X hm)) (PySem.F.cmpArgs_ne _ _)
    (ne_does (A := A.in1) hu X I hs hf (wpAny_mono z (fun v s1 q => ?_) fun _ _ q => q))))))
  obtain ⟨c, rfl, q⟩ := q
  exact ⟨c, rfl, wpAny_pure ⟨_, rfl, q⟩⟩
/-- x o b, by what the first method says -/
theorem oL {op : CmpOp} {b : Value} {T : String} {Q : Value → Shared → Prop} (hu : A.units < cLine) (I : InstAt s.heap x ox C od) (hb : s.TypeIs b T) (hsub : isSubtype (.type T) (.ref C) = pure false)
    (one : wpAny (model prog w) A (tryCompare (.ref x) (cmpInfo op).2.1 b) (fun r s2 => ∃ v, r = some v ∧ Q v s2) E s) : wpAny (model prog w) A (richCompare op (.ref x) b) Q E s := by
  unfold richCompare
  simp only [oneThing_ref]
  refine wpAny_holding (wpAny_bind (wpAny_cRoomFor hu ?_))
  refine wpAny_bind (I.type.here (wpAny_bind (wpAny_typeOf hb ?_)))
  have ne : (Value.ref C != Value.type T) = true := by simp
  rw [if_pos ne]
  refine wpAny_bind (wpAny_of_eq hsub ?_)
  simp only [Bool.false_eq_true, if_false]
  refine wpAny_bind (wpAny_mono one (fun r s2 z => ?_) fun _ _ z => z)
  obtain ⟨v, rfl, hq⟩ := z
  exact (wpAny_pure hq)
theorem oE {op : CmpOp} {y : Addr} {oy : Obj} {oe : Option Obj} {Q : Value → Shared → Prop} (hu : A.units < cLine) (I : InstAt s.heap x ox C od) (J : InstAt s.heap y oy C oe)
    (one : wpAny (model prog w) A (tryCompare (.ref x) (cmpInfo op).2.1 (.ref y)) (fun r s2 => ∃ v, r = some v ∧ Q v s2) E s) : wpAny (model prog w) A (richCompare op (.ref x) (.ref y)) Q E s := by
  unfold richCompare
  simp only [oneThing_ref]
  refine wpAny_holding (wpAny_bind (wpAny_cRoomFor hu ?_))
  refine wpAny_bind (I.type.here (wpAny_bind (J.type.here ?_)))
  have ne : (Value.ref C != Value.ref C) = false := by simp
  rw [if_neg (by rw [ne]; decide)]
  refine wpAny_bind (wpAny_pure ?_)
  simp only [Bool.false_eq_true, if_false]
  refine wpAny_bind (wpAny_mono one (fun r s2 z => ?_) fun _ _ z => z)
  obtain ⟨v, rfl, hq⟩ := z
  exact (wpAny_pure hq)
theorem oR {op : CmpOp} {i : Int} {t : Tok} {idl : String} {Q : Value → Shared → Prop} (hu : A.units < cLine) (X : K.In s.heap) (I : InstAt s.heap x ox C od) (hsub : subIn K (.ref C) (.type "int") = some false) (sl : Slot "int" (cmpInfo op).2.1 idl)
    (hN : ∀ Q : Value → Shared → Prop, Q .notImplemented s → wpAny (model prog w) A (call (.builtin idl) [.int i t, .ref x]) Q E s)
    (one : wpAny (model prog w) A (tryCompare (.ref x) (cmpInfo op).2.2 (.int i t)) (fun r s2 => ∃ v, r = some v ∧ Q v s2) E s) : wpAny (model prog w) A (richCompare op (.int i t) (.ref x)) Q E s := by
  have hO : oneThing? op (.int i t) (.ref x) = none := by rfl
  unfold richCompare
  simp only [hO]
  refine wpAny_holding (wpAny_bind (wpAny_cRoomFor hu ?_))
  refine wpAny_bind (wpAny_of_eq (show typeOf (.int i t) = pure (.type "int") from rfl) (wpAny_bind (I.type.here ?_)))
  have ne : (Value.type "int" != Value.ref C) = true := by simp
  rw [if_pos ne]
  refine wpAny_bind ((looks_subIn X hsub).here ?_)
  simp only [Bool.false_eq_true, if_false, Bool.not_false, if_true]
  refine wpAny_bind (m := tryCompare (.int i t) _ (.ref x)) ?_
  unfold tryCompare
  refine wpAny_bind (wpAny_callSpecialIfBound?_slot (typeIs_int s i t) sl (hN _ ?_))
  refine (wpAny_pure ?_)
  refine wpAny_bind (wpAny_mono one (fun r s2 z => ?_) fun _ _ z => z)
  obtain ⟨v, rfl, hq⟩ := z
  exact (wpAny_pure hq)
theorem nc_ne {i : Int} {t : Tok} {dx : Addr} {Q : Value → Shared → Prop} (hx : s.heap.get? x = some (instObj C dx)) (h : Q .notImplemented s) : wpAny (model prog w) A (call (.builtin "int.__ne__") [.int i t, .ref x]) Q E s := by
  refine wpAny_call (codeAny_call_builtin F.slot_int_ne.plain F.entry_int_ne (F.slot_int_ne.check _ _ _ _ _ _ _ _ (typeIs_int s i t) (F.args_int_ne_2 _ _) ?_))
  unfold Builtin.«int.__ne__»
  refine (by (repeat (first | with_reducible refine wpAny_loadPart_at hx ?_ | with_reducible refine wpAny_load hx ?_ | wp_step)); exact h)
/-- bool(x) -/
theorem truth_own {M : Model} {Q : Bool → Shared → Prop} (X : K.In s.heap) (I : InstAt s.heap x ox C od) (hs : findIn K (.ref C) "__bool__" = some (some (.ref f))) (hf : isFn K (.ref f) = true)
    (z : wpAny M A (call (.ref f) [.ref x]) (W.BoolBack Q) E s) : wpAny M A (truthy (.ref x)) Q E s := by
  unfold truthy
  refine wpAny_bind (m := callSpecial? (.ref x) (Str.ofString "__bool__")) (special_fn X I hs (beq_iff_eq.mp hf) (wpAny_mono z (fun r s1 q => ?_) fun _ _ q => q))
  cases r <;> first | exact q.elim | skip
  exact wpAny_pure q
theorem bool_own {Q : Value → Shared → Prop} (X : K.In s.heap) (I : InstAt s.heap x ox C od) (hs : findIn K (.ref C) "__bool__" = some (some (.ref f))) (hf : isFn K (.ref f) = true)
    (z : wpAny (model prog w) A.in1.in1 (call (.ref f) [.ref x]) (W.BoolBack fun c s1 => Q (.bool c) s1) E s) : wpAny (model prog w) A (call (.type "bool") [.ref x]) Q E s := by
  refine callType_codes (T := "bool") (Bi := Builtin.«object.__init__») (Q₁ := fun r s₁ => ∃ c, r = .bool c ∧ Q r s₁) PySem.F.called_bool (PySem.F.typeCall_bool_1 _) PySem.F.entry_object_init ?_ ?_
  · refine codeAny_of_tree ?_
    show wpAny _ A.in1.in1 (do checkBuiltinCall "bool.__new__" ⟨[.type "bool", .ref x], []⟩; again (.builtin "bool.__new__" ⟨[.type "bool", .ref x], []⟩)) _ _ s
    refine wpAny_bind (wpAny_of_eq (PySem.F.newCall_bool_1 _) (wpAny_pure ⟨plainId_quiet (by decide +kernel) _, codeAny_builtin PySem.F.entry_bool_new ?_⟩))
    rw [Around.under_plainId (by decide +kernel) _]
    have f1 := PySem.F.conv_sub_bool
    have z2 := truth_own (Q := fun c s1 => Q (.bool c) s1) X I hs hf z
    repeat (any_goals (first | assumption | (refine wpAny_bind (m := truthy (.ref x)) (wpAny_mono z2 (fun c s1 q => ?_) fun _ _ q => q)) | wp_step))
    all_goals first | exact ⟨_, rfl, q⟩ | exact ⟨_, rfl, ‹_›⟩ | skip
  · rintro obj s₁ ⟨c, rfl, hq⟩
    exact ⟨rfl, PySem.F.args_object_init_2 _ _, object_init_meets PySem.F.called_bool.init.lookup PySem.F.called_bool.made (by decide) prog w A.in1 _ s₁ ⟨rfl, rfl, hq⟩⟩
end
end HXN
end PySem
namespace HX
open PySem PySem.Spec PyProof.Rows L2
section
variable {X : Cx} {C f : Addr} {fd : FuncData} {ps : List Str} {sp : Sp} {CY : CXT} {k : Nat} {E : XK}
/-- a def called from within a built-in of the model -/
theorem run_at {A' : Around} {pins : List (Addr × Obj)} {σ : L2.St} {H : Hp} {s : Shared} {Q : VK} {us : List Value} {vs : List V} (Fi : FnOk X.prog X.w X.K X.mg X.base CY k f fd ps sp) (b : Binds X.K fd ps []) (hr : Room k A') (e0 : Env0 X.prog X.w X.K X.mg X.base A' X.stack s H)
    (hx : Passes CY X E) (I : Inv X pins σ H s) (r : Vals vs us) (h : sp vs H Q E) : wpAny (model X.prog X.w) A' (call (.ref f) us) (EP X pins σ Q) X.xe s := by
  have hl : (us ++ []).length = ps.length := by
    rw [List.append_nil, ← r.length]
    exact Fi.len _ _ _ _ h
  have bd := b s us I.kIn hl
  rw [List.append_nil] at bd
  refine wpAny_call (codeAny_mono (Fi.run A' X.stack s H ⟨us, []⟩ us vs Q E hr e0 bd r h) fun z s' hq => ?_)
  match z, hq with
  | .error e, hq => exact hx pins σ H s e s' I hq
  | .ok (.ret u), hq => exact I.after hq
  | .ok .next, hq => exact False.elim hq
  | .ok .brk, hq => exact False.elim hq
  | .ok .cont, hq => exact False.elim hq
/-- x != y of own instances and ints, by == -/
structure RNw (C : Addr) (r0 : L2.R2) (sp : Sp) (E : XK) (x y : V) (H : Hp) (Q : VK) : Prop where
  go : rOw C (fun x y H _ => r0 x y H Q) sp sp E x y H fun v G => ∃ c, v = .bl c ∧ Q (.bl (!c)) G
def rNw (C : Addr) (r0 : L2.R2) (sp : Sp) (E : XK) : L2.R2 := fun x y H Q => RNw C r0 sp E x y H Q
theorem ep_not {pins : List (Addr × Obj)} {σ : L2.St} {Q : VK} {u : Value} {s' : Shared} (h : EP X pins σ (fun v G => ∃ c, v = .bl c ∧ Q (.bl (!c)) G) u s') : ∃ c, u = .bool c ∧ EP X pins σ Q (.bool (!c)) s' := by
  obtain ⟨v, G, J, r, c, rfl, q⟩ := h
  exact ⟨c, r, .bl (!c), G, J, rfl, q⟩
theorem op_new {r0 : L2.R2} (h0 : OpR X (compareOp .NotEq) r0) (hsub : PySem.W.subIn X.K (.ref C) (.type "int") = some false) (hm : PySem.W.mroIn X.K C (.type "object") = some true) (hn : PySem.W.findIn X.K (.ref C) "__ne__" = some (some (.builtin "object.__ne__")))
    (hs : PySem.W.findIn X.K (.ref C) "__eq__" = some (some (.ref f))) (hf : PySem.W.isFn X.K (.ref f) = true) (Fi : FnOk X.prog X.w X.K X.mg X.base CY k f fd ps sp) (b : Binds X.K fd ps []) (hr : Room (k + 1) X.A) (hx : Passes CY X E) : OpR X (compareOp .NotEq) (rNw C r0 sp E) := by
  intro pins s σ H x y v u Q I rx ry q
  have hu := hr.units0
  have hu1 := (hr.in1).units0
  have rich : ∀ a b, compareOp .NotEq a b = richCompare .NotEq a b := fun _ _ => rfl
  replace q := q.go
  unfold rOw at q
  split at q
  · obtain ⟨i1, i2, q⟩ := q
    cases rx
    cases ry
    obtain ⟨dx, od, J, ho⟩ := inst_at I i1
    obtain ⟨dy, od2, J2, ho2⟩ := inst_at I i2
    rename_i a b'
    have rv : Vals [V.ref a, V.ref b'] [Value.ref a, Value.ref b'] := .cons rfl (.cons rfl .nil)
    rw [rich]
    exact PySem.HXN.oE hu J J2 (PySem.HXN.try_ne hu1 I.kIn J hm hn hs hf (wpAny_mono (run_at Fi b hr.in1 I.env0.in1 hx I rv q) (fun u s2 h => ep_not h) fun _ _ z => z))
  · obtain ⟨i1, q⟩ := q
    cases rx
    obtain ⟨t, rfl⟩ := (show ∃ t, u = Value.int _ t from ry)
    obtain ⟨dx, od, J, ho⟩ := inst_at I i1
    rename_i a j
    have rv : Vals [V.ref a, V.int j] [Value.ref a, Value.int j t] := .cons rfl (.cons ⟨t, rfl⟩ .nil)
    rw [rich]
    exact PySem.HXN.oL hu J (typeIs_int s _ t) (PySem.HXO.int_not C) (PySem.HXN.try_ne hu1 I.kIn J hm hn hs hf (wpAny_mono (run_at Fi b hr.in1 I.env0.in1 hx I rv q) (fun u s2 h => ep_not h) fun _ _ z => z))
  · obtain ⟨i1, q⟩ := q
    cases ry
    obtain ⟨t, rfl⟩ := (show ∃ t, v = Value.int _ t from rx)
    obtain ⟨dx, od, J, ho⟩ := inst_at I i1
    rename_i j a
    have rv : Vals [V.ref a, V.int j] [Value.ref a, Value.int j t] := .cons rfl (.cons ⟨t, rfl⟩ .nil)
    rw [rich]
    exact PySem.HXN.oR hu I.kIn J hsub PySem.F.slot_int_ne (fun Q z => PySem.HXN.nc_ne ho z) (PySem.HXN.try_ne hu1 I.kIn J hm hn hs hf (wpAny_mono (run_at Fi b hr.in1 I.env0.in1 hx I rv q) (fun u s2 h => ep_not h) fun _ _ z => z))
  · exact h0 pins s σ H _ _ v u Q I rx ry q
  · exact q.elim
/-- the type of a plain value in the model's words -/
theorem typeIs_of {K : PySem.W.Frag} {pins : List (Addr × Obj)} {σ : L2.St} {H : Hp} {s : Shared} {y : V} {v : Value} {T : String} (I : Inv X pins σ H s) (r : RelV y v) (ty : TyOf K H y (.type T)) : s.TypeIs v T := by
  cases ty with
  | non => cases (show v = Value.none from r); exact rfl
  | bl b => cases (show v = Value.bool b from r); exact rfl
  | int i => obtain ⟨t, rfl⟩ := (show ∃ t, v = Value.int i t from r); exact typeIs_int s i t
  | str z => obtain ⟨t, rfl⟩ := (show ∃ t, v = Value.str z t from r); exact typeIs_str s z t
  | flt z => obtain ⟨t, rfl⟩ := (show ∃ t, v = Value.float z t from r); exact rfl
  | @lst a xs e =>
    cases (show v = Value.ref a from r)
    obtain ⟨_, _, n, _, h1⟩ := (show ObjOk X.prog X.w H s.heap a (.lst xs) from I.hok a _ e)
    exact ⟨_, h1, rfl⟩
  | @frz a ob xs e =>
    cases (show v = Value.ref a from r)
    obtain ⟨_, _, _, n, _, h1⟩ := (show ObjOk X.prog X.w H s.heap a (.frz ob (.lst xs)) from I.hok a _ e)
    exact ⟨_, h1, rfl⟩
  | @tup a xs e =>
    cases (show v = Value.ref a from r)
    obtain ⟨_, _, _, p⟩ := (show ObjOk X.prog X.w H s.heap a (.tup xs) from I.hok a _ e)
    obtain ⟨o, h1, h2, _⟩ := p
    exact ⟨o, h1, h2⟩
  | @dK a kvs e =>
    cases (show v = Value.ref a from r)
    obtain ⟨_, _, vs, _, p⟩ := (show ObjOk X.prog X.w H s.heap a (.dK kvs) from I.hok a _ e)
    obtain ⟨o, es, ep, h1, h2, _⟩ := p
    exact ⟨o, h1, h2.1⟩
  | @dT a kvs e =>
    cases (show v = Value.ref a from r)
    obtain ⟨_, _, xs, _, o, es, ep, h1, h2, _⟩ := (show ObjOk X.prog X.w H s.heap a (.dT kvs) from I.hok a _ e)
    exact ⟨o, h1, h2.1⟩
/-- x == y, y a plain value -/
def rEqO (K : PySem.W.Frag) (C : Addr) (sp : Sp) (E : XK) : L2.R2 := fun x y H Q => ∃ (a : Addr) (T : String), x = .ref a ∧ IsI C H a ∧ TyOf K H y (.type T) ∧ isSubtype (.type T) (.ref C) = pure false ∧ sp [.ref a, y] H Q E
theorem op_eqO (hs : PySem.W.findIn X.K (.ref C) "__eq__" = some (some (.ref f))) (hf : PySem.W.isFn X.K (.ref f) = true) (Fi : FnOk X.prog X.w X.K X.mg X.base CY k f fd ps sp) (b : Binds X.K fd ps []) (hr : Room k X.A) (hx : Passes CY X E) :
    OpR X (compareOp .Eq) (rEqO X.K C sp E) := by
  intro pins s σ H x y v u Q I rx ry q
  obtain ⟨a, T, rfl, i1, ty, hT, q⟩ := q
  cases rx
  obtain ⟨dx, od, J, ho⟩ := inst_at I i1
  rw [show compareOp .Eq (Value.ref a) u = richCompare .Eq (Value.ref a) u from rfl]
  exact PySem.HXC.cmL hr.units0 I.kIn J (typeIs_of I ry ty) hT hs hf (wpAny_mono (run_fn Fi hr b .nil hx I (show Vals [V.ref a, y] [Value.ref a, u] from .cons rfl (.cons ry .nil)) (by rw [List.append_nil]; exact q)) (fun u s2 h => ep_own h) fun _ _ z => z)
/-- str(x) of an own instance, an int -/
def rStrO (C : Addr) (sp : Sp) (E : XK) : List V → Hp → VK → Prop := fun xs H Q => match xs with
  | [.ref a] => IsI C H a ∧ sp [.ref a] H (fun v G => ∃ z, v = .str z ∧ Q v G) E
  | [.int i] => i.natAbs.log2 < 1920 ∧ Q (.str (toString i)) H
  | _ => False
theorem call_strO (hs : PySem.W.findIn X.K (.ref C) "__str__" = some (some (.ref f))) (hf : PySem.W.isFn X.K (.ref f) = true) (Fi : FnOk X.prog X.w X.K X.mg X.base CY k f fd ps sp) (b : Binds X.K fd ps []) (hr : Room (k + 2) X.A) (hx : Passes CY X E) :
    CallR X (.type "str") (rStrO C sp E) := by
  intro pins s σ H xs us Q I r q
  unfold rStrO at q
  split at q
  · obtain ⟨i1, q⟩ := q
    obtain ⟨u, rfl, ru⟩ := vals1 r
    cases ru
    obtain ⟨dx, od, J, ho⟩ := inst_at I i1
    rename_i a
    refine PySem.W.kso_call hr.in1.in1.units0 I.kIn J hs hf (wpAny_mono (run_at Fi b hr.in1.in1 I.env0.in1.in1 hx I (show Vals [V.ref a] [Value.ref a] from .cons rfl .nil) q) (fun u s2 h => ?_) fun _ _ z => z)
    obtain ⟨v, G, J2, rv, z, rfl, qz⟩ := h
    obtain ⟨t, rfl⟩ := (show ∃ t, u = Value.str z t from rv)
    exact ⟨.str z, G, J2, ⟨t, rfl⟩, qz⟩
  · exact call_str_int pins s σ H _ us Q I r ⟨_, rfl, q.1, q.2⟩
  · exact q.elim
/-- bool(x) of an own instance -/
def rBoolO (C : Addr) (sp : Sp) (E : XK) : List V → Hp → VK → Prop := fun xs H Q => ∃ a, xs = [.ref a] ∧ IsI C H a ∧ sp [.ref a] H (fun v G => ∃ c, v = .bl c ∧ Q v G) E
theorem call_boolO (hs : PySem.W.findIn X.K (.ref C) "__bool__" = some (some (.ref f))) (hf : PySem.W.isFn X.K (.ref f) = true) (Fi : FnOk X.prog X.w X.K X.mg X.base CY k f fd ps sp) (b : Binds X.K fd ps []) (hr : Room (k + 2) X.A) (hx : Passes CY X E) :
    CallR X (.type "bool") (rBoolO C sp E) := by
  intro pins s σ H xs us Q I r q
  obtain ⟨a, rfl, i1, q⟩ := q
  obtain ⟨u, rfl, ru⟩ := vals1 r
  cases ru
  obtain ⟨dx, od, J, ho⟩ := inst_at I i1
  refine PySem.HXN.bool_own I.kIn J hs hf (wpAny_mono (run_at Fi b hr.in1.in1 I.env0.in1.in1 hx I (show Vals [V.ref a] [Value.ref a] from .cons rfl .nil) q) (fun u s2 h => ?_) fun _ _ z => z)
  obtain ⟨v, G, J2, rv, c, rfl, qz⟩ := h
  cases (show u = Value.bool c from rv)
  exact ⟨.bl c, G, J2, rfl, qz⟩
/-- not x of an own instance -/
def rNotO (C : Addr) (sp : Sp) (E : XK) (te : TE) : TE := fun σ H Q => te σ H fun x G => ∃ a, x = .ref a ∧ IsI C G a ∧ sp [.ref a] G (fun v G2 => ∃ c, v = .bl c ∧ Q (.bl (!c)) G2) E
theorem e_notO {e : Expr} {ta : TE} {pos : Pos} (hs : PySem.W.findIn X.K (.ref C) "__bool__" = some (some (.ref f))) (hf : PySem.W.isFn X.K (.ref f) = true) (Fi : FnOk X.prog X.w X.K X.mg X.base CY k f fd ps sp) (b : Binds X.K fd ps []) (hr : Room k X.A) (hx : Passes CY X E) (ha : PE X e ta) :
    PE X (.UnaryOp .Not e pos) (rNotO C sp E ta) := by
  refine ⟨fun pins s σ H Q I h => UnaryOp_ (thn (ha.run pins s σ H _ I h) fun v s1 ⟨x, G, I1, r1, a, ex, i1, z⟩ => ?_)⟩
  subst ex
  cases r1
  obtain ⟨dx, od, J, ho⟩ := inst_at I1 i1
  refine not_of (PySem.HXN.truth_own I1.kIn J hs hf (wpAny_mono (run_fn Fi hr b .nil hx I1 (show Vals [V.ref a] [Value.ref a] from .cons rfl .nil) (by rw [List.append_nil]; exact z)) (fun u s2 h => ?_) fun _ _ z => z))
  obtain ⟨v, G2, J2, rv, c, rfl, qz⟩ := h
  cases (show u = Value.bool c from rv)
  exact ⟨.bl (!c), G2, J2, rfl, qz⟩
end
/-- the built-in types are below no own class -/
theorem sub_non (C : Addr) : isSubtype (.type "NoneType") (.ref C) = pure false := by rfl
theorem sub_bl (C : Addr) : isSubtype (.type "bool") (.ref C) = pure false := by rfl
theorem sub_str (C : Addr) : isSubtype (.type "str") (.ref C) = pure false := by rfl
theorem sub_lst (C : Addr) : isSubtype (.type "list") (.ref C) = pure false := by rfl
theorem sub_tup (C : Addr) : isSubtype (.type "tuple") (.ref C) = pure false := by rfl
theorem sub_dic (C : Addr) : isSubtype (.type "dict") (.ref C) = pure false := by rfl
end HX

set_option Elab.async false
set_option linter.all false
set_option maxRecDepth 100000
set_option maxHeartbeats 2000000
namespace HX
open PySem PySem.Spec PyProof.Rows L2 NumText

/-! ### a class that a local name holds, made -/
def tMakeL (i : Nat) (C : Addr) (sp : Sp) (dvs : List V) (E : XK) (t : TA) : TE := fun σ H Q => σ[i]? = some (some (.ref C)) ∧ tMake C sp dvs E t σ H Q
theorem pe_makeL {X : Cx} {CY : CXT} {C f : Addr} {k i : Nat} {fd : FuncData} {ps : List Str} {sp : Sp} {ds : List Value} {dvs : List V} {E : XK} {t : TA} {x : Str} {p pos : Pos} {e : Expr} {es : List Expr} (M : Mk X.K C f) (F : FnOk X.prog X.w X.K X.mg X.base CY k f fd ps sp) (hr : Room (k + 1) X.A) (hb : Binds X.K fd ps ds) (hd : Vals dvs ds) (hx : Passes CY X E)
    (ha : PA X (e :: es) t) (hN : X.N[i]? = some x := by rfl) (hv : Vis X.env.scope x := by first | exact Or.inl rfl | exact Or.inr (Or.inl rfl) | exact Or.inr (Or.inr rfl)) (hdb : (x == ("__debug__" : Str)) = false := by decide) (hcd : (x == ("__classdict__" : Str)) = false := by decide)
    (he : starEach (e :: es) X.env = (false, eval e X.env) :: starEach es X.env := by rfl) (hpl : (backTo pos (starEach es X.env)).any (·.1) = false := by rfl) :
    PE X (.Call (.Name x p) (e :: es) [] pos) (tMakeL i C sp dvs E t) := by
  refine ⟨fun pins s σ H Q I h => ?_⟩
  refine wpAny_Call_Name_kw (thn ((pe_var hN hv hdb hcd).run pins s σ H (fun v G => v = .ref C ∧ G = H) I ⟨_, h.1, rfl, rfl⟩) fun u s0 ⟨v, G, I0, rv, ev, eG⟩ => ?_)
  subst ev
  subst eG
  obtain rfl : u = Value.ref C := rv
  refine PySem.W.callWith_K (h₀ := X.base) I0.ok.mod.kin M.kp (thn (ha.run pos pins s0 σ G _ I0 h.2) fun us s1 ⟨vs, H1, I1, r, q⟩ => ⟨I1.kIn, ?_⟩) he hpl
  exact run_make M F hr hb hd hx I1 r q

/-! ### the text of a fraction -/
def atx (t b : Int) : List Nat := if b = 1 then it t else it t ++ 47 :: it b
/-- what read takes -/
def RT (l : List Nat) (t b : Int) : Prop := Low t b ∧ t.natAbs < 10 ^ 200 ∧ b.natAbs < 10 ^ 200 ∧ l = atx t b
/-- above, stroke, below -/
def pt3 (l : List Nat) : List Nat × List Nat × List Nat := match l with
  | [] => ([], [], [])
  | c :: r => if c = 47 then ([], [47], r) else (c :: (pt3 r).1, (pt3 r).2.1, (pt3 r).2.2)
theorem pt3_no : ∀ {l : List Nat}, 47 ∉ l → pt3 l = (l, [], [])
  | [], _ => rfl
  | c :: r, h => by
    have h1 : ¬ c = 47 := fun z => h (by rw [z]; exact List.mem_cons_self ..)
    have h2 := pt3_no (l := r) (fun z => h (List.mem_cons_of_mem _ z))
    show (if c = 47 then _ else _) = _
    rw [if_neg h1, h2]
theorem pt3_at : ∀ {pre post : List Nat}, 47 ∉ pre → pt3 (pre ++ 47 :: post) = (pre, [47], post)
  | [], post, _ => by
    show (if (47 : Nat) = 47 then _ else _) = _
    rw [if_pos rfl]
  | c :: r, post, h => by
    have h1 : ¬ c = 47 := fun z => h (by rw [z]; exact List.mem_cons_self ..)
    have h2 := pt3_at (pre := r) (post := post) (fun z => h (List.mem_cons_of_mem _ z))
    have e : pt3 (c :: r ++ 47 :: post) = (c :: (pt3 (r ++ 47 :: post)).1, (pt3 (r ++ 47 :: post)).2.1, (pt3 (r ++ 47 :: post)).2.2) := if_neg h1
    rw [e, h2]
theorem split47 {l : List Nat} (h : 47 ∈ l) : ∃ pre post, l = pre ++ 47 :: post ∧ 47 ∉ pre := by
  obtain ⟨pre, post, e, n⟩ := List.eq_append_cons_of_mem h
  exact ⟨pre, post, e, n⟩
theorem part3 (l : List Nat) : Txt.partition (ofL l) "/" = (ofL (pt3 l).1, ofL (pt3 l).2.1, ofL (pt3 l).2.2) := by
  by_cases h : 47 ∈ l
  · obtain ⟨pre, post, rfl, n⟩ := split47 h
    rw [part_at n, pt3_at n]
    have e : ("/" : Str) = ofL [47] := by decide +kernel
    rw [e]
  · rw [part_no h, pt3_no h]
    rfl
theorem atx_parts (t b : Int) : pt3 (atx t b) = if b = 1 then (it t, [], []) else (it t, [47], it b) := by
  unfold atx
  split
  · exact pt3_no (it_47 t)
  · exact pt3_at (it_47 t)
theorem ofL_nil {l : List Nat} : (ofL l = ("" : Str)) ↔ l = [] := by
  have e : ("" : Str) = ofL [] := by decide +kernel
  rw [e]
  exact ⟨ofL_inj, fun h => by rw [h]⟩
/-- the part without its sign -/
def unm (l : List Nat) : List Nat := match l with
  | 45 :: r => r
  | _ => l
theorem unm_eq (l : List Nat) : Txt.removeprefix (ofL l) "-" = ofL (unm l) := by
  rw [prefix_minus]
  match l with
  | [] => rfl
  | c :: r =>
    by_cases h : c = 45
    · subst h
      rfl
    · have e : unm (c :: r) = c :: r := by
        unfold unm
        split
        · rename_i q z
          cases z
          exact absurd rfl h
        · rfl
      rw [e]
      split
      · rename_i q z
        cases z
        exact absurd rfl h
      · rfl
theorem unm_it (i : Int) : unm (it i) = dg i.natAbs := by
  unfold it
  split
  · rfl
  · unfold unm
    split
    · rename_i r e
      have := dg_all i.natAbs 45 (by rw [e]; exact List.mem_cons_self ..)
      omega
    · rfl
/-- the figures that the program lets -/
def figB (l : List Nat) : Bool := Txt.isascii (ofL l) && (Txt.isdigit (ofL l) && decide (l.length ≤ 200))
theorem figB_iff {l : List Nat} : figB l = true ↔ AllDigits l ∧ l ≠ [] ∧ l.length ≤ 200 := by
  unfold figB
  rw [← Bool.and_assoc, Bool.and_eq_true, figs_of, decide_eq_true_eq, and_assoc]
theorem figB_dg {n : Nat} (h : n < 10 ^ 200) : figB (dg n) = true := figB_iff.mpr ⟨dg_all n, dg_ne n, (dg_len (by decide)).mpr h⟩
theorem atx_len {t b : Int} (ht : t.natAbs < 10 ^ 200) (hb : b.natAbs < 10 ^ 200) : (atx t b).length ≤ 403 := by
  have h1 := it_len (by decide) ht
  have h2 := it_len (by decide) hb
  unfold atx
  split
  · omega
  · rw [List.length_append, List.length_cons]
    omega
end HX

set_option Elab.async false
set_option linter.all false
set_option maxRecDepth 100000
set_option maxHeartbeats 2000000
namespace HX
open PySem PySem.Spec PyProof.Rows L2 NumText

/-! ### texts of wide ints -/
/-- what of the text says that sys.set_int_max_str_digits was never called -/
structure NoDg (K : PySem.W.Frag) : Prop where
  ok : PySem.W.nsOkIn K cStatics = true
  no : PySem.W.nsIn K cStatics "sys.int_max_str_digits" = some none
theorem NoDg.at_ {K : PySem.W.Frag} {h : Heap} (N : NoDg K) (X : K.In h) : h.NoDigits := ⟨h.nsMap cStatics, .of_isNs (PySem.W.isNs_of_in X N.ok), PySem.W.nsMap_none_of_in X N.ok N.no⟩
section
variable {X : Cx}
theorem call_str_intW {k : Nat} (N : NoDg X.K) (hr : Room k X.A) : CallR X (.type "str") (fun xs H Q => ∃ i, xs = [.int i] ∧ i.natAbs < 10 ^ 4300 ∧ Q (.str (toString i)) H) := by
  intro pins s σ H xs us Q I r h
  obtain ⟨i, rfl, hz, q⟩ := h
  obtain ⟨u, rfl, t, rfl⟩ := vals1 r
  exact str_of_int_or hr.hd (N.at_ I.kIn) (fun _ => ⟨.str _, H, I.tok _, ⟨_, rfl⟩, q⟩) (fun z => absurd z (Nat.not_le.mpr hz))
/-- {x}: an int, wide -/
def tFmtW (te : TE) : TE := fun σ H Q => te σ H fun x H1 => ∃ i : Int, x = .int i ∧ i.natAbs < 10 ^ 4300 ∧ Q (.str (toString i)) H1
theorem pe_fmtW {k : Nat} {e : Expr} {te : TE} {pos : Pos} (N : NoDg X.K) (hr : Room k X.A) (he : PE X e te) : PE X (.FormattedValue e (-1) none pos) (tFmtW te) := by
  refine ⟨fun pins s σ H Q I h => ?_⟩
  refine wpAny_FormattedValue_plain (thn (he.run pins s σ H _ I h) fun v s1 hv => ?_)
  obtain ⟨x, H1, I1, r1, i, rfl, hz, q⟩ := hv
  obtain ⟨t, rfl⟩ := r1
  exact formatField_int hr.hd (N.at_ I1.kIn) (fun _ => ⟨.str (toString i), H1, I1.tok _, ⟨_, rfl⟩, q⟩) (fun z => absurd z (Nat.not_le.mpr hz))
end
theorem wide_sm {n : Nat} {i : Int} (h : i.natAbs < 2 ^ n) (le : n ≤ 12900 := by decide) : i.natAbs < 10 ^ 4300 := Nat.lt_of_lt_of_le (Nat.lt_of_lt_of_le h (Nat.pow_le_pow_right (by decide) le)) pow_lo
end HX

set_option Elab.async false
set_option linter.all false
set_option maxRecDepth 100000
set_option maxHeartbeats 2000000
namespace HX
open PySem PySem.Spec PyProof.Rows L2 NumText

/-! ### what a text of a fraction says -/
theorem fold_lt : ∀ (l : List Nat), AllDigits l → ∀ a : Nat, l.foldl (fun acc c => acc * 10 + (c - 48)) a + 1 ≤ (a + 1) * 10 ^ l.length
  | [], _, a => by
    show a + 1 ≤ (a + 1) * 10 ^ 0
    omega
  | c :: l, h, a => by
    have h2 := h c (List.mem_cons_self ..)
    have ih := fold_lt l (fun d hd => h d (List.mem_cons_of_mem _ hd)) (a * 10 + (c - 48))
    show l.foldl _ (a * 10 + (c - 48)) + 1 ≤ _
    rw [List.length_cons, Nat.pow_succ, Nat.mul_comm (10 ^ l.length) 10, ← Nat.mul_assoc]
    exact Nat.le_trans ih (Nat.mul_le_mul_right _ (by omega))
theorem digitsVal_lt {l : List Nat} (h : AllDigits l) : digitsVal l < 10 ^ l.length := by
  have := fold_lt l h 0
  unfold digitsVal
  omega
theorem unm_id {l : List Nat} (h : ∀ r, l ≠ 45 :: r) : unm l = l := by
  unfold unm
  split
  · rename_i r
    exact absurd rfl (h r)
  · rfl
theorem pow_len {l : List Nat} (h : AllDigits l) (hl : l.length ≤ 200) : digitsVal l < 10 ^ 200 := Nat.lt_of_lt_of_le (digitsVal_lt h) (Nat.pow_le_pow_right (by decide) hl)
/-- the int of a text of figures, with or without minus -/
def sv (l : List Nat) : Int := match l with
  | 45 :: r => -(digitsVal r : Int)
  | _ => digitsVal l
theorem sv_it (t : Int) : sv (it t) = t := by
  unfold it
  split
  · show -(digitsVal (dg t.natAbs) : Int) = t
    rw [dg_val]
    omega
  · unfold sv
    split
    · rename_i r e
      have := dg_all t.natAbs 45 (by rw [e]; exact List.mem_cons_self ..)
      omega
    · rw [dg_val]
      omega
theorem sv_read {l : List Nat} (h : figB (unm l) = true) : PySem.intText? (ofL l) = some (sv l) := by
  obtain ⟨h1, h2, h3⟩ := figB_iff.mp h
  unfold sv
  split
  · rename_i r
    have h1 : AllDigits r := h1
    have h3 : r.length ≤ 200 := h3
    rw [intText_neg (x := ofL (45 :: r)) (cs := r) (ofL_cps _) h1 h2 (by rw [ofL_len, List.length_cons]; omega)]
  · rename_i ne
    have e : unm l = l := by
      unfold unm
      split
      · rename_i r
        exact absurd rfl (ne r)
      · rfl
    rw [e] at h1 h2 h3
    rw [intText_digits (x := ofL l) (by rw [ofL_cps]; exact h1) (by rw [ofL_cps]; exact h2) (by rw [ofL_len]; omega), ofL_cps]
theorem sv_abs (l : List Nat) : (sv l).natAbs = digitsVal (unm l) := by
  unfold sv
  split
  · rename_i r
    show (-(digitsVal r : Int)).natAbs = digitsVal r
    omega
  · rename_i ne
    rw [unm_id (fun r z => ne r z)]
    omega
theorem sv_lt {l : List Nat} (h : figB (unm l) = true) : (sv l).natAbs < 10 ^ 200 := by
  obtain ⟨h1, h2, h3⟩ := figB_iff.mp h
  rw [sv_abs l]
  exact pow_len h1 h3
/-- as the program reads -/
def below (l : List Nat) : List Nat := if (pt3 l).2.1 = [] then [49] else (pt3 l).2.2
def okF (l : List Nat) : Prop := figB (unm (pt3 l).1) = true ∧ figB (below l) = true ∧ digitsVal (below l) ≠ 0
def rdP (l : List Nat) : Int := nT (sv (pt3 l).1) (digitsVal (below l))
def rdQ (l : List Nat) : Int := nB (sv (pt3 l).1) (digitsVal (below l))
open Classical in
noncomputable def rdv (l : List Nat) : Option (Int × Int) := if okF l ∧ atx (rdP l) (rdQ l) = l then some (rdP l, rdQ l) else none
theorem rdv_rt {l : List Nat} {t b : Int} (h : rdv l = some (t, b)) : RT l t b := by
  unfold rdv at h
  split at h
  · rename_i c
    obtain ⟨⟨h1, h2, h3⟩, h4⟩ := c
    cases h
    have qz : ((digitsVal (below l) : Nat) : Int) ≠ 0 := by omega
    have lt2 : digitsVal (below l) < 10 ^ 200 := let ⟨a, _, b⟩ := figB_iff.mp h2; pow_len a b
    exact ⟨low_n qz, Nat.lt_of_le_of_lt (nT_le qz) (sv_lt h1), Nat.lt_of_le_of_lt (nB_le qz) (by simpa using lt2), h4.symm⟩
  · cases h
theorem fig_one : figB [49] = true ∧ digitsVal [49] = 1 := by
  constructor
  · exact figB_iff.mpr ⟨fun c hc => by rcases List.mem_singleton.mp hc with rfl; exact ⟨by decide, by decide⟩, by decide, by decide⟩
  · decide
theorem rt_rdv {l : List Nat} {t b : Int} (h : RT l t b) : rdv l = some (t, b) := by
  obtain ⟨lo, ht, hb, rfl⟩ := h
  have b0 := lo.1
  have e3 := atx_parts t b
  have u := n_self lo
  have bz : b ≠ 0 := by omega
  have main : (pt3 (atx t b)).1 = it t ∧ figB (below (atx t b)) = true ∧ ((digitsVal (below (atx t b)) : Nat) : Int) = b := by
    rw [e3]
    unfold below
    rw [e3]
    by_cases b1 : b = 1
    · rw [if_pos b1]
      exact ⟨rfl, fig_one.1, by show ((digitsVal [49] : Nat) : Int) = b; rw [fig_one.2, b1]; rfl⟩
    · rw [if_neg b1]
      have eB : it b = dg b.natAbs := if_neg (by omega)
      refine ⟨rfl, ?_, ?_⟩
      · show figB (if ([47] : List Nat) = [] then [49] else it b) = true
        rw [if_neg (by decide), eB]
        exact figB_dg hb
      · show ((digitsVal (if ([47] : List Nat) = [] then [49] else it b) : Nat) : Int) = b
        rw [if_neg (by decide), eB, dg_val]
        omega
  have eP : rdP (atx t b) = t ∧ rdQ (atx t b) = b := by
    unfold rdP rdQ
    rw [main.1, main.2.2, sv_it]
    exact u
  unfold rdv
  rw [if_pos ⟨⟨by rw [main.1, unm_it]; exact figB_dg ht, main.2.1, by have := main.2.2; omega⟩, by rw [eP.1, eP.2]⟩, eP.1, eP.2]
theorem rdv_none {l : List Nat} : rdv l = none ↔ ¬ (okF l ∧ atx (rdP l) (rdQ l) = l) := by
  unfold rdv
  split
  · rename_i c
    exact ⟨fun z => (nomatch z), fun z => absurd c z⟩
  · rename_i c
    exact ⟨fun _ => c, fun _ => rfl⟩
open Classical in
/-- figures as the law reads them -/
noncomputable def fgs (l : List Nat) : Option Nat := if (1 ≤ l.length ∧ l.length ≤ 200 ∧ AllDigits l) ∧ ¬ (1 < l.length ∧ l.take 1 = [48]) then some (digitsVal l) else none
theorem fgs_dg {n : Nat} (h : n < 10 ^ 200) : fgs (dg n) = some n := by
  have hl := (dg_len (n := n) (k := 200) (by decide)).mpr h
  have h1 : 1 ≤ (dg n).length := List.length_pos_iff.mpr (dg_ne n)
  have h2 : ¬ (1 < (dg n).length ∧ (dg n).take 1 = [48]) := by
    rintro ⟨a, b⟩
    obtain ⟨c, r, e⟩ : ∃ c r, dg n = c :: r := List.exists_cons_of_length_pos (by omega)
    rw [e] at a b
    have c48 : c = 48 := by simpa using b
    subst c48
    have v := dg_val n
    rw [e, digitsVal_zero] at v
    have ad : AllDigits r := fun d hd => dg_all n d (by rw [e]; exact List.mem_cons_of_mem _ hd)
    have r0 : 0 < r.length := by rw [List.length_cons] at a; omega
    have lt := digitsVal_lt ad
    rw [v] at lt
    have := (dg_len (n := n) r0).mpr lt
    rw [e, List.length_cons] at this
    omega
  unfold fgs
  rw [if_pos ⟨⟨h1, hl, dg_all n⟩, h2⟩, dg_val]
theorem fgs_some {l : List Nat} {n : Nat} (h : fgs l = some n) : n < 10 ^ 200 := by
  unfold fgs at h
  split at h
  · rename_i c
    cases h
    exact pow_len c.1.2.2 c.1.2.1
  · cases h
/-- the law's own reader -/
noncomputable def lTop (l : List Nat) : Option Nat := fgs (pt3 (unm l)).1
noncomputable def lBot (l : List Nat) : Option Nat := if (pt3 (unm l)).2.1 = [] then some 1 else fgs (pt3 (unm l)).2.2
def sgn (l : List Nat) (n : Nat) : Int := if unm l = l then (n : Int) else 0 - (n : Int)
noncomputable def lrd (l : List Nat) : Option (Int × Int) := match lTop l, lBot l with
  | some t, some b => if b = 0 then none else if atx (nT (sgn l t) b) (nB (sgn l t) b) = l then some (nT (sgn l t) b, nB (sgn l t) b) else none
  | _, _ => none
theorem lrd_rt {l : List Nat} {t b : Int} (h : lrd l = some (t, b)) : RT l t b := by
  unfold lrd at h
  split at h
  · rename_i p q e1 e2
    split at h
    · cases h
    · rename_i qz
      split at h
      · rename_i c
        cases h
        have lt1 := fgs_some e1
        have lt2 : q < 10 ^ 200 := by
          unfold lBot at e2
          split at e2
          · cases e2; exact Nat.one_lt_pow (by decide) (by decide)
          · exact fgs_some e2
        have z : ((q : Nat) : Int) ≠ 0 := by omega
        have sl : (sgn l p).natAbs = p := by unfold sgn; split <;> omega
        exact ⟨low_n z, Nat.lt_of_le_of_lt (nT_le z) (by rw [sl]; exact lt1), Nat.lt_of_le_of_lt (nB_le z) (by simpa using lt2), c.symm⟩
      · cases h
  · cases h
theorem rt_lrd {l : List Nat} {t b : Int} (h : RT l t b) : lrd l = some (t, b) := by
  obtain ⟨lo, ht, hb, rfl⟩ := h
  have b0 := lo.1
  have u := n_self lo
  have bz : b ≠ 0 := by omega
  have eB : it b = dg b.natAbs := if_neg (by omega)
  have n47 : 47 ∉ dg t.natAbs := fun m => by have := dg_all _ _ m; omega
  -- the plain text
  have hp : unm (atx t b) = (if b = 1 then dg t.natAbs else dg t.natAbs ++ 47 :: it b) ∧ sgn (atx t b) t.natAbs = t := by
    by_cases t0 : t < 0
    · have e : it t = 45 :: dg t.natAbs := if_pos t0
      have e2 : atx t b = 45 :: (if b = 1 then dg t.natAbs else dg t.natAbs ++ 47 :: it b) := by
        unfold atx
        rw [e]
        split <;> rfl
      have e3 : unm (atx t b) = (if b = 1 then dg t.natAbs else dg t.natAbs ++ 47 :: it b) := by
        rw [e2]
        rfl
      refine ⟨e3, ?_⟩
      have ne : unm (atx t b) ≠ atx t b := fun z => by
        have := congrArg List.length z
        rw [e3, e2, List.length_cons] at this
        omega
      unfold sgn
      rw [if_neg ne]
      omega
    · have e : it t = dg t.natAbs := if_neg t0
      have e2 : atx t b = (if b = 1 then dg t.natAbs else dg t.natAbs ++ 47 :: it b) := by
        unfold atx
        rw [e]
      have ne : ∀ r, atx t b ≠ 45 :: r := fun r z => by
        have m : 45 ∈ dg t.natAbs ∨ dg t.natAbs = [] := by
          rw [e2] at z
          split at z
          · exact .inl (by rw [z]; exact List.mem_cons_self ..)
          · cases hd : dg t.natAbs with
            | nil => exact .inr rfl
            | cons c r2 =>
              rw [hd] at z
              have : c = 45 := (List.cons.inj z).1
              exact .inl (by rw [this]; exact List.mem_cons_self ..)
        rcases m with m | m
        · have := dg_all _ _ m
          omega
        · exact dg_ne _ m
      have e3 := unm_id ne
      refine ⟨by rw [e3, e2], ?_⟩
      unfold sgn
      rw [if_pos e3]
      omega
  have parts : pt3 (unm (atx t b)) = if b = 1 then (dg t.natAbs, [], []) else (dg t.natAbs, [47], it b) := by
    rw [hp.1]
    split
    · exact pt3_no n47
    · exact pt3_at n47
  have e1 : lTop (atx t b) = some t.natAbs := by
    unfold lTop
    rw [parts]
    split <;> exact fgs_dg ht
  have e2 : lBot (atx t b) = some b.natAbs := by
    unfold lBot
    rw [parts]
    by_cases b1 : b = 1
    · rw [if_pos b1]
      show some 1 = _
      rw [b1]
      rfl
    · rw [if_neg b1]
      show (if ([47] : List Nat) = [] then some 1 else fgs (it b)) = _
      rw [if_neg (by decide), eB]
      exact fgs_dg hb
  have eb : ((b.natAbs : Nat) : Int) = b := by omega
  unfold lrd
  rw [e1, e2]
  show (if b.natAbs = 0 then none else _) = _
  rw [if_neg (by omega), hp.2, eb, u.1, u.2, if_pos rfl]
theorem lrd_eq (l : List Nat) : lrd l = rdv l := by
  cases h : rdv l with
  | some x =>
    obtain ⟨t, b⟩ := x
    exact rt_lrd (rdv_rt h)
  | none =>
    cases h2 : lrd l with
    | some x =>
      obtain ⟨t, b⟩ := x
      rw [rt_rdv (lrd_rt h2)] at h
      cases h
    | none => rfl
end HX

set_option Elab.async false
set_option linter.all false
set_option maxRecDepth 100000
set_option maxHeartbeats 2000000
namespace HX
open PySem PySem.Spec PyProof.Rows L2

/-! ### repr of a list: the list itself may stand anywhere, what is in it not at sys.modules -/
theorem shows_list {P : Program} {w : World} {hp : Heap} {b : Addr} {ob : Obj} {its : Array Value} {k : Nat} {ds : List PyData} {as : List Addr} (g1 : hp.get? b = some ob) (g2 : ob.cls = .type "list") (g3 : ob.data = .seq its k) (g4 : ReadsAll hp its.toList ds as)
    (sh : (PyData.list ds).showable = true) (ns : sysModules ∉ as) (sz : (PyData.list ds).shown.length ≤ sizeLine) : ShowsBy P w hp b (.list ds) "list" "list.__repr__" := by
  have sz2 : (listText (PyData.shownAll ds)).length ≤ sizeLine := by simpa only [PyData.shown] using sz
  have sh2 : PyData.showableAll ds = true := by simpa [PyData.showable] using sh
  obtain ⟨cs, c1, c2⟩ := ReprAllK.of_readsAll (prog := P) (w := w) g4 sh2 (fun _ => ns) (fun t ht => Nat.le_trans (listText_mem_le ht) sz2)
  have out : b ∉ cs := not_mem_of_deeper (Reads.list g1 g2 g3 g4) (by simp only [PyData.depth]; omega) c1
  exact {
    slotRepr := F.slot_list_repr.toG
    slotStr := F.slot_list_str
    slotFmt := F.slot_list_format
    typeIs := fun s kp => ⟨ob, kp _ _ g1, g2⟩
    call := fun A E s Q hg hu kp hQ => by
      simp only [PyData.depth] at hu
      simp only [PyData.shown] at hQ
      obtain ⟨li⟩ := its
      cases li with
      | cons y r => exact call_list_reprK g1 g2 g3 out (by simpa using c2.length_eq) (fun i z e => c2.item i z (by simpa using e)) hg (fun z _ => Clear.nil z) hu kp hQ sz2
      | nil =>
        have g5 : ReadsAll hp [] ds as := g4
        cases g5
        simp only [PyData.shownAll, listText_nil] at hQ
        exact call_list_repr_empty ⟨ob, kp _ _ g1, g2⟩ (kp _ _ g1) g3 (hQ s.heap _ _ fun _ _ e => e) }
/-- repr of a list of data, at any address -/
def rReprL : List V → Hp → VK → Prop := fun xs H Q => ∃ (a : Addr) (vs : List V) (ds : List PyData), xs = [.ref a] ∧ H a = some (.lst vs) ∧ Das H vs ds ∧ OkD (.list ds) ∧ Q (.str (PyData.list ds).shown) H
theorem call_reprL {X : Cx} (gd : X.A.guards = some []) (hu : X.A.units + 64 < cLine) : CallR X (.builtin "repr") rReprL := by
  intro pins s σ H xs us Q I r h
  obtain ⟨a, vs, ds, rfl, ha, hd, ok, q⟩ := h
  obtain ⟨u, rfl, ru⟩ := vals1 r
  cases ru
  obtain ⟨its, rv, ⟨o, n, ho, hc, _, hda⟩, _⟩ := I.list (SqL.of ha)
  obtain ⟨as, hr, ns⟩ := Das.reads I hd rv
  have S := shows_list (P := X.prog) (w := X.w) ho hc hda (by simpa using hr) ok.sh ns ok.len
  have dp := ok.dp
  exact call_repr_slot (by omega) (S.typeIs s fun _ _ e => e) S.slotRepr (S.call X.A.in1 X.xe s _ gd (by show X.A.units + 1 + (PyData.list ds).depth < cLine; omega) (fun _ _ e => e) fun h' t tk k => ⟨_, _, rfl, .str (PyData.list ds).shown, H, I.kept k, ⟨_, rfl⟩, q⟩)
end HX

set_option Elab.async false
set_option linter.all false
set_option maxRecDepth 100000
set_option maxHeartbeats 4000000
namespace HX
open PySem PySem.Spec PyProof.Rows L2
section
variable {X : Cx}
/-- C() is raised, C an own class of errors without an own __init__ -/
theorem pmk_c0 {C : Addr} {bmB : List Value} {B newId initId : String} {x : Str} {p pos : Pos} (Fx : ExcBaseFacts B newId initId bmB) (q : PySem.W.excIn X.K C bmB newId = true) (gC : X.mg x = some (.ref C)) (kC : PySem.W.keepIn X.K (.ref C) = true) (r : Raises X (.ref C)) (hg : Gl X x)
    (hdb : (x == ("__debug__" : Str)) = false := by decide) : PMk X (.Call (.Name x p) [] [] pos) (fun _ H Q => Q (.ref C) none H) := fun pins s σ H Q I h => by
  refine wpAny_Call_Name_kw (ld_glob I hg gC ?_ hdb)
  refine PySem.W.callWith_KW0 (h₀ := X.base) I.ok.mod.kin kC rfl ?_ rfl
  refine PyProof.Rows.kwAll_nil ⟨I.kIn, ?_⟩
  show wpAny _ _ (call (.ref C) []) _ _ _
  obtain ⟨bm, N, nm, qn, bs, hdct, sn, sub, ab, col, dd, k0, k1, k2, k3, k5, mN, hC, hN, hni, T⟩ := exc_obj I.kIn q
  refine wpAny_call_exc_subT Fx T hC hN hni (fun h' a hm => ?_) (Nat.zero_le _)
  exact mk_of I hm r h (I.hok.gone hm.new)
end
/-- all but the pen's list and the tables of code stays -/
def Kt (p : Addr) (H G : Hp) : Prop := ∀ b o, b ≠ p → H b = some o → (∀ ps, o ≠ .tbl ps) → G b = some o
theorem Kt.refl {p : Addr} {H : Hp} : Kt p H H := fun _ _ _ e _ => e
theorem Kt.trans {p : Addr} {H G J : Hp} (a : Kt p H G) (b : Kt p G J) : Kt p H J := fun c o n e t => b c o n (a c o n e t) t
theorem Kt.kp {p : Addr} {H G : Hp} (k : Kp p H G) : Kt p H G := fun c o n e _ => k c o n e
theorem Kt.same {p : Addr} {H G : Hp} (k : Same H G) : Kt p H G := fun c o _ e _ => k c o e
theorem Kt.extN {p : Addr} {H G : Hp} (k : LamX.ExtN H G) : Kt p H G := fun c o _ e t => k c o e t
theorem Pe.extN {H G : Hp} {p l : Addr} {c : Int} (P : Pe H p l c) (k : LamX.ExtN H G) : Pe G p l c :=
  let ⟨ns, c0, g, q, e⟩ := P
  ⟨ns, c0, g, ⟨k _ _ q.at_ (fun _ z => by cases z), k _ _ q.cel (fun _ z => by cases z), q.ne, q.c0, q.g0⟩, e⟩
theorem Tabs.kp {T : List (Addr × Str)} {H G : Hp} {p : Addr} {o : HO} (t : LamX.Tabs T H) (hp : H p = some o) (nt : ∀ ps, o ≠ .tbl ps) (nc : ∀ q, o ≠ LamX.CodeO p q) (k : Kp p H G) : LamX.Tabs T G := fun x hx => by
  obtain ⟨ps, h1, h2, h3⟩ := t x hx
  refine ⟨ps, k _ _ (fun z => by rw [z, hp] at h1; exact nt _ (Option.some.inj h1)) h1, h2, fun pos cv hc => ?_⟩
  obtain ⟨c, e1, e2⟩ := h3 pos cv hc
  exact ⟨c, e1, k _ _ (fun z => by rw [z] at e2; rw [hp] at e2; exact nc _ (Option.some.inj e2)) e2⟩
end HX

set_option Elab.async false
set_option linter.all false
set_option maxRecDepth 100000
set_option maxHeartbeats 4000000
namespace HX
open PySem PySem.Spec PyProof.Rows L2
section
variable {X : Cx}
/-- errors are caught in a state of the def's own length -/
theorem takes_len {W : WX} (t : Takes X W) : Takes X (fun c d σ H => σ.length = X.N.length → W c d σ H) := fun u s' h => by
  obtain ⟨a, B, sI, pins, σ, H, cls, d, e, I, r1, r2, r3, r4, r5, r6, w⟩ := h
  exact t u s' ⟨a, B, sI, pins, σ, H, cls, d, e, I, r1, r2, r3, r4, r5, r6, w I.len⟩
/-- isinstance(e, (A, B, ..)) of a kept error -/
def rIsXT (K : PySem.W.Frag) : List V → Hp → VK → Prop := fun xs H Q => ∃ (a D tp : Addr) (d : Option Addr) (cs : List V) (us : List Value) (b : Bool), xs = [.ref a, .ref tp] ∧ H a = some (exT a (.ref D) d) ∧ (∀ dd, d = some dd → ∃ fs, H dd = some (.xd fs)) ∧ ExC K D ∧ H tp = some (.tup cs) ∧ (∀ ws, Vals cs ws → ws = us) ∧
  PySem.W.kitAny K (.ref D) us = some b ∧ Q (.bl b) H
theorem call_isXT : CallR X (.builtin "isinstance") (rIsXT X.K) := by
  intro pins s σ H xs us Q I r h
  obtain ⟨a, D, tp, d, cs, us', b, rfl, ea, ed, T, et, hu, hk, q⟩ := h
  obtain ⟨u, u2, rfl, r1, r2⟩ := vals2 r
  cases r1
  cases r2
  obtain ⟨its, rv, ⟨o, ho, hc, n, hd⟩, _⟩ := I.tuple (SqT.of et)
  have e2 := hu _ rv
  subst e2
  obtain ⟨oe, vs, z1, z2, z3⟩ := exT_at I.hok ea
  have hcl : (PySem.W.clsIn X.K D).isSome = true := by
    obtain ⟨cd, z, _⟩ := PySem.W.any_some T.hd
    rw [z]
    rfl
  obtain ⟨oc, odd, odt, osl⟩ := o
  dsimp only at hc hd
  subst hc
  subst hd
  cases d with
  | none => exact PySem.W.kia_tup (PySem.W.kitx_exc hcl T.ga T.gg T.sub T.ha T.hn T.ht T.hm) I.kIn (instAt_of0 z1 z2 z3) ho hk (fun z => nomatch z) fun tk => ⟨.bl b, H, I.kept (t' := tk) fun _ _ z => z, rfl, q⟩
  | some dd =>
    obtain ⟨fs, ed⟩ := ed dd rfl
    obtain ⟨mA, ⟨od, _, _, ho2, _⟩, _⟩ := (show ObjOk X.prog X.w H s.heap dd (.xd fs) from I.hok dd _ ed)
    exact PySem.W.kia_tup (PySem.W.kitx_exc hcl T.ga T.gg T.sub T.ha T.hn T.ht T.hm) I.kIn (instAt_of z1 z2 z3 ho2) ho hk (fun z => nomatch z) fun tk => ⟨.bl b, H, I.kept (t' := tk) fun _ _ z => z, rfl, q⟩
theorem vals_refs {cs : List Addr} {ws : List Value} (r : Vals (cs.map V.ref) ws) : ws = cs.map Value.ref := by
  induction cs generalizing ws with
  | nil => cases r; rfl
  | cons c cs ih =>
    cases r with
    | cons r1 r2 =>
      rw [ih r2]
      cases r1
      rfl
end
end HX

set_option Elab.async false
set_option linter.all false
set_option maxRecDepth 100000
set_option maxHeartbeats 4000000
namespace HX
open PySem PySem.Spec PyProof.Rows L2
/-- a heap without the pen's list, one more list, and the tables of code -/
def noTab : Option HO → Option HO
  | some (.tbl _) => none
  | x => x
def Hz (p q : Addr) (H : Hp) : Hp := fun b => if b = p ∨ b = q then none else noTab (H b)
/-- all but these stays -/
def Kz (p q : Addr) (H G : Hp) : Prop := ∀ b o, b ≠ p → b ≠ q → H b = some o → (∀ ps, o ≠ .tbl ps) → G b = some o
theorem noTab_some {x : Option HO} {o : HO} (h : noTab x = some o) : x = some o ∧ ∀ ps, o ≠ .tbl ps := by
  unfold noTab at h
  split at h
  · cases h
  · rename_i hn
    exact ⟨h, fun ps z => hn ps (by rw [← z]; exact h)⟩
theorem Hz.un {p q b : Addr} {H : Hp} {o : HO} (h : Hz p q H b = some o) : b ≠ p ∧ b ≠ q ∧ H b = some o ∧ ∀ ps, o ≠ .tbl ps := by
  unfold Hz at h
  split at h
  · cases h
  · rename_i hn
    obtain ⟨h1, h2⟩ := noTab_some h
    exact ⟨fun z => hn (.inl z), fun z => hn (.inr z), h1, h2⟩
theorem Hz.at_ {p q b : Addr} {H : Hp} {o : HO} (h1 : b ≠ p) (h2 : b ≠ q) (h : H b = some o) (ht : ∀ ps, o ≠ .tbl ps) : Hz p q H b = some o := by
  unfold Hz
  rw [if_neg (fun z => z.elim h1 h2), h]
  unfold noTab
  split
  · rename_i ps hp
    exact absurd (Option.some.inj hp) (ht ps)
  · rfl
theorem Hz.sub {p q : Addr} {H : Hp} : Same (Hz p q H) H := fun b o h => (Hz.un h).2.2.1
theorem Kz.hz {p q : Addr} {H G : Hp} (k : Kz p q H G) : Same (Hz p q H) (Hz p q G) := fun b o h =>
  let ⟨h1, h2, h3, h4⟩ := Hz.un h
  Hz.at_ h1 h2 (k b o h1 h2 h3 h4) h4
theorem Hz.turn {p q q' : Addr} {H : Hp} (n : H q' = none) : Same (Hz p q H) (Hz p q' H) := fun b o h =>
  let ⟨h1, _, h3, h4⟩ := Hz.un h
  Hz.at_ h1 (ne_of_none h3 n) h3 h4
theorem Kz.kp {p q : Addr} {H G : Hp} (k : Kp p H G) : Kz p q H G := fun b o n _ e _ => k b o n e
theorem Kz.same {p q : Addr} {H G : Hp} (k : Same H G) : Kz p q H G := fun b o _ _ e _ => k b o e
theorem Kz.extN {p q : Addr} {H G : Hp} (k : LamX.ExtN H G) : Kz p q H G := fun b o _ _ e t => k b o e t
theorem Kz.upd {p q : Addr} {H : Hp} {o : HO} : Kz p q H (L2.upd H q o) := fun b u _ n e _ => by rw [upd_ne n]; exact e
theorem Kz.new {p q r : Addr} {H : Hp} {o : HO} (n : H r = none) : Kz p q H (L2.upd H r o) := fun b u _ _ e _ => by rw [upd_ne (ne_of_none e n)]; exact e
theorem Kz.trans {p q : Addr} {H G J : Hp} (a : Kz p q H G) (b : Kz p q G J) : Kz p q H J := fun c o h1 h2 e t => b c o h1 h2 (a c o h1 h2 e t) t
theorem Kz.refl {p q : Addr} {H : Hp} : Kz p q H H := fun _ _ _ _ e _ => e
theorem Tabs.kz {T : List (Addr × Str)} {H G : Hp} {p l : Addr} {c : Int} (t : LamX.Tabs T H) (P : Pe H p l c) (k : Kp p H G) : LamX.Tabs T G := by
  obtain ⟨ns, c0, g, q, _⟩ := P
  exact Tabs.kp t q.at_ (fun _ z => by cases z) (fun _ z => by unfold LamX.CodeO at z; cases z) k
theorem Tabs.put {T : List (Addr × Str)} {H : Hp} {q : Addr} {xs : List V} {o : HO} (t : LamX.Tabs T H) (h : H q = some (.lst xs)) : LamX.Tabs T (L2.upd H q o) := fun x hx => by
  obtain ⟨ps, h1, h2, h3⟩ := t x hx
  refine ⟨ps, by rw [upd_ne (fun z => by rw [z, h] at h1; cases h1)]; exact h1, h2, fun pos cv hc => ?_⟩
  obtain ⟨c, e1, e2⟩ := h3 pos cv hc
  exact ⟨c, e1, by rw [upd_ne (fun z => by rw [z, h] at e2; unfold LamX.CodeO at e2; cases e2)]; exact e2⟩
/-- data that repr can show, by a look -/
theorem okD_by {d : PyData} (e : (d.showable && decide (d.depth ≤ 60) && d.leavesShort 1000 && decide (d.weight ≤ 10000)) = true) : OkD d := by
  simp only [Bool.and_eq_true, decide_eq_true_eq] at e
  exact ⟨e.1.1.1, e.1.1.2, e.1.2, e.2⟩
end HX

set_option Elab.async false
set_option linter.all false
set_option maxRecDepth 100000
set_option maxHeartbeats 4000000
namespace LW
open PySem PySem.Spec PyProof.Rows L2 HX
def top (i : Nat) : Stmt := PySem.Challenge.pw_holeshift_k26_texts_of_gaps.main.body.getD i (.Pass ⟨0, 0, 0, 0⟩)

abbrev s__wall : Stmt := top 1
abbrev n__wall : List Str := ["k"]
theorem sc__wall : FnScope n__wall ["k"] (defScope s__wall) := ⟨rfl, rfl, rfl, by decide +kernel, rfl, by decide +kernel, by decide +kernel⟩

abbrev s_BadName_init : Stmt := inClass (top 6) 0
abbrev n_BadName_init : List Str := ["self", "value"]
theorem sc_BadName_init : FnScope n_BadName_init ["self", "value"] (defScope s_BadName_init) := ⟨rfl, rfl, rfl, by decide +kernel, rfl, by decide +kernel, by decide +kernel⟩

abbrev s_BadAmount_init : Stmt := inClass (top 7) 0
abbrev n_BadAmount_init : List Str := ["self", "value"]
theorem sc_BadAmount_init : FnScope n_BadAmount_init ["self", "value"] (defScope s_BadAmount_init) := ⟨rfl, rfl, rfl, by decide +kernel, rfl, by decide +kernel, by decide +kernel⟩

abbrev s_BadGaps_init : Stmt := inClass (top 8) 0
abbrev n_BadGaps_init : List Str := ["self", "value"]
theorem sc_BadGaps_init : FnScope n_BadGaps_init ["self", "value"] (defScope s_BadGaps_init) := ⟨rfl, rfl, rfl, by decide +kernel, rfl, by decide +kernel, by decide +kernel⟩

abbrev s_BadText_init : Stmt := inClass (top 9) 0
abbrev n_BadText_init : List Str := ["self", "line", "word"]
theorem sc_BadText_init : FnScope n_BadText_init ["self", "line", "word"] (defScope s_BadText_init) := ⟨rfl, rfl, rfl, by decide +kernel, rfl, by decide +kernel, by decide +kernel⟩

abbrev s_is_int : Stmt := top 13
abbrev n_is_int : List Str := ["value"]
theorem sc_is_int : FnScope n_is_int ["value"] (defScope s_is_int) := ⟨rfl, rfl, rfl, by decide +kernel, rfl, by decide +kernel, by decide +kernel⟩

abbrev s__is_figures : Stmt := top 14
abbrev n__is_figures : List Str := ["text"]
theorem sc__is_figures : FnScope n__is_figures ["text"] (defScope s__is_figures) := ⟨rfl, rfl, rfl, by decide +kernel, rfl, by decide +kernel, by decide +kernel⟩

abbrev s_Amount_init : Stmt := inClass (top 15) 0
abbrev n_Amount_init : List Str := ["self", "top", "bottom", "shared"]
theorem sc_Amount_init : FnScope n_Amount_init ["self", "top", "bottom"] (defScope s_Amount_init) := ⟨rfl, rfl, rfl, by decide +kernel, rfl, by decide +kernel, by decide +kernel⟩

abbrev s_Amount_is_number : Stmt := inClass (top 15) 1
abbrev n_Amount_is_number : List Str := ["value"]
theorem sc_Amount_is_number : FnScope n_Amount_is_number ["value"] (defScope s_Amount_is_number) := ⟨rfl, rfl, rfl, by decide +kernel, rfl, by decide +kernel, by decide +kernel⟩

abbrev s_Amount_of : Stmt := inClass (top 15) 2
abbrev n_Amount_of : List Str := ["number"]
theorem sc_Amount_of : FnScope n_Amount_of ["number"] (defScope s_Amount_of) := ⟨rfl, rfl, rfl, by decide +kernel, rfl, by decide +kernel, by decide +kernel⟩

abbrev s_Amount_total : Stmt := inClass (top 15) 3
abbrev n_Amount_total : List Str := ["numbers"]
theorem sc_Amount_total : FnScope n_Amount_total ["numbers"] (defScope s_Amount_total) := ⟨rfl, rfl, rfl, by decide +kernel, rfl, by decide +kernel, by decide +kernel⟩

abbrev s_Amount_read : Stmt := inClass (top 15) 4
abbrev n_Amount_read : List Str := ["cls", "text", "above", "stroke", "below", "amount"]
theorem sc_Amount_read : FnScope n_Amount_read ["cls", "text"] (defScope s_Amount_read) := ⟨rfl, rfl, rfl, by decide +kernel, rfl, by decide +kernel, by decide +kernel⟩

abbrev s_Amount_str : Stmt := inClass (top 15) 5
abbrev n_Amount_str : List Str := ["self"]
theorem sc_Amount_str : FnScope n_Amount_str ["self"] (defScope s_Amount_str) := ⟨rfl, rfl, rfl, by decide +kernel, rfl, by decide +kernel, by decide +kernel⟩

abbrev s_Amount_is_whole : Stmt := inClass (top 15) 6
abbrev n_Amount_is_whole : List Str := ["self"]
theorem sc_Amount_is_whole : FnScope n_Amount_is_whole ["self"] (defScope s_Amount_is_whole) := ⟨rfl, rfl, rfl, by decide +kernel, rfl, by decide +kernel, by decide +kernel⟩

abbrev s_Amount_over : Stmt := inClass (top 15) 7
abbrev n_Amount_over : List Str := ["self", "number", "divisor"]
theorem sc_Amount_over : FnScope n_Amount_over ["self", "number"] (defScope s_Amount_over) := ⟨rfl, rfl, rfl, by decide +kernel, rfl, by decide +kernel, by decide +kernel⟩

abbrev s_Amount_add : Stmt := inClass (top 15) 8
abbrev n_Amount_add : List Str := ["self", "other"]
theorem sc_Amount_add : FnScope n_Amount_add ["self", "other"] (defScope s_Amount_add) := ⟨rfl, rfl, rfl, by decide +kernel, rfl, by decide +kernel, by decide +kernel⟩

abbrev s_Amount_radd : Stmt := inClass (top 15) 9
abbrev n_Amount_radd : List Str := ["self", "other"]
theorem sc_Amount_radd : FnScope n_Amount_radd ["self", "other"] (defScope s_Amount_radd) := ⟨rfl, rfl, rfl, by decide +kernel, rfl, by decide +kernel, by decide +kernel⟩

abbrev s_Amount_iadd : Stmt := inClass (top 15) 10
abbrev n_Amount_iadd : List Str := ["self", "other"]
theorem sc_Amount_iadd : FnScope n_Amount_iadd ["self", "other"] (defScope s_Amount_iadd) := ⟨rfl, rfl, rfl, by decide +kernel, rfl, by decide +kernel, by decide +kernel⟩

abbrev s_Amount_sub : Stmt := inClass (top 15) 11
abbrev n_Amount_sub : List Str := ["self", "other"]
theorem sc_Amount_sub : FnScope n_Amount_sub ["self", "other"] (defScope s_Amount_sub) := ⟨rfl, rfl, rfl, by decide +kernel, rfl, by decide +kernel, by decide +kernel⟩

abbrev s_Amount_rsub : Stmt := inClass (top 15) 12
abbrev n_Amount_rsub : List Str := ["self", "other"]
theorem sc_Amount_rsub : FnScope n_Amount_rsub ["self", "other"] (defScope s_Amount_rsub) := ⟨rfl, rfl, rfl, by decide +kernel, rfl, by decide +kernel, by decide +kernel⟩

abbrev s_Amount_isub : Stmt := inClass (top 15) 13
abbrev n_Amount_isub : List Str := ["self", "other"]
theorem sc_Amount_isub : FnScope n_Amount_isub ["self", "other"] (defScope s_Amount_isub) := ⟨rfl, rfl, rfl, by decide +kernel, rfl, by decide +kernel, by decide +kernel⟩

abbrev s_Amount_mul : Stmt := inClass (top 15) 14
abbrev n_Amount_mul : List Str := ["self", "other"]
theorem sc_Amount_mul : FnScope n_Amount_mul ["self", "other"] (defScope s_Amount_mul) := ⟨rfl, rfl, rfl, by decide +kernel, rfl, by decide +kernel, by decide +kernel⟩

abbrev s_Amount_rmul : Stmt := inClass (top 15) 15
abbrev n_Amount_rmul : List Str := ["self", "other"]
theorem sc_Amount_rmul : FnScope n_Amount_rmul ["self", "other"] (defScope s_Amount_rmul) := ⟨rfl, rfl, rfl, by decide +kernel, rfl, by decide +kernel, by decide +kernel⟩

abbrev s_Amount_imul : Stmt := inClass (top 15) 16
abbrev n_Amount_imul : List Str := ["self", "other"]
theorem sc_Amount_imul : FnScope n_Amount_imul ["self", "other"] (defScope s_Amount_imul) := ⟨rfl, rfl, rfl, by decide +kernel, rfl, by decide +kernel, by decide +kernel⟩

abbrev s_Amount_floordiv : Stmt := inClass (top 15) 17
abbrev n_Amount_floordiv : List Str := ["self", "other", "quotient"]
theorem sc_Amount_floordiv : FnScope n_Amount_floordiv ["self", "other"] (defScope s_Amount_floordiv) := ⟨rfl, rfl, rfl, by decide +kernel, rfl, by decide +kernel, by decide +kernel⟩

abbrev s_Amount_rfloordiv : Stmt := inClass (top 15) 18
abbrev n_Amount_rfloordiv : List Str := ["self", "other"]
theorem sc_Amount_rfloordiv : FnScope n_Amount_rfloordiv ["self", "other"] (defScope s_Amount_rfloordiv) := ⟨rfl, rfl, rfl, by decide +kernel, rfl, by decide +kernel, by decide +kernel⟩

abbrev s_Amount_ifloordiv : Stmt := inClass (top 15) 19
abbrev n_Amount_ifloordiv : List Str := ["self", "other"]
theorem sc_Amount_ifloordiv : FnScope n_Amount_ifloordiv ["self", "other"] (defScope s_Amount_ifloordiv) := ⟨rfl, rfl, rfl, by decide +kernel, rfl, by decide +kernel, by decide +kernel⟩

abbrev s_Amount_mod : Stmt := inClass (top 15) 20
abbrev n_Amount_mod : List Str := ["self", "other"]
theorem sc_Amount_mod : FnScope n_Amount_mod ["self", "other"] (defScope s_Amount_mod) := ⟨rfl, rfl, rfl, by decide +kernel, rfl, by decide +kernel, by decide +kernel⟩

abbrev s_Amount_rmod : Stmt := inClass (top 15) 21
abbrev n_Amount_rmod : List Str := ["self", "other"]
theorem sc_Amount_rmod : FnScope n_Amount_rmod ["self", "other"] (defScope s_Amount_rmod) := ⟨rfl, rfl, rfl, by decide +kernel, rfl, by decide +kernel, by decide +kernel⟩

abbrev s_Amount_imod : Stmt := inClass (top 15) 22
abbrev n_Amount_imod : List Str := ["self", "other"]
theorem sc_Amount_imod : FnScope n_Amount_imod ["self", "other"] (defScope s_Amount_imod) := ⟨rfl, rfl, rfl, by decide +kernel, rfl, by decide +kernel, by decide +kernel⟩

abbrev s_Amount_neg : Stmt := inClass (top 15) 23
abbrev n_Amount_neg : List Str := ["self"]
theorem sc_Amount_neg : FnScope n_Amount_neg ["self"] (defScope s_Amount_neg) := ⟨rfl, rfl, rfl, by decide +kernel, rfl, by decide +kernel, by decide +kernel⟩

abbrev s_Amount_abs : Stmt := inClass (top 15) 24
abbrev n_Amount_abs : List Str := ["self"]
theorem sc_Amount_abs : FnScope n_Amount_abs ["self"] (defScope s_Amount_abs) := ⟨rfl, rfl, rfl, by decide +kernel, rfl, by decide +kernel, by decide +kernel⟩

abbrev s_Amount_bool : Stmt := inClass (top 15) 25
abbrev n_Amount_bool : List Str := ["self"]
theorem sc_Amount_bool : FnScope n_Amount_bool ["self"] (defScope s_Amount_bool) := ⟨rfl, rfl, rfl, by decide +kernel, rfl, by decide +kernel, by decide +kernel⟩

abbrev s_Amount_eq : Stmt := inClass (top 15) 26
abbrev n_Amount_eq : List Str := ["self", "other"]
theorem sc_Amount_eq : FnScope n_Amount_eq ["self", "other"] (defScope s_Amount_eq) := ⟨rfl, rfl, rfl, by decide +kernel, rfl, by decide +kernel, by decide +kernel⟩

abbrev s_Amount_lt : Stmt := inClass (top 15) 27
abbrev n_Amount_lt : List Str := ["self", "other", "number"]
theorem sc_Amount_lt : FnScope n_Amount_lt ["self", "other"] (defScope s_Amount_lt) := ⟨rfl, rfl, rfl, by decide +kernel, rfl, by decide +kernel, by decide +kernel⟩

abbrev s_Amount_le : Stmt := inClass (top 15) 28
abbrev n_Amount_le : List Str := ["self", "other", "number"]
theorem sc_Amount_le : FnScope n_Amount_le ["self", "other"] (defScope s_Amount_le) := ⟨rfl, rfl, rfl, by decide +kernel, rfl, by decide +kernel, by decide +kernel⟩

abbrev s_Amount_gt : Stmt := inClass (top 15) 29
abbrev n_Amount_gt : List Str := ["self", "other", "number"]
theorem sc_Amount_gt : FnScope n_Amount_gt ["self", "other"] (defScope s_Amount_gt) := ⟨rfl, rfl, rfl, by decide +kernel, rfl, by decide +kernel, by decide +kernel⟩

abbrev s_Amount_ge : Stmt := inClass (top 15) 30
abbrev n_Amount_ge : List Str := ["self", "other", "number"]
theorem sc_Amount_ge : FnScope n_Amount_ge ["self", "other"] (defScope s_Amount_ge) := ⟨rfl, rfl, rfl, by decide +kernel, rfl, by decide +kernel, by decide +kernel⟩

abbrev s_is_name : Stmt := top 18
abbrev n_is_name : List Str := ["value"]
theorem sc_is_name : FnScope n_is_name ["value"] (defScope s_is_name) := ⟨rfl, rfl, rfl, by decide +kernel, rfl, by decide +kernel, by decide +kernel⟩

abbrev s_need_name : Stmt := top 19
abbrev n_need_name : List Str := ["value"]
theorem sc_need_name : FnScope n_need_name ["value"] (defScope s_need_name) := ⟨rfl, rfl, rfl, by decide +kernel, rfl, by decide +kernel, by decide +kernel⟩

abbrev s__ascending_names : Stmt := top 21
abbrev n__ascending_names : List Str := ["values", "key", "names", "name"]
theorem sc__ascending_names : FnScope n__ascending_names ["values"] (defScope s__ascending_names) := ⟨rfl, rfl, rfl, by decide +kernel, rfl, by decide +kernel, by decide +kernel⟩

abbrev s__read_gap : Stmt := top 22
abbrev n__read_gap : List Str := ["word", "at", "gap"]
theorem sc__read_gap : FnScope n__read_gap ["word", "at"] (defScope s__read_gap) := ⟨rfl, rfl, rfl, by decide +kernel, rfl, by decide +kernel, by decide +kernel⟩

abbrev s_gaps_of : Stmt := top 23
abbrev n_gaps_of : List Str := ["amounts", "made", "account", "gap"]
theorem sc_gaps_of : FnScope n_gaps_of ["amounts"] (defScope s_gaps_of) := ⟨rfl, rfl, rfl, by decide +kernel, rfl, by decide +kernel, by decide +kernel⟩

abbrev s_Gaps_init : Stmt := inClass (top 24) 0
abbrev n_Gaps_init : List Str := ["self", "values", "told", "account", "gap"]
theorem sc_Gaps_init : FnScope n_Gaps_init ["self", "values"] (defScope s_Gaps_init) := ⟨rfl, rfl, rfl, by decide +kernel, rfl, by decide +kernel, by decide +kernel⟩

abbrev s_Gaps_lone : Stmt := inClass (top 24) 1
abbrev n_Gaps_lone : List Str := ["account", "number"]
theorem sc_Gaps_lone : FnScope n_Gaps_lone ["account", "number"] (defScope s_Gaps_lone) := ⟨rfl, rfl, rfl, by decide +kernel, rfl, by decide +kernel, by decide +kernel⟩

abbrev s_Gaps_read : Stmt := inClass (top 24) 2
abbrev n_Gaps_read : List Str := ["cls", "text", "words", "told", "account", "at", "word"]
theorem sc_Gaps_read : FnScope n_Gaps_read ["cls", "text"] (defScope s_Gaps_read) := ⟨rfl, rfl, rfl, by decide +kernel, rfl, by decide +kernel, by decide +kernel⟩

abbrev s_Gaps_str : Stmt := inClass (top 24) 3
abbrev n_Gaps_str : List Str := ["self", "account", "gap"]
theorem sc_Gaps_str : FnScope n_Gaps_str ["self"] (defScope s_Gaps_str) := ⟨rfl, rfl, rfl, by decide +kernel, rfl, by decide +kernel, by decide +kernel⟩

abbrev s_Gaps_accounts : Stmt := inClass (top 24) 4
abbrev n_Gaps_accounts : List Str := ["self"]
theorem sc_Gaps_accounts : FnScope n_Gaps_accounts ["self"] (defScope s_Gaps_accounts) := ⟨rfl, rfl, rfl, by decide +kernel, rfl, by decide +kernel, by decide +kernel⟩

abbrev s_Gaps_hole : Stmt := inClass (top 24) 5
abbrev n_Gaps_hole : List Str := ["self"]
theorem sc_Gaps_hole : FnScope n_Gaps_hole ["self"] (defScope s_Gaps_hole) := ⟨rfl, rfl, rfl, by decide +kernel, rfl, by decide +kernel, by decide +kernel⟩

abbrev s_Gaps_getitem : Stmt := inClass (top 24) 6
abbrev n_Gaps_getitem : List Str := ["self", "account"]
theorem sc_Gaps_getitem : FnScope n_Gaps_getitem ["self", "account"] (defScope s_Gaps_getitem) := ⟨rfl, rfl, rfl, by decide +kernel, rfl, by decide +kernel, by decide +kernel⟩

abbrev s_Gaps_iter : Stmt := inClass (top 24) 7
abbrev n_Gaps_iter : List Str := ["self"]
theorem sc_Gaps_iter : FnScope n_Gaps_iter ["self"] (defScope s_Gaps_iter) := ⟨rfl, rfl, rfl, by decide +kernel, rfl, by decide +kernel, by decide +kernel⟩

abbrev s_Gaps_contains : Stmt := inClass (top 24) 8
abbrev n_Gaps_contains : List Str := ["self", "value"]
theorem sc_Gaps_contains : FnScope n_Gaps_contains ["self", "value"] (defScope s_Gaps_contains) := ⟨rfl, rfl, rfl, by decide +kernel, rfl, by decide +kernel, by decide +kernel⟩

abbrev s_Gaps_len : Stmt := inClass (top 24) 9
abbrev n_Gaps_len : List Str := ["self"]
theorem sc_Gaps_len : FnScope n_Gaps_len ["self"] (defScope s_Gaps_len) := ⟨rfl, rfl, rfl, by decide +kernel, rfl, by decide +kernel, by decide +kernel⟩

abbrev s_Gaps_eq : Stmt := inClass (top 24) 10
abbrev n_Gaps_eq : List Str := ["self", "other"]
theorem sc_Gaps_eq : FnScope n_Gaps_eq ["self", "other"] (defScope s_Gaps_eq) := ⟨rfl, rfl, rfl, by decide +kernel, rfl, by decide +kernel, by decide +kernel⟩

abbrev s_Gaps_add : Stmt := inClass (top 24) 11
abbrev n_Gaps_add : List Str := ["self", "other", "accounts", "account"]
theorem sc_Gaps_add : FnScope n_Gaps_add ["self", "other"] (defScope s_Gaps_add) := ⟨rfl, rfl, rfl, by decide +kernel, rfl, by decide +kernel, by decide +kernel⟩

abbrev s_Gaps_iadd : Stmt := inClass (top 24) 12
abbrev n_Gaps_iadd : List Str := ["self", "other"]
theorem sc_Gaps_iadd : FnScope n_Gaps_iadd ["self", "other"] (defScope s_Gaps_iadd) := ⟨rfl, rfl, rfl, by decide +kernel, rfl, by decide +kernel, by decide +kernel⟩

abbrev s_Gaps_sub : Stmt := inClass (top 24) 13
abbrev n_Gaps_sub : List Str := ["self", "other"]
theorem sc_Gaps_sub : FnScope n_Gaps_sub ["self", "other"] (defScope s_Gaps_sub) := ⟨rfl, rfl, rfl, by decide +kernel, rfl, by decide +kernel, by decide +kernel⟩

abbrev s_Gaps_isub : Stmt := inClass (top 24) 14
abbrev n_Gaps_isub : List Str := ["self", "other"]
theorem sc_Gaps_isub : FnScope n_Gaps_isub ["self", "other"] (defScope s_Gaps_isub) := ⟨rfl, rfl, rfl, by decide +kernel, rfl, by decide +kernel, by decide +kernel⟩

abbrev s_Gaps_mul : Stmt := inClass (top 24) 15
abbrev n_Gaps_mul : List Str := ["self", "other", "account", "gap"]
theorem sc_Gaps_mul : FnScope n_Gaps_mul ["self", "other"] (defScope s_Gaps_mul) := ⟨rfl, rfl, rfl, by decide +kernel, rfl, by decide +kernel, by decide +kernel⟩

abbrev s_Gaps_rmul : Stmt := inClass (top 24) 16
abbrev n_Gaps_rmul : List Str := ["self", "other"]
theorem sc_Gaps_rmul : FnScope n_Gaps_rmul ["self", "other"] (defScope s_Gaps_rmul) := ⟨rfl, rfl, rfl, by decide +kernel, rfl, by decide +kernel, by decide +kernel⟩

abbrev s_Gaps_imul : Stmt := inClass (top 24) 17
abbrev n_Gaps_imul : List Str := ["self", "other"]
theorem sc_Gaps_imul : FnScope n_Gaps_imul ["self", "other"] (defScope s_Gaps_imul) := ⟨rfl, rfl, rfl, by decide +kernel, rfl, by decide +kernel, by decide +kernel⟩

abbrev s_Gaps_neg : Stmt := inClass (top 24) 18
abbrev n_Gaps_neg : List Str := ["self"]
theorem sc_Gaps_neg : FnScope n_Gaps_neg ["self"] (defScope s_Gaps_neg) := ⟨rfl, rfl, rfl, by decide +kernel, rfl, by decide +kernel, by decide +kernel⟩

abbrev s_Gaps_over : Stmt := inClass (top 24) 19
abbrev n_Gaps_over : List Str := ["self", "number"]
theorem sc_Gaps_over : FnScope n_Gaps_over ["self", "number"] (defScope s_Gaps_over) := ⟨rfl, rfl, rfl, by decide +kernel, rfl, by decide +kernel, by decide +kernel⟩

abbrev s_Gaps_behind : Stmt := inClass (top 24) 20
abbrev n_Gaps_behind : List Str := ["self", "shift", "number"]
theorem sc_Gaps_behind : FnScope n_Gaps_behind ["self", "shift", "number"] (defScope s_Gaps_behind) := ⟨rfl, rfl, rfl, by decide +kernel, rfl, by decide +kernel, by decide +kernel⟩

abbrev s__law_pen : Stmt := top 26
abbrev n__law_pen : List Str := ["_law_script"]
theorem sc__law_pen : FnScope n__law_pen ["_law_script"] (defScope s__law_pen) := ⟨rfl, rfl, rfl, by decide +kernel, rfl, by decide +kernel, by decide +kernel⟩

abbrev s__law_draw : Stmt := top 27
abbrev n__law_draw : List Str := ["_law_pen_here", "_law_many", "_law_digit", "_law_at", "_law_cell", "_law_great", "_law_mixed"]
theorem sc__law_draw : FnScope n__law_draw ["_law_pen_here", "_law_many"] (defScope s__law_draw) := ⟨rfl, rfl, rfl, by decide +kernel, rfl, by decide +kernel, by decide +kernel⟩

abbrev s__law_pick : Stmt := top 28
abbrev n__law_pick : List Str := ["_law_pen_here", "_law_some"]
theorem sc__law_pick : FnScope n__law_pick ["_law_pen_here", "_law_some"] (defScope s__law_pick) := ⟨rfl, rfl, rfl, by decide +kernel, rfl, by decide +kernel, by decide +kernel⟩

abbrev s__law_names : Stmt := top 29
abbrev n__law_names : List Str := ["_law_pen_here", "_law_many", "_law_letters", "_law_stem", "_law_spot", "_law_front", "_law_k"]
theorem sc__law_names : FnScope n__law_names ["_law_pen_here", "_law_many"] (defScope s__law_names) := ⟨rfl, rfl, rfl, by decide +kernel, rfl, by decide +kernel, by decide +kernel⟩

abbrev s__law_lowest : Stmt := top 30
abbrev n__law_lowest : List Str := ["_law_top", "_law_bottom", "_law_one", "_law_other", "_law_sign"]
theorem sc__law_lowest : FnScope n__law_lowest ["_law_top", "_law_bottom"] (defScope s__law_lowest) := ⟨rfl, rfl, rfl, by decide +kernel, rfl, by decide +kernel, by decide +kernel⟩

abbrev s__law_sum : Stmt := top 31
abbrev n__law_sum : List Str := ["_law_one", "_law_two"]
theorem sc__law_sum : FnScope n__law_sum ["_law_one", "_law_two"] (defScope s__law_sum) := ⟨rfl, rfl, rfl, by decide +kernel, rfl, by decide +kernel, by decide +kernel⟩

abbrev s__law_times : Stmt := top 32
abbrev n__law_times : List Str := ["_law_one", "_law_two"]
theorem sc__law_times : FnScope n__law_times ["_law_one", "_law_two"] (defScope s__law_times) := ⟨rfl, rfl, rfl, by decide +kernel, rfl, by decide +kernel, by decide +kernel⟩

abbrev s__law_pair : Stmt := top 33
abbrev n__law_pair : List Str := ["_law_pen_here", "_law_top"]
theorem sc__law_pair : FnScope n__law_pair ["_law_pen_here"] (defScope s__law_pair) := ⟨rfl, rfl, rfl, by decide +kernel, rfl, by decide +kernel, by decide +kernel⟩

abbrev s__law_number : Stmt := top 34
abbrev n__law_number : List Str := ["_law_pen_here", "_law_pair_here"]
theorem sc__law_number : FnScope n__law_number ["_law_pen_here", "_law_pair_here"] (defScope s__law_number) := ⟨rfl, rfl, rfl, by decide +kernel, rfl, by decide +kernel, by decide +kernel⟩

abbrev s__law_word : Stmt := top 35
abbrev n__law_word : List Str := ["_law_pair_here"]
theorem sc__law_word : FnScope n__law_word ["_law_pair_here"] (defScope s__law_word) := ⟨rfl, rfl, rfl, by decide +kernel, rfl, by decide +kernel, by decide +kernel⟩

abbrev s__law_text : Stmt := top 36
abbrev n__law_text : List Str := ["_law_plain", "_law_name", "_law_one"]
theorem sc__law_text : FnScope n__law_text ["_law_plain"] (defScope s__law_text) := ⟨rfl, rfl, rfl, by decide +kernel, rfl, by decide +kernel, by decide +kernel⟩

abbrev s__law_is_name : Stmt := top 37
abbrev n__law_is_name : List Str := ["_law_word_here", "_law_sign"]
theorem sc__law_is_name : FnScope n__law_is_name ["_law_word_here"] (defScope s__law_is_name) := ⟨rfl, rfl, rfl, by decide +kernel, rfl, by decide +kernel, by decide +kernel⟩

abbrev s__law_figures : Stmt := top 38
abbrev n__law_figures : List Str := ["_law_told_text", "_law_sign"]
theorem sc__law_figures : FnScope n__law_figures ["_law_told_text"] (defScope s__law_figures) := ⟨rfl, rfl, rfl, by decide +kernel, rfl, by decide +kernel, by decide +kernel⟩

abbrev s__law_amount : Stmt := top 39
abbrev n__law_amount : List Str := ["_law_word_here", "_law_plain", "_law_above", "_law_stroke", "_law_below", "_law_top", "_law_bottom", "_law_found"]
theorem sc__law_amount : FnScope n__law_amount ["_law_word_here"] (defScope s__law_amount) := ⟨rfl, rfl, rfl, by decide +kernel, rfl, by decide +kernel, by decide +kernel⟩

abbrev s__law_due : Stmt := top 40
abbrev n__law_due : List Str := ["_law_told_text", "_law_words", "_law_found", "_law_ahead", "_law_at", "_law_pair_here"]
theorem sc__law_due : FnScope n__law_due ["_law_told_text"] (defScope s__law_due) := ⟨rfl, rfl, rfl, by decide +kernel, rfl, by decide +kernel, by decide +kernel⟩

abbrev s__law_heard : Stmt := top 41
abbrev n__law_heard : List Str := ["_law_told_text", "_law_caught", "_law_found", "error", "_law_name"]
theorem sc__law_heard : FnScope n__law_heard ["_law_told_text"] (defScope s__law_heard) := ⟨rfl, rfl, rfl, by decide +kernel, rfl, by decide +kernel, by decide +kernel⟩

abbrev s__law_bent : Stmt := top 42
abbrev n__law_bent : List Str := ["_law_pen_here", "_law_told_text", "_law_words", "_law_way", "_law_at", "_law_spot", "_law_some", "_law_word_here"]
theorem sc__law_bent : FnScope n__law_bent ["_law_pen_here", "_law_told_text"] (defScope s__law_bent) := ⟨rfl, rfl, rfl, by decide +kernel, rfl, by decide +kernel, by decide +kernel⟩

abbrev s__law_same : Stmt := top 43
abbrev n__law_same : List Str := ["_law_told", "_law_name", "_law_one"]
theorem sc__law_same : FnScope n__law_same ["_law_told"] (defScope s__law_same) := ⟨rfl, rfl, rfl, by decide +kernel, rfl, by decide +kernel, by decide +kernel⟩

abbrev s_law : Stmt := top 44
abbrev n_law : List Str := ["_law_script", "_law_pen_here", "_law_turn", "_law_names_here", "_law_drawn", "_law_plain", "_law_told_text", "_law_gaps", "_law_again", "_law_bent_here", "_law_odd", "_law_name"]
theorem sc_law : FnScope n_law ["_law_script"] (defScope s_law) := ⟨rfl, rfl, rfl, by decide +kernel, rfl, by decide +kernel, by decide +kernel⟩

/-- what the module's names are -/
structure Txt (K : PySem.W.Frag) (mg : Str → Option Value) : Prop where
  b_int : mg "int" = none
  b_len : mg "len" = none
  b_abs : mg "abs" = none
  b_list : mg "list" = none
  b_range : mg "range" = none
  b_isinstance : mg "isinstance" = none
  b_repr : mg "repr" = none
  b_bool : mg "bool" = none
/-- .. the class Amount -/
structure AmC (K : PySem.W.Frag) (mg : Str → Option Value) (A fI pO gO pN gN : Addr) (mc : Value) : Prop where
  g_Amount : mg "Amount" = some (.ref A)
  gcd : mg "gcd" = some (.builtin "math.gcd")
  cls : Cls K A
  nT : NoAttr K A "top"
  nB : NoAttr K A "bottom"
  mkr : Mk K A fI
  ha : PySem.W.findIn K (.ref A) "__class__" = some (some (.builtin "object.__class__"))
  hn : PySem.W.specialIn K (.builtin "object.__class__") "__get__" = some (some (.builtin "getset_descriptor.__get__"))
  ht : PySem.W.takesIn K (.builtin "object.__class__") = some true
  hm : PySem.W.mroIn K A (.type "object") = some true
  kI : PySem.W.kitOne K (.ref A) (.type "int") = some false
  kA : PySem.W.kitOne K (.type "int") (.ref A) = some false
  sO : SMet K A mc "of" pO gO
  sN : SMet K A mc "is_number" pN gN

section
variable {P : Program} {w : World} {K : PySem.W.Frag} {mg : Str → Option Value} {base : Heap}

theorem funD_ok {x qual : Str} {prm : Arguments} {body : List Stmt} {scope : Scope} {dvs : List V} {kws : List (Str × V)} {f : Addr} {fd : FuncData} {N ps : List Str} {k : Nat} {sp : Sp} (F : FunD K x qual prm body scope dvs kws f fd) (S : FnScope N ps scope) (ln : ∀ vs H Q E, sp vs H Q E → vs.length = ps.length)
    (hb : ∀ (cdv : Value) (A : Around) (outer : List Env) (s : Shared) (H : Hp) (vs : List V) (Q : VK) (E : XK), Room k (A.deeper (envOfC qual scope s.heap.objs.size f cdv)) → sp vs H Q E →
      ∃ t, PSs (cxOf CX0 P w K mg base N qual scope f cdv A outer s H E).nox body t ∧ t { nx := fun _ H' => Q .non H', rt := Q } (start N vs) H) : FnOk P w K mg base CX0 (k + 1) f fd ps sp := by
  refine F.ok S ln fun cdv A outer s H vs Q E hr hsp => ?_
  obtain ⟨t, h, q⟩ := hb cdv A outer s H vs Q E hr hsp
  exact ⟨t, h.nox, q⟩

def spInit (A : Addr) : Sp := fun vs H Q _ => ∃ (x dx : Addr) (p q : Int), vs = [.ref x, .int p, .int q] ∧ H x = some (.ins A dx []) ∧ q ≠ 0 ∧ Sm 9000 p ∧ Sm 9000 q ∧
  ∀ G, (∀ b o, b ≠ x → H b = some o → G b = some o) → G x = some (.ins A dx (afs (nT p q) (nB p q))) → Q .non G
def spOf (A : Addr) : Sp := fun vs H Q _ => ∃ v t b, vs = [v] ∧ Nu A H v t b ∧ Sm 9000 t ∧ ∀ r G, Same H G → Am A G r t b → Q (.ref r) G
theorem mkA {A : Addr} {H : Hp} {Q : VK} {E : XK} {p q : Int} (z : q ≠ 0) (sp : Sm 9000 p) (sq : Sm 9000 q) (k : QA A H Q (nT p q) (nB p q)) : ∀ x dx, H x = none → H dx = none → dx ≠ x →
    spInit A (.ref x :: [.int p, .int q]) (upd (upd H dx (.own x)) x (.ins A dx [])) (fun v H2 => v = .non ∧ Q (.ref x) H2) E := fun x dx nx nd ne =>
  ⟨x, dx, p, q, rfl, upd_same, z, sp, sq, fun G kp gx => ⟨rfl, k x G nx (fun b o e => kp b o (ne_of_none e nx) (by rw [upd_ne (ne_of_none e nx), upd_ne (ne_of_none e nd)]; exact e)) ⟨dx, gx⟩⟩⟩
theorem mkR {A : Addr} {H : Hp} {R : Addr → Hp → Prop} {E : XK} {p q : Int} (z : q ≠ 0) (sp : Sm 9000 p) (sq : Sm 9000 q) (k : ∀ r G, H r = none → Same H G → Am A G r (nT p q) (nB p q) → R r G) : ∀ x dx, H x = none → H dx = none → dx ≠ x →
    spInit A (.ref x :: [.int p, .int q]) (upd (upd H dx (.own x)) x (.ins A dx [])) (fun v H2 => v = .non ∧ R x H2) E := fun x dx nx nd ne =>
  ⟨x, dx, p, q, rfl, upd_same, z, sp, sq, fun G kp gx => ⟨rfl, k x G nx (fun b o e => kp b o (ne_of_none e nx) (by rw [upd_ne (ne_of_none e nx), upd_ne (ne_of_none e nd)]; exact e)) ⟨dx, gx⟩⟩⟩

theorem kit_self (K : PySem.W.Frag) (C : Addr) : PySem.W.kitOne K (.ref C) (.ref C) = some true := by
  unfold PySem.W.kitOne
  rw [if_pos (by simp)]

theorem ok_is_int {A fI pO gO pN gN f : Addr} {mc : Value} {fd : FuncData} (F : Fun K "is_int" "is_int" s_is_int f fd) (T : Txt K mg) (U : AmC K mg A fI pO gO pN gN mc) : FnOk P w K mg base CX0 1 f fd ["value"] (spIsInt A) := by
  refine F.ok sc_is_int (fun vs H Q E h => ?_) (fun cdv A' outer s H vs Q E hr h => ?_)
  · obtain ⟨v, rfl, _⟩ := h
    rfl
  · obtain ⟨v, rfl, k⟩ := h
    refine ⟨_, (pss_one (ps_ret (e_and (pe_callB c_isi (by rfl) T.b_isinstance (by decide +kernel) (pa_cons (pc 0) (pa_cons (pe_bltn (v := .ty "int") (u := .type "int") (by rfl) T.b_int (by decide +kernel) rfl) pa_nil))) (pe_one (e_not (pe_callB c_isi (by rfl) T.b_isinstance (by decide +kernel) (pa_cons (pc 0) (pa_cons (pe_bltn (v := .ty "bool") (u := .type "bool") (by rfl) T.b_bool (by decide +kernel) rfl) pa_nil)))))))), ?_⟩
    rcases k with ⟨⟨i, rfl⟩, k⟩ | ⟨a, rfl, ⟨dx, fs, e⟩, k⟩
    · exact ⟨_, _, _, _, true, rfl, .int i, (fun u r => r), rfl, ⟨fun _ => ⟨_, _, _, _, false, rfl, .int i, (fun u r => r), rfl, k⟩, fun h => absurd h (by decide)⟩⟩
    · exact ⟨_, _, _, _, false, rfl, .ins e U.cls U.ha U.hn U.ht U.hm, (fun u r => r), U.kI, ⟨fun h => absurd h (by decide), fun _ => k⟩⟩

theorem ok_init {A fI pO gO pN gN f : Addr} {mc : Value} {fd : FuncData} (F : FunD K "__init__" "Amount.__init__" (defArgs s_Amount_init) (defBody s_Amount_init) (defScope s_Amount_init) [.int 1] [] f fd) (T : Txt K mg) (U : AmC K mg A fI pO gO pN gN mc) (cI : CalO P w K mg base "is_int" 1 ["value"] (spIsInt A) (fun _ => True)) : FnOk P w K mg base CX0 2 f fd ["self", "top", "bottom"] (spInit A) := by
  refine funD_ok F sc_Amount_init (fun vs H Q E h => ?_) (fun cdv A' outer s H vs Q E hr h => ?_)
  · obtain ⟨x, dx, p, q, rfl, _⟩ := h
    rfl
  · obtain ⟨x, dx, p, q, rfl, hx, qz, sp, sq, k⟩ := h
    refine ⟨_, (pss_cons (s_if (pt_not (t_val (pe_cO cI (hr.mono (by decide)) (pa_cons (pc 1) pa_nil)))) (pss_one ps_dead) pss_nil)
    (pss_cons (s_if (pt_not (t_val (pe_cO cI (hr.mono (by decide)) (pa_cons (pc 2) pa_nil)))) (pss_one ps_dead) pss_nil)
    (pss_cons (s_if (t_cmp (o_eq hr.units) (pc 2) pe_int) (pss_one ps_dead) pss_nil)
    (pss_cons (ps_set (i := 3) sc_Amount_init.nd rfl (Or.inl rfl) (e_if (t_cmp o_gt (pc 2) pe_int) (pe_callBfun cr_gcd rfl U.gcd (pa_cons (pc 1) (pa_cons (pc 2) pa_nil))) (pe_un un_neg (pe_callBfun cr_gcd rfl U.gcd (pa_cons (pc 1) (pa_cons (pc 2) pa_nil))))))
    (pss_cons (ps_fld (pc 0) (pe_op o_fdivZ (pc 1) (pc 3)) (by rfl))
    (pss_one (ps_fld (pc 0) (pe_op o_fdivZ (pc 2) (pc 3)) (by rfl)))))))), ?_⟩
    have g0 := gcdZ_pos (p := p) qz
    have gS : Sm 9000 (gcdZ p q) := by
      have z : Nat.gcd p.natAbs q.natAbs ≤ q.natAbs := Nat.gcd_le_right _ (by omega)
      exact Nat.lt_of_le_of_lt z sq
    refine ⟨_, rfl, .inl ⟨⟨p, rfl⟩, ⟨fun h => absurd h (by decide), fun _ => ⟨_, rfl, .inl ⟨⟨q, rfl⟩, ⟨fun h => absurd h (by decide), fun _ => ⟨fun h => absurd h (by simp [qz]), fun _ => ⟨fun c => ⟨p, q, rfl, ?_⟩, fun c => ⟨p, q, rfl, _, rfl, ?_⟩⟩⟩⟩⟩⟩⟩⟩⟩
    · have c := of_decide_eq_true c
      have e1 := fdiv_sg qz (gcdZ_p p q)
      have e2 := fdiv_sg qz (gcdZ_q p q)
      rw [if_neg (by omega)] at e1 e2
      refine ⟨gS.cDiv (by omega), x, A, dx, _, rfl, hx, U.cls, U.nT, by decide, gS.cDiv (by omega), x, A, dx, _, rfl, upd_same, U.cls, U.nB, by show 1 < 1000; decide, k _ (fun b o n e => by rw [upd_ne n, upd_ne n]; exact e) ?_⟩
      rw [upd_same]
      show some (HO.ins A dx [("top", V.int (p.fdiv (gcdZ p q))), ("bottom", V.int (q.fdiv (gcdZ p q)))]) = _
      rw [e1, e2]
      rfl
    · have c := of_decide_eq_false c
      have e1 := fdiv_sg qz (gcdZ_p p q)
      have e2 := fdiv_sg qz (gcdZ_q p q)
      rw [if_pos (by omega)] at e1 e2
      refine ⟨(gS.neg).cDiv (by omega), x, A, dx, _, rfl, hx, U.cls, U.nT, by decide, (gS.neg).cDiv (by omega), x, A, dx, _, rfl, upd_same, U.cls, U.nB, by show 1 < 1000; decide, k _ (fun b o n e => by rw [upd_ne n, upd_ne n]; exact e) ?_⟩
      rw [upd_same]
      show some (HO.ins A dx [("top", V.int (p.fdiv (-gcdZ p q))), ("bottom", V.int (q.fdiv (-gcdZ p q)))]) = _
      rw [e1, e2]
      rfl

theorem ok_is_number {A fI pO gO pN gN f : Addr} {mc : Value} {fd : FuncData} (F : Fun K "is_number" "Amount.is_number" s_Amount_is_number f fd) (T : Txt K mg) (U : AmC K mg A fI pO gO pN gN mc) (cI : CalO P w K mg base "is_int" 1 ["value"] (spIsInt A) (fun _ => True)) : FnOk P w K mg base CX0 2 f fd ["value"] (spIsNum A) := by
  refine F.ok sc_Amount_is_number (fun vs H Q E h => ?_) (fun cdv A' outer s H vs Q E hr h => ?_)
  · obtain ⟨v, t, b, rfl, _⟩ := h
    rfl
  · obtain ⟨v, t, b, rfl, n, k⟩ := h
    refine ⟨_, (pss_one (ps_ret (e_or (pe_cO cI (hr.mono (by decide)) (pa_cons (pc 0) pa_nil)) (pe_one (pe_callB c_isi (by rfl) T.b_isinstance (by decide +kernel) (pa_cons (pc 0) (pa_cons (p_gc U.g_Amount) pa_nil))))))), ?_⟩
    rcases n with ⟨a, rfl, dx, e⟩ | ⟨rfl, rfl⟩
    · exact ⟨_, rfl, .inr ⟨a, rfl, ⟨dx, _, e⟩, ⟨fun h => absurd h (by decide), fun _ => ⟨_, _, _, _, true, rfl, .ins e U.cls U.ha U.hn U.ht U.hm, (fun u r => r), kit_self K A, k⟩⟩⟩⟩
    · exact ⟨_, rfl, .inl ⟨⟨t, rfl⟩, ⟨fun _ => k, fun h => absurd h (by decide)⟩⟩⟩

theorem ok_of {A fI pO gO pN gN f : Addr} {mc : Value} {fd : FuncData} (F : Fun K "of" "Amount.of" s_Amount_of f fd) (T : Txt K mg) (U : AmC K mg A fI pO gO pN gN mc) {fdI : FuncData} (FI : FnOk P w K mg base CX0 2 fI fdI ["self", "top", "bottom"] (spInit A)) {ds : List Value} (bI1 : Binds K fdI ["self", "top", "bottom"] ds) (vI1 : Vals [V.int 1] ds) (bI2 : Binds K fdI ["self", "top", "bottom"] []) : FnOk P w K mg base CX0 4 f fd ["number"] (spOf A) := by
  refine F.ok sc_Amount_of (fun vs H Q E h => ?_) (fun cdv A' outer s H vs Q E hr h => ?_)
  · obtain ⟨v, t, b, rfl, _⟩ := h
    rfl
  · obtain ⟨v, t, b, rfl, n, st, k⟩ := h
    refine ⟨_, (pss_cons (s_if (t_val (pe_callB c_isi (by rfl) T.b_isinstance (by decide +kernel) (pa_cons (pc 0) (pa_cons (p_gc U.g_Amount) pa_nil)))) (pss_one (ps_ret (pc 0))) pss_nil)
    (pss_one (ps_ret (pe_make U.mkr FI (hr.mono (by decide)) rfl U.g_Amount bI1 vI1 pass0 (pa_cons (pc 0) pa_nil))))), ?_⟩
    rcases n with ⟨a, rfl, dx, e⟩ | ⟨rfl, rfl⟩
    · exact ⟨_, _, _, _, true, rfl, .ins e U.cls U.ha U.hn U.ht U.hm, (fun u r => r), kit_self K A, ⟨fun _ => k a H (Same.refl _) ⟨dx, e⟩, fun h => absurd h (by decide)⟩⟩
    · refine ⟨_, _, _, _, false, rfl, .int t, (fun u r => r), U.kA, ⟨fun h => absurd h (by decide), fun _ => ?_⟩⟩
      have e := n_self (low_int t)
      refine mkA (p := t) (q := 1) (by decide) st (sm_one.mono (by decide)) fun r G n s a => ?_
      rw [e.1, e.2] at a
      exact k r G s a

def pAdd (t b c d : Int) : Int := t * d + c * b
def qBD (_ b _ d : Int) : Int := b * d
def pSub (t b c d : Int) : Int := t * d + -c * b
def pRsub (t b c d : Int) : Int := -t * d + c * b
def pMul (t _ c _ : Int) : Int := t * c
def pOver (t _ _ d : Int) : Int := t * d
def qBC (_ b c _ : Int) : Int := b * c
def spNeg (A : Addr) (g : Int → Int) : Sp := fun vs H Q _ => ∃ (a : Addr) (t b : Int), vs = [.ref a] ∧ Am A H a t b ∧ Low t b ∧ Sm 8600 t ∧ Sm 8600 b ∧ QA A H Q (g t) b
def absI (i : Int) : Int := if i < 0 then -i else i
/-- // : an int -/
def spFl (A : Addr) (p q : Int → Int → Int → Int → Int) : Sp := fun vs H Q _ => ∃ (a : Addr) (v : V) (t b c d : Int), vs = [.ref a, v] ∧ Am A H a t b ∧ Nu A H v c d ∧ Low t b ∧ Low c d ∧ Sm 4300 t ∧ Sm 4300 b ∧ Sm 4300 c ∧ Sm 4300 d ∧ q t b c d ≠ 0 ∧ ∀ G, Same H G → Q (.int ((p t b c d).fdiv (q t b c d))) G

theorem ok_Amount_over {A fI pO gO pN gN f : Addr} {mc : Value} {fd : FuncData} (F : Fun K "over" "Amount.over" s_Amount_over f fd) (T : Txt K mg) (U : AmC K mg A fI pO gO pN gN mc) {fdI : FuncData} (FI : FnOk P w K mg base CX0 2 fI fdI ["self", "top", "bottom"] (spInit A)) {ds : List Value} (bI1 : Binds K fdI ["self", "top", "bottom"] ds) (vI1 : Vals [V.int 1] ds) (bI2 : Binds K fdI ["self", "top", "bottom"] []) {fdO fdN : FuncData} (FO : FnOk P w K mg base CX0 4 gO fdO ["number"] (spOf A)) (bO : Binds K fdO ["number"] []) (FN : FnOk P w K mg base CX0 2 gN fdN ["value"] (spIsNum A)) (bN : Binds K fdN ["value"] []) : FnOk P w K mg base CX0 5 f fd ["self", "number"] (spBin A 4300 pOver qBC) := by
  refine F.ok sc_Amount_over (fun vs H Q E h => ?_) (fun cdv A' outer s H vs Q E hr h => ?_)
  · obtain ⟨a, v, t, b, c, d, rfl, _⟩ := h
    rfl
  · obtain ⟨a, v, t, b, c, d, rfl, am, n, lo, lo2, St, Sb, Sc, Sd, qz, k⟩ := h
    refine ⟨_, (pss_cons (ps_set (i := 2) sc_Amount_over.nd rfl (Or.inl rfl) (pe_sm (p_gc U.g_Amount) U.sO FO bO (hr.mono (by decide)) pass0 (pa_cons (pc 1) pa_nil)))
    (pss_one (ps_ret (pe_make U.mkr FI (hr.mono (by decide)) rfl U.g_Amount bI2 .nil pass0 (pa_cons (pe_op o_mulW (pe_fld (pc 0) rfl) (pe_fld (pc 2) rfl)) (pa_cons (pe_op o_mulW (pe_fld (pc 0) rfl) (pe_fld (pc 2) rfl)) pa_nil)))))), ?_⟩
    refine ⟨rfl, v, c, d, rfl, n, Sc.mono (by decide), fun r G s a2 => ?_⟩
    obtain ⟨dx, e⟩ := am.mo s
    obtain ⟨dr, er⟩ := a2
    exact ⟨a, A, _, _, _, rfl, e, U.cls, U.nT, rfl, r, A, _, _, _, rfl, er, U.cls, U.nB, rfl, St.cMul Sd, a, A, _, _, _, rfl, e, U.cls, U.nB, rfl, r, A, _, _, _, rfl, er, U.cls, U.nT, rfl, Sb.cMul Sc, mkA qz ((St.mul Sd).mono (by decide)) ((Sb.mul Sc).mono (by decide)) (k.mo s)⟩

theorem ok_Amount_add {A fI pO gO pN gN f : Addr} {mc : Value} {fd : FuncData} (F : Fun K "__add__" "Amount.__add__" s_Amount_add f fd) (T : Txt K mg) (U : AmC K mg A fI pO gO pN gN mc) {fdI : FuncData} (FI : FnOk P w K mg base CX0 2 fI fdI ["self", "top", "bottom"] (spInit A)) {ds : List Value} (bI1 : Binds K fdI ["self", "top", "bottom"] ds) (vI1 : Vals [V.int 1] ds) (bI2 : Binds K fdI ["self", "top", "bottom"] []) (cI : CalO P w K mg base "is_int" 1 ["value"] (spIsInt A) (fun _ => True)) : FnOk P w K mg base CX0 5 f fd ["self", "other"] (spBin A 4300 pAdd qBD) := by
  refine F.ok sc_Amount_add (fun vs H Q E h => ?_) (fun cdv A' outer s H vs Q E hr h => ?_)
  · obtain ⟨a, v, t, b, c, d, rfl, _⟩ := h
    rfl
  · obtain ⟨a, v, t, b, c, d, rfl, am, n, lo, lo2, St, Sb, Sc, Sd, qz, k⟩ := h
    refine ⟨_, (pss_cons (s_if (t_val (pe_callB c_isi (by rfl) T.b_isinstance (by decide +kernel) (pa_cons (pc 1) (pa_cons (p_gc U.g_Amount) pa_nil)))) (pss_one (ps_ret (pe_make U.mkr FI (hr.mono (by decide)) rfl U.g_Amount bI2 .nil pass0 (pa_cons (pe_op o_add (pe_op o_mulW (pe_fld (pc 0) rfl) (pe_fld (pc 1) rfl)) (pe_op o_mulW (pe_fld (pc 1) rfl) (pe_fld (pc 0) rfl))) (pa_cons (pe_op o_mulW (pe_fld (pc 0) rfl) (pe_fld (pc 1) rfl)) pa_nil))))) pss_nil)
    (pss_cons (s_if (pt_not (t_val (pe_cO cI (hr.mono (by decide)) (pa_cons (pc 1) pa_nil)))) (pss_one ps_dead) pss_nil)
    (pss_one (ps_ret (pe_make U.mkr FI (hr.mono (by decide)) rfl U.g_Amount bI2 .nil pass0 (pa_cons (pe_op o_add (pe_fld (pc 0) rfl) (pe_op o_mulW (pc 1) (pe_fld (pc 0) rfl))) (pa_cons (pe_fld (pc 0) rfl) pa_nil))))))), ?_⟩
    rcases n with ⟨y, rfl, an⟩ | ⟨rfl, rfl⟩
    · obtain ⟨dx, e⟩ := id am
      obtain ⟨dr, er⟩ := id an
      exact ⟨_, _, _, _, true, rfl, .ins er U.cls U.ha U.hn U.ht U.hm, (fun u r => r), kit_self K A, ⟨fun _ => ⟨a, A, _, _, _, rfl, e, U.cls, U.nT, rfl, y, A, _, _, _, rfl, er, U.cls, U.nB, rfl, St.cMul Sd, y, A, _, _, _, rfl, er, U.cls, U.nT, rfl, a, A, _, _, _, rfl, e, U.cls, U.nB, rfl, Sc.cMul Sb, a, A, _, _, _, rfl, e, U.cls, U.nB, rfl, y, A, _, _, _, rfl, er, U.cls, U.nB, rfl, Sb.cMul Sd, mkA qz (((St.mul Sd).add (Sc.mul Sb)).mono (by decide)) ((Sb.mul Sd).mono (by decide)) k⟩, fun h => absurd h (by decide)⟩⟩
    · obtain ⟨dx, e⟩ := id am
      have bz : b ≠ 0 := by have := lo.1; omega
      refine ⟨_, _, _, _, false, rfl, .int c, (fun u r => r), U.kA, ⟨fun h => absurd h (by decide), fun _ => ⟨_, rfl, .inl ⟨⟨c, rfl⟩, ⟨fun h => absurd h (by decide), fun _ => ⟨a, A, _, _, _, rfl, e, U.cls, U.nT, rfl, a, A, _, _, _, rfl, e, U.cls, U.nB, rfl, Sc.cMul Sb, a, A, _, _, _, rfl, e, U.cls, U.nB, rfl, mkA (p := t + c * b) (q := b) bz ((((St.mono (by decide : 4300 ≤ 8600)).add (Sc.mul Sb))).mono (by decide)) (Sb.mono (by decide)) ?_⟩⟩⟩⟩⟩⟩
      simpa [pAdd, qBD] using k

theorem ok_Amount_mul {A fI pO gO pN gN f : Addr} {mc : Value} {fd : FuncData} (F : Fun K "__mul__" "Amount.__mul__" s_Amount_mul f fd) (T : Txt K mg) (U : AmC K mg A fI pO gO pN gN mc) {fdI : FuncData} (FI : FnOk P w K mg base CX0 2 fI fdI ["self", "top", "bottom"] (spInit A)) {ds : List Value} (bI1 : Binds K fdI ["self", "top", "bottom"] ds) (vI1 : Vals [V.int 1] ds) (bI2 : Binds K fdI ["self", "top", "bottom"] []) (cI : CalO P w K mg base "is_int" 1 ["value"] (spIsInt A) (fun _ => True)) : FnOk P w K mg base CX0 5 f fd ["self", "other"] (spBin A 4300 pMul qBD) := by
  refine F.ok sc_Amount_mul (fun vs H Q E h => ?_) (fun cdv A' outer s H vs Q E hr h => ?_)
  · obtain ⟨a, v, t, b, c, d, rfl, _⟩ := h
    rfl
  · obtain ⟨a, v, t, b, c, d, rfl, am, n, lo, lo2, St, Sb, Sc, Sd, qz, k⟩ := h
    refine ⟨_, (pss_cons (s_if (t_val (pe_callB c_isi (by rfl) T.b_isinstance (by decide +kernel) (pa_cons (pc 1) (pa_cons (p_gc U.g_Amount) pa_nil)))) (pss_one (ps_ret (pe_make U.mkr FI (hr.mono (by decide)) rfl U.g_Amount bI2 .nil pass0 (pa_cons (pe_op o_mulW (pe_fld (pc 0) rfl) (pe_fld (pc 1) rfl)) (pa_cons (pe_op o_mulW (pe_fld (pc 0) rfl) (pe_fld (pc 1) rfl)) pa_nil))))) pss_nil)
    (pss_cons (s_if (pt_not (t_val (pe_cO cI (hr.mono (by decide)) (pa_cons (pc 1) pa_nil)))) (pss_one ps_dead) pss_nil)
    (pss_one (ps_ret (pe_make U.mkr FI (hr.mono (by decide)) rfl U.g_Amount bI2 .nil pass0 (pa_cons (pe_op o_mulW (pe_fld (pc 0) rfl) (pc 1)) (pa_cons (pe_fld (pc 0) rfl) pa_nil))))))), ?_⟩
    rcases n with ⟨y, rfl, an⟩ | ⟨rfl, rfl⟩
    · obtain ⟨dx, e⟩ := id am
      obtain ⟨dr, er⟩ := id an
      exact ⟨_, _, _, _, true, rfl, .ins er U.cls U.ha U.hn U.ht U.hm, (fun u r => r), kit_self K A, ⟨fun _ => ⟨a, A, _, _, _, rfl, e, U.cls, U.nT, rfl, y, A, _, _, _, rfl, er, U.cls, U.nT, rfl, St.cMul Sc, a, A, _, _, _, rfl, e, U.cls, U.nB, rfl, y, A, _, _, _, rfl, er, U.cls, U.nB, rfl, Sb.cMul Sd, mkA qz ((St.mul Sc).mono (by decide)) ((Sb.mul Sd).mono (by decide)) k⟩, fun h => absurd h (by decide)⟩⟩
    · obtain ⟨dx, e⟩ := id am
      have bz : b ≠ 0 := by have := lo.1; omega
      refine ⟨_, _, _, _, false, rfl, .int c, (fun u r => r), U.kA, ⟨fun h => absurd h (by decide), fun _ => ⟨_, rfl, .inl ⟨⟨c, rfl⟩, ⟨fun h => absurd h (by decide), fun _ => ⟨a, A, _, _, _, rfl, e, U.cls, U.nT, rfl, St.cMul Sc, a, A, _, _, _, rfl, e, U.cls, U.nB, rfl, mkA (p := t * c) (q := b) bz ((St.mul Sc).mono (by decide)) (Sb.mono (by decide)) ?_⟩⟩⟩⟩⟩⟩
      simpa [pMul, qBD] using k

theorem ok_Amount_neg {A fI pO gO pN gN f : Addr} {mc : Value} {fd : FuncData} (F : Fun K "__neg__" "Amount.__neg__" s_Amount_neg f fd) (T : Txt K mg) (U : AmC K mg A fI pO gO pN gN mc) {fdI : FuncData} (FI : FnOk P w K mg base CX0 2 fI fdI ["self", "top", "bottom"] (spInit A)) {ds : List Value} (bI1 : Binds K fdI ["self", "top", "bottom"] ds) (vI1 : Vals [V.int 1] ds) (bI2 : Binds K fdI ["self", "top", "bottom"] []) : FnOk P w K mg base CX0 4 f fd ["self"] (spNeg A Neg.neg) := by
  refine F.ok sc_Amount_neg (fun vs H Q E h => ?_) (fun cdv A' outer s H vs Q E hr h => ?_)
  · obtain ⟨a, t, b, rfl, _⟩ := h
    rfl
  · obtain ⟨a, t, b, rfl, ⟨dx, e⟩, lo, St, Sb, k⟩ := h
    refine ⟨_, (pss_one (ps_ret (pe_make U.mkr FI (hr.mono (by decide)) rfl U.g_Amount bI2 .nil pass0 (pa_cons (pe_un un_neg (pe_fld (pc 0) rfl)) (pa_cons (pe_fld (pc 0) rfl) pa_nil))))), ?_⟩
    refine ⟨a, A, _, _, _, rfl, e, U.cls, U.nT, rfl, _, rfl, a, A, _, _, _, rfl, e, U.cls, U.nB, rfl, mkA (p := Neg.neg t) (by have := lo.1; omega) ((St.neg).mono (by decide)) (Sb.mono (by decide)) fun r G n s am => ?_⟩
    have z := n_self (show Low (Neg.neg t) b from low_neg lo)
    rw [z.1, z.2] at am
    exact k r G n s am

theorem sm_abs {n : Nat} {i : Int} (h : Sm n i) : Sm n (absI i) := by
  unfold absI
  split
  · exact h.neg
  · exact h
theorem ok_Amount_abs {A fI pO gO pN gN f : Addr} {mc : Value} {fd : FuncData} (F : Fun K "__abs__" "Amount.__abs__" s_Amount_abs f fd) (T : Txt K mg) (U : AmC K mg A fI pO gO pN gN mc) {fdI : FuncData} (FI : FnOk P w K mg base CX0 2 fI fdI ["self", "top", "bottom"] (spInit A)) {ds : List Value} (bI1 : Binds K fdI ["self", "top", "bottom"] ds) (vI1 : Vals [V.int 1] ds) (bI2 : Binds K fdI ["self", "top", "bottom"] []) : FnOk P w K mg base CX0 4 f fd ["self"] (spNeg A absI) := by
  refine F.ok sc_Amount_abs (fun vs H Q E h => ?_) (fun cdv A' outer s H vs Q E hr h => ?_)
  · obtain ⟨a, t, b, rfl, _⟩ := h
    rfl
  · obtain ⟨a, t, b, rfl, ⟨dx, e⟩, lo, St, Sb, k⟩ := h
    refine ⟨_, (pss_one (ps_ret (pe_make U.mkr FI (hr.mono (by decide)) rfl U.g_Amount bI2 .nil pass0 (pa_cons (pe_callB c_abs (by rfl) T.b_abs (by decide +kernel) (pa_cons (pe_fld (pc 0) rfl) pa_nil)) (pa_cons (pe_fld (pc 0) rfl) pa_nil))))), ?_⟩
    refine ⟨a, A, _, _, _, rfl, e, U.cls, U.nT, rfl, a, A, _, _, _, rfl, e, U.cls, U.nB, rfl, mkA (p := absI t) (by have := lo.1; omega) ((sm_abs St).mono (by decide)) (Sb.mono (by decide)) fun r G n s am => ?_⟩
    have z := n_self (show Low (absI t) b from low_abs lo)
    rw [z.1, z.2] at am
    exact k r G n s am

def intT (i : Int) : Str := Str.ofString (toString i)
def amText (t b : Int) : Str := if b = 1 then intT t else ((Str.empty ++ intT t) ++ (Str.ofString "/")) ++ intT b
theorem intT_len {i : Int} {n : Nat} (h : Sm n i) (h0 : 0 < n) : (intT i).length ≤ n + 1 := by
  have e := int_text_length_le (a := i) (k := n) h0 (PySem.Flt.log2_lt_of h0 h)
  show (Str.ofString (toString i)).length ≤ n + 1
  rw [PySem.ofString_length]
  exact e
theorem amText_at (t b : Int) : amText t b = ofL (atx t b) := by
  have e : (Str.ofString "/") = ofL [47] := by decide +kernel
  have e0 : Str.empty ++ intT t = intT t := by
    show Str.mk (#[] ++ _) = _
    simp
  unfold amText atx intT at *
  rw [it_text, it_text] at *
  split
  · rfl
  · rw [e0, e, ofL_app, ofL_app]
    simp
def spStr (A : Addr) : Sp := fun vs H Q _ => ∃ (a : Addr) (t b : Int), vs = [.ref a] ∧ Am A H a t b ∧ Sm 4300 t ∧ Sm 4300 b ∧ Q (.str (ofL (atx t b))) H
theorem wsm {i : Int} (h : Sm 4300 i) : i.natAbs < 10 ^ 4300 := wide_sm (n := 4300) h

theorem ok_Amount_str {A fI pO gO pN gN f : Addr} {mc : Value} {fd : FuncData} (F : Fun K "__str__" "Amount.__str__" s_Amount_str f fd) (T : Txt K mg) (T2 : mg "str" = none) (ND : NoDg K) (U : AmC K mg A fI pO gO pN gN mc) : FnOk P w K mg base CX0 2 f fd ["self"] (spStr A) := by
  refine F.ok sc_Amount_str (fun vs H Q E h => ?_) (fun cdv A' outer s H vs Q E hr h => ?_)
  · obtain ⟨a, t, b, rfl, _⟩ := h
    rfl
  · obtain ⟨a, t, b, rfl, ⟨dx, e⟩, St, Sb, k⟩ := h
    refine ⟨_, (pss_cons (s_if (t_cmp (o_eq hr.units) (pe_fld (pc 0) rfl) pe_int) (pss_one (ps_ret (pe_callTy (call_str_intW (k := 1) ND (hr.mono (by decide))) (by rfl) T2 (by decide +kernel) (pa_cons (pe_fld (pc 0) rfl) pa_nil)))) pss_nil)
    (pss_one (ps_ret (pe_joined (PJ.cons (pe_fmtW (k := 1) ND (hr.mono (by decide)) (pe_fld (pc 0) rfl)) (PJ.cons pe_str (PJ.cons (pe_fmtW (k := 1) ND (hr.mono (by decide)) (pe_fld (pc 0) rfl)) PJ.nil))))))), ?_⟩
    have l1 := intT_len St (by decide)
    have l2 := intT_len Sb (by decide)
    rw [← amText_at] at k
    refine ⟨a, A, _, _, _, rfl, e, U.cls, U.nB, rfl, ⟨fun x => ?_, fun x => ?_⟩⟩
    · have x : b = 1 := by simpa using x
      rw [show amText t b = intT t from if_pos x] at k
      exact ⟨a, A, _, _, _, rfl, e, U.cls, U.nT, rfl, t, rfl, wsm St, k⟩
    · have x : ¬ b = 1 := by simpa using x
      rw [show amText t b = ((Str.empty ++ intT t) ++ (Str.ofString "/")) ++ intT b from if_neg x] at k
      have big := size_line_big
      have e0 : Str.empty.length = 0 := rfl
      have e1 : (Str.ofString "/").length = 1 := rfl
      refine ⟨a, A, _, _, _, rfl, e, U.cls, U.nT, rfl, t, rfl, wsm St, intT t, rfl, by rw [Str.length_append]; omega, _, rfl, by rw [Str.length_append, Str.length_append]; omega, a, A, _, _, _, rfl, e, U.cls, U.nB, rfl, b, rfl, wsm Sb, intT b, rfl, by rw [Str.length_append, Str.length_append, Str.length_append]; omega, k⟩

end
end LW
set_option Elab.async false
set_option linter.all false
set_option maxRecDepth 100000
set_option maxHeartbeats 4000000
namespace LW
open PySem PySem.Spec PyProof.Rows L2 HX NumText
section
variable {P : Program} {w : World} {K : PySem.W.Frag} {mg : Str → Option Value} {base : Heap}

def spFigs : Sp := fun vs H Q _ => ∃ l : List Nat, vs = [.str (ofL l)] ∧ l.length ≤ 100000 ∧ Q (.bl (figB l)) H

section
variable (P : Program) (w : World) (K : PySem.W.Frag) (mg : Str → Option Value) (base : Heap)
/-- a method without arguments -/
def UnC (A : Addr) (x : Str) (sp : Sp) : Prop := ∃ (f : Addr) (fd : FuncData), PySem.W.findIn K (.ref A) x = some (some (.ref f)) ∧ PySem.W.isFn K (.ref f) = true ∧ FnOk P w K mg base CX0 5 f fd ["self"] sp ∧ Binds K fd ["self"] []
end
theorem str_c {X : Cx} {A : Addr} (C : UnC X.prog X.w X.K X.mg X.base A "__str__" (spStr A)) (hr : Room 7 X.A) : CallR X (.type "str") (rStrO A (spStr A) (fun _ _ _ => False)) := by
  obtain ⟨f, fd, hs, hf, F1, b⟩ := C
  exact call_strO hs hf F1 b hr pass0

theorem sm_ten {i : Int} (h : i.natAbs < 10 ^ 200) : Sm 700 i := Nat.lt_trans h (by decide +kernel)
theorem fig_read {l : List Nat} (h : figB l = true) : PySem.intText? (ofL l) = some ((digitsVal l : Nat) : Int) := by
  obtain ⟨h1, h2, h3⟩ := figB_iff.mp h
  rw [intText_digits (x := ofL l) (by rw [ofL_cps]; exact h1) (by rw [ofL_cps]; exact h2) (by rw [ofL_len]; omega), ofL_cps]
theorem fig_lt {l : List Nat} (h : figB l = true) : (((digitsVal l : Nat) : Int)).natAbs < 10 ^ 200 := by
  obtain ⟨h1, h2, h3⟩ := figB_iff.mp h
  simpa using pow_len h1 h3
theorem fig_len {l : List Nat} (h : figB l = true) : l.length ≤ 200 := (figB_iff.mp h).2.2
theorem unm_len (l : List Nat) : (unm l).length ≤ l.length ∧ l.length ≤ (unm l).length + 1 := by
  unfold unm
  split
  · rename_i r
    rw [List.length_cons]
    omega
  · omega
theorem pt3_len : ∀ l : List Nat, (pt3 l).1.length ≤ l.length ∧ (pt3 l).2.2.length ≤ l.length
  | [] => ⟨Nat.le_refl _, Nat.le_refl _⟩
  | c :: r => by
    have ih := pt3_len r
    by_cases h : c = 47
    · have e : pt3 (c :: r) = ([], [47], r) := if_pos h
      simp only [e, List.length_cons]
      exact ⟨Nat.zero_le _, Nat.le_succ _⟩
    · have e : pt3 (c :: r) = (c :: (pt3 r).1, (pt3 r).2.1, (pt3 r).2.2) := if_neg h
      simp only [e, List.length_cons]
      omega
/-- a text that is refused -/
def RzT (BT : Addr) (H : Hp) (E : XK) : Prop := ∀ G dd, Same H G → H dd = none → G dd = some (.xd [("word", .int 0), ("line", .int 0)]) → E (.ref BT) (some dd) G
theorem RzT.mo {BT : Addr} {H G : Hp} {E : XK} (s : Same H G) (h : RzT BT H E) : RzT BT G E := fun J dd s2 n e => h J dd (s.trans s2) (s.free n) e
theorem RzT.ans {BT : Addr} {H : Hp} {E : XK} (h : RzT BT H E) : [V.int 0, V.int 0].length ≤ 1000 ∧ ∀ a, H a = none → spI2 BT "line" "word" (.ref a :: ([V.int 0, V.int 0] ++ [])) (upd H a (exo a BT none))
      (fun z G => z = .non ∧ ∃ (d : Addr) (fs : List (Str × V)), G a = some (exo a BT (some d)) ∧ G d = some (exd d fs) ∧ H d = none ∧ E (.ref BT) (some d) (upd (del G a) d (.xd fs))) (fun _ _ _ => False) :=
  mk2_ans (Q := fun cls dd G => E cls dd G) fun dd nd => h _ dd (Same.new (Same.refl _) nd) nd upd_same
def spRead (K : PySem.W.Frag) (A BT : Addr) : Sp := fun vs H Q E => ∃ x : V, vs = [.ref A, x] ∧ ((∃ l : List Nat, x = .str (ofL l) ∧ l.length ≤ 100000 ∧ ((∃ t b : Int, rdv l = some (t, b) ∧ QA A H Q t b) ∨ (rdv l = none ∧ RzT BT H E))) ∨
  (∃ t, TyOf K H x t ∧ PySem.W.kitOne K t (.type "str") = some false) ∧ RzT BT H E)

theorem ok_figs {f : Addr} {fd : FuncData} (F : Fun K "_is_figures" "_is_figures" s__is_figures f fd) (T : Txt K mg) (hmost : ∃ t, mg "MOST_FIGURES" = some (.int 200 t)) : FnOk P w K mg base CX0 1 f fd ["text"] spFigs := by
  refine F.ok sc__is_figures (fun vs H Q E h => ?_) (fun cdv A' outer s H vs Q E hr h => ?_)
  · obtain ⟨l, rfl, _⟩ := h
    rfl
  · obtain ⟨l, rfl, ln, k⟩ := h
    refine ⟨_, (pss_one (ps_ret (e_and (pe_m0 PySem.F.slot_str_isascii PySem.F.type_str_isascii mt_isascii (pc 0)) (e_and (pe_m0 PySem.F.slot_str_isdigit PySem.F.type_str_isdigit mt_isdigit (pc 0)) (pe_one (p_cmp o_le (pe_callB c_len (by rfl) T.b_len (by decide +kernel) (pa_cons (pc 0) pa_nil)) (p_gi hmost))))))), ?_⟩
    unfold figB at k
    refine ⟨⟨_, rfl⟩, _, rfl, rfl, trivial, ⟨fun h1 => ⟨⟨_, rfl⟩, _, rfl, rfl, trivial, ⟨fun h2 => ?_, fun h2 => ?_⟩⟩, fun h1 => ?_⟩⟩
    · rw [h1, h2] at k
      have e : decide (((ofL l).length : Int) ≤ 200) = decide (l.length ≤ 200) := by rw [ofL_len]; exact decide_eq_decide.mpr (by omega)
      refine ⟨by rw [ofL_len, sizeLine_eq]; omega, ?_⟩
      show Q (.bl (decide (((ofL l).length : Int) ≤ 200))) H
      rw [e]
      exact k
    · rw [h1, h2] at k
      exact k
    · rw [h1] at k
      exact k

theorem ok_readR {A fI pO gO pN gN f BT : Addr} {mc : Value} {fd : FuncData} (F : Fun K "read" "Amount.read" s_Amount_read f fd) (T : Txt K mg) (U : AmC K mg A fI pO gO pN gN mc) {fdI : FuncData} (FI : FnOk P w K mg base CX0 2 fI fdI ["self", "top", "bottom"] (spInit A)) {ds : List Value} (bI1 : Binds K fdI ["self", "top", "bottom"] ds) (vI1 : Vals [V.int 1] ds) (bI2 : Binds K fdI ["self", "top", "bottom"] []) (cFi : CalO P w K mg base "_is_figures" 1 ["text"] spFigs (fun _ => True)) (hstr : mg "str" = none) (cSt : UnC P w K mg base A "__str__" (spStr A)) (Z : ErrC P w K mg base "BadText" BT ["self", "line", "word"] (spI2 BT "line" "word")) : FnOk P w K mg base (CX P w) 9 f fd ["cls", "text"] (spRead K A BT) := by
  refine F.okX sc_Amount_read (fun vs H Q E h => ?_) (fun cdv A' outer s H vs Q E hr h => ?_)
  · obtain ⟨x, rfl, _⟩ := h
    rfl
  · obtain ⟨x, rfl, hc⟩ := h
    refine ⟨_, (pss_cons (s_if (pt_not (t_val (pe_callB c_isi (by rfl) T.b_isinstance (by decide +kernel) (pa_cons (pc 1) (pa_cons (pe_bltn (v := .ty "str") (u := .type "str") (by rfl) hstr (by decide +kernel) rfl) pa_nil))))) (pss_one (ps_rz Z rfl (hr.mono (by decide)) (takes_of rfl rfl rfl rfl) (pa_cons pe_int (pa_cons pe_int pa_nil)))) pss_nil)
    (pss_cons (ps_asg (pe_partition (pc 1) pe_str) (pg_tup rfl (pgs_cons (pg_name (i := 2) sc_Amount_read.nd rfl (Or.inl rfl)) (pgs_cons (pg_name (i := 3) sc_Amount_read.nd rfl (Or.inl rfl)) (pgs_cons (pg_name (i := 4) sc_Amount_read.nd rfl (Or.inl rfl)) pgs_nil)))))
    (pss_cons (s_if (t_cmp (o_eq hr.units) (pc 3) pe_str) (pss_one (ps_set (i := 4) sc_Amount_read.nd rfl (Or.inl rfl) pe_str)) pss_nil)
    (pss_cons (s_if (PW.pt (w_or (pt_not (t_val (pe_cO cFi (hr.mono (by decide)) (pa_cons (pe_m1 PySem.F.slot_str_removeprefix PySem.F.type_str_removeprefix mt_removeprefix (pc 2) pe_str) pa_nil)))) (w_or (pt_not (t_val (pe_cO cFi (hr.mono (by decide)) (pa_cons (pc 4) pa_nil)))) (pw_or1 (t_cmp (o_eq hr.units) (pe_callTy call_int_str (by rfl) T.b_int (by decide +kernel) (pa_cons (pc 4) pa_nil)) pe_int))))) (pss_one (ps_rz Z rfl (hr.mono (by decide)) (takes_of rfl rfl rfl rfl) (pa_cons pe_int (pa_cons pe_int pa_nil)))) pss_nil)
    (pss_cons (ps_set (i := 5) sc_Amount_read.nd rfl (Or.inl rfl) (pe_makeL (i := 0) U.mkr FI (hr.mono (by decide)) bI2 .nil pass0 (pa_cons (pe_callTy call_int_str (by rfl) T.b_int (by decide +kernel) (pa_cons (pc 2) pa_nil)) (pa_cons (pe_callTy call_int_str (by rfl) T.b_int (by decide +kernel) (pa_cons (pc 4) pa_nil)) pa_nil))))
    (pss_cons (s_if (t_cmp (o_ne hr.units) (pe_callTy (str_c cSt (hr.mono (by decide))) (by rfl) hstr (by decide +kernel) (pa_cons (pc 5) pa_nil)) (pc 1)) (pss_one (ps_rz Z rfl (hr.mono (by decide)) (takes_of rfl rfl rfl rfl) (pa_cons pe_int (pa_cons pe_int pa_nil)))) pss_nil)
    (pss_one (ps_ret (pc 5))))))))), ?_⟩
    rcases hc with ⟨l, rfl, ln, hk⟩ | ⟨⟨t, ty, kt⟩, z⟩
    rotate_left
    · exact ⟨_, _, _, _, false, rfl, ty, (fun u r => r), kt, ⟨fun _ => z.ans, fun h => absurd h (by decide)⟩⟩
    have bad0 : ¬ (okF l ∧ atx (rdP l) (rdQ l) = l) → RzT BT H E := fun n => by
      rcases hk with ⟨t, b, e, _⟩ | ⟨_, z⟩
      · rw [rdv_none.mpr n] at e
        cases e
      · exact z
    have one : ("1" : Str) = ofL [49] := by decide +kernel
    have e3 := part3 l
    have pl := pt3_len l
    have ul := unm_len (pt3 l).1
    refine ⟨_, _, _, _, true, rfl, .str _, (fun u r => r), rfl, ⟨fun h => absurd h (by decide), fun _ => ?_⟩⟩
    refine ⟨⟨_, rfl⟩, _, _, rfl, rfl, by decide +kernel, by rw [ofL_len, sizeLine_eq]; omega, fun p np => ?_⟩
    rw [e3]
    have bad : ¬ (okF l ∧ atx (rdP l) (rdQ l) = l) → RzT BT (L2.upd H p (.tup [.str (ofL (pt3 l).1), .str (ofL (pt3 l).2.1), .str (ofL (pt3 l).2.2)])) E := fun n => (bad0 n).mo (Same.new (Same.refl H) np)
    refine ⟨p, _, rfl, SqT.of upd_same, rfl, _, _, rfl, _, _, rfl, _, _, rfl, rfl, ⟨fun h => ?_, fun h => ?_⟩⟩
    · have h : ofL (pt3 l).2.1 = ("" : Str) := by simpa using h
      have eb : below l = [49] := if_pos (ofL_nil.mp h)
      refine ⟨⟨_, rfl⟩, _, _, rfl, rfl, by rw [ofL_len, sizeLine_eq]; show (pt3 l).1.length ≤ _; omega, unm (pt3 l).1, by rw [unm_eq]; rfl, by omega, ?_⟩
      cases f1 : figB (unm (pt3 l).1) with
      | false => exact ⟨fun _ => ⟨fun _ => (bad (fun c => by rw [c.1.1] at f1; cases f1)).ans, fun h => absurd h (by decide)⟩, fun h => absurd h (by decide)⟩
      | true =>
        refine ⟨fun h => absurd h (by decide), fun _ => ⟨[49], by rw [one]; rfl, by decide, ?_⟩⟩
        cases f2 : figB [49] with
        | false => exact ⟨fun _ => ⟨fun _ => (bad (fun c => by have := c.1.2.1; rw [eb, f2] at this; cases this)).ans, fun h => absurd h (by decide)⟩, fun h => absurd h (by decide)⟩
        | true =>
          refine ⟨fun h => absurd h (by decide), fun _ => ⟨_, _, rfl, by rw [one]; exact fig_read f2, by decide +kernel, ⟨fun h => ?_, fun h => ?_⟩⟩⟩
          · have h : (digitsVal [49] : Int) = 0 := by simpa using h
            exact (bad (fun c => c.1.2.2 (by rw [eb]; omega))).ans
          · have h : (digitsVal [49] : Int) ≠ 0 := by simpa using h
            refine ⟨rfl, _, _, rfl, sv_read f1, by rw [ofL_len]; have := fig_len f1; have := unm_len (pt3 l).1; show (pt3 l).1.length ≤ _; omega, _, _, rfl, by rw [one]; exact fig_read f2, by decide +kernel, ?_⟩
            refine mkR (p := sv (pt3 l).1) (q := (digitsVal [49] : Nat)) h ((sm_ten (sv_lt f1)).mono (by decide)) ((sm_ten (fig_lt f2)).mono (by decide)) fun r G nr s am => ?_
            have s1 : Same H (L2.upd H p (.tup [.str (ofL (pt3 l).1), .str (ofL (pt3 l).2.1), .str (ofL (pt3 l).2.2)])) := Same.new (Same.refl H) np
            have eP : nT (sv (pt3 l).1) ((digitsVal [49] : Nat) : Int) = rdP l := by unfold rdP; rw [eb]
            have eQ : nB (sv (pt3 l).1) ((digitsVal [49] : Nat) : Int) = rdQ l := by unfold rdQ; rw [eb]
            have SP : Sm 700 (rdP l) := by rw [← eP]; exact (sm_ten (sv_lt f1)).nT h
            have SQ : Sm 700 (rdQ l) := by rw [← eQ]; exact (sm_ten (fig_lt f2)).nB h
            rw [eP, eQ] at am
            refine ⟨am.isI, r, _, _, rfl, am, SP.mono (by decide), SQ.mono (by decide), _, rfl, ⟨fun h2 => ?_, fun h2 => ?_⟩⟩
            · have h2 : ¬ ofL (atx (rdP l) (rdQ l)) = ofL l := fun z => by rw [z] at h2; simp at h2
              exact ((bad0 (fun c => h2 (by rw [c.2]))).mo (s1.trans s)).ans
            · have h2 : ofL (atx (rdP l) (rdQ l)) = ofL l := by simpa using h2
              rcases hk with ⟨t, b, e, k⟩ | ⟨e, _⟩
              · have : rdv l = some (rdP l, rdQ l) := by
                  unfold rdv
                  rw [if_pos ⟨⟨f1, by rw [eb]; exact f2, by rw [eb]; omega⟩, ofL_inj h2⟩]
                rw [this] at e
                cases e
                exact k r G (s1.free nr) (s1.trans s) am
              · exact absurd ⟨⟨f1, by rw [eb]; exact f2, by rw [eb]; omega⟩, ofL_inj h2⟩ (rdv_none.mp e)
    · have h : ¬ ofL (pt3 l).2.1 = ("" : Str) := by simpa using h
      have eb : below l = (pt3 l).2.2 := if_neg (fun z => h (ofL_nil.mpr z))
      refine ⟨⟨_, rfl⟩, _, _, rfl, rfl, by rw [ofL_len, sizeLine_eq]; show (pt3 l).1.length ≤ _; omega, unm (pt3 l).1, by rw [unm_eq]; rfl, by omega, ?_⟩
      cases f1 : figB (unm (pt3 l).1) with
      | false => exact ⟨fun _ => ⟨fun _ => (bad (fun c => by rw [c.1.1] at f1; cases f1)).ans, fun h => absurd h (by decide)⟩, fun h => absurd h (by decide)⟩
      | true =>
        refine ⟨fun h => absurd h (by decide), fun _ => ⟨(pt3 l).2.2, rfl, by omega, ?_⟩⟩
        cases f2 : figB (pt3 l).2.2 with
        | false => exact ⟨fun _ => ⟨fun _ => (bad (fun c => by have := c.1.2.1; rw [eb, f2] at this; cases this)).ans, fun h => absurd h (by decide)⟩, fun h => absurd h (by decide)⟩
        | true =>
          refine ⟨fun h => absurd h (by decide), fun _ => ⟨_, _, rfl, fig_read f2, by rw [ofL_len]; have := fig_len f2; show (pt3 l).2.2.length ≤ _; omega, ⟨fun h => ?_, fun h => ?_⟩⟩⟩
          · have h : (digitsVal (pt3 l).2.2 : Int) = 0 := by simpa using h
            exact (bad (fun c => c.1.2.2 (by rw [eb]; omega))).ans
          · have h : (digitsVal (pt3 l).2.2 : Int) ≠ 0 := by simpa using h
            refine ⟨rfl, _, _, rfl, sv_read f1, by rw [ofL_len]; have := fig_len f1; have := unm_len (pt3 l).1; show (pt3 l).1.length ≤ _; omega, _, _, rfl, fig_read f2, by rw [ofL_len]; have := fig_len f2; show (pt3 l).2.2.length ≤ _; omega, ?_⟩
            refine mkR (p := sv (pt3 l).1) (q := (digitsVal (pt3 l).2.2 : Nat)) h ((sm_ten (sv_lt f1)).mono (by decide)) ((sm_ten (fig_lt f2)).mono (by decide)) fun r G nr s am => ?_
            have s1 : Same H (L2.upd H p (.tup [.str (ofL (pt3 l).1), .str (ofL (pt3 l).2.1), .str (ofL (pt3 l).2.2)])) := Same.new (Same.refl H) np
            have eP : nT (sv (pt3 l).1) ((digitsVal (pt3 l).2.2 : Nat) : Int) = rdP l := by unfold rdP; rw [eb]
            have eQ : nB (sv (pt3 l).1) ((digitsVal (pt3 l).2.2 : Nat) : Int) = rdQ l := by unfold rdQ; rw [eb]
            have SP : Sm 700 (rdP l) := by rw [← eP]; exact (sm_ten (sv_lt f1)).nT h
            have SQ : Sm 700 (rdQ l) := by rw [← eQ]; exact (sm_ten (fig_lt f2)).nB h
            rw [eP, eQ] at am
            refine ⟨am.isI, r, _, _, rfl, am, SP.mono (by decide), SQ.mono (by decide), _, rfl, ⟨fun h2 => ?_, fun h2 => ?_⟩⟩
            · have h2 : ¬ ofL (atx (rdP l) (rdQ l)) = ofL l := fun z => by rw [z] at h2; simp at h2
              exact ((bad0 (fun c => h2 (by rw [c.2]))).mo (s1.trans s)).ans
            · have h2 : ofL (atx (rdP l) (rdQ l)) = ofL l := by simpa using h2
              rcases hk with ⟨t, b, e, k⟩ | ⟨e, _⟩
              · have : rdv l = some (rdP l, rdQ l) := by
                  unfold rdv
                  rw [if_pos ⟨⟨f1, by rw [eb]; exact f2, by rw [eb]; omega⟩, ofL_inj h2⟩]
                rw [this] at e
                cases e
                exact k r G (s1.free nr) (s1.trans s) am
              · exact absurd ⟨⟨f1, by rw [eb]; exact f2, by rw [eb]; omega⟩, ofL_inj h2⟩ (rdv_none.mp e)

end
end LW
set_option Elab.async false
set_option linter.all false
set_option maxRecDepth 100000
set_option maxHeartbeats 4000000
namespace LW
open PySem PySem.Spec PyProof.Rows L2 HX NumText
section
variable {P : Program} {w : World} {K : PySem.W.Frag} {mg : Str → Option Value} {base : Heap}

theorem ok_pen {f : Addr} {fd : FuncData} (F : Fun K "_law_pen" "_law_pen" s__law_pen f fd) (T : Txt K mg) : FnOk P w K mg base CX0 1 f fd ["_law_script"] (spPen K) := by
  refine F.ok sc__law_pen (fun vs H Q E h => ?_) (fun cdv A outer s H vs Q E hr h => ?_)
  · obtain ⟨a, ns, rfl, _⟩ := h
    rfl
  · obtain ⟨a, ns, rfl, hs, k⟩ := h
    refine ⟨_, (pss_one (ps_ret (pe_lst (pa_cons (pe_callTy call_list_of (by rfl) T.b_list (by decide +kernel) (pa_cons (pe_slice sl_list (pc 0) po_none (po_some pe_int)) pa_nil)) (pa_cons pe_int (pa_cons pe_int pa_nil)))))), ?_⟩
    refine ⟨_, rfl, a, _, rfl, hs, fun q1 n1 => ⟨q1, _, rfl, .inl (SqL.of upd_same), fun q2 n2 => ⟨by show 3 ≤ sizeLine; decide, fun p n3 => ?_⟩⟩⟩
    obtain ⟨ms, hm⟩ := cut_ints ns none (some 63)
    have s1 : Same H (upd H q1 (.lst (cutV (ns.map V.int) none (some 63)))) := Same.new (Same.refl H) n1
    have s2 := Same.new (o := .lst (cutV (ns.map V.int) none (some 63))) s1 n2
    have s3 := Same.new (o := .lst [.ref q2, .int 0, .int 0]) s2 n3
    refine k p q2 _ (s2.free n3) s3 ⟨ms, 0, 0, ⟨upd_same, ?_, ne_of_none upd_same n3, by decide, by decide⟩, by decide⟩
    rw [upd_ne (ne_of_none upd_same n3), upd_same, hm]

theorem ok_draw {f : Addr} {fd : FuncData} (F : Fun K "_law_draw" "_law_draw" s__law_draw f fd) (T : Txt K mg) : FnOk P w K mg base CX0 1 f fd ["_law_pen_here", "_law_many"] spDraw := by
  refine F.ok sc__law_draw (fun vs H Q E h => ?_) (fun cdv A outer s H vs Q E hr h => ?_)
  · obtain ⟨p, l, c, many, rfl, _⟩ := h
    rfl
  · obtain ⟨p, l, cM, many, rfl, ⟨ns, c, g, Pp, cle⟩, hm, hz, hcM, k⟩ := h
    have hc : c < 1000000 := by omega
    obtain ⟨hp, hl, ne, c0, g0⟩ := id Pp
    refine ⟨_, (pss_cons (s_if (t_cmp o_gt (p_ix (pc 0) pe_int) pe_int) (pss_cons (ps_set (i := 2) sc__law_draw.nd rfl (Or.inl rfl) (pe_op o_mod (pe_callTy c_int (by rfl) T.b_int (by decide +kernel) (pa_cons (p_ix (pc 0) pe_int) pa_nil)) (pc 1)))
    (pss_cons (ps_asg (pe_op o_fdiv (pe_callTy c_int (by rfl) T.b_int (by decide +kernel) (pa_cons (p_ix (pc 0) pe_int) pa_nil)) (pc 1)) (pg_sub (pc 0) pe_int set_list))
    (pss_one (ps_ret (pc 2))))) pss_nil)
    (pss_cons (ps_set (i := 3) sc__law_draw.nd rfl (Or.inl rfl) (p_ix (pc 0) pe_int))
    (s_cut (ps_asg (pe_op o_add (pc 3) pe_int) (pg_sub (pc 0) pe_int set_list))
    (pss_cons (ps_set (i := 4) sc__law_draw.nd rfl (Or.inl rfl) (pe_op o_add (pe_op o_mul pe_int (pc 3)) pe_int))
    (s_cut (s_if (t_cmp (o_ne hr.units) (p_ix (pc 0) pe_int) (pe_lst pa_nil)) (pss_one (ps_set (i := 4) sc__law_draw.nd rfl (Or.inl rfl) (p_ix (p_ix (pc 0) pe_int) (pe_op o_mod (pe_callTy c_int (by rfl) T.b_int (by decide +kernel) (pa_cons (pc 3) pa_nil)) (pe_callB c_len (by rfl) T.b_len (by decide +kernel) (pa_cons (p_ix (pc 0) pe_int) pa_nil)))))) pss_nil)
    (s_cut (s_if (PW.pt (w_and (t_cmp o_lt (pc 3) (pe_callB c_len (by rfl) T.b_len (by decide +kernel) (pa_cons (p_ix (pc 0) pe_int) pa_nil))) (pw_and1 (t_cmp o_ge (pe_callB c_abs (by rfl) T.b_abs (by decide +kernel) (pa_cons (pc 4) pa_nil)) (pe_op o_pow pe_int pe_int))))) (pss_cons (ps_set (i := 5) sc__law_draw.nd rfl (Or.inl rfl) (pe_op o_add (pe_op o_mul pe_int (pe_op o_sub (pe_callB c_abs (by rfl) T.b_abs (by decide +kernel) (pa_cons (pc 4) pa_nil)) (pe_op o_pow pe_int pe_int))) (pe_callTy c_int (by rfl) T.b_int (by decide +kernel) (pa_cons (p_cmp o_lt (pc 4) pe_int) pa_nil))))
    (pss_cons (ps_asg (pe_op o_fdiv (pe_callTy c_int (by rfl) T.b_int (by decide +kernel) (pa_cons (pc 5) pa_nil)) (pc 1)) (pg_sub (pc 0) pe_int set_list))
    (pss_one (ps_ret (pe_op o_mod (pe_callTy c_int (by rfl) T.b_int (by decide +kernel) (pa_cons (pc 5) pa_nil)) (pc 1)))))) pss_nil)
    (s_cut (ps_set (i := 6) sc__law_draw.nd rfl (Or.inl rfl) (pe_op o_mod (pe_callTy c_int (by rfl) T.b_int (by decide +kernel) (pa_cons (pe_op o_pow (pe_op o_add (pe_op o_add (pe_op o_mod (pe_callTy c_int (by rfl) T.b_int (by decide +kernel) (pa_cons (pc 4) pa_nil)) pe_int) (pe_op o_mul pe_int (pc 3))) pe_int) pe_int) pa_nil)) pe_int))
    (s_cut (ps_set (i := 6) sc__law_draw.nd rfl (Or.inl rfl) (pe_op o_mod (pe_callTy c_int (by rfl) T.b_int (by decide +kernel) (pa_cons (pe_op o_pow (pe_op o_add (pe_op o_add (pe_op o_mul (pc 6) (pe_op o_add (pe_op o_mul pe_int (pc 3)) pe_int)) (pe_op o_mul (pe_op o_mul pe_int (pc 3)) (pc 3))) pe_int) pe_int) pa_nil)) pe_int))
    (pss_one (ps_ret (pe_op o_mod (pe_callTy c_int (by rfl) T.b_int (by decide +kernel) (pa_cons (pe_op o_fdiv (pc 6) pe_int) pa_nil)) (pc 1)))))))))))), ?_⟩
    -- what is left of a great cell
    refine ⟨_, _, .inl (SqL.of hp), rfl, fun h => ?_, fun _ => ?_⟩
    · have hg := of_decide_eq_true h
      have q0 : 0 ≤ g / many := Int.ediv_nonneg g0 (Int.le_of_lt hm)
      refine ⟨_, _, .inl (SqL.of hp), rfl, hm, _, _, .inl (SqL.of hp), rfl, wide_div hm hz (by decide) (by decide), p, _, _, 2, rfl, rfl, hp, rfl, ?_⟩
      have kk : Kp p H (upd H p (.lst [.ref l, .int c, .int (g / many)])) := Kp.refl.upd
      exact k (g % many) _ (Int.emod_nonneg _ (by omega)) (Int.emod_lt_of_pos _ hm) kk ⟨ns, c, _, Pp.put kk c0 q0 upd_same, by omega⟩
    · -- one more cell is begun
      refine ⟨_, _, .inl (SqL.of hp), rfl, fun σ G => σ = [some (.ref p), some (.int many), none, some (.int c), none, none, none] ∧ Kp p H G ∧ Pn G p l ns (c + 1) g, ?_, ?_⟩
      · exact ⟨p, _, _, 1, rfl, rfl, hp, rfl, rfl, Kp.refl.upd, Pp.put Kp.refl.upd (by omega) g0 upd_same⟩
      rintro σ H1 ⟨rfl, k1, P1⟩
      -- the cell, if there is one
      refine ⟨.inl (.inl ⟨by decide, by decide⟩), fun σ G => ∃ lone : Int, σ = [some (.ref p), some (.int many), none, some (.int c), some (.int lone), none, none] ∧ Kp p H G ∧ Pn G p l ns (c + 1) g, ?_, ?_⟩
      · refine ⟨_, _, .inl (SqL.of P1.at_), rfl, Nat.zero_le _, fun q nq => ?_⟩
        have k2 : Kp p H1 (upd H1 q (.lst [])) := Kp.refl.new nq
        have P2 : Pn (upd H1 q (.lst [])) p l ns (c + 1) g := P1.new nq
        have hq : upd H1 q (.lst []) q = some (.lst []) := upd_same
        refine ⟨.list (ns.map PyData.int), .list [], .lst (SqL.of P2.cel) (dp_ints ns), .lst (SqL.of hq) .nil, shaped_ints ns, rfl, ?_, ?_⟩
        · intro h
          have hn : ns ≠ [] := by
            intro e
            subst e
            cases h
          have hlen : 0 < (ns.length : Int) := by
            have := List.length_pos_iff.mpr hn
            omega
          obtain ⟨z, hzz⟩ := at_mod (ns := ns) c hlen
          refine ⟨_, _, .inl (SqL.of P2.at_), rfl, _, _, .inl (SqL.of P2.at_), rfl, _, .inl (SqL.of P2.cel), by rw [List.length_map]; exact hlen, _, .int z, .inl (SqL.of P2.cel), ?_, ?_⟩
          · rw [List.length_map]
            exact hzz
          · exact ⟨z, rfl, k1.trans k2, P2⟩
        · intro _
          exact ⟨_, rfl, k1.trans k2, P2⟩
      · rintro σ G ⟨lone, rfl, kG, PG⟩
        -- a great cell
        refine ⟨fun σ G' => σ = [some (.ref p), some (.int many), none, some (.int c), some (.int lone), none, none] ∧ Kp p H G' ∧ Pn G' p l ns (c + 1) g, ?_, ?_⟩
        · refine ⟨_, _, .inl (SqL.of PG.at_), rfl, _, .inl (SqL.of PG.cel), fun h1 => ?_, fun _ => ⟨fun z => Bool.noConfusion z, fun _ => ⟨rfl, kG, PG⟩⟩⟩
          refine ⟨⟨by decide, by decide, by decide⟩, fun h2 => ?_, fun _ => ⟨rfl, kG, PG⟩⟩
          have h2 := of_decide_eq_true h2
          refine ⟨⟨by decide, by decide, by decide⟩, .inl (.inl ⟨by decide, by decide⟩), wide_div hm hz (by decide) (by decide), p, _, _, 2, rfl, rfl, PG.at_, rfl, hm, ?_⟩
          have kk := kG.upd (p := p) (o := .lst [.ref l, .int (c + 1), .int ((2 * ((if lone < 0 then -lone else lone) - 10 ^ (18 : Int).toNat) + (if decide (lone < 0) = true then 1 else 0)) / many)])
          refine k _ _ (Int.emod_nonneg _ (by omega)) (Int.emod_lt_of_pos _ hm) kk ⟨ns, c + 1, _, Pp.put kk (by omega) ?_ upd_same, by omega⟩
          refine Int.ediv_nonneg ?_ (Int.le_of_lt hm)
          have z : (0 : Int) ≤ (if decide (lone < 0) = true then 1 else 0) := by split <;> decide
          omega
        · rintro σ' G' ⟨rfl, kG', PG'⟩
          -- a mix
          have e0 := fun b : Int => Int.emod_nonneg lone (b := b)
          have e1 := fun b : Int => Int.emod_lt_of_pos lone (b := b)
          refine ⟨fun σ G => ∃ m : Int, σ = [some (.ref p), some (.int many), none, some (.int c), some (.int lone), none, some (.int m)] ∧ G = G' ∧ 0 ≤ m ∧ m < 2147483648, ?_, ?_⟩
          · refine ⟨(by show (0 : Int) < _; decide), .inl (.inl ⟨by decide, by decide⟩), ⟨by decide, by decide, by omega⟩, (by show (0 : Int) < _; decide), _, rfl, rfl, Int.emod_nonneg _ (by decide), ?_⟩
            exact Int.lt_trans (Int.emod_lt_of_pos _ (by decide)) (by decide)
          rintro σ G2 ⟨m, rfl, rfl, m0, m1⟩
          refine ⟨fun σ G => ∃ m : Int, σ = [some (.ref p), some (.int many), none, some (.int c), some (.int lone), none, some (.int m)] ∧ G = G2 ∧ 0 ≤ m ∧ m < 2147483648, ?_, ?_⟩
          · have hb : ∀ a b d : Int, 0 ≤ a → a ≤ 1000 → 0 ≤ b → b ≤ 100000 → 0 ≤ d → d ≤ 1000 → (m * (2 * c + a) + b * c * c + d).natAbs < 2 ^ 64 := fun a b d h1 h2 h3 h4 h5 h6 => by
              have y1 := mul_lt (a := 2147483648) (b := 2002000) m0 m1 (show 0 ≤ 2 * c + a by omega) (by omega)
              have y2 := Int.mul_nonneg m0 (show 0 ≤ 2 * c + a by omega)
              have y3 := mul_lt (a := 100001) (b := 1000000) h3 (by omega) c0 hc
              have y4 := Int.mul_nonneg h3 c0
              have y5 := mul_lt (a := 100001000000) (b := 1000000) y4 (by omega) c0 hc
              have y6 := Int.mul_nonneg y4 c0
              omega
            have hb2 : ∀ b : Int, 0 ≤ b → b ≤ 100000 → CMulU (b * c) c := fun b h3 h4 => by
              have y3 := mul_lt (a := 100001) (b := 1000000) h3 (by omega) c0 hc
              have y4 := Int.mul_nonneg h3 c0
              exact .inl (.inl ⟨by omega, by omega⟩)
            refine ⟨.inl (.inl ⟨by decide, by decide⟩), .inl (.inl ⟨by omega, by omega⟩), .inl (.inl ⟨by decide, by decide⟩), hb2 _ (by decide) (by decide), ⟨by decide, by decide, ?_⟩, (by show (0 : Int) < _; decide), _, rfl, rfl, Int.emod_nonneg _ (by decide), ?_⟩
            · exact hb _ _ _ (by decide) (by decide) (by decide) (by decide) (by decide) (by decide)
            · exact Int.lt_trans (Int.emod_lt_of_pos _ (by decide)) (by decide)
          rintro σ G3 ⟨m, rfl, rfl, m0, m1⟩
          refine ⟨wide_div (b := 10) (by decide) (by decide) (by decide) (by decide), hm, ?_⟩
          exact k _ _ (Int.emod_nonneg _ (by omega)) (Int.emod_lt_of_pos _ hm) kG' ⟨ns, c + 1, g, PG', by omega⟩

theorem ok_pick {f : Addr} {fd : FuncData} {B : FuncData → Prop} (F : Fun K "_law_pick" "_law_pick" s__law_pick f fd) (T : Txt K mg) (cD : CalO P w K mg base "_law_draw" 1 ["_law_pen_here", "_law_many"] spDraw B) : FnOk P w K mg base CX0 2 f fd ["_law_pen_here", "_law_some"] (spPick K) := by
  refine F.ok sc__law_pick (fun vs H Q E h => ?_) (fun cdv A outer s H vs Q E hr h => ?_)
  · obtain ⟨p, l, c, x, rfl, _⟩ := h
    rfl
  · obtain ⟨p, l, c, x, rfl, Pp, hc, k⟩ := h
    refine ⟨_, (pss_one (ps_ret (p_ix (pc 1) (pe_cO cD (hr.mono (by decide)) (pa_cons (pc 0) (pa_cons (pe_callB c_len (by rfl) T.b_len (by decide +kernel) (pa_cons (pc 1) pa_nil)) pa_nil)))))), ?_⟩
    rcases k with ⟨z, rfl, h0, h1, k⟩ | ⟨a, xs, rfl, ne, hs, h0, h1, k⟩
    · refine ⟨Nat.le_trans h1 size_line_big, p, l, c, (z.length : Int), rfl, Pp, by omega, small_bits h1, hc, fun r H' r0 r1 kk P' => ?_⟩
      have e : z.length = z.cps.toList.length := by simp [Str.length]
      obtain ⟨ch, h2, h3⟩ := at_in (xs := z.cps.toList) r0 (by rw [← e]; exact r1)
      exact ⟨Nat.le_trans h1 size_line_big, ch, h2, k ch H' h3 kk P'⟩
    · refine ⟨xs, hs, p, l, c, (xs.length : Int), rfl, Pp, by omega, small_bits h1, hc, fun r H' r0 r1 kk P' => ?_⟩
      obtain ⟨v, h2, h3⟩ := at_in (xs := xs) r0 r1
      exact ⟨xs, v, hs.elim (fun z => .inl (kk.seq ne z)) (fun z => .inr (kk.seqT ne z)), h2, k v H' h3 kk P'⟩

def spLow : Sp := fun vs H Q _ => ∃ u l : Int, vs = [.int u, .int l] ∧ l ≠ 0 ∧ Sm 900 u ∧ Sm 900 l ∧ ∀ q G, H q = none → Same H G → G q = some (.tup [.int (nT u l), .int (nB u l)]) → Q (.ref q) G
theorem ok_lowest {f : Addr} {fd : FuncData} (F : Fun K "_law_lowest" "_law_lowest" s__law_lowest f fd) (T : Txt K mg) : FnOk P w K mg base CX0 1 f fd ["_law_top", "_law_bottom"] spLow := by
  refine F.ok sc__law_lowest (fun vs H Q E h => ?_) (fun cdv A' outer s H vs Q E hr h => ?_)
  · obtain ⟨u, l, rfl, _⟩ := h
    rfl
  · obtain ⟨u, l, rfl, lz, Su, Sl, k⟩ := h
    refine ⟨_, (pss_cons (ps_par (i := 2) (j := 3) (by rfl) sc__law_lowest.nd rfl rfl (by decide) rfl rfl (pa_cons (pe_callB c_abs (by rfl) T.b_abs (by decide +kernel) (pa_cons (pc 0) pa_nil)) (pa_cons (pe_callB c_abs (by rfl) T.b_abs (by decide +kernel) (pa_cons (pc 1) pa_nil)) pa_nil)) (by rfl))
    (pss_cons (ps_while PassesOwn.never (t_cmp (o_ne hr.units) (pc 3) pe_int) (pss_one (ps_par (i := 2) (j := 3) (by rfl) sc__law_lowest.nd rfl rfl (by decide) rfl rfl (pa_cons (pc 3) (pa_cons (pe_op o_mod (pe_callTy c_int (by rfl) T.b_int (by decide +kernel) (pa_cons (pc 2) pa_nil)) (pc 3)) pa_nil)) (by rfl))))
    (pss_cons (ps_set (i := 4) sc__law_lowest.nd rfl (Or.inl rfl) (e_if (t_cmp o_lt (pc 1) pe_int) (pe_un un_neg pe_int) pe_int))
    (pss_one (ps_ret (pe_tup (pa_cons (pe_op o_fdivZ (pe_op o_mulW (pc 4) (pc 0)) (pc 2)) (pa_cons (pe_op o_fdivZ (pe_op o_mulW (pc 4) (pc 1)) (pc 2)) pa_nil)))))))), ?_⟩
    refine ⟨_, _, rfl, ?_⟩
    refine ⟨fun n σ G => ∃ o1 o2 : Nat, σ = [some (.int u), some (.int l), some (.int o1), some (.int o2), none] ∧ G = H ∧ n = o2 ∧ Nat.gcd o1 o2 = Nat.gcd u.natAbs l.natAbs,
      ⟨_, u.natAbs, l.natAbs, ?_, rfl, rfl, rfl⟩, ?_⟩
    · have e1 : (if u < 0 then -u else u) = ((u.natAbs : Nat) : Int) := by split <;> omega
      have e2 : (if l < 0 then -l else l) = ((l.natAbs : Nat) : Int) := by split <;> omega
      rw [← e1, ← e2]
      rfl
    · rintro n σ G ⟨o1, o2, rfl, rfl, rfl, hg⟩
      show if (xor true (decide ((n : Int) = 0))) = true then _ else _
      by_cases hz : n = 0
      · subst hz
        rw [if_neg (by simp)]
        rw [Nat.gcd_zero_right] at hg
        have g0 := gcdZ_pos (p := u) lz
        have e1 : ((o1 : Nat) : Int) = gcdZ u l := by unfold gcdZ; rw [hg]
        have gS : Sm 900 (gcdZ u l) := Nat.lt_of_le_of_lt (show (gcdZ u l).natAbs ≤ l.natAbs from Nat.gcd_le_right _ (by omega)) Sl
        have sS : Sm 2 (sgZ l) := by
          rcases sgZ_sq l with z | z <;> rw [z] <;> (unfold Sm; decide)
        have fin : ∀ z : Int, z = sgZ l → CMulW z u ∧ CDivZ (z * u) o1 ∧ CMulW z l ∧ CDivZ (z * l) o1 ∧ [V.int ((z * u).fdiv o1), V.int ((z * l).fdiv o1)].length ≤ sizeLine ∧ ∀ q, G q = none → Q (.ref q) (L2.upd G q (.tup [.int ((z * u).fdiv o1), .int ((z * l).fdiv o1)])) := by
          rintro z rfl
          refine ⟨sS.cMul Su, by rw [e1]; exact gS.cDiv (Int.ne_of_gt g0), sS.cMul Sl, by rw [e1]; exact gS.cDiv (Int.ne_of_gt g0), by show 2 ≤ sizeLine; decide, fun q nq => k q _ nq (Same.new (Same.refl _) nq) ?_⟩
          rw [upd_same, e1, Int.fdiv_eq_ediv_of_nonneg _ (Int.le_of_lt g0), Int.fdiv_eq_ediv_of_nonneg _ (Int.le_of_lt g0)]
          rfl
        refine ⟨fun c => ?_, fun c => ?_⟩
        · exact ⟨_, rfl, fin (-1) (if_pos (of_decide_eq_true c)).symm⟩
        · exact fin 1 (if_neg (of_decide_eq_false c)).symm
      · rw [if_pos (by simp; omega)]
        refine ⟨fun σ' G' => σ' = [some (.int u), some (.int l), some (.int n), some (.int ((o1 % n : Nat) : Int)), none] ∧ G' = G, fun σ' G' ⟨z1, z2⟩ => ⟨o1 % n, Nat.mod_lt _ (by omega), n, o1 % n, z1, z2, rfl, ?_⟩, ?_⟩
        · rw [Nat.gcd_comm, ← Nat.gcd_rec, Nat.gcd_comm]
          exact hg
        · exact ⟨(by omega : (0 : Int) < n), _, _, rfl, rfl, rfl⟩

def Tp (H : Hp) (q : Addr) (t b : Int) : Prop := H q = some (.tup [.int t, .int b])
theorem Tp.mo {H G : Hp} {q : Addr} {t b : Int} (s : Same H G) (h : Tp H q t b) : Tp G q t b := s _ _ h
def QT (H : Hp) (Q : VK) (t b : Int) : Prop := ∀ q G, H q = none → Same H G → Tp G q t b → Q (.ref q) G
theorem QT.mo {H G : Hp} {Q : VK} {t b : Int} (s : Same H G) (h : QT H Q t b) : QT G Q t b := fun r G' n s' a => h r G' (s.free n) (s.trans s') a

def spPair : Sp := fun vs H Q _ => ∃ (p l : Addr) (c : Int), vs = [.ref p] ∧ Pe H p l c ∧ c < 999900 ∧ ∀ (q : Addr) (t b : Int) (G : Hp), Low t b → Sm 100 t → Sm 100 b → Kp p H G → Pe G p l (c + 5) → Tp G q t b → Q (.ref q) G
def spNumber (A : Addr) : Sp := fun vs H Q _ => ∃ (p l q : Addr) (c t b : Int), vs = [.ref p, .ref q] ∧ Pe H p l c ∧ c < 999900 ∧ Tp H q t b ∧ q ≠ p ∧ Low t b ∧ Sm 100 t ∧ Sm 100 b ∧ ∀ (v : V) (G : Hp), Kp p H G → Pe G p l (c + 2) → Nu A G v t b → Q v G
theorem big30 : (10 : Int) ^ (30 : Int).toNat < 2 ^ 100 := by decide
theorem sm_of {i : Int} (h0 : -(2 ^ 100) < i) (h1 : i < 2 ^ 100) : Sm 100 i := by
  unfold Sm
  omega


theorem ok__law_pair {f : Addr} {fd : FuncData}  (F : Fun K "_law_pair" "_law_pair" s__law_pair f fd) (T : Txt K mg) (cL : CalO P w K mg base "_law_lowest" 1 ["_law_top", "_law_bottom"] spLow (fun _ => True)) (cD : CalO P w K mg base "_law_draw" 1 ["_law_pen_here", "_law_many"] spDraw (fun _ => True)) (cP : CalO P w K mg base "_law_pick" 2 ["_law_pen_here", "_law_some"] (spPick K) (fun _ => True)) : FnOk P w K mg base CX0 3 f fd ["_law_pen_here"] spPair := by
  refine F.ok sc__law_pair (fun vs H Q E h => ?_) (fun cdv A' outer s H vs Q E hr h => ?_)
  · obtain ⟨p, l, c, rfl, _⟩ := h
    rfl
  · obtain ⟨p, l, c, rfl, Pp, hc, k⟩ := h
    refine ⟨_, (pss_cons (ps_set (i := 1) sc__law_pair.nd rfl (Or.inl rfl) (pe_cO cD (hr.mono (by decide)) (pa_cons (pc 0) (pa_cons (pe_cO cP (hr.mono (by decide)) (pa_cons (pc 0) (pa_cons (pe_lst (pa_cons pe_int (pa_cons pe_int (pa_cons pe_int (pa_cons pe_int (pa_cons pe_int (pa_cons (pe_op o_pow pe_int pe_int) pa_nil))))))) pa_nil))) pa_nil))))
    (pss_cons (s_if (t_cmp (o_eq hr.units) (pe_cO cD (hr.mono (by decide)) (pa_cons (pc 0) (pa_cons pe_int pa_nil))) pe_int) (pss_one (ps_set (i := 1) sc__law_pair.nd rfl (Or.inl rfl) (pe_op o_sub pe_int (pc 1)))) pss_nil)
    (pss_one (ps_ret (pe_cO cL (hr.mono (by decide)) (pa_cons (pc 1) (pa_cons (pe_op o_add pe_int (pe_cO cD (hr.mono (by decide)) (pa_cons (pc 0) (pa_cons (pe_cO cP (hr.mono (by decide)) (pa_cons (pc 0) (pa_cons (pe_lst (pa_cons pe_int (pa_cons pe_int (pa_cons pe_int (pa_cons pe_int (pa_cons (pe_op o_sub (pe_op o_pow pe_int pe_int) pe_int) pa_nil)))))) pa_nil))) pa_nil)))) pa_nil))))))), ?_⟩
    refine ⟨⟨by decide, by decide, by decide⟩, by show 6 ≤ sizeLine; decide, fun q1 n1 => ⟨p, l, _, .ref q1, rfl, Pp.new n1, by omega, .inr ⟨q1, _, rfl, Pp.ne n1, .inl (SqL.of upd_same), by decide, by decide, fun v G1 hv k1 P1 => ?_⟩⟩⟩
    obtain ⟨mm, rfl, m0, m1⟩ : ∃ mm : Int, v = .int mm ∧ 0 < mm ∧ mm < 2 ^ 100 := by
      simp only [List.mem_cons, List.not_mem_nil, or_false] at hv
      rcases hv with rfl | rfl | rfl | rfl | rfl | rfl <;> exact ⟨_, rfl, by decide, by decide⟩
    refine ⟨p, l, _, mm, rfl, P1, m0, Nat.lt_of_lt_of_le (show mm.natAbs < 2 ^ 100 by omega) (by decide), by omega, fun r1 G2 r10 r11 k2 P2 => ?_⟩
    have kA : Kp p H G2 := (Kp.refl.new n1).trans (k1.trans k2)
    refine ⟨p, l, _, 2, rfl, P2, by decide, by decide, by omega, fun r2 G3 r20 r21 k3 P3 => ?_⟩
    have kB := kA.trans k3
    refine ⟨fun _ => ?_, fun _ => ?_⟩
    · refine ⟨⟨by decide, by decide, by decide⟩, by show 5 ≤ sizeLine; decide, fun q2 n2 => ⟨p, l, _, .ref q2, rfl, P3.new n2, by omega, .inr ⟨q2, _, rfl, P3.ne n2, .inl (SqL.of upd_same), by show 0 < 5; decide, by show 5 ≤ 1000000; decide, fun v G4 hv k4 P4 => ?_⟩⟩⟩
      obtain ⟨m2, rfl, m20, m21⟩ : ∃ mm : Int, v = .int mm ∧ 0 < mm ∧ mm < 2 ^ 100 := by
        simp only [List.mem_cons, List.not_mem_nil, or_false] at hv
        rcases hv with rfl | rfl | rfl | rfl | rfl <;> exact ⟨_, rfl, by decide, by decide⟩
      refine ⟨p, l, _, m2, rfl, P4, m20, Nat.lt_of_lt_of_le (show m2.natAbs < 2 ^ 100 by omega) (by decide), by omega, fun r3 G5 r30 r31 k5 P5 => ?_⟩
      have kC := (kB.trans (Kp.refl.new n2)).trans (k4.trans k5)
      have qz : 1 + r3 ≠ 0 := by omega
      have S1 : Sm 100 (0 - r1) := sm_of (by omega) (by omega)
      have S2 : Sm 100 (1 + r3) := sm_of (by omega) (by omega)
      exact ⟨0 - r1, 1 + r3, rfl, qz, S1.mono (by decide), S2.mono (by decide), fun q G nq s hq => k q _ _ G (low_n qz) (S1.nT qz) (S2.nB qz) (kC.trans (Kp.same s)) ((P5.same s).mono (by omega)) hq⟩
    · refine ⟨⟨by decide, by decide, by decide⟩, by show 5 ≤ sizeLine; decide, fun q2 n2 => ⟨p, l, _, .ref q2, rfl, P3.new n2, by omega, .inr ⟨q2, _, rfl, P3.ne n2, .inl (SqL.of upd_same), by show 0 < 5; decide, by show 5 ≤ 1000000; decide, fun v G4 hv k4 P4 => ?_⟩⟩⟩
      obtain ⟨m2, rfl, m20, m21⟩ : ∃ mm : Int, v = .int mm ∧ 0 < mm ∧ mm < 2 ^ 100 := by
        simp only [List.mem_cons, List.not_mem_nil, or_false] at hv
        rcases hv with rfl | rfl | rfl | rfl | rfl <;> exact ⟨_, rfl, by decide, by decide⟩
      refine ⟨p, l, _, m2, rfl, P4, m20, Nat.lt_of_lt_of_le (show m2.natAbs < 2 ^ 100 by omega) (by decide), by omega, fun r3 G5 r30 r31 k5 P5 => ?_⟩
      have kC := (kB.trans (Kp.refl.new n2)).trans (k4.trans k5)
      have qz : 1 + r3 ≠ 0 := by omega
      have S1 : Sm 100 (r1) := sm_of (by omega) (by omega)
      have S2 : Sm 100 (1 + r3) := sm_of (by omega) (by omega)
      exact ⟨r1, 1 + r3, rfl, qz, S1.mono (by decide), S2.mono (by decide), fun q G nq s hq => k q _ _ G (low_n qz) (S1.nT qz) (S2.nB qz) (kC.trans (Kp.same s)) ((P5.same s).mono (by omega)) hq⟩



theorem ok__law_number {f : Addr} {fd : FuncData} {A fI pO gO pN gN : Addr} {mc : Value} (F : Fun K "_law_number" "_law_number" s__law_number f fd) (T : Txt K mg) (cD : CalO P w K mg base "_law_draw" 1 ["_law_pen_here", "_law_many"] spDraw (fun _ => True)) (cP : CalO P w K mg base "_law_pick" 2 ["_law_pen_here", "_law_some"] (spPick K) (fun _ => True)) (U : AmC K mg A fI pO gO pN gN mc) {fdI : FuncData} (FI : FnOk P w K mg base CX0 2 fI fdI ["self", "top", "bottom"] (spInit A)) {ds : List Value} (bI1 : Binds K fdI ["self", "top", "bottom"] ds) (vI1 : Vals [V.int 1] ds) (bI2 : Binds K fdI ["self", "top", "bottom"] []) : FnOk P w K mg base CX0 4 f fd ["_law_pen_here", "_law_pair_here"] (spNumber A) := by
  refine F.ok sc__law_number (fun vs H Q E h => ?_) (fun cdv A' outer s H vs Q E hr h => ?_)
  · obtain ⟨p, l, q, c, t, b, rfl, _⟩ := h
    rfl
  · obtain ⟨p, l, q, c, t, b, rfl, Pp, hc, hq, qp, lo, St, Sb, k⟩ := h
    refine ⟨_, (pss_cons (s_if (PW.pt (w_and (t_cmp (o_eq hr.units) (p_ix (pc 1) pe_int) pe_int) (pw_and1 (t_cmp (o_eq hr.units) (pe_cO cD (hr.mono (by decide)) (pa_cons (pc 0) (pa_cons pe_int pa_nil))) pe_int)))) (pss_one (ps_ret (p_ix (pc 1) pe_int))) pss_nil)
    (pss_one (ps_ret (pe_make U.mkr FI (hr.mono (by decide)) rfl U.g_Amount bI2 .nil pass0 (pa_cons (p_ix (pc 1) pe_int) (pa_cons (p_ix (pc 1) pe_int) pa_nil)))))), ?_⟩
    have am : ∀ (G : Hp), Kp p H G → Pe G p l (c + 2) → Tp G q t b ∧ ∀ x dx, G x = none → G dx = none → dx ≠ x → spInit A (.ref x :: [.int t, .int b]) (upd (upd G dx (.own x)) x (.ins A dx [])) (fun v H2 => v = .non ∧ Q (.ref x) H2) E0 := fun G kp P => by
      have b0 := lo.1
      have u := n_self lo
      refine ⟨kp _ _ qp hq, mkA (by omega) (St.mono (by decide)) (Sb.mono (by decide)) fun r G2 nr s am => ?_⟩
      rw [u.1, u.2] at am
      exact k _ G2 (kp.trans (Kp.same s)) (P.same s) (.inl ⟨r, rfl, am⟩)
    refine ⟨_, _, .inr (SqT.of hq), rfl, ⟨fun c1 => ⟨p, l, _, 2, rfl, Pp, by decide, by decide, by omega, fun r G r0 r1 k1 P1 => ⟨fun c2 => ?_, fun c2 => ?_⟩⟩, fun c1 => ?_⟩⟩
    · have e : b = 1 := by simpa using c1
      exact ⟨_, _, .inr (SqT.of (k1 _ _ qp hq)), rfl, k _ G k1 (P1.mono (by omega)) (.inr ⟨rfl, e⟩)⟩
    · obtain ⟨y1, y4⟩ := am G k1 (P1.mono (by omega))
      exact ⟨_, _, .inr (SqT.of y1), rfl, _, _, .inr (SqT.of y1), rfl, y4⟩
    · obtain ⟨y1, y4⟩ := am H Kp.refl (Pp.mono (by omega))
      refine ⟨fun h => absurd h (by decide), fun _ => ?_⟩
      exact ⟨_, _, .inr (SqT.of y1), rfl, _, _, .inr (SqT.of y1), rfl, y4⟩


structure Txt2 (mg : Str → Option Value) : Prop where
  b_str : mg "str" = none
theorem repr_sm {i : Int} {n : Nat} (h : Sm n i) (le : n ≤ 1900 := by decide) (h0 : 0 < n := by decide) : i.natAbs.log2 < 1920 := Nat.lt_of_lt_of_le (PySem.Flt.log2_lt_of h0 h) (by omega)
def dgs : List Nat := [48, 49, 50, 51, 52, 53, 54, 55, 56, 57]
theorem dgs_is : (Str.ofString "0123456789").cps.toList = dgs := by decide +kernel
theorem dgs_mem (c : Nat) : c ∈ dgs ↔ 48 ≤ c ∧ c ≤ 57 := by
  unfold dgs
  simp only [List.mem_cons, List.not_mem_nil, or_false]
  omega
def nd (c : Nat) : Bool := !decide (c ∈ dgs)
theorem nd_all {l : List Nat} : l.filter nd = [] ↔ AllDigits l := by
  rw [List.filter_eq_nil_iff]
  unfold nd AllDigits
  constructor
  · intro h c hc
    have := h c hc
    exact (dgs_mem c).mp (by simpa using this)
  · intro h c hc
    have := (dgs_mem c).mpr (h c hc)
    simp [this]
theorem dp_strs {K : PySem.W.Frag} {H : Hp} : ∀ ns : List Nat, DpAll K H (ns.map fun c => V.str ⟨#[c]⟩) (ns.map fun c => PyData.str ⟨#[c]⟩)
  | [] => .nil
  | n :: ns => .cons (.str _) (dp_strs ns)
theorem depth_strs : ∀ ns : List Nat, PyData.depthAll (ns.map fun c => PyData.str ⟨#[c]⟩) = 0
  | [] => rfl
  | n :: ns => by
    have := depth_strs ns
    simp [PyData.depthAll, PyData.depth, this]
theorem lay_strs : ∀ ns : List Nat, (∀ c ∈ ns, c < 128) → PyData.canLayAll0 (ns.map fun c => PyData.str ⟨#[c]⟩) = true
  | [], _ => rfl
  | n :: ns, h => by
    have h1 : PyData.strOk ⟨#[n]⟩ = true := by
      unfold PyData.strOk
      have := h n (List.mem_cons_self ..)
      simp
      omega
    rw [List.map_cons, PyData.canLayAll0, PyData.canLay0, lay_strs ns (fun c hc => h c (List.mem_cons_of_mem _ hc)), h1]
    rfl
theorem shaped_strs (ns : List Nat) (h : ∀ c ∈ ns, c < 128) : SeqAt.shaped (.list (ns.map fun c => PyData.str ⟨#[c]⟩)) = true := by
  unfold SeqAt.shaped
  rw [PyData.canLay0, lay_strs ns h, PyData.depth, depth_strs]
  rfl
theorem nT_zero {q : Int} : nT 0 q = 0 := by
  by_cases h : q = 0
  · subst h
    decide
  · have := nT_le (p := 0) h
    simp at this
    exact this
theorem nT_nz {p q : Int} (h : q ≠ 0) (hp : p ≠ 0) : nT p q ≠ 0 := fun z => by
  have c := cross (p := p) h
  rw [z, Int.zero_mul] at c
  have b := nB_pos (p := p) h
  rcases Int.mul_eq_zero.mp c.symm with y | y
  · exact hp y
  · omega
theorem unm_sub {l : List Nat} {c : Nat} (h : c ∈ unm l) : c ∈ l := by
  unfold unm at h
  split at h
  · exact List.mem_cons_of_mem _ h
  · exact h
theorem pt3_sub : ∀ (l : List Nat) (c : Nat), c ∈ (pt3 l).1 ∨ c ∈ (pt3 l).2.2 → c ∈ l
  | [], c, h => by rcases h with h | h <;> cases h
  | d :: r, c, h => by
    by_cases e : d = 47
    · have e2 : pt3 (d :: r) = ([], [47], r) := if_pos e
      rw [e2] at h
      rcases h with h | h
      · cases h
      · exact List.mem_cons_of_mem _ h
    · have e2 : pt3 (d :: r) = (d :: (pt3 r).1, (pt3 r).2.1, (pt3 r).2.2) := if_neg e
      rw [e2] at h
      rcases h with h | h
      · rcases List.mem_cons.mp h with h | h
        · rw [h]
          exact List.mem_cons_self ..
        · exact List.mem_cons_of_mem _ (pt3_sub r c (.inl h))
      · exact List.mem_cons_of_mem _ (pt3_sub r c (.inr h))
def optV : Option Nat → V
  | none => .non
  | some n => .int (n : Nat)
def GVv (v : V) (σ : L2.St) (H : Hp) (te : TE) : Prop := ∀ G, Same H G → ∀ Q : VK, (∀ G', Same G G' → Q v G') → te σ G Q
theorem next_go {σ : L2.St} {H : Hp} {D : Ends} (h : D.nx σ H) : tNext D σ H := h
theorem seqAsg {te : TE} {u : TS} {i : Nat} {v : V} {σ : L2.St} {H : Hp} {D : Ends} (h : GVv v σ H te) (k : ∀ G, Same H G → u D (σ.set i (some v)) G) : tSeq (tAsg te (gName i)) u D σ H := h H (Same.refl H) _ fun G s => k G s
theorem seqParV {t1 t2 : TE} {u : TS} {p q : Nat} {v x : V} {σ : L2.St} {H : Hp} {D : Ends} (h1 : GVv v σ H t1) (h2 : GVv x σ H t2) (k : ∀ G, Same H G → u D ((σ.set p (some v)).set q (some x)) G) : tSeq (tPar p q (tCons t1 (tCons t2 tNil))) u D σ H :=
  h1 H (Same.refl H) _ fun G1 s1 => h2 G1 s1 _ fun G2 s2 => ⟨_, _, rfl, k G2 (s1.trans s2)⟩
theorem itD_text {i : Int} : (Str.ofString (toString i)) = ofL (it i) := it_text i

def spTxt : Sp := fun vs H Q _ => ∃ (q : Addr) (t b : Int), vs = [.ref q] ∧ Tp H q t b ∧ Sm 1300 t ∧ Sm 1300 b ∧ Q (.str (ofL (atx t b))) H
theorem ok_txt {f : Addr} {fd : FuncData} (F : Fun K "_law_word" "_law_word" s__law_word f fd) (T : Txt K mg) (T2 : Txt2 mg) : FnOk P w K mg base CX0 1 f fd ["_law_pair_here"] spTxt := by
  refine F.ok sc__law_word (fun vs H Q E h => ?_) (fun cdv A' outer s H vs Q E hr h => ?_)
  · obtain ⟨q, t, b, rfl, _⟩ := h
    rfl
  · obtain ⟨q, t, b, rfl, hq, St, Sb, k⟩ := h
    refine ⟨_, (pss_one (ps_ret (e_if (t_cmp (o_eq hr.units) (p_ix (pc 0) pe_int) pe_int) (pe_callTy call_str_int (by rfl) T2.b_str (by decide +kernel) (pa_cons (p_ix (pc 0) pe_int) pa_nil)) (pe_op o_add (pe_op o_add (pe_callTy call_str_int (by rfl) T2.b_str (by decide +kernel) (pa_cons (p_ix (pc 0) pe_int) pa_nil)) pe_str) (pe_callTy call_str_int (by rfl) T2.b_str (by decide +kernel) (pa_cons (p_ix (pc 0) pe_int) pa_nil)))))), ?_⟩
    refine ⟨_, _, .inr (SqT.of hq), rfl, ⟨fun h => ?_, fun h => ?_⟩⟩
    · have h : b = 1 := by simpa using h
      refine ⟨_, _, .inr (SqT.of hq), rfl, t, rfl, repr_sm St, ?_⟩
      rw [show atx t b = it t from if_pos h] at k
      rw [it_text]
      exact k
    · have h : ¬ b = 1 := by simpa using h
      have l1 := intT_len St (by decide)
      have l2 := intT_len Sb (by decide)
      have e1 : (Str.ofString "/").length = 1 := rfl
      have big := size_line_big
      have ek : (Str.ofString (toString t) ++ Str.ofString "/") ++ Str.ofString (toString b) = ofL (atx t b) := by
        have e : (Str.ofString "/") = ofL [47] := by decide +kernel
        rw [it_text, it_text, e, ofL_app, ofL_app, show atx t b = it t ++ 47 :: it b from if_neg h]
        simp
      refine ⟨_, _, .inr (SqT.of hq), rfl, t, rfl, repr_sm St, by unfold intT at l1; omega, _, _, .inr (SqT.of hq), rfl, b, rfl, repr_sm Sb, by rw [Str.length_append]; unfold intT at l1 l2; omega, ?_⟩
      rw [ek]
      exact k

def spFg : Sp := fun vs H Q _ => ∃ l : List Nat, vs = [.str (ofL l)] ∧ l.length ≤ 100000 ∧ (∀ c ∈ l, c < 128) ∧ ∀ G, Same H G → Q (optV (fgs l)) G
theorem ok_fg {f : Addr} {fd : FuncData} (F : Fun K "_law_figures" "_law_figures" s__law_figures f fd) (T : Txt K mg) (T2 : Txt2 mg) : FnOk P w K mg base CX0 1 f fd ["_law_told_text"] spFg := by
  refine F.ok sc__law_figures (fun vs H Q E h => ?_) (fun cdv A' outer s H vs Q E hr h => ?_)
  · obtain ⟨l, rfl, _⟩ := h
    rfl
  · obtain ⟨l, rfl, ln, lc, k⟩ := h
    refine ⟨_, (pss_cons (s_if (PW.pt (w_or (pt_not (t_chain o_le o_le pe_int (pe_callB c_len (by rfl) T.b_len (by decide +kernel) (pa_cons (pc 0) pa_nil)) pe_int)) (pw_or1 (t_cmp (o_ne hr.units) (pe_lc (own := [("_law_sign", 1)]) (g := gName 1) rfl sc__law_figures.nd (pi_str (pc 0)) (blkOk_by (own := [("_law_sign", 1)]) (N := n__law_figures) (sc := defScope s__law_figures) (by decide +kernel)) (fun _ _ _ _ _ => pg_name (i := 1) sc__law_figures.nd rfl (Or.inl rfl)) (fun _ _ _ _ _ => (pts_one (t_cmp L2.op_notInS (pc 1) pe_str))) (fun _ _ _ _ _ => (pc 1))) (pe_lst pa_nil))))) (pss_one (ps_ret pe_non)) pss_nil)
    (pss_one (ps_ret (e_if (PW.pt (w_and (t_cmp o_gt (pe_callB c_len (by rfl) T.b_len (by decide +kernel) (pa_cons (pc 0) pa_nil)) pe_int) (pw_and1 (t_cmp (o_eq hr.units) (pe_slice C8.sl_txt (pc 0) po_none (po_some pe_int)) pe_str)))) pe_non (pe_callTy call_int_str (by rfl) T.b_int (by decide +kernel) (pa_cons (pc 0) pa_nil)))))), ?_⟩
    have kn : fgs l = none → ∀ G, Same H G → Q .non G := fun e G s => by have := k G s; rw [e] at this; exact this
    have ks : ∀ n, fgs l = some n → ∀ G, Same H G → Q (.int (n : Nat)) G := fun n e G s => by have := k G s; rw [e] at this; exact this
    have nn : ¬ (1 ≤ l.length ∧ l.length ≤ 200 ∧ AllDigits l) → fgs l = none := fun n => if_neg (fun c => n c.1)
    have ll := ofL_len l
    refine ⟨by rw [ofL_len, sizeLine_eq]; omega, ⟨fun h1 => ?_, fun h1 => ?_⟩⟩
    rotate_left
    · have h1 : ¬ ((1 : Int) ≤ (ofL l).length) := of_decide_eq_false h1
      exact ⟨fun _ => ⟨fun _ => kn (nn (by omega)) H (Same.refl H), fun h => absurd h (by decide)⟩, fun h => absurd h (by decide)⟩
    have h1 : ((1 : Int) ≤ (ofL l).length) := of_decide_eq_true h1
    refine ⟨fun h2 => ?_, fun h2 => ?_⟩
    · have h2 : ¬ (((ofL l).length : Int) ≤ 200) := by simpa using h2
      exact ⟨fun _ => kn (nn (by omega)) H (Same.refl H), fun h => absurd h (by decide)⟩
    have h2 : (((ofL l).length : Int) ≤ 200) := by simpa using h2
    refine ⟨_, rfl, fun D nD => lc_it (walk_str (z := ofL l)) (fun i G => Same H G ∧ G D = some (.lst (((l.take i).filter nd).map fun c => .str ⟨#[c]⟩))) ⟨Same.new (Same.refl H) nD, upd_same⟩ (fun _ _ _ _ => trivial) ?_ ?_⟩
    · rintro i x G G' hi ⟨s, hD⟩ ⟨rfl, c, em, rfl⟩
      have em : l[i]? = some c := by simpa [ofL] using em
      have tk : l.take (i + 1) = l.take i ++ [c] := by rw [List.take_add_one, em]; rfl
      refine ⟨rfl, c, _, rfl, rfl, ?_⟩
      rw [dgs_is]
      show if nd c = true then _ else _
      cases hn : nd c with
      | false =>
        rw [if_neg (by decide)]
        exact ⟨s, by rw [tk, List.filter_append, List.filter_cons, hn]; simpa using hD⟩
      | true =>
        rw [if_pos rfl]
        have lf : ((l.take i).filter nd).length ≤ l.length := Nat.le_trans (List.length_filter_le _ _) (by rw [List.length_take]; omega)
        exact ⟨_, hD, by rw [List.length_map, sizeLine_eq]; omega, Same.mut s nD, by rw [upd_same, tk, List.filter_append, List.filter_cons, hn]; simp⟩
    · rintro G ⟨s, hD⟩
      rw [show (ofL l).cps.size = l.length by simp [ofL], List.take_length] at hD
      refine ⟨Nat.zero_le _, fun p np => ⟨_, .list [], .lst (SqL.of (kpN hD np)) (dp_strs _), .lst (SqL.of upd_same) .nil, shaped_strs _ (fun c hc => lc c (List.mem_filter.mp hc).1), rfl, ?_⟩⟩
      have s2 : Same H (L2.upd G p (.lst [])) := s.trans (Same.new (Same.refl G) np)
      cases hf : l.filter nd with
      | cons c r => exact ⟨fun _ => kn (nn (fun z => by rw [nd_all.mpr z.2.2] at hf; cases hf)) _ s2, fun h => absurd h (by simp [PyData.eqv, PyData.eqvAll])⟩
      | nil =>
        refine ⟨fun h => absurd h (by simp [PyData.eqv, PyData.eqvAll]), fun _ => ?_⟩
        have ad := nd_all.mp hf
        have e0 : (Str.ofString "0") = ofL [48] := by decide +kernel
        have e1 : Txt.slice (ofL l) none (some 1) = ofL (l.take 1) := SX.slice_to (by decide)
        have ok : 1 ≤ l.length ∧ l.length ≤ 200 ∧ AllDigits l := ⟨by omega, by omega, ad⟩
        have good : ¬ (1 < l.length ∧ l.take 1 = [48]) → ∃ (a : Str) (n : Int), [V.str (ofL l)] = [V.str a] ∧ intText? a = some n ∧ a.length ≤ 640 ∧ Q (.int n) (L2.upd G p (.lst [])) := fun n =>
          ⟨_, _, rfl, fig_read (figB_iff.mpr ⟨ad, by intro z; rw [z] at ok; exact absurd ok.1 (by decide), ok.2.1⟩), by omega, ks _ (if_pos ⟨ok, n⟩) _ s2⟩
        refine ⟨by rw [ofL_len, sizeLine_eq]; omega, ⟨fun h3 => ?_, fun h3 => ?_⟩⟩
        · have h3 : (1 : Int) < (ofL l).length := of_decide_eq_true h3
          refine ⟨_, rfl, _, rfl, by rw [ofL_len, sizeLine_eq]; omega, ?_⟩
          rw [e1, e0]
          refine ⟨fun h4 => ?_, fun h4 => ?_⟩
          · have h4 : ofL (l.take 1) = ofL [48] := by simpa using h4
            exact kn (if_neg (fun c => c.2 ⟨by omega, ofL_inj h4⟩)) _ s2
          · have h4 : ¬ ofL (l.take 1) = ofL [48] := by simpa using h4
            exact good (fun c => h4 (by rw [c.2]))
        · have h3 : ¬ (1 : Int) < (ofL l).length := of_decide_eq_false h3
          exact ⟨fun h => absurd h (by decide), fun _ => good (fun c => h3 (by omega))⟩

def spLrd : Sp := fun vs H Q _ => ∃ l : List Nat, vs = [.str (ofL l)] ∧ l.length ≤ 100000 ∧ (∀ c ∈ l, c < 128) ∧ (∀ G, Same H G → (∀ t b, rdv l = some (t, b) → t = 0) → Q .non G) ∧ ∀ t b q G, rdv l = some (t, b) → t ≠ 0 → H q = none → Same H G → Tp G q t b → Q (.ref q) G
theorem ok_lrd {f : Addr} {fd : FuncData} (F : Fun K "_law_amount" "_law_amount" s__law_amount f fd) (T : Txt K mg) (T2 : Txt2 mg) (cFg : CalO P w K mg base "_law_figures" 1 ["_law_told_text"] spFg (fun _ => True)) (cL : CalO P w K mg base "_law_lowest" 1 ["_law_top", "_law_bottom"] spLow (fun _ => True)) (cTx : CalO P w K mg base "_law_word" 1 ["_law_pair_here"] spTxt (fun _ => True)) : FnOk P w K mg base CX0 2 f fd ["_law_word_here"] spLrd := by
  refine F.ok sc__law_amount (fun vs H Q E h => ?_) (fun cdv A' outer s H vs Q E hr h => ?_)
  · obtain ⟨l, rfl, _⟩ := h
    rfl
  · obtain ⟨l, rfl, ln, lc, kn, ks⟩ := h
    refine ⟨_, (pss_cons (ps_set (i := 1) sc__law_amount.nd rfl (Or.inl rfl) (e_if (t_cmp (o_eq hr.units) (pe_slice C8.sl_txt (pc 0) po_none (po_some pe_int)) pe_str) (pe_slice C8.sl_txt (pc 0) (po_some pe_int) po_none) (pc 0)))
    (pss_cons (ps_asg (pe_partition (pc 1) pe_str) (pg_tup rfl (pgs_cons (pg_name (i := 2) sc__law_amount.nd rfl (Or.inl rfl)) (pgs_cons (pg_name (i := 3) sc__law_amount.nd rfl (Or.inl rfl)) (pgs_cons (pg_name (i := 4) sc__law_amount.nd rfl (Or.inl rfl)) pgs_nil)))))
    (pss_cons (ps_par (i := 5) (j := 6) (by rfl) sc__law_amount.nd rfl rfl (by decide) rfl rfl (pa_cons (pe_cO cFg (hr.mono (by decide)) (pa_cons (pc 2) pa_nil)) (pa_cons (e_if (t_cmp (o_ne hr.units) (pc 3) pe_str) (pe_cO cFg (hr.mono (by decide)) (pa_cons (pc 4) pa_nil)) pe_int) pa_nil)) (by rfl))
    (pss_cons (s_if (PW.pt (w_or (t_cmp o_is (pc 5) pe_non) (w_or (t_cmp o_is (pc 6) pe_non) (pw_or1 (t_cmp (o_eq hr.units) (pe_op o_mulW (pc 5) (pc 6)) pe_int))))) (pss_one (ps_ret pe_non)) pss_nil)
    (pss_cons (ps_set (i := 7) sc__law_amount.nd rfl (Or.inl rfl) (pe_cO cL (hr.mono (by decide)) (pa_cons (e_if (t_cmp (o_eq hr.units) (pc 1) (pc 0)) (pc 5) (pe_op o_sub pe_int (pc 5))) (pa_cons (pc 6) pa_nil))))
    (pss_one (ps_ret (e_if (t_cmp (o_eq hr.units) (pe_cO cTx (hr.mono (by decide)) (pa_cons (pc 7) pa_nil)) (pc 0)) (pc 7) pe_non)))))))), ?_⟩
    have ln' : (ofL l).length ≤ sizeLine := by rw [ofL_len, sizeLine_eq]; omega
    have lu := unm_len l
    have pl := pt3_len (unm l)
    have cu : ∀ c ∈ unm l, c < 128 := fun c hc => lc c (unm_sub hc)
    have kn' : lrd l = none → ∀ G, Same H G → Q .non G := fun e G s => kn G s (fun t b h => by rw [← lrd_eq, e] at h; cases h)
    refine seqAsg (v := .str (ofL (unm l))) ?_ fun G1 s1 => ?_
    · intro G s Q k
      have e0 : (Str.ofString "-") = ofL [45] := by decide +kernel
      have e1 : Txt.slice (ofL l) none (some 1) = ofL (l.take 1) := SX.slice_to (by decide)
      have e2 : Txt.slice (ofL l) (some 1) none = ofL (l.drop 1) := SX.slice_from (by decide)
      refine ⟨_, rfl, _, rfl, ln', ?_⟩
      rw [e1, e0]
      refine ⟨fun h => ?_, fun h => ?_⟩
      · have h : l.take 1 = [45] := ofL_inj (by simpa using h)
        refine ⟨_, rfl, _, rfl, ln', ?_⟩
        rw [e2, show l.drop 1 = unm l by
          match l, h with
          | c :: r, h =>
            have : c = 45 := by simpa using h
            subst this
            rfl]
        exact k G (Same.refl G)
      · have h : ¬ l.take 1 = [45] := fun z => by rw [z] at h; simp at h
        have k2 := k G (Same.refl G)
        rw [unm_id (l := l) (fun r z => h (by rw [z]; rfl))] at k2
        exact k2
    refine ⟨⟨_, rfl⟩, _, _, rfl, rfl, by decide +kernel, by rw [ofL_len, sizeLine_eq]; omega, fun p np => ?_⟩
    rw [part3]
    have s2 : Same H (L2.upd G1 p (.tup [.str (ofL (pt3 (unm l)).1), .str (ofL (pt3 (unm l)).2.1), .str (ofL (pt3 (unm l)).2.2)])) := s1.trans (Same.new (Same.refl G1) np)
    refine ⟨p, _, rfl, SqT.of upd_same, rfl, _, _, rfl, _, _, rfl, _, _, rfl, rfl, ?_⟩
    generalize L2.upd G1 p (.tup [.str (ofL (pt3 (unm l)).1), .str (ofL (pt3 (unm l)).2.1), .str (ofL (pt3 (unm l)).2.2)]) = G2 at s2 ⊢
    dsimp only
    refine seqParV (v := optV (lTop l)) (x := optV (lBot l)) (fun G s Q k => ⟨_, rfl, by omega, fun c hc => cu c (pt3_sub _ c (.inl hc)), fun G' s' => k G' s'⟩) ?_ fun G3 s3 => ?_
    · intro G s Q k
      refine ⟨fun h => ?_, fun h => ?_⟩
      · have h : ¬ (pt3 (unm l)).2.1 = [] := fun z => by rw [z] at h; exact absurd h (by decide +kernel)
        have e : lBot l = fgs (pt3 (unm l)).2.2 := if_neg h
        rw [e] at k
        exact ⟨_, rfl, by omega, fun c hc => cu c (pt3_sub _ c (.inr hc)), fun G' s' => k G' s'⟩
      · have h : ofL (pt3 (unm l)).2.1 = ("" : Str) := by simpa using h
        have e : lBot l = some 1 := if_pos (ofL_nil.mp h)
        rw [e] at k
        exact k G (Same.refl G)
    have s4 := s2.trans s3
    cases e5 : lTop l with
    | none => exact ⟨fun _ => ⟨fun _ => kn' (by unfold lrd; rw [e5]) _ s4, fun h => absurd h (by decide)⟩, fun h => absurd h (by decide)⟩
    | some x =>
      refine ⟨fun h => absurd h (by simp [optV]), fun _ => ?_⟩
      cases e6 : lBot l with
      | none => exact ⟨fun _ => ⟨fun _ => kn' (by unfold lrd; rw [e5, e6]) _ s4, fun h => absurd h (by decide)⟩, fun h => absurd h (by decide)⟩
      | some y =>
        have lx := fgs_some e5
        have ly0 : y < 10 ^ 200 := by
          unfold lBot at e6
          split at e6
          · cases e6; exact Nat.one_lt_pow (by decide) (by decide)
          · exact fgs_some e6
        refine ⟨fun h => absurd h (by simp [optV]), fun _ => ⟨(sm_ten (i := (x : Int)) (by simpa using lx)).cMul (sm_ten (i := (y : Int)) (by simpa using ly0)), ⟨fun h => ?_, fun h => ?_⟩⟩⟩
        · have h : (x : Int) * y = 0 := by simpa using h
          by_cases yz : y = 0
          · exact kn' (by unfold lrd; rw [e5, e6]; exact if_pos yz) _ s4
          · have xz : x = 0 := by
              rcases Int.mul_eq_zero.mp h with z | z
              · omega
              · omega
            refine kn _ s4 fun t b h2 => ?_
            rw [← lrd_eq] at h2
            unfold lrd at h2
            rw [e5, e6] at h2
            change (if y = 0 then none else _) = _ at h2
            rw [if_neg yz] at h2
            split at h2
            · cases h2
              have s0 : sgn l x = 0 := by unfold sgn; split <;> omega
              rw [s0]
              exact nT_zero
            · cases h2
        · have hm : (x : Int) * y ≠ 0 := by
            intro z
            rw [z] at h
            exact absurd h (by decide)
          have h : ¬ y = 0 := fun z => hm (by rw [z]; simp)
          have xz : x ≠ 0 := fun z => hm (by rw [z]; simp)
          have ly : y < 10 ^ 200 := by
            unfold lBot at e6
            split at e6
            · cases e6; exact Nat.one_lt_pow (by decide) (by decide)
            · exact fgs_some e6
          have yz : (y : Int) ≠ 0 := by omega
          have Sx : Sm 700 (sgn l x) := sm_ten (by have : (sgn l x).natAbs = x := by unfold sgn; split <;> omega
                                                   rw [this]; exact lx)
          have Sy : Sm 700 (y : Int) := sm_ten (by simpa using ly)
          have fin : ∀ (q : Addr) (G : Hp), G3 q = none → Same G3 G → G q = some (.tup [.int (nT (sgn l x) y), .int (nB (sgn l x) y)]) → tRet (cIfE (cT (tOp (rEq2 K false) (tCall spTxt [] E0 (tCons (cV 7) tNil)) (cV 0))) (cV 7) (tC V.non)) { nx := fun _ H' => Q V.non H', rt := Q } [some (.str (ofL l)), some (.str (ofL (unm l))), some (.str (ofL (pt3 (unm l)).1)), some (.str (ofL (pt3 (unm l)).2.1)), some (.str (ofL (pt3 (unm l)).2.2)), some (.int x), some (.int y), some (.ref q)] G := fun q G nq s hq => by
            refine ⟨q, _, _, rfl, hq, (Sx.nT yz).mono (by decide), (Sy.nB yz).mono (by decide), ⟨fun h2 => ?_, fun h2 => ?_⟩⟩
            · have h2 : atx (nT (sgn l x) y) (nB (sgn l x) y) = l := ofL_inj (by simpa using h2)
              exact ks _ _ q G (by rw [← lrd_eq]; unfold lrd; rw [e5, e6]; show (if y = 0 then none else _) = _; rw [if_neg h, if_pos h2]) (nT_nz yz (by unfold sgn; split <;> omega)) (s4.free nq) (s4.trans s) hq
            · have h2 : ¬ atx (nT (sgn l x) y) (nB (sgn l x) y) = l := fun z => by rw [z] at h2; simp at h2
              exact kn' (by unfold lrd; rw [e5, e6]; show (if y = 0 then none else _) = _; rw [if_neg h, if_neg h2]) _ (s4.trans s)
          refine ⟨fun h2 => ?_, fun h2 => ?_⟩
          · have h2 : unm l = l := ofL_inj (by simpa using h2)
            have e7 : sgn l x = (x : Int) := if_pos h2
            rw [e7] at fin Sx
            exact ⟨_, _, rfl, yz, Sx.mono (by decide), Sy.mono (by decide), fun q G nq s hq => fin q G nq s hq⟩
          · have h2 : ¬ unm l = l := fun z => by rw [z] at h2; simp at h2
            have e7 : sgn l x = 0 - (x : Int) := if_neg h2
            rw [e7] at fin Sx
            exact ⟨_, _, rfl, yz, Sx.mono (by decide), Sy.mono (by decide), fun q G nq s hq => fin q G nq s hq⟩

end
end LW
set_option Elab.async false
set_option linter.all false
set_option maxRecDepth 100000
set_option maxHeartbeats 2000000
namespace HX
open PySem PySem.Spec PyProof.Rows L2
/-- l.count(x) of plain data -/
def rCntD : V → List V → Hp → VK → Prop := fun x xs H Q => ∃ (p : Addr) (vs : List V) (ds : List PyData) (y : V) (d : PyData), x = .ref p ∧ xs = [y] ∧ H p = some (.lst vs) ∧ Das H vs ds ∧ Da H y d ∧ PyData.plainAll ds = true ∧ d.plain = true ∧ d.depth ≤ 30 ∧
  Q (.int ((ds.countP fun e => PyData.eqv e d : Nat) : Int)) H
theorem mt_countD {X : Cx} (hu : X.A.units + 64 < cLine) : MtR X "list.count" rCntD := by
  intro pins s σ H x xs v us Q I rx rxs h
  obtain ⟨p, vs, ds, y, d, rfl, rfl, hp, hs, hy, p1, p2, dp, q⟩ := h
  cases rx
  obtain ⟨u, rfl, ru⟩ := rxs.one
  obtain ⟨its, rv, hl, _⟩ := I.list (SqL.of hp)
  obtain ⟨as, hr, _⟩ := Das.reads I hs rv
  obtain ⟨bs, hr2, _⟩ := Da.reads I hy ru
  exact PySem.SeqAt.count_list_data hl.isList (by simpa using hr) hr2 p1 p2 (by have : min (PyData.depthAll ds) d.depth ≤ d.depth := Nat.min_le_right _ _; omega) ⟨.int _, H, I.tok _, ⟨_, rfl⟩, q⟩
end HX

set_option Elab.async false
set_option linter.all false
set_option maxRecDepth 100000
set_option maxHeartbeats 2000000
namespace HX
open PySem PySem.Spec PyProof.Rows L2

/-! ### len(x), u in x, x[u] of own instances -/
def rLenO (C : Addr) (sp : Sp) (E : XK) : List V → Hp → VK → Prop := fun xs H Q => ∃ a, xs = [.ref a] ∧ IsI C H a ∧ sp [.ref a] H (fun v G => ∃ n : Int, v = .int n ∧ 0 ≤ n ∧ n < 2 ^ 63 ∧ Q (.int n) G) E
def rInO (C : Addr) (neg : Bool) (sp : Sp) (E : XK) : L2.R2 := fun x y H Q => ∃ a, y = .ref a ∧ IsI C H a ∧ sp [.ref a, x] H (fun v G => ∃ c, v = .bl c ∧ Q (.bl (xor neg c)) G) E
def rIxO (C : Addr) (sp : Sp) (E : XK) : L2.R2 := fun x y H Q => ∃ a, x = .ref a ∧ IsI C H a ∧ sp [.ref a, y] H Q E
section
variable {X : Cx} {C f : Addr} {fd : FuncData} {ps : List Str} {sp : Sp} {CY : CXT} {k : Nat} {E : XK}
theorem call_lenO (hs : PySem.W.findIn X.K (.ref C) "__len__" = some (some (.ref f))) (hf : PySem.W.isFn X.K (.ref f) = true) (Fi : FnOk X.prog X.w X.K X.mg X.base CY k f fd ps sp) (b : Binds X.K fd ps []) (hr : Room (k + 1) X.A) (hx : Passes CY X E) : CallR X (.builtin "len") (rLenO C sp E) := by
  intro pins s σ H xs us Q I r q
  obtain ⟨a, rfl, i1, q⟩ := q
  obtain ⟨u, rfl, ru⟩ := vals1 r
  cases ru
  obtain ⟨dx, od, J, ho⟩ := inst_at I i1
  obtain ⟨m, F⟩ := I.fr
  refine PySem.W.len_K F I.ok.mod.kin J hs hf (wpAny_mono (run_at Fi b hr.in1 I.env0.in1 hx I (show Vals [V.ref a] [Value.ref a] from .cons rfl .nil) q) (fun u s2 h => ?_) fun _ _ z => z)
  obtain ⟨v, G, J2, rv, n, rfl, n0, n1, qz⟩ := h
  obtain ⟨t, rfl⟩ := (show ∃ t, u = Value.int n t from rv)
  exact ⟨⟨n0, n1⟩, .int n, G, J2.tok _, ⟨_, rfl⟩, qz⟩
theorem op_inO (hs : PySem.W.findIn X.K (.ref C) "__contains__" = some (some (.ref f))) (hf : PySem.W.isFn X.K (.ref f) = true) (Fi : FnOk X.prog X.w X.K X.mg X.base CY k f fd ps sp) (b : Binds X.K fd ps []) (hr : Room k X.A) (hx : Passes CY X E) : OpR X (compareOp .In) (rInO C false sp E) := by
  intro pins s σ H x y v u Q I rx ry q
  obtain ⟨a, rfl, i1, q⟩ := q
  cases ry
  obtain ⟨dx, od, J, ho⟩ := inst_at I i1
  obtain ⟨m, F⟩ := I.fr
  refine PySem.W.in_K F I.ok.mod.kin J hs hf (wpAny_mono (run_fn Fi hr b .nil hx I (show Vals [V.ref a, x] [Value.ref a, v] from .cons rfl (.cons rx .nil)) (by rw [List.append_nil]; exact q)) (fun u s2 h => ?_) fun _ _ z => z)
  obtain ⟨v, G, J2, rv, c, rfl, qz⟩ := h
  cases (show u = Value.bool c from rv)
  rw [Bool.false_xor] at qz
  exact wpAny_pure ⟨.bl c, G, J2, rfl, qz⟩
theorem op_notInO (hs : PySem.W.findIn X.K (.ref C) "__contains__" = some (some (.ref f))) (hf : PySem.W.isFn X.K (.ref f) = true) (Fi : FnOk X.prog X.w X.K X.mg X.base CY k f fd ps sp) (b : Binds X.K fd ps []) (hr : Room k X.A) (hx : Passes CY X E) : OpR X (compareOp .NotIn) (rInO C true sp E) := by
  intro pins s σ H x y v u Q I rx ry q
  obtain ⟨a, rfl, i1, q⟩ := q
  cases ry
  obtain ⟨dx, od, J, ho⟩ := inst_at I i1
  obtain ⟨m, F⟩ := I.fr
  refine PySem.W.notIn_K F I.ok.mod.kin J hs hf (wpAny_mono (run_fn Fi hr b .nil hx I (show Vals [V.ref a, x] [Value.ref a, v] from .cons rfl (.cons rx .nil)) (by rw [List.append_nil]; exact q)) (fun u s2 h => ?_) fun _ _ z => z)
  obtain ⟨v, G, J2, rv, c, rfl, qz⟩ := h
  cases (show u = Value.bool c from rv)
  rw [Bool.true_xor] at qz
  exact wpAny_pure ⟨.bl (!c), G, J2, rfl, qz⟩
theorem pe_ixO {a b : Expr} {ta tb : TE} {pos : Pos} (hs : PySem.W.findIn X.K (.ref C) "__getitem__" = some (some (.ref f))) (hf : PySem.W.isFn X.K (.ref f) = true) (hn : PySem.W.fnIn X.K f = true) (Fi : FnOk X.prog X.w X.K X.mg X.base CY k f fd ps sp) (bd : Binds X.K fd ps []) (hr : Room (k + 1) X.A) (hx : Passes CY X E) (ha : PE X a ta) (hb : PE X b tb)
    (hsl : ∀ (o : Addr) (i : Value), subscripted b true (.ref o) i = runValue (.builtin "lifetime.subscript" ⟨[.ref o, i], []⟩) := by intro _ _; with_unfolding_all rfl) : PE X (.Subscript a b pos) (tOp (rIxO C sp E) ta tb) := by
  refine ⟨fun pins s σ H Q I h => ?_⟩
  refine Subscript_ (binT ha hb I h fun v u s2 x y H2 I2 rx ry q => ?_)
  obtain ⟨o, rfl, i1, q⟩ := q
  cases rx
  obtain ⟨dx, od, J, ho⟩ := inst_at I2 i1
  obtain ⟨m, F⟩ := I2.fr
  exact PySem.W.sub_K F I2.ok.mod.kin J hs hn hf (run_at Fi bd hr.in1 I2.env0.in1 hx I2 (show Vals [V.ref o, y] [Value.ref o, u] from .cons rfl (.cons ry .nil)) q) (hsl o u)
end
end HX

set_option Elab.async false
set_option linter.all false
set_option maxRecDepth 100000
set_option maxHeartbeats 4000000
namespace LW
open PySem PySem.Spec PyProof.Rows L2 HX NumText
section
variable {P : Program} {w : World} {K : PySem.W.Frag} {mg : Str → Option Value} {base : Heap}

def spCmp (A : Addr) (g : Int → Int → Int → Int → Bool) : Sp := fun vs H Q _ => ∃ (a : Addr) (v : V) (t b c d : Int), vs = [.ref a, v] ∧ Am A H a t b ∧ Nu A H v c d ∧ Low t b ∧ Low c d ∧ Sm 4300 t ∧ Sm 4300 b ∧ Sm 4300 c ∧ Sm 4300 d ∧ ∀ G, Same H G → Q (.bl (g t b c d)) G
theorem n_sign {p q : Int} (h : 0 < q) : (nT p q < 0 ↔ p < 0) ∧ (nT p q ≤ 0 ↔ p ≤ 0) := by
  have z := cross (p := p) (Int.ne_of_gt h)
  have b := nB_pos (p := p) (Int.ne_of_gt h)
  refine ⟨⟨fun l => ?_, fun l => ?_⟩, ⟨fun l => ?_, fun l => ?_⟩⟩
  · have x : nT p q * q < 0 := Int.mul_neg_of_neg_of_pos l h
    rw [z] at x
    rcases Int.lt_or_le p 0 with y | y
    · exact y
    · have := Int.mul_nonneg y (Int.le_of_lt b)
      omega
  · have x : p * nB p q < 0 := Int.mul_neg_of_neg_of_pos l b
    rw [← z] at x
    rcases Int.lt_or_le (nT p q) 0 with y | y
    · exact y
    · have := Int.mul_nonneg y (Int.le_of_lt h)
      omega
  · have x : nT p q * q ≤ 0 := Int.mul_nonpos_of_nonpos_of_nonneg l (Int.le_of_lt h)
    rw [z] at x
    rcases Int.lt_or_le 0 p with y | y
    · have := Int.mul_pos y b
      omega
    · exact y
  · have x : p * nB p q ≤ 0 := Int.mul_nonpos_of_nonpos_of_nonneg l (Int.le_of_lt b)
    rw [← z] at x
    rcases Int.lt_or_le 0 (nT p q) with y | y
    · have := Int.mul_pos y h
      omega
    · exact y
def gLt (t b c d : Int) : Bool := decide (t * d + -c * b < 0)
def gLe (t b c d : Int) : Bool := decide (t * d + -c * b ≤ 0)
def gGt (t b c d : Int) : Bool := decide (0 < t * d + -c * b)
def gGe (t b c d : Int) : Bool := decide (0 ≤ t * d + -c * b)

theorem ok_Amount_lt {A fI pO gO pN gN f : Addr} {mc : Value} {fd : FuncData} (F : Fun K "__lt__" "Amount.__lt__" s_Amount_lt f fd) (T : Txt K mg) (U : AmC K mg A fI pO gO pN gN mc) {fdO fdN : FuncData} (FO : FnOk P w K mg base CX0 4 gO fdO ["number"] (spOf A)) (bO : Binds K fdO ["number"] []) (FN : FnOk P w K mg base CX0 2 gN fdN ["value"] (spIsNum A)) (bN : Binds K fdN ["value"] []) : FnOk P w K mg base CX0 5 f fd ["self", "other"] (spCmp A gLt) := by
  refine F.ok sc_Amount_lt (fun vs H Q E h => ?_) (fun cdv A' outer s H vs Q E hr h => ?_)
  · obtain ⟨a, v, t, b, c, d, rfl, _⟩ := h
    rfl
  · obtain ⟨a, v, t, b, c, d, rfl, am, n, lo, lo2, St, Sb, Sc, Sd, k⟩ := h
    refine ⟨_, (pss_cons (s_if (pt_not (t_val (pe_sm (p_gc U.g_Amount) U.sN FN bN (hr.mono (by decide)) pass0 (pa_cons (pc 1) pa_nil)))) (pss_one ps_dead) pss_nil)
    (pss_cons (ps_set (i := 2) sc_Amount_lt.nd rfl (Or.inl rfl) (pe_sm (p_gc U.g_Amount) U.sO FO bO (hr.mono (by decide)) pass0 (pa_cons (pc 1) pa_nil)))
    (pss_one (ps_ret (p_cmp o_lt (pe_op o_mulW (pe_fld (pc 0) rfl) (pe_fld (pc 2) rfl)) (pe_op o_mulW (pe_fld (pc 2) rfl) (pe_fld (pc 0) rfl))))))), ?_⟩
    refine ⟨rfl, v, c, d, rfl, n, ⟨fun h => absurd h (by decide), fun _ => ⟨rfl, v, c, d, rfl, n, Sc.mono (by decide), fun r G s a2 => ?_⟩⟩⟩
    obtain ⟨dx, e⟩ := am.mo s
    obtain ⟨dr, er⟩ := a2
    refine ⟨a, A, _, _, _, rfl, e, U.cls, U.nT, rfl, r, A, _, _, _, rfl, er, U.cls, U.nB, rfl, St.cMul Sd, r, A, _, _, _, rfl, er, U.cls, U.nT, rfl, a, A, _, _, _, rfl, e, U.cls, U.nB, rfl, Sc.cMul Sb, ?_⟩
    show Q (.bl (decide (t * d < c * b))) G
    rw [show decide (t * d < c * b) = gLt t b c d from by unfold gLt; rw [Int.neg_mul]; exact decide_eq_decide.mpr (by omega)]
    exact k G s

theorem ok_Amount_le {A fI pO gO pN gN f : Addr} {mc : Value} {fd : FuncData} (F : Fun K "__le__" "Amount.__le__" s_Amount_le f fd) (T : Txt K mg) (U : AmC K mg A fI pO gO pN gN mc) {fdO fdN : FuncData} (FO : FnOk P w K mg base CX0 4 gO fdO ["number"] (spOf A)) (bO : Binds K fdO ["number"] []) (FN : FnOk P w K mg base CX0 2 gN fdN ["value"] (spIsNum A)) (bN : Binds K fdN ["value"] []) : FnOk P w K mg base CX0 5 f fd ["self", "other"] (spCmp A gLe) := by
  refine F.ok sc_Amount_le (fun vs H Q E h => ?_) (fun cdv A' outer s H vs Q E hr h => ?_)
  · obtain ⟨a, v, t, b, c, d, rfl, _⟩ := h
    rfl
  · obtain ⟨a, v, t, b, c, d, rfl, am, n, lo, lo2, St, Sb, Sc, Sd, k⟩ := h
    refine ⟨_, (pss_cons (s_if (pt_not (t_val (pe_sm (p_gc U.g_Amount) U.sN FN bN (hr.mono (by decide)) pass0 (pa_cons (pc 1) pa_nil)))) (pss_one ps_dead) pss_nil)
    (pss_cons (ps_set (i := 2) sc_Amount_le.nd rfl (Or.inl rfl) (pe_sm (p_gc U.g_Amount) U.sO FO bO (hr.mono (by decide)) pass0 (pa_cons (pc 1) pa_nil)))
    (pss_one (ps_ret (p_cmp o_le (pe_op o_mulW (pe_fld (pc 0) rfl) (pe_fld (pc 2) rfl)) (pe_op o_mulW (pe_fld (pc 2) rfl) (pe_fld (pc 0) rfl))))))), ?_⟩
    refine ⟨rfl, v, c, d, rfl, n, ⟨fun h => absurd h (by decide), fun _ => ⟨rfl, v, c, d, rfl, n, Sc.mono (by decide), fun r G s a2 => ?_⟩⟩⟩
    obtain ⟨dx, e⟩ := am.mo s
    obtain ⟨dr, er⟩ := a2
    refine ⟨a, A, _, _, _, rfl, e, U.cls, U.nT, rfl, r, A, _, _, _, rfl, er, U.cls, U.nB, rfl, St.cMul Sd, r, A, _, _, _, rfl, er, U.cls, U.nT, rfl, a, A, _, _, _, rfl, e, U.cls, U.nB, rfl, Sc.cMul Sb, ?_⟩
    show Q (.bl (decide (t * d ≤ c * b))) G
    rw [show decide (t * d ≤ c * b) = gLe t b c d from by unfold gLe; rw [Int.neg_mul]; exact decide_eq_decide.mpr (by omega)]
    exact k G s

theorem ok_Amount_gt {A fI pO gO pN gN f : Addr} {mc : Value} {fd : FuncData} (F : Fun K "__gt__" "Amount.__gt__" s_Amount_gt f fd) (T : Txt K mg) (U : AmC K mg A fI pO gO pN gN mc) {fdO fdN : FuncData} (FO : FnOk P w K mg base CX0 4 gO fdO ["number"] (spOf A)) (bO : Binds K fdO ["number"] []) (FN : FnOk P w K mg base CX0 2 gN fdN ["value"] (spIsNum A)) (bN : Binds K fdN ["value"] []) : FnOk P w K mg base CX0 5 f fd ["self", "other"] (spCmp A gGt) := by
  refine F.ok sc_Amount_gt (fun vs H Q E h => ?_) (fun cdv A' outer s H vs Q E hr h => ?_)
  · obtain ⟨a, v, t, b, c, d, rfl, _⟩ := h
    rfl
  · obtain ⟨a, v, t, b, c, d, rfl, am, n, lo, lo2, St, Sb, Sc, Sd, k⟩ := h
    refine ⟨_, (pss_cons (s_if (pt_not (t_val (pe_sm (p_gc U.g_Amount) U.sN FN bN (hr.mono (by decide)) pass0 (pa_cons (pc 1) pa_nil)))) (pss_one ps_dead) pss_nil)
    (pss_cons (ps_set (i := 2) sc_Amount_gt.nd rfl (Or.inl rfl) (pe_sm (p_gc U.g_Amount) U.sO FO bO (hr.mono (by decide)) pass0 (pa_cons (pc 1) pa_nil)))
    (pss_one (ps_ret (p_cmp o_gt (pe_op o_mulW (pe_fld (pc 0) rfl) (pe_fld (pc 2) rfl)) (pe_op o_mulW (pe_fld (pc 2) rfl) (pe_fld (pc 0) rfl))))))), ?_⟩
    refine ⟨rfl, v, c, d, rfl, n, ⟨fun h => absurd h (by decide), fun _ => ⟨rfl, v, c, d, rfl, n, Sc.mono (by decide), fun r G s a2 => ?_⟩⟩⟩
    obtain ⟨dx, e⟩ := am.mo s
    obtain ⟨dr, er⟩ := a2
    refine ⟨a, A, _, _, _, rfl, e, U.cls, U.nT, rfl, r, A, _, _, _, rfl, er, U.cls, U.nB, rfl, St.cMul Sd, r, A, _, _, _, rfl, er, U.cls, U.nT, rfl, a, A, _, _, _, rfl, e, U.cls, U.nB, rfl, Sc.cMul Sb, ?_⟩
    show Q (.bl (decide (c * b < t * d))) G
    rw [show decide (c * b < t * d) = gGt t b c d from by unfold gGt; rw [Int.neg_mul]; exact decide_eq_decide.mpr (by omega)]
    exact k G s

theorem ok_Amount_ge {A fI pO gO pN gN f : Addr} {mc : Value} {fd : FuncData} (F : Fun K "__ge__" "Amount.__ge__" s_Amount_ge f fd) (T : Txt K mg) (U : AmC K mg A fI pO gO pN gN mc) {fdO fdN : FuncData} (FO : FnOk P w K mg base CX0 4 gO fdO ["number"] (spOf A)) (bO : Binds K fdO ["number"] []) (FN : FnOk P w K mg base CX0 2 gN fdN ["value"] (spIsNum A)) (bN : Binds K fdN ["value"] []) : FnOk P w K mg base CX0 5 f fd ["self", "other"] (spCmp A gGe) := by
  refine F.ok sc_Amount_ge (fun vs H Q E h => ?_) (fun cdv A' outer s H vs Q E hr h => ?_)
  · obtain ⟨a, v, t, b, c, d, rfl, _⟩ := h
    rfl
  · obtain ⟨a, v, t, b, c, d, rfl, am, n, lo, lo2, St, Sb, Sc, Sd, k⟩ := h
    refine ⟨_, (pss_cons (s_if (pt_not (t_val (pe_sm (p_gc U.g_Amount) U.sN FN bN (hr.mono (by decide)) pass0 (pa_cons (pc 1) pa_nil)))) (pss_one ps_dead) pss_nil)
    (pss_cons (ps_set (i := 2) sc_Amount_ge.nd rfl (Or.inl rfl) (pe_sm (p_gc U.g_Amount) U.sO FO bO (hr.mono (by decide)) pass0 (pa_cons (pc 1) pa_nil)))
    (pss_one (ps_ret (p_cmp o_ge (pe_op o_mulW (pe_fld (pc 0) rfl) (pe_fld (pc 2) rfl)) (pe_op o_mulW (pe_fld (pc 2) rfl) (pe_fld (pc 0) rfl))))))), ?_⟩
    refine ⟨rfl, v, c, d, rfl, n, ⟨fun h => absurd h (by decide), fun _ => ⟨rfl, v, c, d, rfl, n, Sc.mono (by decide), fun r G s a2 => ?_⟩⟩⟩
    obtain ⟨dx, e⟩ := am.mo s
    obtain ⟨dr, er⟩ := a2
    refine ⟨a, A, _, _, _, rfl, e, U.cls, U.nT, rfl, r, A, _, _, _, rfl, er, U.cls, U.nB, rfl, St.cMul Sd, r, A, _, _, _, rfl, er, U.cls, U.nT, rfl, a, A, _, _, _, rfl, e, U.cls, U.nB, rfl, Sc.cMul Sb, ?_⟩
    show Q (.bl (decide (c * b ≤ t * d))) G
    rw [show decide (c * b ≤ t * d) = gGe t b c d from by unfold gGe; rw [Int.neg_mul]; exact decide_eq_decide.mpr (by omega)]
    exact k G s

def gEq (t b c d : Int) : Bool := decide (t = c) && decide (b = d)
def spCmpW (A : Addr) (g : Int → Int → Int → Int → Bool) : Sp := fun vs H Q _ => ∃ (a : Addr) (v : V) (t b c d : Int), vs = [.ref a, v] ∧ Am A H a t b ∧ Nu A H v c d ∧ Low t b ∧ Low c d ∧ Sm 8600 t ∧ Sm 8600 b ∧ Sm 8600 c ∧ Sm 8600 d ∧ ∀ G, Same H G → Q (.bl (g t b c d)) G

theorem ok_Amount_eq {A fI pO gO pN gN f : Addr} {mc : Value} {fd : FuncData} (F : Fun K "__eq__" "Amount.__eq__" s_Amount_eq f fd) (T : Txt K mg) (U : AmC K mg A fI pO gO pN gN mc) (cI : CalO P w K mg base "is_int" 1 ["value"] (spIsInt A) (fun _ => True)) : FnOk P w K mg base CX0 5 f fd ["self", "other"] (spCmp A gEq) := by
  refine F.ok sc_Amount_eq (fun vs H Q E h => ?_) (fun cdv A' outer s H vs Q E hr h => ?_)
  · obtain ⟨a, v, t, b, c, d, rfl, _⟩ := h
    rfl
  · obtain ⟨a, v, t, b, c, d, rfl, am, n, lo, lo2, St, Sb, Sc, Sd, k⟩ := h
    refine ⟨_, (pss_cons (s_if (t_val (pe_callB c_isi (by rfl) T.b_isinstance (by decide +kernel) (pa_cons (pc 1) (pa_cons (p_gc U.g_Amount) pa_nil)))) (pss_one (ps_ret (e_and (p_cmp (o_eq hr.units) (pe_fld (pc 0) rfl) (pe_fld (pc 1) rfl)) (pe_one (p_cmp (o_eq hr.units) (pe_fld (pc 0) rfl) (pe_fld (pc 1) rfl)))))) pss_nil)
    (pss_one (ps_ret (e_and (pe_cO cI (hr.mono (by decide)) (pa_cons (pc 1) pa_nil)) (e_and (p_cmp (o_eq hr.units) (pe_fld (pc 0) rfl) pe_int) (pe_one (p_cmp (o_eq hr.units) (pe_fld (pc 0) rfl) (pc 1)))))))), ?_⟩
    rcases n with ⟨y, rfl, an⟩ | ⟨rfl, rfl⟩
    · obtain ⟨dx, e⟩ := id am
      obtain ⟨dr, er⟩ := id an
      refine ⟨_, _, _, _, true, rfl, .ins er U.cls U.ha U.hn U.ht U.hm, (fun u r => r), kit_self K A, ⟨fun _ => ?_, fun h => absurd h (by decide)⟩⟩
      refine ⟨a, A, _, _, _, rfl, e, U.cls, U.nT, rfl, y, A, _, _, _, rfl, er, U.cls, U.nT, rfl, ⟨fun x => ?_, fun x => ?_⟩⟩
      · have x : t = c := by simpa using x
        refine ⟨a, A, _, _, _, rfl, e, U.cls, U.nB, rfl, y, A, _, _, _, rfl, er, U.cls, U.nB, rfl, ?_⟩
        have z := k H (Same.refl H)
        rw [show gEq t b c d = xor false (decide (b = d)) by simp [gEq, x]] at z
        exact z
      · have x : ¬ t = c := by simpa using x
        have z := k H (Same.refl H)
        rw [show gEq t b c d = false by simp [gEq, x]] at z
        exact z
    · obtain ⟨dx, e⟩ := id am
      refine ⟨_, _, _, _, false, rfl, .int c, (fun u r => r), U.kA, ⟨fun h => absurd h (by decide), fun _ => ⟨_, rfl, .inl ⟨⟨c, rfl⟩, ⟨fun _ => ?_, fun h => absurd h (by decide)⟩⟩⟩⟩⟩
      refine ⟨a, A, _, _, _, rfl, e, U.cls, U.nB, rfl, ⟨fun x => ?_, fun x => ?_⟩⟩
      · have x : b = 1 := by simpa using x
        refine ⟨a, A, _, _, _, rfl, e, U.cls, U.nT, rfl, ?_⟩
        have z := k H (Same.refl H)
        rw [show gEq t b c 1 = xor false (decide (t = c)) by simp [gEq, x]] at z
        exact z
      · have x : ¬ b = 1 := by simpa using x
        have z := k H (Same.refl H)
        rw [show gEq t b c 1 = false by simp [gEq, x]] at z
        exact z

theorem ok_eqW {A fI pO gO pN gN f : Addr} {mc : Value} {fd : FuncData} (F : Fun K "__eq__" "Amount.__eq__" s_Amount_eq f fd) (T : Txt K mg) (U : AmC K mg A fI pO gO pN gN mc) (cI : CalO P w K mg base "is_int" 1 ["value"] (spIsInt A) (fun _ => True)) : FnOk P w K mg base CX0 5 f fd ["self", "other"] (spCmpW A gEq) := by
  refine F.ok sc_Amount_eq (fun vs H Q E h => ?_) (fun cdv A' outer s H vs Q E hr h => ?_)
  · obtain ⟨a, v, t, b, c, d, rfl, _⟩ := h
    rfl
  · obtain ⟨a, v, t, b, c, d, rfl, am, n, lo, lo2, St, Sb, Sc, Sd, k⟩ := h
    refine ⟨_, (pss_cons (s_if (t_val (pe_callB c_isi (by rfl) T.b_isinstance (by decide +kernel) (pa_cons (pc 1) (pa_cons (p_gc U.g_Amount) pa_nil)))) (pss_one (ps_ret (e_and (p_cmp (o_eq hr.units) (pe_fld (pc 0) rfl) (pe_fld (pc 1) rfl)) (pe_one (p_cmp (o_eq hr.units) (pe_fld (pc 0) rfl) (pe_fld (pc 1) rfl)))))) pss_nil)
    (pss_one (ps_ret (e_and (pe_cO cI (hr.mono (by decide)) (pa_cons (pc 1) pa_nil)) (e_and (p_cmp (o_eq hr.units) (pe_fld (pc 0) rfl) pe_int) (pe_one (p_cmp (o_eq hr.units) (pe_fld (pc 0) rfl) (pc 1)))))))), ?_⟩
    rcases n with ⟨y, rfl, an⟩ | ⟨rfl, rfl⟩
    · obtain ⟨dx, e⟩ := id am
      obtain ⟨dr, er⟩ := id an
      refine ⟨_, _, _, _, true, rfl, .ins er U.cls U.ha U.hn U.ht U.hm, (fun u r => r), kit_self K A, ⟨fun _ => ?_, fun h => absurd h (by decide)⟩⟩
      refine ⟨a, A, _, _, _, rfl, e, U.cls, U.nT, rfl, y, A, _, _, _, rfl, er, U.cls, U.nT, rfl, ⟨fun x => ?_, fun x => ?_⟩⟩
      · have x : t = c := by simpa using x
        refine ⟨a, A, _, _, _, rfl, e, U.cls, U.nB, rfl, y, A, _, _, _, rfl, er, U.cls, U.nB, rfl, ?_⟩
        have z := k H (Same.refl H)
        rw [show gEq t b c d = xor false (decide (b = d)) by simp [gEq, x]] at z
        exact z
      · have x : ¬ t = c := by simpa using x
        have z := k H (Same.refl H)
        rw [show gEq t b c d = false by simp [gEq, x]] at z
        exact z
    · obtain ⟨dx, e⟩ := id am
      refine ⟨_, _, _, _, false, rfl, .int c, (fun u r => r), U.kA, ⟨fun h => absurd h (by decide), fun _ => ⟨_, rfl, .inl ⟨⟨c, rfl⟩, ⟨fun _ => ?_, fun h => absurd h (by decide)⟩⟩⟩⟩⟩
      refine ⟨a, A, _, _, _, rfl, e, U.cls, U.nB, rfl, ⟨fun x => ?_, fun x => ?_⟩⟩
      · have x : b = 1 := by simpa using x
        refine ⟨a, A, _, _, _, rfl, e, U.cls, U.nT, rfl, ?_⟩
        have z := k H (Same.refl H)
        rw [show gEq t b c 1 = xor false (decide (t = c)) by simp [gEq, x]] at z
        exact z
      · have x : ¬ b = 1 := by simpa using x
        have z := k H (Same.refl H)
        rw [show gEq t b c 1 = false by simp [gEq, x]] at z
        exact z

def Kd (K : PySem.W.Frag) (A : Addr) (H : Hp) (x : V) (b1 b2 b3 : Bool) : Prop := ∃ t, TyOf K H x t ∧ PySem.W.kitOne K t (.type "int") = some b1 ∧ PySem.W.kitOne K t (.type "bool") = some b2 ∧ PySem.W.kitOne K t (.ref A) = some b3
def spIntG (K : PySem.W.Frag) (A : Addr) : Sp := fun vs H Q _ => ∃ x b1 b2 b3, vs = [x] ∧ Kd K A H x b1 b2 b3 ∧ Q (.bl (b1 && !b2)) H
def spNumG (K : PySem.W.Frag) (A : Addr) : Sp := fun vs H Q _ => ∃ x b1 b2 b3, vs = [x] ∧ Kd K A H x b1 b2 b3 ∧ Q (.bl ((b1 && !b2) || b3)) H
/-- == with what is no number -/
def spEqN (K : PySem.W.Frag) (A : Addr) : Sp := fun vs H Q _ => ∃ (a : Addr) (x : V) (b1 b2 : Bool), vs = [.ref a, x] ∧ IsI A H a ∧ Kd K A H x b1 b2 false ∧ (b1 && !b2) = false ∧ Q (.bl false) H

theorem ok_is_intG {A fI pO gO pN gN f : Addr} {mc : Value} {fd : FuncData} (F : Fun K "is_int" "is_int" s_is_int f fd) (T : Txt K mg) (U : AmC K mg A fI pO gO pN gN mc) : FnOk P w K mg base CX0 1 f fd ["value"] (spIntG K A) := by
  refine F.ok sc_is_int (fun vs H Q E h => ?_) (fun cdv A' outer s H vs Q E hr h => ?_)
  · obtain ⟨x, b1, b2, b3, rfl, _⟩ := h
    rfl
  · obtain ⟨x, b1, b2, b3, rfl, ⟨t, ty, k1, k2, k3⟩, k⟩ := h
    refine ⟨_, (pss_one (ps_ret (e_and (pe_callB c_isi (by rfl) T.b_isinstance (by decide +kernel) (pa_cons (pc 0) (pa_cons (pe_bltn (v := .ty "int") (u := .type "int") (by rfl) T.b_int (by decide +kernel) rfl) pa_nil))) (pe_one (e_not (pe_callB c_isi (by rfl) T.b_isinstance (by decide +kernel) (pa_cons (pc 0) (pa_cons (pe_bltn (v := .ty "bool") (u := .type "bool") (by rfl) T.b_bool (by decide +kernel) rfl) pa_nil)))))))), ?_⟩
    refine ⟨x, _, t, _, b1, rfl, ty, (fun u r => r), k1, ⟨fun e => ?_, fun e => ?_⟩⟩
    · subst e
      exact ⟨x, _, t, _, b2, rfl, ty, (fun u r => r), k2, k⟩
    · subst e
      exact k

theorem ok_is_numberG {A fI pO gO pN gN f : Addr} {mc : Value} {fd : FuncData} (F : Fun K "is_number" "Amount.is_number" s_Amount_is_number f fd) (T : Txt K mg) (U : AmC K mg A fI pO gO pN gN mc) (cG : CalO P w K mg base "is_int" 1 ["value"] (spIntG K A) (fun _ => True)) : FnOk P w K mg base CX0 2 f fd ["value"] (spNumG K A) := by
  refine F.ok sc_Amount_is_number (fun vs H Q E h => ?_) (fun cdv A' outer s H vs Q E hr h => ?_)
  · obtain ⟨x, b1, b2, b3, rfl, _⟩ := h
    rfl
  · obtain ⟨x, b1, b2, b3, rfl, kd, k⟩ := h
    refine ⟨_, (pss_one (ps_ret (e_or (pe_cO cG (hr.mono (by decide)) (pa_cons (pc 0) pa_nil)) (pe_one (pe_callB c_isi (by rfl) T.b_isinstance (by decide +kernel) (pa_cons (pc 0) (pa_cons (p_gc U.g_Amount) pa_nil))))))), ?_⟩
    refine ⟨x, b1, b2, b3, rfl, kd, ⟨fun e => ?_, fun e => ?_⟩⟩
    · rw [e] at k
      exact k
    · obtain ⟨t, ty, k1, k2, k3⟩ := kd
      rw [e] at k
      exact ⟨x, _, t, _, b3, rfl, ty, (fun u r => r), k3, by simpa using k⟩

section
variable (P : Program) (w : World) (K : PySem.W.Frag) (mg : Str → Option Value) (base : Heap)
/-- a comparison of Amount, both methods -/
def CmC (A : Addr) (op : CmpOp) (idl : String) (spF spG : Sp) : Prop := ∃ (f g : Addr) (ff fg : FuncData), CmpO K A op f g idl ∧ FnOk P w K mg base CX0 8 f ff ["self", "other"] spF ∧ FnOk P w K mg base CX0 8 g fg ["self", "other"] spG ∧ Binds K ff ["self", "other"] [] ∧ Binds K fg ["self", "other"] []
/-- what != and == with anything need -/
structure EqC (A : Addr) : Prop where
  sub : PySem.W.subIn K (.ref A) (.type "int") = some false
  hm : PySem.W.mroIn K A (.type "object") = some true
  hn : PySem.W.findIn K (.ref A) "__ne__" = some (some (.builtin "object.__ne__"))
  eq : ∃ (f : Addr) (fd : FuncData), PySem.W.findIn K (.ref A) "__eq__" = some (some (.ref f)) ∧ PySem.W.isFn K (.ref f) = true ∧ FnOk P w K mg base CX0 7 f fd ["self", "other"] (spCmp A gEq) ∧ FnOk P w K mg base CX0 7 f fd ["self", "other"] (spEqN K A) ∧ Binds K fd ["self", "other"] []
end

theorem cm_c {X : Cx} {A : Addr} {op : CmpOp} {idl : String} {r0 : L2.R2} {spF spG : Sp} (h0 : OpR X (compareOp op) r0) (C : CmC X.prog X.w X.K X.mg X.base A op idl spF spG) (hr : Room 8 X.A) : OpR X (compareOp op) (rOw A r0 spF spG (fun _ _ _ => False)) := by
  obtain ⟨f, g, ff, fg, O, Ff, Fg, bf, bg⟩ := C
  exact op_cm h0 O Ff Fg bf bg hr pass0
theorem ne_c {X : Cx} {A : Addr} {r0 : L2.R2} (h0 : OpR X (compareOp .NotEq) r0) (C : EqC X.prog X.w X.K X.mg X.base A) (hr : Room 8 X.A) : OpR X (compareOp .NotEq) (rNw A r0 (spCmp A gEq) (fun _ _ _ => False)) := by
  obtain ⟨f, fd, hs, hf, F1, F2, b⟩ := C.eq
  exact op_new h0 C.sub C.hm C.hn hs hf F1 b hr pass0

end
end LW
set_option Elab.async false
set_option linter.all false
set_option maxRecDepth 100000
set_option maxHeartbeats 4000000
namespace LW
open PySem PySem.Spec PyProof.Rows L2 HX NumText
section
variable {P : Program} {w : World} {K : PySem.W.Frag} {mg : Str → Option Value} {base : Heap}

theorem low_c : ∀ c, c < 128 → Unicode.isAlpha c = true → (Unicode.isUpper c || Unicode.isTitle c) = false → c ∈ abc := by decide +kernel
theorem low_r : ∀ c ∈ abc, (decide (c < 128) && (Unicode.isAlpha c && (Unicode.isLower c && !(Unicode.isUpper c || Unicode.isTitle c)))) = true := by decide +kernel
theorem low_all {z : Str} (h1 : 1 ≤ z.length) : (z.cps.toList.all fun c => decide (c ∈ abc)) = (Txt.isascii z && (Txt.isalpha z && Txt.islower z)) := by
  have l0 : z.length = z.cps.toList.length := by simp [Str.length]
  rw [Bool.eq_iff_iff]
  unfold Txt.isascii Txt.isalpha Txt.islower
  simp only [Bool.and_eq_true, List.all_eq_true, decide_eq_true_eq, ← Array.all_toList, ← Array.any_toList, List.any_eq_true, Bool.not_eq_true']
  constructor
  · intro h
    have hr : ∀ c ∈ z.cps.toList, c < 128 ∧ Unicode.isAlpha c = true ∧ Unicode.isLower c = true ∧ (Unicode.isUpper c || Unicode.isTitle c) = false := fun c hc => by
      have e := low_r c (h c hc)
      simp only [Bool.and_eq_true, decide_eq_true_eq, Bool.not_eq_true'] at e
      exact ⟨e.1, e.2.1, e.2.2.1, e.2.2.2⟩
    refine ⟨fun c hc => (hr c hc).1, ⟨by omega, fun c hc => (hr c hc).2.1⟩, ?_, ?_⟩
    · cases hz : z.cps.toList with
      | nil =>
        rw [hz] at l0
        simp at l0
        omega
      | cons a l => exact ⟨a, List.mem_cons_self .., (hr a (by rw [hz]; exact List.mem_cons_self ..)).2.2.1⟩
    · rw [List.any_eq_false]
      intro c hc
      rw [(hr c hc).2.2.2]
      exact Bool.false_ne_true
  · rintro ⟨h1, ⟨_, h2⟩, _, h3⟩ c hc
    rw [List.any_eq_false] at h3
    have h4 := h3 c hc
    exact low_c c (h1 c hc) (h2 c hc) (by simpa using h4)
theorem ok_is_name {f : Addr} {fd : FuncData} (F : Fun K "is_name" "is_name" s_is_name f fd) (T : Txt K mg) (T2 : Txt2 mg) (hml : ∃ t, mg "MOST_LETTERS" = some (.int 8 t)) : FnOk P w K mg base CX0 1 f fd ["value"] spIsName := by
  refine F.ok sc_is_name (fun vs H Q E h => ?_) (fun cdv A outer s H vs Q E hr h => ?_)
  · obtain ⟨x, d, rfl, _⟩ := h
    rfl
  · obtain ⟨x, d, rfl, hx, hz, k⟩ := h
    refine ⟨_, (pss_cons (s_if (PW.pt (w_or (pt_not (t_val (pe_callB c_isi (by rfl) T.b_isinstance (by decide +kernel) (pa_cons (pc 0) (pa_cons (pe_bltn (v := .ty "str") (u := .type "str") (by rfl) T2.b_str (by decide +kernel) rfl) pa_nil))))) (pw_or1 (pt_not (t_chain o_le o_le pe_int (pe_callB c_len (by rfl) T.b_len (by decide +kernel) (pa_cons (pc 0) pa_nil)) (p_gi hml)))))) (pss_one (ps_ret pe_bl)) pss_nil)
    (pss_one (ps_ret (e_and (pe_m0 PySem.F.slot_str_isascii PySem.F.type_str_isascii mt_isascii (pc 0)) (e_and (pe_m0 PySem.F.slot_str_isalpha PySem.F.type_str_isalpha mt_isalpha (pc 0)) (pe_one (pe_m0 PySem.F.slot_str_islower PySem.F.type_str_islower mt_islower (pc 0)))))))), ?_⟩
    obtain ⟨t, ty, kt⟩ := hx.isStr (K := K)
    refine ⟨_, _, t, _, _, rfl, ty, (fun u r => r), kt, fun h => ?_, fun h => ?_⟩
    · have h2 : isStrD d = false := by simpa using h
      have e := k H (Same.refl H)
      rw [nameD_not h2] at e
      exact ⟨fun _ => e, fun z => Bool.noConfusion z⟩
    · have h2 : isStrD d = true := by simpa using h
      obtain ⟨z, rfl⟩ := isStr_str h2
      cases hx
      have hz : z.length ≤ 1000000 := hz
      have hz2 := Nat.le_trans hz size_line_big
      have far : nameS z = false → Q (.bl false) H := fun h => by
        have e := k H (Same.refl H)
        rw [show nameD (.str z) = false from h] at e
        exact e
      refine ⟨hz2, fun h1 => ⟨fun h => far ?_, fun h => ?_⟩, fun h1 => ⟨fun _ => far ?_, fun h => Bool.noConfusion h⟩⟩
      · have h3 : ¬ z.length ≤ 8 := by
          intro q
          have q' : (z.length : Int) ≤ 8 := by omega
          rw [decide_eq_true q'] at h
          cases h
        unfold nameS
        rw [decide_eq_false h3]
        simp
      · have h4 : 1 ≤ z.length := by
          have := of_decide_eq_true h1
          omega
        have h3 : z.length ≤ 8 := by
          have q : decide ((z.length : Int) ≤ 8) = true := by simpa using h
          have := of_decide_eq_true q
          omega
        have e := k H (Same.refl H)
        have e7 : nameD (.str z) = (Txt.isascii z && (Txt.isalpha z && Txt.islower z)) := by
          rw [← low_all h4]
          show nameS z = _
          unfold nameS
          rw [decide_eq_true h4, decide_eq_true h3]
          rfl
        rw [e7] at e
        refine ⟨⟨z, rfl⟩, z, rfl, rfl, trivial, ⟨fun h5 => ⟨⟨z, rfl⟩, z, rfl, rfl, trivial, ⟨fun h6 => ⟨⟨z, rfl⟩, z, rfl, rfl, trivial, ?_⟩, fun h6 => ?_⟩⟩, fun h5 => ?_⟩⟩
        · rw [h5, h6] at e
          exact e
        · rw [h5, h6] at e
          exact e
        · rw [h5] at e
          exact e
      · have h3 : ¬ 1 ≤ z.length := by
          intro q
          have q' : (1 : Int) ≤ z.length := by omega
          rw [decide_eq_true q'] at h1
          cases h1
        unfold nameS
        rw [decide_eq_false h3]
        simp

theorem lets_is : (Str.ofString "abcdefghijklmnopqrstuvwxyz") = ofL abc := by decide +kernel
theorem abc_lt : ∀ c ∈ abc, c < 128 := by decide
theorem abc_len : abc.length = 26 := by decide
theorem abc_nd : abc.Nodup := by decide
def Nm (l : List Nat) : Prop := 1 ≤ l.length ∧ l.length ≤ 8 ∧ ∀ c ∈ l, c ∈ abc
def nmX (st : List Nat) (sp : Nat) (x : Nat) : List Nat := st.take sp ++ [x] ++ st.drop sp
theorem nmX_inj {st : List Nat} {sp x y : Nat} (h : nmX st sp x = nmX st sp y) : x = y := by
  unfold nmX at h
  have := List.append_cancel_right h
  have := List.append_cancel_left this
  simpa using this
theorem abc_ij : ∀ a, a < 26 → ∀ b, b < 26 → abc.getD a 97 = abc.getD b 97 → a = b := by decide +kernel
def lt26 (fr j : Nat) : Nat := abc.getD ((fr + 5 * j) % 26) 97
theorem lt26_mem (fr j : Nat) : lt26 fr j ∈ abc := by
  have h : (fr + 5 * j) % 26 < abc.length := by rw [abc_len]; omega
  have e : lt26 fr j = abc[(fr + 5 * j) % 26] := by
    unfold lt26
    simp [List.getD, List.getElem?_eq_getElem h]
  rw [e]
  exact List.getElem_mem h
theorem lt26_get (fr j : Nat) (h : (fr + 5 * j) % 26 < abc.length) : lt26 fr j = abc[(fr + 5 * j) % 26] := by
  unfold lt26
  simp [List.getD, List.getElem?_eq_getElem h]
theorem Kp.freeN26 {p q : Addr} {H G : Hp} (k : Kp p H G) (n : q ≠ p) (h : G q = none) : H q = none := by
  cases e : H q with
  | none => rfl
  | some o =>
    have := k _ _ n e
    rw [h] at this
    cases this
theorem lt26_inj {fr i j : Nat} (hi : i < 26) (hj : j < 26) (h : lt26 fr i = lt26 fr j) : i = j := by
  have h1 : (fr + 5 * i) % 26 < abc.length := by rw [abc_len]; omega
  have h2 : (fr + 5 * j) % 26 < abc.length := by rw [abc_len]; omega
  rw [lt26_get _ _ h1, lt26_get _ _ h2] at h
  have a1 : (fr + 5 * i) % 26 < 26 := by omega
  have a2 : (fr + 5 * j) % 26 < 26 := by omega
  have : (fr + 5 * i) % 26 = (fr + 5 * j) % 26 := abc_ij _ a1 _ a2 (by simpa [List.getD, List.getElem?_eq_getElem h1, List.getElem?_eq_getElem h2] using h)
  omega
def nms (st : List Nat) (sp fr n : Nat) : List (List Nat) := (List.range n).map fun j => nmX st sp (lt26 fr j)
theorem nms_nd {st : List Nat} {sp fr n : Nat} (h : n ≤ 26) : (nms st sp fr n).Nodup := by
  unfold nms
  rw [List.nodup_iff_pairwise_ne, List.pairwise_map]
  refine List.Pairwise.imp_of_mem ?_ List.nodup_range
  intro i j hi hj ne e
  exact ne (lt26_inj (by have := List.mem_range.mp hi; omega) (by have := List.mem_range.mp hj; omega) (nmX_inj e))
theorem nms_ok {st : List Nat} {sp fr n : Nat} (h7 : st.length ≤ 7) (hs : ∀ c ∈ st, c ∈ abc) : ∀ l ∈ nms st sp fr n, Nm l := by
  intro l hl
  obtain ⟨j, _, rfl⟩ := List.mem_map.mp hl
  unfold nmX
  refine ⟨by simp; omega, by simp; omega, fun c hc => ?_⟩
  rcases List.mem_append.mp hc with hc | hc
  · rcases List.mem_append.mp hc with hc | hc
    · exact hs c (List.mem_of_mem_take hc)
    · rw [List.mem_singleton.mp hc]
      exact lt26_mem _ _
  · exact hs c (List.mem_of_mem_drop hc)
theorem nms_snoc (st : List Nat) (sp fr i : Nat) : nms st sp fr (i + 1) = nms st sp fr i ++ [nmX st sp (lt26 fr i)] := by
  unfold nms
  rw [List.range_succ, List.map_append]
  rfl
def spNames : Sp := fun vs H Q _ => ∃ (p k0 : Addr) (c many : Int), vs = [.ref p, .int many] ∧ Pe H p k0 c ∧ 0 ≤ many ∧ many ≤ 26 ∧ c < 999000 ∧ ∀ (ls : List (List Nat)) (q : Addr) (G : Hp), ls.length = many.toNat → (∀ l ∈ ls, Nm l) → ls.Nodup → Kp p H G → Pe G p k0 (c + 11) → q ≠ p → G q = some (.lst (ls.map fun l => .str (ofL l))) → Q (.ref q) G
theorem ok_names {f : Addr} {fd : FuncData} (F : Fun K "_law_names" "_law_names" s__law_names f fd) (T : Txt K mg) (T2 : Txt2 mg) (cD : CalO P w K mg base "_law_draw" 1 ["_law_pen_here", "_law_many"] spDraw (fun _ => True)) (cP : CalO P w K mg base "_law_pick" 2 ["_law_pen_here", "_law_some"] (spPick K) (fun _ => True)) : FnOk P w K mg base CX0 3 f fd ["_law_pen_here", "_law_many"] spNames := by
  refine F.ok sc__law_names (fun vs H Q E h => ?_) (fun cdv A' outer s H vs Q E hr h => ?_)
  · obtain ⟨p, k0, c, many, rfl, _⟩ := h
    rfl
  · obtain ⟨p, k0, c, many, rfl, Pp, m0, m1, hc, k⟩ := h
    refine ⟨_, (pss_cons (ps_set (i := 2) sc__law_names.nd rfl (Or.inr rfl) pe_str)
    (pss_cons (ps_set (i := 3) sc__law_names.nd rfl (Or.inr rfl) (pe_join pe_str (pe_lc (own := [("_law_k", 6)]) (g := gName 6) (tt := tYes) rfl sc__law_names.nd (pi_range1 (by rfl) T.b_range (pa_cons (pe_cO cP (hr.mono (by decide)) (pa_cons (pc 0) (pa_cons (pe_lst (pa_cons pe_int (pa_cons pe_int (pa_cons pe_int (pa_cons pe_int (pa_cons pe_int pa_nil)))))) pa_nil))) pa_nil)) (blkOk_by (own := [("_law_k", 6)]) (N := n__law_names) (sc := defScope s__law_names) (by decide +kernel)) (fun _ _ _ _ _ => pg_name (i := 6) sc__law_names.nd rfl (Or.inl rfl)) (fun _ _ _ _ _ => pts_nil) (fun _ _ _ _ _ => (pe_cO cP (hr.mono (by decide)) (pa_cons (pc 0) (pa_cons (pc 2) pa_nil)))))))
    (pss_cons (ps_set (i := 3) sc__law_names.nd rfl (Or.inr rfl) (pe_cO cP (hr.mono (by decide)) (pa_cons (pc 0) (pa_cons (pe_lst (pa_cons (pc 3) (pa_cons (pc 3) (pa_cons (pc 3) (pa_cons pe_str (pa_cons pe_str (pa_cons pe_str pa_nil))))))) pa_nil))))
    (pss_cons (ps_asg (pe_tup (pa_cons (pe_cO cD (hr.mono (by decide)) (pa_cons (pc 0) (pa_cons (pe_op o_add (pe_callB c_len (by rfl) T.b_len (by decide +kernel) (pa_cons (pc 3) pa_nil)) pe_int) pa_nil))) (pa_cons (pe_cO cD (hr.mono (by decide)) (pa_cons (pc 0) (pa_cons pe_int pa_nil))) pa_nil))) (pg_tup rfl (pgs_cons (pg_name (i := 4) sc__law_names.nd rfl (Or.inr rfl)) (pgs_cons (pg_name (i := 5) sc__law_names.nd rfl (Or.inr rfl)) pgs_nil))))
    (pss_one (ps_ret (pe_lc (own := [("_law_k", 6)]) (g := gName 6) (tt := tYes) rfl sc__law_names.nd (pi_range1 (by rfl) T.b_range (pa_cons (pc 1) pa_nil)) (blkOk_by (own := [("_law_k", 6)]) (N := n__law_names) (sc := defScope s__law_names) (by decide +kernel)) (fun _ _ _ _ _ => pg_name (i := 6) sc__law_names.nd rfl (Or.inl rfl)) (fun _ _ _ _ _ => pts_nil) (fun _ _ _ _ _ => (pe_op o_add (pe_op o_add (pe_slice C8.sl_txt (pc 3) po_none (po_some (pc 4))) (pe_ix ix_str (pc 2) (pe_op o_mod (pe_callTy c_int (by rfl) T.b_int (by decide +kernel) (pa_cons (pe_op o_add (pc 5) (pe_op o_mul pe_int (pc 6))) pa_nil)) pe_int) (by exact fun _ _ => rfl))) (pe_slice C8.sl_txt (pc 3) (po_some (pc 4)) po_none)))))))))), ?_⟩
    refine ⟨⟨_, rfl⟩, by show 5 ≤ sizeLine; decide, fun q1 n1 => ⟨p, k0, c, .ref q1, rfl, Pp.new n1, by omega, .inr ⟨q1, _, rfl, Pp.ne n1, .inl (SqL.of upd_same), by show 0 < 5; decide, by show 5 ≤ 1000000; decide, fun v G1 hv k1 P1 => ?_⟩⟩⟩
    obtain ⟨n, rfl, n0, n7⟩ : ∃ n : Int, v = .int n ∧ 0 ≤ n ∧ n ≤ 7 := by
      simp only [List.mem_cons, List.not_mem_nil, or_false] at hv
      rcases hv with rfl | rfl | rfl | rfl | rfl <;> exact ⟨_, rfl, by decide, by decide⟩
    have kA : Kp p H G1 := (Kp.refl.new n1).trans k1
    refine ⟨n, rfl, by omega, by omega, fun D nD => lc_range (lo := 0) (n := n.toNat)
      (fun i G => ∃ cs : List Nat, cs.length = i ∧ (∀ ch ∈ cs, ch ∈ abc) ∧ G D = some (.lst (cs.map fun c => .str ⟨#[c]⟩)) ∧ Kp p H G ∧ Pe G p k0 (c + 1 + i))
      ⟨[], rfl, (fun _ z => nomatch z), upd_same, kA.new nD, by simpa using P1.new nD⟩
      (fun i G hi ⟨cs, e1, e2, e3, e4, e5⟩ => ⟨rfl, p, k0, c + 1 + i, _, rfl, e5, by omega, .inl ⟨_, rfl, by decide, by decide, fun ch G' hch kk P' => ?_⟩⟩)
      (fun G ⟨cs, e1, e2, e3, e4, e5⟩ => ⟨_, D, cs.map fun c => ⟨#[c]⟩, rfl, rfl, .inl (SqL.of (by rw [List.map_map]; exact e3)), ?_, ?_⟩)⟩
    · have nDp : D ≠ p := P1.ne nD
      refine ⟨_, kk D _ nDp e3, by rw [List.length_map, sizeLine_eq]; omega, cs ++ [ch], by rw [List.length_append, e1]; rfl, fun x hx => ?_, by rw [upd_same, List.map_append]; rfl, ?_, ?_⟩
      · rcases List.mem_append.mp hx with z | z
        · exact e2 x z
        · rw [List.mem_singleton.mp z]
          exact hch
      · exact (e4.trans kk).mut (Kp.freeN26 kA nDp nD)
      · have e6 : c + 1 + ((i + 1 : Nat) : Int) = c + 1 + i + 1 := by omega
        rw [e6]
        exact P'.mut (P1.ne nD) (P1.neL nD)
    · have e0 : ∀ l : List Nat, ((l.map fun c => (⟨#[c]⟩ : Str)).map (·.length)).sum = l.length := fun l => by
        induction l with
        | nil => rfl
        | cons a l ih =>
          rw [List.map_cons, List.map_cons, List.sum_cons, ih, List.length_cons]
          show 1 + l.length = l.length + 1
          omega
      rw [e0, List.length_map]
      show cs.length + cs.length * 0 ≤ 16777216
      omega
    · have e7 : Txt.join (Str.ofString "") (cs.map fun c => ⟨#[c]⟩) = ofL cs := (ofL_of _).symm.trans (congrArg ofL (tl_join1 (a := Str.ofString "") rfl cs))
      rw [e7]
      refine ⟨by show 6 ≤ sizeLine; decide, fun q2 n2 => ⟨p, k0, _, .ref q2, rfl, e5.new n2, by omega, .inr ⟨q2, _, rfl, e5.ne n2, .inl (SqL.of upd_same), by show 0 < 6; decide, by show 6 ≤ 1000000; decide, fun v G2 hv k2 P2 => ?_⟩⟩⟩
      obtain ⟨st, rfl, l7, hs⟩ : ∃ st : List Nat, v = .str (ofL st) ∧ st.length ≤ 7 ∧ ∀ c ∈ st, c ∈ abc := by
        simp only [List.mem_cons, List.not_mem_nil, or_false] at hv
        have w : ∀ z : Str, z.cps.toList.length ≤ 7 → (∀ c ∈ z.cps.toList, c ∈ abc) → ∃ st : List Nat, V.str z = .str (ofL st) ∧ st.length ≤ 7 ∧ ∀ c ∈ st, c ∈ abc := fun z h1 h2 => ⟨_, congrArg V.str (ofL_of z).symm, h1, h2⟩
        rcases hv with rfl | rfl | rfl | rfl | rfl | rfl
        · exact ⟨_, rfl, by omega, e2⟩
        · exact ⟨_, rfl, by omega, e2⟩
        · exact ⟨_, rfl, by omega, e2⟩
        · exact w _ (by decide +kernel) (by decide +kernel)
        · exact w _ (by decide +kernel) (by decide +kernel)
        · exact w _ (by decide +kernel) (by decide +kernel)
      have kB := (e4.trans (Kp.refl.new n2)).trans k2
      have ls := ofL_len st
      refine ⟨by rw [ofL_len, sizeLine_eq]; omega, p, k0, _, _, rfl, P2, by omega, by omega, by omega, fun sp G3 sp0 sp1 k3 P3 => ⟨p, k0, _, 26, rfl, P3, by decide, by decide, by omega, fun fr G4 fr0 fr1 k4 P4 => ⟨by show 2 ≤ sizeLine; decide, fun q3 n3 => ⟨q3, _, rfl, SqT.of upd_same, rfl, _, _, rfl, _, _, rfl, rfl, ?_⟩⟩⟩⟩
      have kC := ((kB.trans k3).trans k4).trans (Kp.refl.new n3 (o := .tup [.int sp, .int fr]))
      have P5 := P4.new n3 (o := .tup [.int sp, .int fr])
      refine ⟨many, rfl, by omega, by omega, fun D2 nD2 => lc_range (lo := 0) (n := many.toNat)
        (fun i G => G D2 = some (.lst ((nms st sp.toNat fr.toNat i).map fun l => .str (ofL l))) ∧ Kp p H G ∧ Pe G p k0 (c + 11))
        ⟨by rw [upd_same]; rfl, kC.new nD2, (P5.new nD2).mono (by omega)⟩ ?_ ?_⟩
      · rintro i G hi ⟨a1, a2, a3⟩
        have e_to : Txt.slice (ofL st) none (some sp) = ofL (st.take sp.toNat) := SX.slice_to sp0
        have e_fr : Txt.slice (ofL st) (some sp) none = ofL (st.drop sp.toNat) := SX.slice_from sp0
        have lm : (fr.toNat + 5 * i) % 26 < abc.length := by rw [abc_len]; omega
        have hix : atI (Str.ofString "abcdefghijklmnopqrstuvwxyz").cps.toList ((fr + 5 * (0 + (i : Int))) % 26) = some (lt26 fr.toNat i) := by
          rw [lets_is, show (fr + 5 * (0 + (i : Int))) % 26 = (((fr.toNat + 5 * i) % 26 : Nat) : Int) by omega]
          refine atI_nat ?_
          rw [lt26_get _ _ lm, ← List.getElem?_eq_getElem lm]
          simp [ofL]
        have lt := st.length_take_le sp.toNat
        have ld : (st.drop sp.toNat).length ≤ st.length := by rw [List.length_drop]; omega
        have sx : (Txt.slice (ofL st) none (some sp) ++ (⟨#[lt26 fr.toNat i]⟩ : Str)) ++ Txt.slice (ofL st) (some sp) none = ofL (nmX st sp.toNat (lt26 fr.toNat i)) := by
          rw [e_to, e_fr]
          unfold nmX
          rw [show (⟨#[lt26 fr.toNat i]⟩ : Str) = ofL [lt26 fr.toNat i] from rfl, ofL_app, ofL_app]
        have l1 : (Txt.slice (ofL st) none (some sp)).length + (⟨#[lt26 fr.toNat i]⟩ : Str).length ≤ sizeLine := by
          rw [e_to, ofL_len, sizeLine_eq]
          show _ + 1 ≤ _
          omega
        have l2 : (Txt.slice (ofL st) none (some sp) ++ (⟨#[lt26 fr.toNat i]⟩ : Str)).length + (Txt.slice (ofL st) (some sp) none).length ≤ sizeLine := by
          rw [e_to, e_fr, show (ofL (st.take sp.toNat) ++ (⟨#[lt26 fr.toNat i]⟩ : Str)) = ofL (st.take sp.toNat ++ [lt26 fr.toNat i]) from ofL_app _ [_], ofL_len, ofL_len, List.length_append, sizeLine_eq]
          show _ + 1 + _ ≤ _
          omega
        have l0 : (ofL st).length ≤ sizeLine := by rw [ofL_len, sizeLine_eq]; omega
        refine ⟨rfl, sp, rfl, _, rfl, l0, .inl (.inl (by decide)), (by decide : (0 : Int) < 26), _, _, _, rfl, rfl, by decide +kernel, hix, l1, sp, rfl, _, rfl, l0, l2, _, a1, by unfold nms; rw [List.length_map, List.length_map, List.length_range, sizeLine_eq]; omega, ?_, a2.mut (Kp.freeN26 kC (P5.ne nD2) nD2), a3.mut (P5.ne nD2) (P5.neL nD2)⟩
        rw [upd_same, nms_snoc, List.map_append, sx]
        rfl
      · rintro G ⟨a1, a2, a3⟩
        exact k _ D2 G (by unfold nms; simp) (nms_ok l7 hs) (nms_nd (by omega)) a2 a3 (P5.ne nD2) a1

theorem lets_l : (Str.ofString "abcdefghijklmnopqrstuvwxyz").cps.toList = abc := by decide +kernel
def nab (c : Nat) : Bool := !decide (c ∈ abc)
theorem nab_all {l : List Nat} : l.filter nab = [] ↔ ∀ c ∈ l, c ∈ abc := by
  rw [List.filter_eq_nil_iff]
  unfold nab
  constructor
  · intro h c hc
    have := h c hc
    simpa using this
  · intro h c hc
    simpa using h c hc
def spLName : Sp := fun vs H Q _ => ∃ l : List Nat, vs = [.str (ofL l)] ∧ l.length ≤ 100000 ∧ (∀ c ∈ l, c < 128) ∧ ∀ G, Same H G → Q (.bl (decide (1 ≤ l.length ∧ l.length ≤ 8 ∧ ∀ c ∈ l, c ∈ abc))) G
theorem ok_lname {f : Addr} {fd : FuncData} (F : Fun K "_law_is_name" "_law_is_name" s__law_is_name f fd) (T : Txt K mg) (T2 : Txt2 mg) : FnOk P w K mg base CX0 3 f fd ["_law_word_here"] spLName := by
  refine F.ok sc__law_is_name (fun vs H Q E h => ?_) (fun cdv A' outer s H vs Q E hr h => ?_)
  · obtain ⟨l, rfl, _⟩ := h
    rfl
  · obtain ⟨l, rfl, ln, lc, k⟩ := h
    refine ⟨_, (pss_one (ps_ret (e_and (e_chain o_le o_le pe_int (pe_callB c_len (by rfl) T.b_len (by decide +kernel) (pa_cons (pc 0) pa_nil)) pe_int) (pe_one (p_cmp (o_eq hr.units) (pe_lc (own := [("_law_sign", 1)]) (g := gName 1) rfl sc__law_is_name.nd (pi_str (pc 0)) (blkOk_by (own := [("_law_sign", 1)]) (N := n__law_is_name) (sc := defScope s__law_is_name) (by decide +kernel)) (fun _ _ _ _ _ => pg_name (i := 1) sc__law_is_name.nd rfl (Or.inl rfl)) (fun _ _ _ _ _ => (pts_one (t_cmp L2.op_notInS (pc 1) pe_str))) (fun _ _ _ _ _ => (pc 1))) (pe_lst pa_nil)))))), ?_⟩
    have ll := ofL_len l
    have kf : ¬ (1 ≤ l.length ∧ l.length ≤ 8 ∧ ∀ c ∈ l, c ∈ abc) → ∀ G, Same H G → Q (.bl false) G := fun n G s => by have := k G s; rwa [decide_eq_false n] at this
    have kt : (1 ≤ l.length ∧ l.length ≤ 8 ∧ ∀ c ∈ l, c ∈ abc) → ∀ G, Same H G → Q (.bl true) G := fun n G s => by have := k G s; rwa [decide_eq_true n] at this
    refine ⟨by rw [ofL_len, sizeLine_eq]; omega, ⟨fun h1 => ?_, fun h1 => ?_⟩⟩
    rotate_left
    · have h1 : ¬ ((1 : Int) ≤ (ofL l).length) := of_decide_eq_false h1
      exact ⟨fun h => absurd h (by decide), fun _ => kf (by omega) H (Same.refl H)⟩
    have h1 : ((1 : Int) ≤ (ofL l).length) := of_decide_eq_true h1
    refine ⟨fun h2 => ?_, fun h2 => ?_⟩
    rotate_left
    · have h2 : ¬ (((ofL l).length : Int) ≤ 8) := by simpa using h2
      exact kf (by omega) H (Same.refl H)
    have h2 : (((ofL l).length : Int) ≤ 8) := by simpa using h2
    refine ⟨_, rfl, fun D nD => lc_it (walk_str (z := ofL l)) (fun i G => Same H G ∧ G D = some (.lst (((l.take i).filter nab).map fun c => .str ⟨#[c]⟩))) ⟨Same.new (Same.refl H) nD, upd_same⟩ (fun _ _ _ _ => trivial) ?_ ?_⟩
    · rintro i x G G' hi ⟨s, hD⟩ ⟨rfl, c, em, rfl⟩
      have em : l[i]? = some c := by simpa [ofL] using em
      have tk : l.take (i + 1) = l.take i ++ [c] := by rw [List.take_add_one, em]; rfl
      refine ⟨rfl, c, _, rfl, rfl, ?_⟩
      rw [lets_l]
      show if nab c = true then _ else _
      cases hn : nab c with
      | false =>
        rw [if_neg (by decide)]
        exact ⟨s, by rw [tk, List.filter_append, List.filter_cons, hn]; simpa using hD⟩
      | true =>
        rw [if_pos rfl]
        have lf : ((l.take i).filter nab).length ≤ l.length := Nat.le_trans (List.length_filter_le _ _) (by rw [List.length_take]; omega)
        exact ⟨_, hD, by rw [List.length_map, sizeLine_eq]; omega, Same.mut s nD, by rw [upd_same, tk, List.filter_append, List.filter_cons, hn]; simp⟩
    · rintro G ⟨s, hD⟩
      rw [show (ofL l).cps.size = l.length by simp [ofL], List.take_length] at hD
      refine ⟨Nat.zero_le _, fun p np => ⟨_, .list [], .lst (SqL.of (kpN hD np)) (dp_strs _), .lst (SqL.of upd_same) .nil, shaped_strs _ (fun c hc => lc c (List.mem_filter.mp hc).1), rfl, ?_⟩⟩
      have s2 : Same H (L2.upd G p (.lst [])) := s.trans (Same.new (Same.refl G) np)
      cases hf : l.filter nab with
      | cons c r => exact kf (fun z => by rw [nab_all.mpr z.2.2] at hf; cases hf) _ s2
      | nil => exact kt ⟨by omega, by omega, nab_all.mp hf⟩ _ s2

end
end LW
set_option Elab.async false
set_option linter.all false
set_option maxRecDepth 100000
set_option maxHeartbeats 2000000
namespace HX
open PySem PySem.Spec PyProof.Rows L2

/-! ### classmethods read off their class: one that may raise, one called by keywords -/
section
variable {X : Cx} {CY : CXT} {k : Nat} {C p g : Addr} {mc : Value} {sp : Sp} {E : XK} {W : WX} {o e : Expr} {es : List Expr} {m : Str} {pos apos : Pos} {ta : TE} {t : TA} {pl : Sem Bool} {fd : FuncData} {ps : List Str} {ks : List Str} {kws : List Keyword} {gg : List Value → List Value → List Value} {gV : List V → List V → List V}
theorem pe_cmethX (he : PE X o ta) (r : ClX.CRead X.K C mc) (c : ClX.CMet X.K C mc m p g) (F : FnR X.prog X.w X.K X.mg X.base (CX X.prog X.w) k g sp) (hr : Room k X.A) (tk : Takes X W) (ha : PA X (e :: es) t)
    (hst : starEach (e :: es) X.env = (false, eval e X.env) :: starEach es X.env := by rfl) (hpl : (backTo pos (starEach es X.env)).any (·.1) = false := by rfl)
    (ht : eval (.Call (.Attribute o m apos) (e :: es) [] pos) X.env = (do
      let ov ← eval o X.env
      standAt apos.atName
      let (f, first) ← holding [ov] (getMethod ov m pl)
      callWith pos f first (backTo pos (starEach (e :: es) X.env)) (backToKw pos (keywordEach [] X.env))) := by rfl) :
    PE X (.Call (.Attribute o m apos) (e :: es) [] pos) (fun σ H Q => ClX.tCMeth C sp (WE W σ) ta t σ H Q) :=
 by
  refine ⟨fun pins s σ H Q I h => PySem.W.methodCall_KW (pl := pl) (thn (he.run pins s σ H _ I h) fun u s1 ⟨x, H1, I1, rx, ex, q⟩ => ?_) ht⟩
  subst ex
  obtain rfl : u = Value.ref C := rx
  refine ClX.getmethcm_ok I1 r c fun s2 I2 => ?_
  refine ClX.callwith_cm I2 (ClX.base_none I1 (Nat.le_refl _)) c.fi (thn (ha.run pos _ s2 σ H1 _ I2 q) fun us s3 ⟨vs, H2, I3, rv, q2⟩ => ⟨⟨ClX.pin_at I3, I3.kIn⟩, ?_⟩) hst hpl
  have run := F X.A X.stack s3 H2 (.ref C :: us) (.ref C :: vs) Q (WE W σ) hr I3.env0 (.cons rfl rv) q2
  have z : wpAny (model X.prog X.w) X.A (call (.ref s1.heap.objs.size) us) (EP X ((s1.heap.objs.size, PySem.W.methodObj (.ref g) (.ref C)) :: pins) σ Q) X.xe s3 := by
    refine wpAny_call (PySem.W.method_call (ClX.pin_at I3) (codeAny_mono run fun r s' q => ?_))
    match r, q with
    | .error e, q => exact passAt tk σ _ _ _ _ _ I3 q
    | .ok (.ret u), q => exact I3.after q
    | .ok .next, q => exact False.elim q
    | .ok .brk, q => exact False.elim q
    | .ok .cont, q => exact False.elim q
  exact thn z fun _ _ y => ClX.unpinE y
/-- C.m(k = e, ..), m a classmethod -/
def tCMK (C : Addr) (n : Nat) (sp : Sp) (gV : List V → List V → List V) (E : XK) (ta : TE) (t : TA) : TE := fun σ H Q => ta σ H fun x H1 => x = .ref C ∧ t σ H1 fun zs H2 => zs.length = n ∧ sp (gV [.ref C] zs) H2 Q E
theorem pe_cmk (he : PE X o ta) (r : ClX.CRead X.K C mc) (c : ClX.CMet X.K C mc m p g) (Fm : FnOk X.prog X.w X.K X.mg X.base CY k g fd ps sp) (b : KBn X.K fd ps 1 ks gg gV) (hr : Room k X.A) (hx : Passes CY X E) (hkw : PK X kws t)
    (hall : (backToKw pos (keywordEach kws X.env)).all (·.1.isSome) = true := by rfl) (hks : (backToKw pos (keywordEach kws X.env)).filterMap (·.1) = ks := by rfl)
    (hpl : ((backTo pos (starEach [] X.env)).any (·.1) || (backToKw pos (keywordEach kws X.env)).any (·.1.isNone)) = false := by rfl)
    (ht : eval (.Call (.Attribute o m apos) [] kws pos) X.env = (do
      let v ← eval o X.env
      standAt apos.atName
      let (f, first) ← holding [v] (getMethod v m pl)
      callWith pos f first (backTo pos (starEach [] X.env)) (backToKw pos (keywordEach kws X.env))) := by rfl) : PE X (.Call (.Attribute o m apos) [] kws pos) (tCMK C ks.length sp gV E ta t) := by
  refine ⟨fun pins s σ H Q I h => PySem.W.methodCall_KW (pl := pl) (thn (he.run pins s σ H _ I h) fun u s1 ⟨x, H1, I1, rx, ex, q⟩ => ?_) ht⟩
  subst ex
  obtain rfl : u = Value.ref C := rx
  refine ClX.getmethcm_ok I1 r c fun s2 I2 => ?_
  have hb := ClX.base_none I1 (Nat.le_refl _)
  refine PySem.W.callWith_of (P := PySem.W.MethP X.K s1.heap.objs.size g (.ref C)) hpl (PySem.W.keeps_M c.fi) (evalArgs_kw2_nil hall (thn (hkw.run pos _ s2 σ H1 _ I2 q) fun ws s3 ⟨zs, H2, I3, rz, l2, q2⟩ => ⟨⟨ClX.pin_at I3, I3.kIn⟩, ?_⟩))
  rw [hks]
  have l3 : ws.length = ks.length := rz.length.symm.trans l2
  have run := Fm.run X.A X.stack s3 H2 ⟨[.ref C], ks.zip ws⟩ (gg [.ref C] ws) (gV [.ref C] zs) Q E hr I3.env0 (b.to s3 [.ref C] ws I3.kIn rfl l3) (b.rel (.cons rfl .nil) rz) q2
  have z : wpAny (model X.prog X.w) X.A (call (.ref s1.heap.objs.size) [] (ks.zip ws)) (EP X ((s1.heap.objs.size, PySem.W.methodObj (.ref g) (.ref C)) :: pins) σ Q) X.xe s3 := by
    refine wpAny_call (PySem.W.method_call (ClX.pin_at I3) (codeAny_mono run fun r s' q => ?_))
    match r, q with
    | .error e, q => exact hx _ _ _ _ _ _ I3 q
    | .ok (.ret u), q => exact I3.after q
    | .ok .next, q => exact False.elim q
    | .ok .brk, q => exact False.elim q
    | .ok .cont, q => exact False.elim q
  exact thn z fun _ _ y => ClX.unpinE y
end
end HX

set_option Elab.async false
set_option linter.all false
set_option maxRecDepth 100000
set_option maxHeartbeats 2000000
namespace HX
open PySem PySem.Spec PyProof.Rows L2

/-! ### own errors inside a try whose clause raises out: defs and errors that fly without a context -/
section
variable {P : Program} {w : World} {K : PySem.W.Frag} {mg : Str → Option Value} {base : Heap}
/-- a def that may raise where the clause raises out again -/
theorem okN {x qual : Str} {st : Stmt} {f : Addr} {fd : FuncData} {N ps : List Str} {k : Nat} {sp : Sp} (F : Fun K x qual st f fd) (S : FnScope N ps (defScope st)) (len : ∀ vs H Q E, sp vs H Q E → vs.length = ps.length)
    (go : ∀ (cdv : Value) (A : Around) (outer : List Env) (s : Shared) (H : Hp) (vs : List V) (Q : VK) (E : XK), Room k (A.deeper (envOfC qual (defScope st) s.heap.objs.size f cdv)) → sp vs H Q E →
      ∃ t, PSs (cxOf (L2N.CX P w) P w K mg base N qual (defScope st) f cdv A outer s H E) (defBody st) t ∧ t { nx := fun _ G => Q .non G, rt := Q } (start N vs) H) : FnOk P w K mg base (L2N.CX P w) (k + 1) f fd ps sp := by
  have ⟨_, _, _, _, _, _, c, _, _, e, lk, hcd⟩ := F.ex
  subst e
  exact fn_of lk hcd S len fun A outer s H vs Q E => go c A outer s H vs Q E
/-- the same def while an exception is handled; here its own may not leave it -/
theorem okH {x qual : Str} {st : Stmt} {f : Addr} {fd : FuncData} {N ps : List Str} {k : Nat} {sp : Sp} (F : Fun K x qual st f fd) (S : FnScope N ps (defScope st)) (len : ∀ vs H Q E, sp vs H Q E → vs.length = ps.length)
    (go : ∀ (cdv : Value) (A : Around) (outer : List Env) (s : Shared) (H : Hp) (vs : List V) (Q : VK) (E : XK) (p : Addr × Obj), sp vs H Q E →
      ∃ t, PSs (L2H.cxH CX0 P w K mg base N qual (defScope st) f cdv A outer s H E p) (defBody st) t ∧ t { nx := fun _ G => Q .non G, rt := Q } (start N vs) H) : L2H.FnH P w K mg base CX0 (k + 1) f fd ps sp := by
  have ⟨_, _, _, _, _, _, c, _, _, e, lk, hcd⟩ := F.ex
  subst e
  exact L2H.fn_ofH lk hcd S len fun A outer s H vs Q E p _ _ => go c A outer s H vs Q E p
variable {C fI : Addr} {fd : FuncData} {qual f g : Str} {st : Stmt}
theorem ok_init2H (F : Fun K "__init__" qual st fI fd) (T : OexC K C) (no : PySem.W.findIn K (.ref C) f = some none) (no2 : PySem.W.findIn K (.ref C) g = some none) (S : FnScope ["self", f, g] ["self", f, g] (defScope st))
    (hb : ∃ p1 p2 p3 p4 q1 q2 q3 q4, defBody st = [.Assign [.Attribute (.Name "self" p1) f p2] (.Name f p3) p4, .Assign [.Attribute (.Name "self" q1) g q2] (.Name g q3) q4])
    (v0 : Vis (defScope st) "self" := by exact Or.inl rfl) (v1 : Vis (defScope st) f := by exact Or.inl rfl) (v2 : Vis (defScope st) g := by exact Or.inl rfl)
    (hd : (f == ("__debug__" : Str)) = false := by decide) (hcd : (f == ("__classdict__" : Str)) = false := by decide)
    (hd2 : (g == ("__debug__" : Str)) = false := by decide) (hcd2 : (g == ("__classdict__" : Str)) = false := by decide) : L2H.FnH P w K mg base CX0 1 fI fd ["self", f, g] (spI2 C f g) := by
  obtain ⟨p1, p2, p3, p4, q1, q2, q3, q4, eb⟩ := hb
  refine okH F S (fun vs H Q E h => ?_) (fun cdv A outer s H vs Q E p h => ?_)
  · obtain ⟨a, v, u, rfl, _⟩ := h
    rfl
  · obtain ⟨a, v, u, rfl, ha, k⟩ := h
    rw [eb]
    refine ⟨_, pss_cons (ps_ost (pe_var (i := 0) rfl v0) (pe_var (i := 1) rfl v1 hd hcd)) (pss_one (ps_ost (pe_var (i := 0) rfl v0) (pe_var (i := 2) rfl v2 hd2 hcd2))), ?_⟩
    refine ⟨v, rfl, _, rfl, a, C, rfl, T, no, .inl ⟨ha, fun dx n ne => ?_⟩⟩
    exact ⟨u, rfl, _, rfl, a, C, rfl, T, no2, .inr ⟨dx, [(f, v)], upd_same, by rw [upd_ne ne, upd_same], by show 1 ≤ 900; decide, k dx n ne⟩⟩
/-- such an error class, made where an exception is handled -/
def ErrH (P : Program) (w : World) (K : PySem.W.Frag) (mg : Str → Option Value) (base : Heap) (x : Str) (C : Addr) (ps : List Str) (sp : Sp) : Prop :=
  ∃ (fI : Addr) (fd : FuncData), RxC K mg x C fI ∧ L2H.FnH P w K mg base CX0 1 fI fd ps sp ∧ Binds K fd ps []
end
section
variable {X : Cx} {x : Str} {C : Addr} {ps : List Str} {sp : Sp} {e : Expr} {es : List Expr} {ta : TA} {W : WX} {p pos pos2 : Pos}
/-- an own error made where nothing is handled flies without a context -/
theorem mkN (Z : ErrC X.prog X.w X.K X.mg X.base x C ps sp) (hr : Room 2 X.A) (he : PA X (e :: es) ta) (hg : Gl X x) (hdb : (x == ("__debug__" : Str)) = false) (hs : starEach (e :: es) X.env = (false, eval e X.env) :: starEach es X.env) (hpl : (backTo pos (starEach es X.env)).any (·.1) = false) :
    L2N.PMk X (.Call (.Name x p) (e :: es) [] pos) (tMkO C sp [] ta) := by
  intro pins s σ H Q I h
  obtain ⟨fI, fd, T, F, b⟩ := Z
  obtain ⟨_, _, _, _, bm, _, _, _, _, _, _, _, _, _, _, hC, hbm⟩ := T.o.cls
  refine wpAny_Call_Name_kw (ld_glob I hg T.gC ?_ hdb)
  refine PySem.W.callWith_K (h₀ := X.base) I.ok.mod.kin T.o.kC (thn (he.run pos pins s σ H _ I h) fun us s1 ⟨vs, H1, I1, rv, small, ask⟩ => ⟨I1.kIn, ?_⟩) hs hpl
  show wpAny _ _ (call (.ref C) us) _ _ _
  obtain ⟨hp, gn, dw, tk, os⟩ := s1
  have ask := ask (hp.objs.size + 1) (I1.hok.fresh (Nat.le_succ _))
  rw [List.append_nil] at ask
  have kp : ∀ b o, hp.get? b = some o → ((hp.push (PySem.W.kdv_tup us)).push (PySem.HandSPX.excO C hp.objs.size)).get? b = some o := fun b o z => Heap.get?_push_of_some _ (Heap.get?_push_of_some _ z)
  have I2 := I1.laid (t' := tk) (a := hp.objs.size + 1) (o := exo (hp.objs.size + 1) C none) (h' := (hp.push (PySem.W.kdv_tup us)).push (PySem.HandSPX.excO C hp.objs.size)) kp (Nat.le_succ _) (exo_ok (by heap_get))
  have rv2 : Vals (V.ref (hp.objs.size + 1) :: vs) (Value.ref (hp.objs.size + 1) :: us) := .cons rfl rv
  have len : (Value.ref (hp.objs.size + 1) :: us ++ []).length = ps.length := by
    rw [List.append_nil]
    exact rv2.length.symm.trans (F.len _ _ _ _ ask)
  have bnd := b _ (Value.ref (hp.objs.size + 1) :: us) I2.kIn len
  rw [List.append_nil] at bnd
  have tiny : us.length ≤ sizeLine := by
    have := Paired.length rv
    rw [sizeLine_eq]
    omega
  have run := F.run _ X.stack _ _ ⟨Value.ref (hp.objs.size + 1) :: us, []⟩ _ _ _ _ (hr.make C us []) (I2.env0.make C us []) bnd rv2 ask
  refine wpAny_call (PySem.HandSPX.call_own PySem.F.excBase_ValueError (fun _ => PySem.HandSPX.refsVE_contains _ bm hbm) (I1.kIn _ _ hC) (PySem.W.looks_findIn I1.kIn T.iC) (fun _ => PySem.W.bind_fn I1.kIn _ T.tI) tiny (codeAny_mono run fun r s' got => ?_))
  match r, got with
  | .error _, got => exact got.elim
  | .ok .next, got => exact got.elim
  | .ok .brk, got => exact got.elim
  | .ok .cont, got => exact got.elim
  | .ok (.ret u), got =>
    obtain ⟨v, H2, ho, hb, un, hok, ru, rfl, d, fs, ea, ed, d1, q⟩ := got
    obtain ⟨h2, g2, d2, t2, os'⟩ := s'
    obtain ⟨_, G, J, kG, ge, at_, na⟩ := mk_end0 (d2 := d2) (t2 := t2) I1 (Nat.le_succ _) kp un hok ho hb ea ed d1
    refine ⟨ru, _, _, _, ⟨G, g2, d2, t2, os'⟩, _, .ref C, some d, rfl, J, kG, ge, at_, ⟨rfl, rfl, fun vs hv => ?_⟩, rfl, rfl, na, rfl, hb, raises_own T.o.exC T.o.tyC, q⟩
    cases hv
    rfl
theorem ps_rzN (Z : ErrC X.prog X.w X.K X.mg X.base x C ps sp) (hc : X.calm = true) (hr : Room 2 X.A) (tk : L2N.Takes X W) (he : PA X (e :: es) ta)
    (hg : Gl X x := by rfl) (hdb : (x == ("__debug__" : Str)) = false := by decide) (hs : starEach (e :: es) X.env = (false, eval e X.env) :: starEach es X.env := by rfl) (hpl : (backTo pos (starEach es X.env)).any (·.1) = false := by rfl) :
    PS X (.Raise (some (.Call (.Name x p) (e :: es) [] pos)) none pos2) (fun _ σ H => tMkO C sp [] ta σ H fun cls d G => W cls d σ G) :=
  L2N.ps_raise hc tk (mkN Z hr he hg hdb hs hpl)
/-- raise C(e, ..) from None, in a clause -/
theorem ps_rzF {j : Nat} {cpos : Pos} (Z : ErrH X.prog X.w X.K X.mg X.base x C ps sp) (hc : L2H.HotC X) (hr : L2H.RoomH 2 X.A) (tk : Takes X W) (he : PA X (e :: es) ta)
    (hg : Gl X x := by rfl) (hdb : (x == ("__debug__" : Str)) = false := by decide) (hs : starEach (e :: es) X.env = (false, eval e X.env) :: starEach es X.env := by rfl) (hpl : (backTo pos (starEach es X.env)).any (·.1) = false := by rfl) :
    PS X (.Raise (some (.Call (.Name x p) (e :: es) [] pos)) (some (.Constant .none j cpos)) pos2) (fun _ σ H => tMkO C sp [] ta σ H fun cls d G => W cls d σ G) := by
  obtain ⟨fI, fd, T, F, b⟩ := Z
  exact L2H.ps_raiseHN hc tk (L2H.pmk5_oexH T.o T.iC T.tI F hr hc b (fun _ _ _ _ _ _ _ z => z.elim) hg T.gC he hdb hs hpl)
end
section
variable {X : Cx} {CY : CXT} {k : Nat} {C p g : Addr} {mc : Value} {sp : Sp} {E : XK} {W : WX} {o e : Expr} {es : List Expr} {m : Str} {pos apos : Pos} {ta : TE} {t : TA} {pl : Sem Bool} {fd : FuncData} {ps : List Str} {ks : List Str} {kws : List Keyword} {gg : List Value → List Value → List Value} {gV : List V → List V → List V}
theorem pe_cmethXN (he : PE X o ta) (r : ClX.CRead X.K C mc) (c : ClX.CMet X.K C mc m p g) (F : FnR X.prog X.w X.K X.mg X.base (L2N.CX X.prog X.w) k g sp) (hr : Room k X.A) (tk : L2N.Takes X W) (ha : PA X (e :: es) t)
    (hst : starEach (e :: es) X.env = (false, eval e X.env) :: starEach es X.env := by rfl) (hpl : (backTo pos (starEach es X.env)).any (·.1) = false := by rfl)
    (ht : eval (.Call (.Attribute o m apos) (e :: es) [] pos) X.env = (do
      let ov ← eval o X.env
      standAt apos.atName
      let (f, first) ← holding [ov] (getMethod ov m pl)
      callWith pos f first (backTo pos (starEach (e :: es) X.env)) (backToKw pos (keywordEach [] X.env))) := by rfl) :
    PE X (.Call (.Attribute o m apos) (e :: es) [] pos) (fun σ H Q => ClX.tCMeth C sp (WE W σ) ta t σ H Q) :=
 by
  refine ⟨fun pins s σ H Q I h => PySem.W.methodCall_KW (pl := pl) (thn (he.run pins s σ H _ I h) fun u s1 ⟨x, H1, I1, rx, ex, q⟩ => ?_) ht⟩
  subst ex
  obtain rfl : u = Value.ref C := rx
  refine ClX.getmethcm_ok I1 r c fun s2 I2 => ?_
  refine ClX.callwith_cm I2 (ClX.base_none I1 (Nat.le_refl _)) c.fi (thn (ha.run pos _ s2 σ H1 _ I2 q) fun us s3 ⟨vs, H2, I3, rv, q2⟩ => ⟨⟨ClX.pin_at I3, I3.kIn⟩, ?_⟩) hst hpl
  have run := F X.A X.stack s3 H2 (.ref C :: us) (.ref C :: vs) Q (WE W σ) hr I3.env0 (.cons rfl rv) q2
  have z : wpAny (model X.prog X.w) X.A (call (.ref s1.heap.objs.size) us) (EP X ((s1.heap.objs.size, PySem.W.methodObj (.ref g) (.ref C)) :: pins) σ Q) X.xe s3 := by
    refine wpAny_call (PySem.W.method_call (ClX.pin_at I3) (codeAny_mono run fun r s' q => ?_))
    match r, q with
    | .error e, q => exact L2N.passAt tk σ _ _ _ _ _ I3 q
    | .ok (.ret u), q => exact I3.after q
    | .ok .next, q => exact False.elim q
    | .ok .brk, q => exact False.elim q
    | .ok .cont, q => exact False.elim q
  exact thn z fun _ _ y => ClX.unpinE y
end
end HX

set_option Elab.async false
set_option linter.all false
set_option maxRecDepth 100000
set_option maxHeartbeats 4000000
namespace LW
open PySem PySem.Spec PyProof.Rows L2 HX NumText
section
variable {P : Program} {w : World} {K : PySem.W.Frag} {mg : Str → Option Value} {base : Heap}

theorem ok_readZ {A fI pO gO pN gN f BT : Addr} {mc : Value} {fd : FuncData} (F : Fun K "read" "Amount.read" s_Amount_read f fd) (T : Txt K mg) (U : AmC K mg A fI pO gO pN gN mc) {fdI : FuncData} (FI : FnOk P w K mg base CX0 2 fI fdI ["self", "top", "bottom"] (spInit A)) {ds : List Value} (bI1 : Binds K fdI ["self", "top", "bottom"] ds) (vI1 : Vals [V.int 1] ds) (bI2 : Binds K fdI ["self", "top", "bottom"] []) (cFi : CalO P w K mg base "_is_figures" 1 ["text"] spFigs (fun _ => True)) (hstr : mg "str" = none) (cSt : UnC P w K mg base A "__str__" (spStr A)) (Z : ErrC P w K mg base "BadText" BT ["self", "line", "word"] (spI2 BT "line" "word")) : FnOk P w K mg base (L2N.CX P w) 9 f fd ["cls", "text"] (spRead K A BT) := by
  refine okN F sc_Amount_read (fun vs H Q E h => ?_) (fun cdv A' outer s H vs Q E hr h => ?_)
  · obtain ⟨x, rfl, _⟩ := h
    rfl
  · obtain ⟨x, rfl, hc⟩ := h
    refine ⟨_, (pss_cons (s_if (pt_not (t_val (pe_callB c_isi (by rfl) T.b_isinstance (by decide +kernel) (pa_cons (pc 1) (pa_cons (pe_bltn (v := .ty "str") (u := .type "str") (by rfl) hstr (by decide +kernel) rfl) pa_nil))))) (pss_one (ps_rzN Z rfl (hr.mono (by decide)) (L2N.takes_of rfl rfl rfl rfl) (pa_cons pe_int (pa_cons pe_int pa_nil)))) pss_nil)
    (pss_cons (ps_asg (pe_partition (pc 1) pe_str) (pg_tup rfl (pgs_cons (pg_name (i := 2) sc_Amount_read.nd rfl (Or.inl rfl)) (pgs_cons (pg_name (i := 3) sc_Amount_read.nd rfl (Or.inl rfl)) (pgs_cons (pg_name (i := 4) sc_Amount_read.nd rfl (Or.inl rfl)) pgs_nil)))))
    (pss_cons (s_if (t_cmp (o_eq hr.units) (pc 3) pe_str) (pss_one (ps_set (i := 4) sc_Amount_read.nd rfl (Or.inl rfl) pe_str)) pss_nil)
    (pss_cons (s_if (PW.pt (w_or (pt_not (t_val (pe_cO cFi (hr.mono (by decide)) (pa_cons (pe_m1 PySem.F.slot_str_removeprefix PySem.F.type_str_removeprefix mt_removeprefix (pc 2) pe_str) pa_nil)))) (w_or (pt_not (t_val (pe_cO cFi (hr.mono (by decide)) (pa_cons (pc 4) pa_nil)))) (pw_or1 (t_cmp (o_eq hr.units) (pe_callTy call_int_str (by rfl) T.b_int (by decide +kernel) (pa_cons (pc 4) pa_nil)) pe_int))))) (pss_one (ps_rzN Z rfl (hr.mono (by decide)) (L2N.takes_of rfl rfl rfl rfl) (pa_cons pe_int (pa_cons pe_int pa_nil)))) pss_nil)
    (pss_cons (ps_set (i := 5) sc_Amount_read.nd rfl (Or.inl rfl) (pe_makeL (i := 0) U.mkr FI (hr.mono (by decide)) bI2 .nil pass0 (pa_cons (pe_callTy call_int_str (by rfl) T.b_int (by decide +kernel) (pa_cons (pc 2) pa_nil)) (pa_cons (pe_callTy call_int_str (by rfl) T.b_int (by decide +kernel) (pa_cons (pc 4) pa_nil)) pa_nil))))
    (pss_cons (s_if (t_cmp (o_ne hr.units) (pe_callTy (str_c cSt (hr.mono (by decide))) (by rfl) hstr (by decide +kernel) (pa_cons (pc 5) pa_nil)) (pc 1)) (pss_one (ps_rzN Z rfl (hr.mono (by decide)) (L2N.takes_of rfl rfl rfl rfl) (pa_cons pe_int (pa_cons pe_int pa_nil)))) pss_nil)
    (pss_one (ps_ret (pc 5))))))))), ?_⟩
    rcases hc with ⟨l, rfl, ln, hk⟩ | ⟨⟨t, ty, kt⟩, z⟩
    rotate_left
    · exact ⟨_, _, _, _, false, rfl, ty, (fun u r => r), kt, ⟨fun _ => z.ans, fun h => absurd h (by decide)⟩⟩
    have bad0 : ¬ (okF l ∧ atx (rdP l) (rdQ l) = l) → RzT BT H E := fun n => by
      rcases hk with ⟨t, b, e, _⟩ | ⟨_, z⟩
      · rw [rdv_none.mpr n] at e
        cases e
      · exact z
    have one : ("1" : Str) = ofL [49] := by decide +kernel
    have e3 := part3 l
    have pl := pt3_len l
    have ul := unm_len (pt3 l).1
    refine ⟨_, _, _, _, true, rfl, .str _, (fun u r => r), rfl, ⟨fun h => absurd h (by decide), fun _ => ?_⟩⟩
    refine ⟨⟨_, rfl⟩, _, _, rfl, rfl, by decide +kernel, by rw [ofL_len, sizeLine_eq]; omega, fun p np => ?_⟩
    rw [e3]
    have bad : ¬ (okF l ∧ atx (rdP l) (rdQ l) = l) → RzT BT (L2.upd H p (.tup [.str (ofL (pt3 l).1), .str (ofL (pt3 l).2.1), .str (ofL (pt3 l).2.2)])) E := fun n => (bad0 n).mo (Same.new (Same.refl H) np)
    refine ⟨p, _, rfl, SqT.of upd_same, rfl, _, _, rfl, _, _, rfl, _, _, rfl, rfl, ⟨fun h => ?_, fun h => ?_⟩⟩
    · have h : ofL (pt3 l).2.1 = ("" : Str) := by simpa using h
      have eb : below l = [49] := if_pos (ofL_nil.mp h)
      refine ⟨⟨_, rfl⟩, _, _, rfl, rfl, by rw [ofL_len, sizeLine_eq]; show (pt3 l).1.length ≤ _; omega, unm (pt3 l).1, by rw [unm_eq]; rfl, by omega, ?_⟩
      cases f1 : figB (unm (pt3 l).1) with
      | false => exact ⟨fun _ => ⟨fun _ => (bad (fun c => by rw [c.1.1] at f1; cases f1)).ans, fun h => absurd h (by decide)⟩, fun h => absurd h (by decide)⟩
      | true =>
        refine ⟨fun h => absurd h (by decide), fun _ => ⟨[49], by rw [one]; rfl, by decide, ?_⟩⟩
        cases f2 : figB [49] with
        | false => exact ⟨fun _ => ⟨fun _ => (bad (fun c => by have := c.1.2.1; rw [eb, f2] at this; cases this)).ans, fun h => absurd h (by decide)⟩, fun h => absurd h (by decide)⟩
        | true =>
          refine ⟨fun h => absurd h (by decide), fun _ => ⟨_, _, rfl, by rw [one]; exact fig_read f2, by decide +kernel, ⟨fun h => ?_, fun h => ?_⟩⟩⟩
          · have h : (digitsVal [49] : Int) = 0 := by simpa using h
            exact (bad (fun c => c.1.2.2 (by rw [eb]; omega))).ans
          · have h : (digitsVal [49] : Int) ≠ 0 := by simpa using h
            refine ⟨rfl, _, _, rfl, sv_read f1, by rw [ofL_len]; have := fig_len f1; have := unm_len (pt3 l).1; show (pt3 l).1.length ≤ _; omega, _, _, rfl, by rw [one]; exact fig_read f2, by decide +kernel, ?_⟩
            refine mkR (p := sv (pt3 l).1) (q := (digitsVal [49] : Nat)) h ((sm_ten (sv_lt f1)).mono (by decide)) ((sm_ten (fig_lt f2)).mono (by decide)) fun r G nr s am => ?_
            have s1 : Same H (L2.upd H p (.tup [.str (ofL (pt3 l).1), .str (ofL (pt3 l).2.1), .str (ofL (pt3 l).2.2)])) := Same.new (Same.refl H) np
            have eP : nT (sv (pt3 l).1) ((digitsVal [49] : Nat) : Int) = rdP l := by unfold rdP; rw [eb]
            have eQ : nB (sv (pt3 l).1) ((digitsVal [49] : Nat) : Int) = rdQ l := by unfold rdQ; rw [eb]
            have SP : Sm 700 (rdP l) := by rw [← eP]; exact (sm_ten (sv_lt f1)).nT h
            have SQ : Sm 700 (rdQ l) := by rw [← eQ]; exact (sm_ten (fig_lt f2)).nB h
            rw [eP, eQ] at am
            refine ⟨am.isI, r, _, _, rfl, am, SP.mono (by decide), SQ.mono (by decide), _, rfl, ⟨fun h2 => ?_, fun h2 => ?_⟩⟩
            · have h2 : ¬ ofL (atx (rdP l) (rdQ l)) = ofL l := fun z => by rw [z] at h2; simp at h2
              exact ((bad0 (fun c => h2 (by rw [c.2]))).mo (s1.trans s)).ans
            · have h2 : ofL (atx (rdP l) (rdQ l)) = ofL l := by simpa using h2
              rcases hk with ⟨t, b, e, k⟩ | ⟨e, _⟩
              · have : rdv l = some (rdP l, rdQ l) := by
                  unfold rdv
                  rw [if_pos ⟨⟨f1, by rw [eb]; exact f2, by rw [eb]; omega⟩, ofL_inj h2⟩]
                rw [this] at e
                cases e
                exact k r G (s1.free nr) (s1.trans s) am
              · exact absurd ⟨⟨f1, by rw [eb]; exact f2, by rw [eb]; omega⟩, ofL_inj h2⟩ (rdv_none.mp e)
    · have h : ¬ ofL (pt3 l).2.1 = ("" : Str) := by simpa using h
      have eb : below l = (pt3 l).2.2 := if_neg (fun z => h (ofL_nil.mpr z))
      refine ⟨⟨_, rfl⟩, _, _, rfl, rfl, by rw [ofL_len, sizeLine_eq]; show (pt3 l).1.length ≤ _; omega, unm (pt3 l).1, by rw [unm_eq]; rfl, by omega, ?_⟩
      cases f1 : figB (unm (pt3 l).1) with
      | false => exact ⟨fun _ => ⟨fun _ => (bad (fun c => by rw [c.1.1] at f1; cases f1)).ans, fun h => absurd h (by decide)⟩, fun h => absurd h (by decide)⟩
      | true =>
        refine ⟨fun h => absurd h (by decide), fun _ => ⟨(pt3 l).2.2, rfl, by omega, ?_⟩⟩
        cases f2 : figB (pt3 l).2.2 with
        | false => exact ⟨fun _ => ⟨fun _ => (bad (fun c => by have := c.1.2.1; rw [eb, f2] at this; cases this)).ans, fun h => absurd h (by decide)⟩, fun h => absurd h (by decide)⟩
        | true =>
          refine ⟨fun h => absurd h (by decide), fun _ => ⟨_, _, rfl, fig_read f2, by rw [ofL_len]; have := fig_len f2; show (pt3 l).2.2.length ≤ _; omega, ⟨fun h => ?_, fun h => ?_⟩⟩⟩
          · have h : (digitsVal (pt3 l).2.2 : Int) = 0 := by simpa using h
            exact (bad (fun c => c.1.2.2 (by rw [eb]; omega))).ans
          · have h : (digitsVal (pt3 l).2.2 : Int) ≠ 0 := by simpa using h
            refine ⟨rfl, _, _, rfl, sv_read f1, by rw [ofL_len]; have := fig_len f1; have := unm_len (pt3 l).1; show (pt3 l).1.length ≤ _; omega, _, _, rfl, fig_read f2, by rw [ofL_len]; have := fig_len f2; show (pt3 l).2.2.length ≤ _; omega, ?_⟩
            refine mkR (p := sv (pt3 l).1) (q := (digitsVal (pt3 l).2.2 : Nat)) h ((sm_ten (sv_lt f1)).mono (by decide)) ((sm_ten (fig_lt f2)).mono (by decide)) fun r G nr s am => ?_
            have s1 : Same H (L2.upd H p (.tup [.str (ofL (pt3 l).1), .str (ofL (pt3 l).2.1), .str (ofL (pt3 l).2.2)])) := Same.new (Same.refl H) np
            have eP : nT (sv (pt3 l).1) ((digitsVal (pt3 l).2.2 : Nat) : Int) = rdP l := by unfold rdP; rw [eb]
            have eQ : nB (sv (pt3 l).1) ((digitsVal (pt3 l).2.2 : Nat) : Int) = rdQ l := by unfold rdQ; rw [eb]
            have SP : Sm 700 (rdP l) := by rw [← eP]; exact (sm_ten (sv_lt f1)).nT h
            have SQ : Sm 700 (rdQ l) := by rw [← eQ]; exact (sm_ten (fig_lt f2)).nB h
            rw [eP, eQ] at am
            refine ⟨am.isI, r, _, _, rfl, am, SP.mono (by decide), SQ.mono (by decide), _, rfl, ⟨fun h2 => ?_, fun h2 => ?_⟩⟩
            · have h2 : ¬ ofL (atx (rdP l) (rdQ l)) = ofL l := fun z => by rw [z] at h2; simp at h2
              exact ((bad0 (fun c => h2 (by rw [c.2]))).mo (s1.trans s)).ans
            · have h2 : ofL (atx (rdP l) (rdQ l)) = ofL l := by simpa using h2
              rcases hk with ⟨t, b, e, k⟩ | ⟨e, _⟩
              · have : rdv l = some (rdP l, rdQ l) := by
                  unfold rdv
                  rw [if_pos ⟨⟨f1, by rw [eb]; exact f2, by rw [eb]; omega⟩, ofL_inj h2⟩]
                rw [this] at e
                cases e
                exact k r G (s1.free nr) (s1.trans s) am
              · exact absurd ⟨⟨f1, by rw [eb]; exact f2, by rw [eb]; omega⟩, ofL_inj h2⟩ (rdv_none.mp e)


theorem rdv_sm {l : List Nat} {t b : Int} (h : rdv l = some (t, b)) : Low t b ∧ Sm 700 t ∧ Sm 700 b := by
  unfold rdv at h
  split at h
  · rename_i c
    obtain ⟨⟨f1, f2, n0⟩, _⟩ := c
    cases h
    unfold rdP rdQ
    have nz : ((digitsVal (below l) : Nat) : Int) ≠ 0 := by omega
    exact ⟨low_n nz, (sm_ten (sv_lt f1)).nT nz, (sm_ten (fig_lt f2)).nB nz⟩
  · cases h
theorem sm_01 (i : Int) (h : i.natAbs < 2) : Sm 4300 i := Nat.lt_of_lt_of_le h (Nat.le_trans (by decide : 2 ≤ 2 ^ 1) (Nat.pow_le_pow_right (by decide) (by decide : 1 ≤ 4300)))
def RzW (BT : Addr) (n : Int) (H : Hp) (E : XK) : Prop := ∀ G dd, Same H G → H dd = none → G dd = some (.xd [("word", .int n), ("line", .int 0)]) → E (.ref BT) (some dd) G
theorem RzW.mo {BT : Addr} {n : Int} {H G : Hp} {E : XK} (s : Same H G) (h : RzW BT n H E) : RzW BT n G E := fun J dd s2 z e => h J dd (s.trans s2) (s.free z) e
theorem RzW.ans {BT : Addr} {n : Int} {H : Hp} {E : XK} (h : RzW BT n H E) : [V.int 0, V.int n].length ≤ 1000 ∧ ∀ a, H a = none → spI2 BT "line" "word" (.ref a :: ([V.int 0, V.int n] ++ [])) (upd H a (exo a BT none))
      (fun z G => z = .non ∧ ∃ (d : Addr) (fs : List (Str × V)), G a = some (exo a BT (some d)) ∧ G d = some (exd d fs) ∧ H d = none ∧ E (.ref BT) (some d) (upd (del G a) d (.xd fs))) (fun _ _ _ => False) :=
  mk2_ans (Q := fun cls dd G => E cls dd G) fun dd nd => h _ dd (Same.new (Same.refl _) nd) nd upd_same
def spGap (A BT : Addr) : Sp := fun vs H Q E => ∃ (l : List Nat) (n : Int), vs = [.str (ofL l), .int n] ∧ l.length ≤ 100000 ∧ ((∃ t b : Int, rdv l = some (t, b) ∧ t ≠ 0 ∧ QA A H Q t b) ∨ ((∀ t b, rdv l = some (t, b) → t = 0) ∧ RzW BT n H E))
theorem ok_gap {A fI pO gO pN gN f BT fRd pRd : Addr} {mc : Value} {fd : FuncData} (F : Fun K "_read_gap" "_read_gap" s__read_gap f fd) (T : Txt K mg) (U : AmC K mg A fI pO gO pN gN mc) (cRd : ClX.CRead K A mc) (cMr : ClX.CMet K A mc "read" pRd fRd) (FRd : FnR P w K mg base (L2N.CX P w) 9 fRd (spRead K A BT)) (g_BT : mg "BadText" = some (.ref BT)) (mBT : PySem.W.exmOne K (.ref BT) (.ref BT) = some true) (Z : ErrC P w K mg base "BadText" BT ["self", "line", "word"] (spI2 BT "line" "word")) (ZH : ErrH P w K mg base "BadText" BT ["self", "line", "word"] (spI2 BT "line" "word")) (cEq : CmC P w K mg base A .Eq "int.__eq__" (spCmp A gEq) (spCmp A gEq)) : FnOk P w K mg base (CX P w) 10 f fd ["word", "at"] (spGap A BT) := by
  refine F.okX sc__read_gap (fun vs H Q E h => ?_) (fun cdv A' outer s H vs Q E hr h => ?_)
  · obtain ⟨l, n, rfl, _⟩ := h
    rfl
  · obtain ⟨l, n, rfl, ln, k⟩ := h
    refine ⟨_, (pss_cons (L2H.ps_try_onlyX (Wout := fun cls d _ H => E cls d H) rfl rfl ⟨rfl, by decide, Or.inl g_BT⟩ (fun hd => L2H.passesAt_of rfl hd) (takes_of rfl rfl rfl rfl)
      (fun W pn xe tk _ _ => pss_one (ps_set (i := 2) sc__read_gap.nd rfl (Or.inl rfl) (pe_cmethXN (p_gc U.g_Amount) cRd cMr FRd (hr.mono (by decide)) tk (pa_cons (pc 0) pa_nil))))
      (fun a oe cls d pn _ _ tk hot => pss_one (ps_rzF ZH hot (L2H.roomH_mark (hr.mono (by decide)) _) tk (pa_cons pe_int (pa_cons (pc 1) pa_nil)))))
    (pss_cons (s_if (t_cmp (cm_c (o_eq hr.units) cEq (hr.mono (by decide))) (pc 2) pe_int) (pss_one (ps_rz Z rfl (hr.mono (by decide)) (takes_of rfl rfl rfl rfl) (pa_cons pe_int (pa_cons (pc 1) pa_nil)))) pss_nil)
    (pss_one (ps_ret (pc 2))))), ?_⟩
    have bad : (∀ t b, rdv l = some (t, b) → t = 0) → RzW BT n H E := fun z => by
      rcases k with ⟨t, b, e, n0, _⟩ | ⟨_, k⟩
      · exact absurd (z t b e) n0
      · exact k
    refine ⟨rfl, _, rfl, .inl ⟨l, rfl, ln, ?_⟩⟩
    cases e : rdv l with
    | none =>
      have kb := bad (fun t b z => by rw [e] at z; cases z)
      refine .inr ⟨rfl, fun G dd s n1 ed => ⟨true, mBT, fun _ a na => (kb.mo s).ans, fun z => Bool.noConfusion z⟩⟩
    | some p =>
      obtain ⟨t, b⟩ := p
      obtain ⟨lo, x1, x2⟩ := rdv_sm e
      refine .inl ⟨t, b, rfl, fun r G nr s am => ⟨am.isI, r, _, _, _, _, _, rfl, am, .inr ⟨rfl, rfl⟩, lo, ⟨by decide, by simp⟩, x1.mono (by decide), x2.mono (by decide), sm_01 0 (by decide), sm_01 1 (by decide), fun G2 s2 => ⟨fun h => ?_, fun h => ?_⟩⟩⟩
      · have h : gEq t b 0 1 = true := h
        unfold gEq at h
        have t0 : t = 0 := by simp at h; exact h.1
        have kb := bad (fun t' b' z => by rw [e] at z; cases z; exact t0)
        exact (kb.mo (s.trans s2)).ans
      · have h : gEq t b 0 1 = false := by simpa using h
        have t0 : t ≠ 0 := fun z => by
          subst z
          have b1 : b = 1 := by
            have l1 := lo.1
            have l2 := lo.2
            simp at l2
            omega
          subst b1
          revert h
          decide
        rcases k with ⟨t', b', e', _, k⟩ | ⟨z, _⟩
        · rw [e] at e'
          cases e'
          exact k r G2 nr (s.trans s2) (am.mo s2)
        · exact absurd (z t b e) t0

end
end LW
set_option Elab.async false
set_option linter.all false
set_option maxRecDepth 100000
set_option maxHeartbeats 2000000
namespace HX
open PySem PySem.Spec PyProof.Rows L2

/-! ### a text cut at its blanks, and what a text of gaps says -/
def wds (l : List Nat) : List (List Nat) := TL.spl [32] 0 [] l
theorem spl32 : ∀ (r acc : List Nat), (∀ w ∈ TL.spl [32] 0 acc r, w.length ≤ acc.length + r.length ∧ ∀ c ∈ w, c ∈ acc ∨ c ∈ r) ∧ 1 ≤ (TL.spl [32] 0 acc r).length ∧ (TL.spl [32] 0 acc r).length ≤ r.length + 1
  | [], acc => by
    rw [TL.spl_nil]
    exact ⟨fun w hw => by rw [List.mem_singleton.mp hw]; exact ⟨by simp, fun c h => .inl h⟩, by simp, by simp⟩
  | c :: r, acc => by
    by_cases h : TL.pre [32] (c :: r) = true
    · obtain ⟨i1, i2, i3⟩ := spl32 r []
      rw [TL.spl_hit h]
      refine ⟨fun w hw => ?_, by simp, by simp at i3 ⊢; exact i3⟩
      rcases List.mem_cons.mp hw with e | hw
      · rw [e]
        exact ⟨by omega, fun c h => .inl h⟩
      · obtain ⟨a, b⟩ := i1 w hw
        simp only [List.length_nil, List.length_cons] at a ⊢
        exact ⟨by omega, fun x hx => .inr (List.mem_cons_of_mem _ ((b x hx).elim (fun z => nomatch z) id))⟩
    · have e : TL.spl [32] 0 acc (c :: r) = TL.spl [32] 0 (acc ++ [c]) r := by
        show (if TL.pre [32] (c :: r) = true then _ else _) = _
        rw [if_neg h]
      obtain ⟨i1, i2, i3⟩ := spl32 r (acc ++ [c])
      rw [e]
      refine ⟨fun w hw => ?_, i2, by rw [List.length_cons]; omega⟩
      obtain ⟨a, b⟩ := i1 w hw
      rw [List.length_append, List.length_singleton] at a
      rw [List.length_cons]
      refine ⟨by omega, fun x hx => ?_⟩
      rcases b x hx with z | z
      · rcases List.mem_append.mp z with z | z
        · exact .inl z
        · rw [List.mem_singleton.mp z]
          exact .inr (List.mem_cons_self ..)
      · exact .inr (List.mem_cons_of_mem _ z)
theorem wds_mem {l w : List Nat} (h : w ∈ wds l) : w.length ≤ l.length ∧ ∀ c ∈ w, c ∈ l := by
  obtain ⟨a, b⟩ := (spl32 l []).1 w h
  simp at a
  exact ⟨a, fun c hc => (b c hc).elim (fun z => nomatch z) id⟩
theorem wds_len (l : List Nat) : 1 ≤ (wds l).length ∧ (wds l).length ≤ l.length + 1 := (spl32 l []).2
theorem wds_is (l : List Nat) : Txt.split (ofL l) (Str.ofString " ") = (wds l).map ofL := by
  have e : (Str.ofString " ") = SX.S [32] := by decide +kernel
  rw [e]
  exact SX.split_S (a := l) (by decide) (by decide)
def isNm (l : List Nat) : Bool := decide (1 ≤ l.length ∧ l.length ≤ 8 ∧ ∀ c ∈ l, c ∈ abc)
/-- what a text of gaps says, word after word: the place that is wrong, or the gaps -/
noncomputable def duW : Nat → List Nat → List (List Nat × Int × Int) → List (List Nat) → Nat ⊕ List (List Nat × Int × Int)
  | at_, ah, acc, [] => if at_ % 2 = 1 then .inl at_ else .inr acc
  | at_, ah, acc, w :: ws =>
    if at_ % 2 = 0 then (if isNm w = true ∧ ah < w then duW (at_ + 1) w acc ws else .inl at_)
    else match rdv w with
      | some (t, b) => if t = 0 then .inl at_ else duW (at_ + 1) ah (acc ++ [(ah, t, b)]) ws
      | none => .inl at_
noncomputable def due (l : List Nat) : Nat ⊕ List (List Nat × Int × Int) := if l = [110, 111, 110, 101] then .inr [] else duW 0 [] [] (wds l)
/-- a dict of pairs, by its names -/
inductive KPs (H : Hp) : List (Key × V) → List (List Nat × Int × Int) → Prop
  | nil : KPs H [] []
  | cons {q : Addr} {k : List Nat} {t b : Int} {kvs : List (Key × V)} {ps : List (List Nat × Int × Int)} : H q = some (.tup [.int t, .int b]) → KPs H kvs ps → KPs H ((.inr (ofL k), .ref q) :: kvs) ((k, t, b) :: ps)
theorem KPs.mo {H G : Hp} (s : ∀ q t b, H q = some (.tup [.int t, .int b]) → G q = some (.tup [.int t, .int b])) : ∀ {kvs ps}, KPs H kvs ps → KPs G kvs ps
  | _, _, .nil => .nil
  | _, _, .cons e r => .cons (s _ _ _ e) (r.mo s)
theorem KPs.snoc {H : Hp} {q : Addr} {k : List Nat} {t b : Int} (e : H q = some (.tup [.int t, .int b])) : ∀ {kvs ps}, KPs H kvs ps → KPs H (kvs ++ [(.inr (ofL k), .ref q)]) (ps ++ [(k, t, b)])
  | _, _, .nil => .cons e .nil
  | _, _, .cons e2 r => .cons e2 (r.snoc e)
theorem KPs.len {H : Hp} : ∀ {kvs ps}, KPs H kvs ps → kvs.length = ps.length
  | _, _, .nil => rfl
  | _, _, .cons _ r => by rw [List.length_cons, List.length_cons, r.len]
theorem KPs.out {H : Hp} {k : List Nat} : ∀ {kvs ps}, KPs H kvs ps → (∀ p ∈ ps, p.1 ≠ k) → valV kvs (.inr (ofL k)) = none
  | _, _, .nil, _ => rfl
  | _, _, .cons (k := k2) e r, n => by
    rw [valV_neg (by intro z; exact n _ (List.mem_cons_self ..) (ofL_inj (Sum.inr.inj z)))]
    exact r.out fun p hp => n p (List.mem_cons_of_mem _ hp)
end HX

set_option Elab.async false
set_option linter.all false
set_option maxRecDepth 100000
set_option maxHeartbeats 4000000
namespace LW
open PySem PySem.Spec PyProof.Rows L2 HX NumText
section
variable {P : Program} {w : World} {K : PySem.W.Frag} {mg : Str → Option Value} {base : Heap}

def DueV (G : Hp) (v : V) : Nat ⊕ List (List Nat × Int × Int) → Prop
  | .inl n => v = .int (n : Int)
  | .inr ps => ∃ D kvs, v = .ref D ∧ G D = some (.dK kvs) ∧ KPs G kvs ps
def spDue : Sp := fun vs H Q _ => ∃ l : List Nat, vs = [.str (ofL l)] ∧ l.length ≤ 90000 ∧ (∀ c ∈ l, c < 128) ∧ ∀ v G, Same H G → DueV G v (due l) → Q v G
theorem ok_due {f : Addr} {fd : FuncData} (F : Fun K "_law_due" "_law_due" s__law_due f fd) (T : Txt K mg) (T2 : Txt2 mg) (cN : CalO P w K mg base "_law_is_name" 3 ["_law_word_here"] spLName (fun _ => True)) (cA : CalO P w K mg base "_law_amount" 2 ["_law_word_here"] spLrd (fun _ => True)) : FnOk P w K mg base CX0 4 f fd ["_law_told_text"] spDue := by
  refine F.ok sc__law_due (fun vs H Q E h => ?_) (fun cdv A' outer s H vs Q E hr h => ?_)
  · obtain ⟨l, rfl, _⟩ := h
    rfl
  · obtain ⟨l, rfl, ln, lc, k⟩ := h
    refine ⟨_, (pss_cons (s_if (t_cmp (o_eq hr.units) (pc 0) pe_str) (pss_one (ps_ret pe_dnewK)) pss_nil)
    (pss_cons (ps_par3 (i := 1) (j := 2) (l := 3) (by rfl) sc__law_due.nd rfl rfl rfl (by decide) (by decide) (by decide) rfl rfl rfl (pa_cons (pe_split (pc 0) pe_str) (pa_cons pe_dnewK (pa_cons pe_str pa_nil))) (by rfl))
    (pss_cons (ps_for PassesOwn.never rfl (pi_range1 (by rfl) T.b_range (pa_cons (pe_callB c_len (by rfl) T.b_len (by decide +kernel) (pa_cons (pc 1) pa_nil)) pa_nil)) (pg_name (i := 4) sc__law_due.nd rfl (Or.inl rfl)) (pss_one (s_if (t_cmp (o_eq hr.units) (pe_op o_mod (pe_callTy c_int (by rfl) T.b_int (by decide +kernel) (pa_cons (pc 4) pa_nil)) pe_int) pe_int) (pss_cons (s_if (PW.pt (w_or (pt_not (t_val (pe_cO cN (hr.mono (by decide)) (pa_cons (p_ix (pc 1) (pc 4)) pa_nil)))) (pw_or1 (t_cmp op_le_str (p_ix (pc 1) (pc 4)) (pc 3))))) (pss_one (ps_ret (pc 4))) pss_nil)
    (pss_one (ps_set (i := 3) sc__law_due.nd rfl (Or.inl rfl) (p_ix (pc 1) (pc 4))))) (pss_cons (ps_set (i := 5) sc__law_due.nd rfl (Or.inl rfl) (pe_cO cA (hr.mono (by decide)) (pa_cons (p_ix (pc 1) (pc 4)) pa_nil)))
    (pss_cons (s_if (t_cmp o_is (pc 5) pe_non) (pss_one (ps_ret (pc 4))) pss_nil)
    (pss_one (ps_dput (Nat.lt_of_le_of_lt (Nat.add_le_add_left (by decide : 1 ≤ 64) _) hr.units) (pc 2) (pc 3) (pc 5) rfl)))))))
    (pss_one (ps_ret (e_if (t_cmp (o_eq hr.units) (pe_op o_mod (pe_callTy c_int (by rfl) T.b_int (by decide +kernel) (pa_cons (pe_callB c_len (by rfl) T.b_len (by decide +kernel) (pa_cons (pc 1) pa_nil)) pa_nil)) pe_int) pe_int) (pe_callB c_len (by rfl) T.b_len (by decide +kernel) (pa_cons (pc 1) pa_nil)) (pc 2))))))), ?_⟩
    have none_ : Str.ofString "none" = ofL [110, 111, 110, 101] := by decide +kernel
    refine ⟨fun h => ?_, fun h => ?_⟩
    · have h : ofL l = ofL [110, 111, 110, 101] := by rw [← none_]; simpa using h
      intro D nD
      exact k _ _ (Same.new (Same.refl H) nD) (by unfold due; rw [if_pos (ofL_inj h)]; exact ⟨D, [], rfl, upd_same, .nil⟩)
    have h : ¬ l = [110, 111, 110, 101] := fun z => by rw [z, ← none_] at h; simp at h
    have du : due l = duW 0 [] [] (wds l) := if_neg h
    obtain ⟨w1, w2⟩ := wds_len l
    refine ⟨⟨_, rfl⟩, _, _, rfl, rfl, by decide +kernel, by rw [ofL_len, sizeLine_eq]; omega, fun W nW => ?_⟩
    rw [wds_is]
    intro Df nDf
    refine ⟨_, _, _, rfl, ?_⟩
    have WD : W ≠ Df := fun z => by rw [← z, upd_same] at nDf; cases nDf
    have nDH : H Df = none := by rw [upd_ne (Ne.symm WD)] at nDf; exact nDf
    have hW : L2.upd (L2.upd H W (.lst (((wds l).map ofL).map V.str))) Df (.dK []) W = some (.lst ((wds l).map fun w => .str (ofL w))) := by rw [upd_ne WD, upd_same, List.map_map]; rfl
    refine ⟨_, .inl (SqL.of hW), ((wds l).length : Int), by rw [List.length_map], by omega, by omega, for_range (lo := 0) (n := (wds l).length) (fun i σ G => ∃ (ah : List Nat) (acc : List (List Nat × Int × Int)) (kvs : List (Key × V)) (x4 x5 : Option V),
      σ = [some (.str (ofL l)), some (.ref W), some (.ref Df), some (.str (ofL ah)), x4, x5] ∧ Same H G ∧ G W = some (.lst ((wds l).map fun w => .str (ofL w))) ∧ G Df = some (.dK kvs) ∧ KPs G kvs acc ∧ acc.length ≤ i ∧
      duW i ah acc ((wds l).drop i) = duW 0 [] [] (wds l) ∧ (∀ p ∈ acc, p.1 = ah ∨ p.1 < ah) ∧ (i % 2 = 1 → ∀ p ∈ acc, p.1 < ah)) ?_ ?_ ?_⟩
    · exact ⟨[], [], [], none, none, rfl, (Same.new (Same.refl H) nW).trans (Same.new (Same.refl _) nDf), hW, upd_same, .nil, Nat.le_refl _, rfl, (fun _ z => nomatch z), fun _ _ z => nomatch z⟩
    · rintro i σ G hi ⟨ah, acc, kvs, x4, x5, rfl, sG, gW, gD, kp, al, dw, o1, o2⟩
      have gw : (wds l)[i]? = some (wds l)[i] := List.getElem?_eq_getElem hi
      have wm : (wds l)[i] ∈ wds l := List.getElem_mem hi
      obtain ⟨wl, wc⟩ := wds_mem wm
      have dr : (wds l).drop i = (wds l)[i] :: (wds l).drop (i + 1) := List.drop_eq_getElem_cons hi
      generalize (wds l)[i] = u at gw wl wc dr wm
      rw [dr] at dw
      have ev : ((0 + (i : Int)) % 2 = 0) ↔ i % 2 = 0 := by omega
      have hat : ∀ H2 : Hp, atI ((wds l).map fun w => V.str (ofL w)) (0 + (i : Int)) = some (.str (ofL u)) := fun _ => by
        rw [Int.zero_add]
        exact atI_nat (by rw [List.getElem?_map, gw]; rfl)
      refine ⟨(by decide : (0 : Int) < 2), ⟨fun he => ?_, fun he => ?_⟩⟩
      · have he : i % 2 = 0 := ev.mp (by simpa using he)
        refine ⟨_, _, .inl (SqL.of gW), hat G, u, rfl, by omega, fun c hc => lc c (wc c hc), fun G1 s1 => ?_⟩
        have ret : ¬ (isNm u = true ∧ ah < u) → Q (.int (0 + (i : Int))) G1 := fun n => k _ G1 (sG.trans s1) (by
          have e : due l = .inl i := by
            rw [du, ← dw]
            unfold duW
            rw [if_pos he, if_neg n]
          rw [e]
          show V.int (0 + (i : Int)) = .int i
          rw [Int.zero_add])
        have gW1 := s1 _ _ gW
        refine ⟨fun n1 => ⟨fun _ => ret (fun c => by have : isNm u = true := c.1; unfold isNm at this; rw [this] at n1; cases n1), fun z => absurd z (by decide)⟩, fun n1 => ?_⟩
        have nm : isNm u = true := by unfold isNm; simpa using n1
        refine ⟨_, _, .inl (SqL.of gW1), hat G1, _, _, rfl, rfl, ⟨fun n2 => ret (fun c => ?_), fun n2 => ?_⟩⟩
        · have n2 : (!decide ((ofL ah).cps.toList < (ofL u).cps.toList)) = true := n2
          rw [ofL_cps, ofL_cps, decide_eq_true c.2] at n2
          cases n2
        have lt : ah < u := by
          have n2 : (!decide ((ofL ah).cps.toList < (ofL u).cps.toList)) = false := n2
          rw [ofL_cps, ofL_cps] at n2
          simpa using n2
        have un : duW (i + 1) u acc ((wds l).drop (i + 1)) = duW 0 [] [] (wds l) := by
          rw [← dw]
          conv => rhs; unfold duW
          rw [if_pos he, if_pos ⟨nm, lt⟩]
        have o3 : ∀ p ∈ acc, p.1 < u := fun p hp => (o1 p hp).elim (fun z => by rw [z]; exact lt) (fun z => List.lt_trans z lt)
        exact ⟨_, _, .inl (SqL.of gW1), hat G1, u, acc, kvs, _, x5, rfl, sG.trans s1, gW1, s1 _ _ gD, kp.mo (fun q t b e => s1 _ _ e), by omega, un, fun p hp => .inr (o3 p hp), fun _ => o3⟩
      · have he : ¬ i % 2 = 0 := fun z => by rw [decide_eq_true (ev.mpr z)] at he; cases he
        refine ⟨_, _, .inl (SqL.of gW), hat G, u, rfl, by omega, fun c hc => lc c (wc c hc), fun G1 s1 hn => ?_, fun t b q G1 e1 n1 nq s1 tp => ?_⟩
        · have e : due l = .inl i := by
            rw [du, ← dw]
            unfold duW
            rw [if_neg he]
            cases er : rdv u with
            | none => rfl
            | some p =>
              obtain ⟨t, b⟩ := p
              show (if t = 0 then _ else _) = _
              rw [if_pos (hn t b er)]
          exact ⟨fun _ => k _ G1 (sG.trans s1) (by rw [e]; show V.int (0 + (i : Int)) = .int i; rw [Int.zero_add]), fun z => absurd z (by decide)⟩
        · have gW1 := s1 _ _ gW
          have gD1 := s1 _ _ gD
          have o3 := o2 (by omega)
          have new := kp.out (k := ah) fun p hp z => List.lt_irrefl _ (by have := o3 p hp; rwa [z] at this)
          have tp : G1 q = some (.tup [.int t, .int b]) := tp
          have qD : q ≠ Df := fun z => by rw [z, gD1] at tp; cases tp
          have un : duW (i + 1) ah (acc ++ [(ah, t, b)]) ((wds l).drop (i + 1)) = duW 0 [] [] (wds l) := by
            rw [← dw]
            conv => rhs; unfold duW
            rw [if_neg he, e1]
            show _ = if t = 0 then _ else _
            rw [if_neg n1]
          have kl := kp.len
          refine ⟨fun z => absurd z (by simp), fun _ => ⟨Df, _, rfl, DPut.k (k := .inr (ofL ah)) gD1 (by rw [sizeLine_eq]; omega), ah, acc ++ [(ah, t, b)], _, _, _, rfl, Same.mut (sG.trans s1) nDH, by rw [upd_ne WD]; exact gW1, upd_same, ?_, by rw [List.length_append, List.length_singleton]; omega, un, fun p hp => ?_, fun z => absurd z (by omega)⟩⟩
          · rw [putK_new _ new]
            refine KPs.snoc (by rw [upd_ne qD]; exact tp) (kp.mo fun q' t' b' e' => ?_)
            have e2 := s1 _ _ e'
            rw [upd_ne (fun z => by rw [z, gD1] at e2; cases e2)]
            exact e2
          · rcases List.mem_append.mp hp with z | z
            · exact o1 p z
            · rw [List.mem_singleton.mp z]
              exact .inl rfl
    · rintro σ G ⟨ah, acc, kvs, x4, x5, rfl, sG, gW, gD, kp, al, dw, o1, o2⟩
      rw [List.drop_length] at dw
      have e : due l = if (wds l).length % 2 = 1 then .inl (wds l).length else .inr acc := by
        rw [du, ← dw]
        rfl
      refine ⟨_, .inl (SqL.of gW), (by decide : (0 : Int) < 2), ⟨fun z => ?_, fun z => ?_⟩⟩
      · have z : (wds l).length % 2 = 1 := by
          have z : ((wds l).length : Int) % 2 = 1 := by simpa using z
          omega
        exact ⟨_, .inl (SqL.of gW), k _ G sG (by rw [e, if_pos z, List.length_map]; rfl)⟩
      · have z : ¬ (wds l).length % 2 = 1 := fun y => by
          have z : ¬ ((wds l).length : Int) % 2 = 1 := by simpa using z
          omega
        exact k _ G sG (by rw [e, if_neg z]; exact ⟨Df, kvs, rfl, gD, kp⟩)

end
end LW
set_option Elab.async false
set_option linter.all false
set_option maxRecDepth 100000
set_option maxHeartbeats 2000000
namespace HX
open PySem PySem.Spec PyProof.Rows L2

/-! ### a dict against an empty one -/
def rEqE (neg : Bool) : L2.R2 := fun x y H Q => ∃ a b ks, x = .ref a ∧ y = .ref b ∧ H a = some (.dK ks) ∧ H b = some (.dK []) ∧ Q (.bl (xor neg (decide (ks = [])))) H
section
variable {X : Cx}
theorem op_eqE (hu : X.A.units < cLine) : OpR X (compareOp .Eq) (rEqE false) := by
  intro pins s σ H x y v u Q I rx ry h
  obtain ⟨a, b, ks, rfl, rfl, ea, eb, q⟩ := h
  obtain rfl : v = Value.ref a := rx
  obtain rfl : u = Value.ref b := ry
  obtain ⟨_, na, va, ra, da⟩ := (show ObjOk X.prog X.w H s.heap a (.dK ks) from I.hok a _ ea)
  obtain ⟨_, nb, vb, rb, db⟩ := (show ObjOk X.prog X.w H s.heap b (.dK []) from I.hok b _ eb)
  have lb : vb.length = 0 := rb.length.symm
  have la := ra.length
  cases ks with
  | nil =>
    have e0 : va.length = 0 := la.symm
    exact PySem.W.keq_eq (knd := mixKind X.prog X.w) (r := true) na nb da db hu (fun _ => hits_all rb ra fun p z => nomatch z) (fin_bl I q (by simp [e0, lb]))
  | cons p r =>
    have e0 : va.length = r.length + 1 := la.symm
    exact PySem.W.keq_eq (knd := mixKind X.prog X.w) (r := true) na nb da db hu (fun z => absurd z (by omega)) (fin_bl I q (by simp [e0, lb]))
end
theorem KPs.at_ {H : Hp} : ∀ {kvs ps}, KPs H kvs ps → (∀ (i : Nat) (k : Key) (v : V), kvs[i]? = some (k, v) → ∃ n t b, ps[i]? = some (n, t, b) ∧ k = .inr (ofL n))
  | _, _, .nil, i, k, v, e => by simp at e
  | _, _, .cons (k := n) (t := t) (b := b) _ r, 0, k, v, e => by
    simp at e
    exact ⟨n, t, b, rfl, e.1.symm⟩
  | _, _, .cons _ r, i + 1, k, v, e => by
    simp at e
    obtain ⟨n, t, b, x, y⟩ := r.at_ i k v e
    exact ⟨n, t, b, by simpa using x, y⟩
theorem KPs.get {H : Hp} {n : List Nat} {t b : Int} : ∀ {kvs ps}, KPs H kvs ps → (ps.map (·.1)).Nodup → (n, t, b) ∈ ps → ∃ q, valV kvs (.inr (ofL n)) = some (.ref q) ∧ H q = some (.tup [.int t, .int b])
  | _, _, .nil, _, z => nomatch z
  | _, _, .cons (q := q) (k := m) (t := t2) (b := b2) (ps := ps) e r, nd, z => by
    rw [List.map_cons, List.nodup_cons] at nd
    rcases List.mem_cons.mp z with z | z
    · cases z
      exact ⟨q, valV_pos (p := ((Sum.inr (ofL n) : Key), V.ref q)) rfl, e⟩
    · obtain ⟨q2, v2, e2⟩ := r.get nd.2 z
      refine ⟨q2, ?_, e2⟩
      rw [valV_neg (by intro y; exact nd.1 (List.mem_map.mpr ⟨_, z, (ofL_inj (Sum.inr.inj y)).symm⟩))]
      exact v2
end HX

set_option Elab.async false
set_option linter.all false
set_option maxRecDepth 100000
set_option maxHeartbeats 4000000
namespace LW
open PySem PySem.Spec PyProof.Rows L2 HX NumText
section
variable {P : Program} {w : World} {K : PySem.W.Frag} {mg : Str → Option Value} {base : Heap}

theorem perm_lift {α β : Type} (f : α → β) {zs ys : List β} (h : zs.Perm ys) : ∀ ps : List α, zs = ps.map f → ∃ qs : List α, qs.Perm ps ∧ ys = qs.map f := by
  induction h with
  | nil => exact fun ps e => ⟨ps, .refl _, e⟩
  | cons x _ ih =>
    intro ps e
    cases ps with
    | nil => cases e
    | cons p r =>
      rw [List.map_cons] at e
      obtain ⟨e1, e2⟩ := List.cons.inj e
      obtain ⟨qs, a, b⟩ := ih r e2
      exact ⟨p :: qs, a.cons p, by rw [List.map_cons, b, e1]⟩
  | swap x y l =>
    intro ps e
    match ps, e with
    | p :: q :: r, e =>
      rw [List.map_cons, List.map_cons] at e
      obtain ⟨e1, e2⟩ := List.cons.inj e
      obtain ⟨e3, e4⟩ := List.cons.inj e2
      exact ⟨q :: p :: r, .swap p q r, by rw [List.map_cons, List.map_cons, e1, e3, e4]⟩
  | trans _ _ ih1 ih2 =>
    intro ps e
    obtain ⟨qs, a, b⟩ := ih1 ps e
    obtain ⟨rs, c, d⟩ := ih2 qs b
    exact ⟨rs, c.trans a, d⟩
/-- one gap's words -/
def gwd (p : List Nat × Int × Int) : Str := ofL p.1 ++ Str.ofString " " ++ ofL (atx p.2.1 p.2.2)
def gtx (ps : List (List Nat × Int × Int)) : Str := if ps = [] then Str.ofString "none" else Txt.join (Str.ofString " ") (ps.map gwd)
def GpOk (ps : List (List Nat × Int × Int)) : Prop := (ps.map (·.1)).Nodup ∧ ps.length < 64 ∧ ∀ p ∈ ps, p.1.length ≤ 8 ∧ Sm 1300 p.2.1 ∧ Sm 1300 p.2.2 ∧ (atx p.2.1 p.2.2).length ≤ 1000
def spGTx : Sp := fun vs H Q _ => ∃ (P_ : Addr) (kvs : List (Key × V)) (ps : List (List Nat × Int × Int)), vs = [.ref P_] ∧ H P_ = some (.dK kvs) ∧ KPs H kvs ps ∧ GpOk ps ∧ ∀ qs G, qs.Perm ps → sortedS (qs.map fun p => ofL p.1) = true → Same H G → Q (.str (gtx qs)) G
theorem ok_text {f : Addr} {fd : FuncData} (F : Fun K "_law_text" "_law_text" s__law_text f fd) (T : Txt K mg) (T2 : Txt2 mg) (hso : mg "sorted" = none) (cW : CalO P w K mg base "_law_word" 1 ["_law_pair_here"] spTxt (fun _ => True)) : FnOk P w K mg base CX0 2 f fd ["_law_plain"] spGTx := by
  refine F.ok sc__law_text (fun vs H Q E h => ?_) (fun cdv A' outer s H vs Q E hr h => ?_)
  · obtain ⟨p, kvs, ps, rfl, _⟩ := h
    rfl
  · obtain ⟨p, kvs, ps, rfl, hp, kp, ⟨nd, l64, sz⟩, k⟩ := h
    refine ⟨_, (pss_cons (s_if (t_cmp (op_eqE hr.units0) (pc 0) pe_dnewK) (pss_one (ps_ret pe_str)) pss_nil)
    (pss_one (ps_ret (pe_join pe_str (pe_lc (own := [("_law_name", 1)]) (g := gName 1) (tt := tYes) rfl sc__law_text.nd (pi_list (pe_callB cr_sortedS (by rfl) hso (by decide +kernel) (pa_cons (pe_lock (pe_lc (own := [("_law_one", 2)]) (g := gName 2) (tt := tYes) rfl sc__law_text.nd (pi_keys (pc 0)) (blkOk_by (own := [("_law_one", 2)]) (N := n__law_text) (sc := defScope s__law_text) (by decide +kernel)) (fun _ _ _ _ _ => pg_name (i := 2) sc__law_text.nd rfl (Or.inl rfl)) (fun _ _ _ _ _ => pts_nil) (fun _ _ _ _ _ => (pe_callTy SkE.call_str_str (by rfl) T2.b_str (by decide +kernel) (pa_cons (pc 2) pa_nil))))) pa_nil))) (blkOk_by (own := [("_law_name", 1)]) (N := n__law_text) (sc := defScope s__law_text) (by decide +kernel)) (fun _ _ _ _ _ => pg_name (i := 1) sc__law_text.nd rfl (Or.inl rfl)) (fun _ _ _ _ _ => pts_nil) (fun _ _ _ _ _ => (pe_op o_add (pe_op o_add (pc 1) pe_str) (pe_cO cW (hr.mono (by decide)) (pa_cons (pe_dget (Nat.lt_of_le_of_lt (Nat.add_le_add_left (by decide : 1 ≤ 64) _) hr.units) (pc 0) (pc 1) (by exact fun _ _ => rfl)) pa_nil))))))))), ?_⟩
    have kl := kp.len
    refine fun e0 ne0 => ⟨p, e0, kvs, rfl, rfl, kpN hp ne0, upd_same, ⟨fun h => ?_, fun h => ?_⟩⟩
    · have h : kvs = [] := by simpa using h
      have p0 : ps = [] := List.length_eq_zero_iff.mp (by rw [← kl, h]; rfl)
      exact k [] _ (by rw [p0]) (by decide) (Same.new (Same.refl H) ne0)
    have h : ¬ kvs = [] := by simpa using h
    have pn : ps ≠ [] := fun z => h (List.length_eq_zero_iff.mp (by rw [kl, z]; rfl))
    have sH := Same.new (o := .dK []) (Same.refl H) ne0
    have hp1 := sH _ _ hp
    have kp1 := kp.mo (fun q t b z => sH _ _ z)
    generalize upd H e0 (.dK []) = H1 at sH hp1 kp1
    refine ⟨⟨_, rfl⟩, p, .dK kvs, hp1, trivial, fun od => ⟨p, od, rfl, .inl ⟨kvs, upd_same, fun D nD => lc_it walk_keys
      (fun i G => Same (upd H1 p (.frz od (.dK kvs))) G ∧ G D = some (.lst ((ps.take i).map fun q => .str (ofL q.1)))) ⟨Same.new (Same.refl _) nD, upd_same⟩ (fun i G _ z => z.1 _ _ upd_same) ?_ ?_⟩⟩⟩
    · rintro i x G G' hi ⟨s1, gD⟩ ⟨rfl, ky, v, e, rfl⟩
      obtain ⟨n, t, b, e2, rfl⟩ := kp1.at_ i ky v e
      exact ⟨rfl, ofL n, rfl, _, gD, by rw [List.length_map, List.length_take, sizeLine_eq]; omega, Same.mut s1 nD, by rw [upd_same, List.take_add_one, e2, List.map_append]; rfl⟩
    · rintro G ⟨s1, gD⟩
      have pD : D ≠ p := fun z => by rw [z, upd_same] at nD; cases nD
      rw [kl, List.take_length] at gD
      have gp := s1 _ _ upd_same
      have s2 : Same H1 (upd G p (.dK kvs)) := fun b o z => by
        by_cases bp : b = p
        · rw [bp] at z ⊢
          rw [hp1] at z
          cases z
          exact upd_same
        · rw [upd_ne bp]
          exact s1 _ _ (by rw [upd_ne bp]; exact z)
      have gD2 : upd G p (.dK kvs) D = some (.lst (ps.map fun q => .str (ofL q.1))) := by rw [upd_ne pD]; exact gD
      refine ⟨gp, ?_⟩
      generalize upd G p (.dK kvs) = H2 at s2 gD2
      refine ⟨D, ps.map fun q => ofL q.1, rfl, SqL.of (by rw [List.map_map]; exact gD2), by rw [List.length_map]; exact l64, fun ys pS perm srt nS => ?_⟩
      obtain ⟨qs, q1, rfl⟩ := perm_lift (fun q : List Nat × Int × Int => ofL q.1) perm.symm ps rfl
      have s3 := (sH.trans s2).trans (Same.new (o := .lst ((qs.map fun q => ofL q.1).map V.str)) (Same.refl H2) nS)
      have hp3 := s3 _ _ hp
      have kp3 := kp.mo (fun q t b z => s3 _ _ z)
      have hS : upd H2 pS (.lst ((qs.map fun q => ofL q.1).map V.str)) pS = some (.lst ((qs.map fun q => ofL q.1).map V.str)) := upd_same
      generalize upd H2 pS (.lst ((qs.map fun q => ofL q.1).map V.str)) = H3 at s3 hp3 kp3 hS
      refine ⟨pS, rfl, ⟨_, SqL.of hS⟩, fun D2 nD2 => lc_it walk_list (fun i G => Same H3 G ∧ G D2 = some (.lst ((qs.take i).map fun q => .str (gwd q)))) ⟨Same.new (Same.refl _) nD2, upd_same⟩ (fun i G _ z => SqL.of (z.1 _ _ hS)) ?_ ?_⟩
      · rintro i x G G' hi ⟨s4, gD4⟩ ⟨rfl, e⟩
        rw [List.length_map, List.length_map] at hi
        have eq : qs[i]? = some qs[i] := List.getElem?_eq_getElem hi
        have qm : qs[i] ∈ ps := q1.mem_iff.mp (List.getElem_mem hi)
        rw [List.getElem?_map, List.getElem?_map, eq] at e
        generalize qs[i] = g at eq qm e
        obtain ⟨n, t, b⟩ := g
        obtain rfl : V.str (ofL n) = x := Option.some.inj e
        obtain ⟨r, v1, tp⟩ := kp3.get nd qm
        obtain ⟨z1, z2, z3, z4⟩ := sz _ qm
        have z1 : n.length ≤ 8 := z1
        have dg : DGet G' p (.str (ofL n)) (some (.ref r)) := by have := DGet.k (k := .inr (ofL n)) (s4 _ _ hp3); rwa [v1] at this
        have l1 : (ofL n).length + (Str.ofString " ").length ≤ sizeLine := by rw [ofL_len, sizeLine_eq]; show n.length + 1 ≤ _; omega
        have l2 : (ofL n ++ Str.ofString " ").length + (ofL (atx t b)).length ≤ sizeLine := by
          have e1 : (Str.ofString " ") = ofL [32] := by decide +kernel
          rw [e1, ofL_app, ofL_len, ofL_len, List.length_append, sizeLine_eq]
          have : (atx t b).length ≤ 1000 := z4
          show n.length + 1 + _ ≤ _
          omega
        exact ⟨rfl, l1, p, .ref r, rfl, dg, r, t, b, rfl, s4 _ _ tp, z2, z3, l2, _, gD4, by rw [List.length_map, List.length_take, sizeLine_eq]; have := q1.length_eq; omega, Same.mut s4 nD2, by rw [upd_same, List.take_add_one, eq, List.map_append]; rfl⟩
      · rintro G ⟨s4, gD4⟩
        rw [List.length_map, List.length_map, List.take_length] at gD4
        have qn : qs ≠ [] := fun z => pn (by rw [z] at q1; exact List.nil_perm.mp q1)
        have ql := q1.length_eq
        have sm : ∀ zs : List (List Nat × Int × Int), (∀ z ∈ zs, z ∈ ps) → ((zs.map gwd).map (·.length)).sum ≤ zs.length * 1009 := fun zs => by
          induction zs with
          | nil => exact fun _ => Nat.le_refl _
          | cons z r ih =>
            intro hz
            have i1 := ih fun y hy => hz y (List.mem_cons_of_mem _ hy)
            obtain ⟨y1, _, _, y4⟩ := sz z (hz z (List.mem_cons_self ..))
            have e1 : (Str.ofString " ") = ofL [32] := by decide +kernel
            have lz : (gwd z).length ≤ 1009 := by
              unfold gwd
              rw [e1, ofL_app, ofL_app, ofL_len, List.length_append, List.length_append]
              show z.1.length + 1 + _ ≤ _
              omega
            rw [List.map_cons, List.map_cons, List.sum_cons, List.length_cons]
            omega
        have sb := sm qs fun z hz => q1.mem_iff.mp hz
        refine ⟨_, D2, qs.map gwd, rfl, rfl, .inl (SqL.of (by rw [List.map_map]; exact gD4)), ?_, ?_⟩
        · rw [List.length_map]
          show _ + qs.length * 1 ≤ _
          omega
        · have := k qs G q1 srt (s3.trans s4)
          unfold gtx at this
          rw [if_neg qn] at this
          exact this

end
end LW
set_option Elab.async false
set_option linter.all false
set_option maxRecDepth 100000
set_option maxHeartbeats 4000000
namespace LW
open PySem PySem.Spec PyProof.Rows L2 HX NumText
section
variable {P : Program} {w : World} {K : PySem.W.Frag} {mg : Str → Option Value} {base : Heap}

theorem nm_name {l : List Nat} (h : Nm l) : nameS (ofL l) = true := by
  obtain ⟨h1, h2, h3⟩ := h
  unfold nameS
  rw [ofL_len, ofL_cps]
  simp only [Bool.and_eq_true, decide_eq_true_eq, List.all_eq_true]
  exact ⟨h1, h2, h3⟩
def spNeed0 : Sp := fun vs H Q _ => ∃ l : List Nat, vs = [.str (ofL l)] ∧ Nm l ∧ ∀ G, Same H G → Q .non G
theorem ok_need0 {f : Addr} {fd : FuncData} (F : Fun K "need_name" "need_name" s_need_name f fd) (cI : CalO P w K mg base "is_name" 1 ["value"] spIsName (fun _ => True)) : FnOk P w K mg base CX0 2 f fd ["value"] spNeed0 := by
  refine F.ok sc_need_name (fun vs H Q E h => ?_) (fun cdv A outer s H vs Q E hr h => ?_)
  · obtain ⟨l, rfl, _⟩ := h
    rfl
  · obtain ⟨l, rfl, nm, k⟩ := h
    refine ⟨_, (pss_one (s_if (pt_not (t_val (pe_cO cI (hr.mono (by decide)) (pa_cons (pc 0) pa_nil)))) (pss_one ps_dead) pss_nil)), ?_⟩
    have e : nameD (.str (ofL l)) = true := nm_name nm
    refine ⟨_, .str (ofL l), rfl, .str _, ?_, fun H' s1 => ⟨fun h => ?_, fun h => ?_⟩⟩
    · have z2 := nm.2.1
      show (ofL l).length ≤ _
      rw [ofL_len]
      first | omega | (rw [sizeLine_eq]; omega)
    · rw [e] at h
      cases h
    · exact k H' s1

def spAsc : Sp := fun vs H Q _ => ∃ (P_ : Addr) (kvs : List (Key × V)) (ks : List (List Nat)), vs = [.ref P_] ∧ H P_ = some (.dK kvs) ∧ kvs.map (·.1) = ks.map (fun k => (Sum.inr (ofL k) : Key)) ∧ ks.length < 64 ∧ (∀ k ∈ ks, Nm k) ∧
  ∀ (ys : List (List Nat)) (q : Addr) (G : Hp), ys.Perm ks → sortedS (ys.map ofL) = true → H q = none → Same H G → G q = some (.lst (ys.map fun k => .str (ofL k))) → Q (.ref q) G
theorem ok_asc {f : Addr} {fd : FuncData} (F : Fun K "_ascending_names" "_ascending_names" s__ascending_names f fd) (T : Txt K mg) (T2 : Txt2 mg) (hso : mg "sorted" = none) (cNN : CalO P w K mg base "need_name" 2 ["value"] spNeed0 (fun _ => True)) : FnOk P w K mg base CX0 3 f fd ["values"] spAsc := by
  refine F.ok sc__ascending_names (fun vs H Q E h => ?_) (fun cdv A' outer s H vs Q E hr h => ?_)
  · obtain ⟨p, kvs, ks, rfl, _⟩ := h
    rfl
  · obtain ⟨p, kvs, ks, rfl, hp, hk, l64, nm, k⟩ := h
    refine ⟨_, (pss_cons (ps_lock (ps_for PassesOwn.never rfl (pi_keys (pc 0)) (pg_name (i := 1) sc__ascending_names.nd rfl (Or.inl rfl)) (pss_one (s_if (pt_not (t_val (pe_callB c_isi (by rfl) T.b_isinstance (by decide +kernel) (pa_cons (pc 1) (pa_cons (pe_bltn (v := .ty "str") (u := .type "str") (by rfl) T2.b_str (by decide +kernel) rfl) pa_nil))))) (pss_one ps_dead) pss_nil))))
    (pss_cons (ps_set (i := 2) sc__ascending_names.nd rfl (Or.inl rfl) (pe_callB cr_sortedS (by rfl) hso (by decide +kernel) (pa_cons (pe_lock (pe_lc (own := [("key", 1)]) (g := gName 1) (tt := tYes) rfl sc__ascending_names.nd (pi_keys (pc 0)) (blkOk_by (own := [("key", 1)]) (N := n__ascending_names) (sc := defScope s__ascending_names) (by decide +kernel)) (fun _ _ _ _ _ => pg_name (i := 1) sc__ascending_names.nd rfl (Or.inl rfl)) (fun _ _ _ _ _ => pts_nil) (fun _ _ _ _ _ => (pe_callTy SkE.call_str_str (by rfl) T2.b_str (by decide +kernel) (pa_cons (pc 1) pa_nil))))) pa_nil)))
    (pss_cons (ps_for PassesOwn.never rfl (pi_list (pc 2)) (pg_name (i := 3) sc__ascending_names.nd rfl (Or.inl rfl)) (pss_one (ps_expr (pe_cO cNN (hr.mono (by decide)) (pa_cons (pc 3) pa_nil)))))
    (pss_one (ps_ret (pc 2)))))), ?_⟩
    have kl : kvs.length = ks.length := by simpa using congrArg List.length hk
    have at_ : ∀ (i : Nat) (ky : Key) (v : V), kvs[i]? = some (ky, v) → ∃ n, ks[i]? = some n ∧ ky = .inr (ofL n) := fun i ky v e => by
      have := congrArg (·[i]?) hk
      simp only [List.getElem?_map, e] at this
      cases e2 : ks[i]? with
      | none => rw [e2] at this; cases this
      | some n => rw [e2] at this; exact ⟨n, rfl, by simpa using this⟩
    have back : ∀ (HH G : Hp) (od : Obj), HH p = some (.dK kvs) → Same (upd HH p (.frz od (.dK kvs))) G → Same HH (upd G p (.dK kvs)) := fun HH G od e s1 b o z => by
      by_cases bp : b = p
      · rw [bp] at z ⊢
        rw [e] at z
        cases z
        exact upd_same
      · rw [upd_ne bp]
        exact s1 _ _ (by rw [upd_ne bp]; exact z)
    refine ⟨p, .dK kvs, hp, trivial, fun od => ⟨p, od, rfl, .inl ⟨kvs, upd_same, for_it walk_keys
      (fun i σ G => Same (upd H p (.frz od (.dK kvs))) G ∧ ∃ x1 x3, σ = [some (.ref p), x1, none, x3]) ⟨Same.refl _, none, none, rfl⟩ (fun i σ G _ z => z.1 _ _ upd_same) ?_ ?_⟩⟩⟩
    · rintro i x σ G G' hi ⟨s1, x1, x3, rfl⟩ ⟨rfl, ky, v, e, rfl⟩
      obtain ⟨n, e2, rfl⟩ := at_ i ky v e
      refine ⟨_, _, _, _, true, rfl, .str _, (fun u r => r), rfl, ⟨fun h => absurd h (by decide), fun _ => ⟨s1, _, x3, rfl⟩⟩⟩
    · rintro σ G ⟨s1, x1, x3, rfl⟩
      refine ⟨s1 _ _ upd_same, ?_⟩
      have s2 := back H G od hp s1
      have hp2 := s2 _ _ hp
      generalize upd G p (.dK kvs) = H2 at s2 hp2
      refine ⟨p, .dK kvs, hp2, trivial, fun od2 => ⟨p, od2, rfl, .inl ⟨kvs, upd_same, fun D nD => lc_it walk_keys
        (fun i G => Same (upd H2 p (.frz od2 (.dK kvs))) G ∧ G D = some (.lst ((ks.take i).map fun q => .str (ofL q)))) ⟨Same.new (Same.refl _) nD, upd_same⟩ (fun i G _ z => z.1 _ _ upd_same) ?_ ?_⟩⟩⟩
      · rintro i x G G' hi ⟨s3, gD⟩ ⟨rfl, ky, v, e, rfl⟩
        obtain ⟨n, e2, rfl⟩ := at_ i ky v e
        exact ⟨rfl, ofL n, rfl, _, gD, by rw [List.length_map, List.length_take, sizeLine_eq]; omega, Same.mut s3 nD, by rw [upd_same, List.take_add_one, e2, List.map_append]; rfl⟩
      · rintro G ⟨s3, gD⟩
        have pD : D ≠ p := fun z => by rw [z, upd_same] at nD; cases nD
        rw [kl, List.take_length] at gD
        have s4 := back H2 G od2 hp2 s3
        have gD2 : upd G p (.dK kvs) D = some (.lst (ks.map fun q => .str (ofL q))) := by rw [upd_ne pD]; exact gD
        refine ⟨s3 _ _ upd_same, ?_⟩
        generalize upd G p (.dK kvs) = H4 at s4 gD2
        refine ⟨D, ks.map ofL, rfl, SqL.of (by rw [List.map_map]; exact gD2), by rw [List.length_map]; exact l64, fun ys pS perm srt nS => ?_⟩
        obtain ⟨qs, q1, rfl⟩ := perm_lift ofL perm.symm ks rfl
        have s5 := (s2.trans s4).trans (Same.new (o := .lst ((qs.map ofL).map V.str)) (Same.refl H4) nS)
        have hS : upd H4 pS (.lst ((qs.map ofL).map V.str)) pS = some (.lst ((qs.map ofL).map V.str)) := upd_same
        have nS0 : H pS = none := (s2.trans s4).free nS
        generalize upd H4 pS (.lst ((qs.map ofL).map V.str)) = H5 at s5 hS
        refine ⟨pS, rfl, ⟨_, SqL.of hS⟩, for_it walk_list (fun i σ G => Same H5 G ∧ ∃ x1 x3, σ = [some (.ref p), x1, some (.ref pS), x3]) ⟨Same.refl _, _, _, rfl⟩ (fun i σ G _ z => SqL.of (z.1 _ _ hS)) ?_ ?_⟩
        · rintro i x σ G G' hi ⟨s6, x1, x3, rfl⟩ ⟨rfl, e⟩
          rw [List.length_map, List.length_map] at hi
          have eq : qs[i]? = some qs[i] := List.getElem?_eq_getElem hi
          have qm : qs[i] ∈ ks := q1.mem_iff.mp (List.getElem_mem hi)
          rw [List.getElem?_map, List.getElem?_map, eq] at e
          generalize qs[i] = g at eq qm e
          obtain rfl : V.str (ofL g) = x := Option.some.inj e
          exact ⟨g, rfl, nm g qm, fun G2 s7 => ⟨s6.trans s7, _, _, rfl⟩⟩
        · rintro σ G ⟨s6, x1, x3, rfl⟩
          exact k qs pS G q1 srt nS0 (s5.trans s6) (by have := s6 _ _ hS; rw [List.map_map] at this; exact this)

end
end LW
set_option Elab.async false
set_option linter.all false
set_option maxRecDepth 100000
set_option maxHeartbeats 2000000
namespace HX
open PySem PySem.Spec PyProof.Rows L2

/-! ### a dict's comprehension over any walk -/
section
variable {J : It} {n : Nat} {G : Hp → Prop} {Y : Nat → Hp → V → Hp → Prop}
theorem dc_it (wk : Walk J n G Y) {g : TG} {tt : TT} {tk tv : TE} {vs : List Nat} {σ : L2.St} {H1 : Hp} {D : Addr} {Fin : Hp → Prop} (Pv : Nat → Hp → Prop) (h0 : Pv 0 (upd H1 D (.dK []))) (hG : ∀ i H, i ≤ n → Pv i H → G H)
    (hs : ∀ i x H H', i < n → Pv i H → Y i H x H' → g x (wipe σ vs) H' fun σ2 H2 => wipe σ2 vs = wipe σ vs ∧ tt σ2 H2 fun b H3 =>
      if b = true then tk σ2 H3 fun y H4 => tv σ2 H4 fun z H5 => ∃ kvs k, y = kV k ∧ H5 D = some (.dK kvs) ∧ kvs.length < sizeLine ∧ Pv (i + 1) (upd H5 D (.dK (putK kvs k z))) else Pv (i + 1) H3) (hd : ∀ H, Pv n H → Fin H) :
    ∃ W : Nat → Nat → Hp → Prop, (∃ m, W 0 m (upd H1 D (.dK []))) ∧ ∀ i m H, W i m H →
      (J.stop i H ∧ Fin H) ∨ (J.go i H ∧ ∃ Nx : Hp → Prop, (∀ H', Nx H' → ∃ m', m' < m ∧ W (i + 1) m' H') ∧ ∀ x H', J.yld i H x H' → g x (wipe σ vs) H' fun σ2 H2 => wipe σ2 vs = wipe σ vs ∧ tt σ2 H2 fun b H3 =>
        if b = true then tk σ2 H3 fun y H4 => tv σ2 H4 fun z H5 => ∃ kvs k, y = kV k ∧ H5 D = some (.dK kvs) ∧ kvs.length < sizeLine ∧ Nx (upd H5 D (.dK (putK kvs k z))) else Nx H3) := by
  refine ⟨fun i left H => left + i = n ∧ Pv i H, ⟨n, rfl, h0⟩, ?_⟩
  rintro i left H ⟨sum, pv⟩
  have le : i ≤ n := by omega
  have st := hG i H le pv
  rcases Nat.lt_or_ge i n with lt | ge
  · exact .inr ⟨wk.goes i H lt st, Pv (i + 1), fun H' p' => ⟨left - 1, by omega, by omega, p'⟩, fun x H' y => hs i x H H' lt pv (wk.yields i H x H' lt st y)⟩
  · have e : i = n := Nat.le_antisymm le ge
    subst e
    exact .inl ⟨wk.stops H st, hd H pv⟩
end
/-! ### dicts of Amounts, by their names: what a dict told holds -/
/-- R says what stands under a name -/
inductive KRs (R : V → Int → Int → Prop) : List (Key × V) → List (List Nat × Int × Int) → Prop
  | nil : KRs R [] []
  | cons {v : V} {k : List Nat} {t b : Int} {kvs : List (Key × V)} {ps : List (List Nat × Int × Int)} : R v t b → KRs R kvs ps → KRs R ((.inr (ofL k), v) :: kvs) ((k, t, b) :: ps)
section
variable {R S : V → Int → Int → Prop}
theorem KRs.mo (s : ∀ v t b, R v t b → S v t b) : ∀ {kvs ps}, KRs R kvs ps → KRs S kvs ps
  | _, _, .nil => .nil
  | _, _, .cons e r => .cons (s _ _ _ e) (r.mo s)
theorem KRs.snoc {v : V} {k : List Nat} {t b : Int} (e : R v t b) : ∀ {kvs ps}, KRs R kvs ps → KRs R (kvs ++ [(.inr (ofL k), v)]) (ps ++ [(k, t, b)])
  | _, _, .nil => .cons e .nil
  | _, _, .cons e2 r => .cons e2 (r.snoc e)
theorem KRs.len : ∀ {kvs ps}, KRs R kvs ps → kvs.length = ps.length
  | _, _, .nil => rfl
  | _, _, .cons _ r => by rw [List.length_cons, List.length_cons, r.len]
theorem KRs.keys : ∀ {kvs ps}, KRs R kvs ps → kvs.map (·.1) = (ps.map (·.1)).map fun k => (Sum.inr (ofL k) : Key)
  | _, _, .nil => rfl
  | _, _, .cons _ r => by rw [List.map_cons, List.map_cons, List.map_cons, r.keys]
theorem KRs.out {k : List Nat} : ∀ {kvs ps}, KRs R kvs ps → (∀ p ∈ ps, p.1 ≠ k) → valV kvs (.inr (ofL k)) = none
  | _, _, .nil, _ => rfl
  | _, _, .cons e r, n => by
    rw [valV_neg (by intro z; exact n _ (List.mem_cons_self ..) (ofL_inj (Sum.inr.inj z)))]
    exact r.out fun p hp => n p (List.mem_cons_of_mem _ hp)
theorem KRs.get {n : List Nat} {t b : Int} : ∀ {kvs ps}, KRs R kvs ps → (ps.map (·.1)).Nodup → (n, t, b) ∈ ps → ∃ v, valV kvs (.inr (ofL n)) = some v ∧ R v t b
  | _, _, .nil, _, z => nomatch z
  | _, _, .cons (v := v) e r, nd, z => by
    rw [List.map_cons, List.nodup_cons] at nd
    rcases List.mem_cons.mp z with z | z
    · cases z
      exact ⟨v, valV_pos (p := ((Sum.inr (ofL n) : Key), v)) rfl, e⟩
    · obtain ⟨u, u1, u2⟩ := r.get nd.2 z
      refine ⟨u, ?_, u2⟩
      rw [valV_neg (by intro y; exact nd.1 (List.mem_map.mpr ⟨_, z, (ofL_inj (Sum.inr.inj y)).symm⟩))]
      exact u1
theorem KRs.at_ : ∀ {kvs ps}, KRs R kvs ps → ∀ (i : Nat) (k : Key) (v : V), kvs[i]? = some (k, v) → ∃ n t b, ps[i]? = some (n, t, b) ∧ k = .inr (ofL n) ∧ R v t b
  | _, _, .nil, i, k, v, e => by simp at e
  | _, _, .cons (v := u) (k := n) (t := t) (b := b) x _, 0, k, v, e => by
    simp at e
    obtain ⟨rfl, rfl⟩ := e
    exact ⟨n, t, b, rfl, rfl, x⟩
  | _, _, .cons _ r, i + 1, k, v, e => by
    simp at e
    obtain ⟨n, t, b, x, y, z⟩ := r.at_ i k v e
    exact ⟨n, t, b, by simpa using x, y, z⟩
end
end HX

set_option Elab.async false
set_option linter.all false
set_option maxRecDepth 100000
set_option maxHeartbeats 2000000
namespace HX
open PySem PySem.Spec PyProof.Rows L2

/-! ### name = {.. for ..} on one line, the name a local -/
section
variable {X : Cx} {i : Nat} {y : Str} {py : Pos} {kx vx tg iter : Expr} {ifs : List Expr} {scope : Scope} {own : List (Str × Nat)} {pos spos : Pos} {wi : TI} {g : TG} {tt : TT} {tk tv : TE}
/-- of every block that a comprehension of that scope opens in X -/
abbrev InBlk (X : Cx) (scope : Scope) (R : Cx → Prop) : Prop := ∀ (s : Shared) (H : Hp) (C : Addr) (cl : List (Str × Addr)) (fp : List Addr), R (X.blk s H scope (compEnvC scope cl C X.env) fp)
theorem sw_trueD {gs : List Comprehension} {l : Nat} {env : Env} (fk : env.scope.kind = .function) (ly : env.scope.names.lookup y = some .local) (ln : (py.line == pos.line) = true)
    (no : (scope.names.any fun (n, k) => n == y && (k == .local || k == .cell)) = false) : swapsWith (.DictComp kx vx gs scope pos) (some (.Name y py)) l env = pure true := by
  unfold swapsWith
  simp only [show env.kindOf y = some .local from ly, show env.blockKind = .function by unfold Env.blockKind; rw [fk]; rfl, no, Expr.pos, ln]
  rfl
theorem ps_setDc (hc : X.calm = true) (hN : X.N.Nodup) (hy : X.N[i]? = some y) (hyl : X.env.scope.names.lookup y = some .local)
    (sw : swapsWith (.DictComp kx vx [⟨tg, iter, ifs, 0⟩] scope pos) (some (.Name y py)) spos.line X.env = pure true) (pi : PI X tg iter wi) (ok : BlkOk X.N X.env.scope scope own)
    (bg : InBlk X scope fun B => PG B tg g) (bt : InBlk X scope fun B => PTs B ifs tt) (bk : InBlk X scope fun B => PE B kx tk) (bv : InBlk X scope fun B => PE B vx tv)
    (fs : ∀ x, foldedSetIterable iter X.env x = pure x := by intro _; rfl) :
    PS X (.Assign [.Name y py] (.DictComp kx vx [⟨tg, iter, ifs, 0⟩] scope pos) spos) (tAsg (tDc wi g tt tk tv (own.map (·.2))) (gName i)) := by
  refine ⟨fun pins s σ H D I want => ?_⟩
  have want : tDc wi g tt tk tv (own.map (·.2)) σ H (fun v G => gName i v σ G D.nx) := want
  have run := dc_core (pos := pos) (Qf := fun _ s' => SP X pins D .next s') (pos' := firstIterPos [⟨tg, iter, ifs, 0⟩] pos) (use := some (assign (.Name y py) X.env)) hc hN I pi ok bg bt bk bv fs want fun L C s' m G J q hn apart => by
    refine wpAny_assign_Name (store_ok2 (v := V.ref L) J hN hy (.inl hyl) rfl (fun s2 J2 ⟨cell, sb, at_⟩ => ?_) (.inr hyl))
    obtain ⟨a0, a1, a2, a3, a4, a5⟩ := apart
    have ne : C ≠ cell := at_.elim (fun z => by rw [z]; exact a1) fun z e => a4 y cell z e.symm
    exact ⟨m, hn.sameBut sb ne, fun h3 sb3 => ⟨_, G, J2.turned (t' := s2.toks) (fun b o hb e => (sb3.2 b hb).trans e) a0 a1 a3 a4 a5, q⟩⟩
  rw [exec_Assign_Name_used (hs := sw)]
  exact wpAny_bind (wpAny_standAt (wpAny_bind (wpAny_bind (thn run fun _ s' z => wpAny_pure (wpAny_pure z)))))
end
end HX

set_option Elab.async false
set_option linter.all false
set_option maxRecDepth 100000
set_option maxHeartbeats 4000000
namespace LW
open PySem PySem.Spec PyProof.Rows L2 HX NumText
section
variable {P : Program} {w : World} {K : PySem.W.Frag} {mg : Str → Option Value} {base : Heap}

def AmV (A : Addr) (H : Hp) (v : V) (t b : Int) : Prop := ∃ a, v = .ref a ∧ Am A H a t b
theorem AmV.upd {A D : Addr} {H G : Hp} {o : HO} {kvs : List (Key × V)} {v : V} {t b : Int} (s : Same H G) (d : G D = some (.dK kvs)) : AmV A H v t b → AmV A (L2.upd G D o) v t b := fun ⟨a, e, dx, z⟩ => by
  have z2 := s _ _ z
  exact ⟨a, e, dx, by rw [upd_ne (fun y => by rw [y, d] at z2; cases z2)]; exact z2⟩
/-- numbers under names, as they are told -/
def NuV (A : Addr) (H : Hp) (v : V) (t b : Int) : Prop := Nu A H v t b ∧ Low t b ∧ Sm 1300 t ∧ Sm 1300 b
def nz (p : List Nat × Int × Int) : Bool := decide (p.2.1 ≠ 0)
theorem take_out {rs : List (List Nat × Int × Int)} {i : Nat} {g : List Nat × Int × Int} (nd : (rs.map (·.1)).Nodup) (e : rs[i]? = some g) : ∀ p ∈ rs.take i, p.1 ≠ g.1 := fun p hp z => by
  obtain ⟨hi, rfl⟩ := List.getElem?_eq_some_iff.mp e
  have sp : rs.map (·.1) = (rs.take i).map (·.1) ++ rs[i].1 :: (rs.drop (i + 1)).map (·.1) := by
    have := congrArg (List.map (·.1)) (List.take_append_drop i rs).symm
    rw [List.drop_eq_getElem_cons hi, List.map_append, List.map_cons] at this
    exact this
  rw [sp] at nd
  exact (List.nodup_append.mp nd).2.2 _ (List.mem_map.mpr ⟨p, hp, rfl⟩) _ (List.mem_cons_self ..) z
def GwOk (ps : List (List Nat × Int × Int)) : Prop := (ps.map (·.1)).Nodup ∧ ps.length < 64 ∧ ∀ p ∈ ps, Nm p.1
def spGInit (A C : Addr) : Sp := fun vs H Q _ => ∃ (x dx : Addr) (v : V), vs = [.ref x, v] ∧ H x = some (.ins C dx []) ∧
  ∃ ps, ((v = .non ∧ ps = []) ∨ ∃ (P_ : Addr) (kvs : List (Key × V)), v = .ref P_ ∧ H P_ = some (.dK kvs) ∧ KRs (NuV A H) kvs ps ∧ GwOk ps) ∧
  ∀ (G : Hp) (D : Addr) (gvs : List (Key × V)) (rs : List (List Nat × Int × Int)), H D = none → (∀ b o, b ≠ x → H b = some o → G b = some o) → G x = some (.ins C dx [("_told", .ref D)]) → G D = some (.dK gvs) → KRs (AmV A G) gvs (rs.filter nz) → rs.Perm ps → sortedS (rs.map fun p => ofL p.1) = true → Q .non G
theorem ok_ginit {A fI pO gO pN gN f C : Addr} {mc : Value} {fd : FuncData} (F : FunD K "__init__" "Gaps.__init__" (defArgs s_Gaps_init) (defBody s_Gaps_init) (defScope s_Gaps_init) [.non] [] f fd) (T : Txt K mg) (U : AmC K mg A fI pO gO pN gN mc) {fdO : FuncData} (FO : FnOk P w K mg base CX0 4 gO fdO ["number"] (spOf A)) (bO : Binds K fdO ["number"] []) (cAs : CalO P w K mg base "_ascending_names" 3 ["values"] spAsc (fun _ => True)) (hdi : mg "dict" = none) (Cc : Cls K C) (nTo : NoAttr K C "_told") : FnOk P w K mg base CX0 5 f fd ["self", "values"] (spGInit A C) := by
  refine funD_ok F sc_Gaps_init (fun vs H Q E h => ?_) (fun cdv A' outer s H vs Q E hr h => ?_)
  · obtain ⟨x, dx, v, rfl, _⟩ := h
    rfl
  · obtain ⟨x, dx, v, rfl, hx, ps, hv, k⟩ := h
    refine ⟨_, (pss_one (s_if (t_cmp o_is (pc 1) pe_non) (pss_one (ps_fld (pc 0) pe_dnewK (by rfl))) (pss_one (s_if (pt_not (t_val (pe_callB c_isi (by rfl) T.b_isinstance (by decide +kernel) (pa_cons (pc 1) (pa_cons (pe_bltn (v := .ty "dict") (u := .type "dict") (by rfl) hdi (by decide +kernel) rfl) pa_nil))))) (pss_one ps_dead) (pss_cons (ps_setDc (i := 2) (own := [("account", 3)]) (g := gName 3) (tt := tYes) rfl sc_Gaps_init.nd rfl rfl (sw_trueD rfl rfl rfl (by decide +kernel)) (pi_list (pe_cO cAs (hr.mono (by decide)) (pa_cons (pc 1) pa_nil))) (blkOk_by (own := [("account", 3)]) (N := n_Gaps_init) (sc := defScope s_Gaps_init) (by decide +kernel)) (fun _ _ _ _ _ => pg_name (i := 3) sc_Gaps_init.nd rfl (Or.inl rfl)) (fun _ _ _ _ _ => pts_nil) (fun _ _ _ _ _ => (pc 3)) (fun _ _ _ _ _ => (pe_sm (p_gc U.g_Amount) U.sO FO bO (hr.mono (by decide)) pass0 (pa_cons (pe_dget (Nat.lt_of_le_of_lt (Nat.add_le_add_left (by decide : 1 ≤ 64) _) hr.units) (pc 1) (pc 3) (by exact fun _ _ => rfl)) pa_nil)))) (pss_one (ps_fld (pc 0) (pe_lock (pe_dc (own := [("account", 3), ("gap", 4)]) (g := gTup K 2 (gCons (gName 3) (gCons (gName 4) gNil))) (tt := cT (tOp (rEq2 K true) (tFld K (cV 4) "top") (tC (.int 0)))) rfl sc_Gaps_init.nd (pi_items (pc 2)) (blkOk_by (own := [("account", 3), ("gap", 4)]) (N := n_Gaps_init) (sc := defScope s_Gaps_init) (by decide +kernel)) (fun _ _ _ _ _ => (by exact pg_tup rfl (pgs_cons (pg_name (i := 3) sc_Gaps_init.nd rfl (Or.inl rfl)) (pgs_cons (pg_name (i := 4) sc_Gaps_init.nd rfl (Or.inl rfl)) pgs_nil)))) (fun _ _ _ _ _ => (pts_one (by exact t_cmp (o_ne hr.units) (pe_fld (pc 4) (by rfl)) pe_int))) (fun _ _ _ _ _ => (pc 3)) (fun _ _ _ _ _ => (pc 4)))) (by rfl)))))))), ?_⟩
    rcases hv with ⟨rfl, rfl⟩ | ⟨P_, kvs, rfl, hP, kr, nd, l64, nm⟩
    · refine ⟨fun _ => fun D nD => ⟨x, C, dx, _, rfl, kpN hx nD, Cc, nTo, by show 0 < 1000; decide, ?_⟩, fun z => absurd z (by simp)⟩
      have nx : D ≠ x := fun z => by rw [z, hx] at nD; cases nD
      exact k _ D [] [] nD (fun b o n e => by rw [upd_ne n]; exact kpN e nD) upd_same (by rw [upd_ne nx, upd_same]) .nil (.refl _) (by decide)
    refine ⟨fun z => absurd z (by simp), fun _ => ⟨_, _, _, _, true, rfl, .dK hP, (fun u r => r), kit_ty (by show kitB _ _ = some true; decide +kernel), ⟨fun h => absurd h (by decide), fun _ => ?_⟩⟩⟩
    refine ⟨P_, kvs, ps.map (·.1), rfl, hP, kr.keys, by rw [List.length_map]; exact l64, fun n hn => by obtain ⟨p, hp, rfl⟩ := List.mem_map.mp hn; exact nm p hp, fun ys q G perm srt nq sG gq => ?_⟩
    obtain ⟨rs, rp, rfl⟩ := perm_lift (fun p : List Nat × Int × Int => p.1) perm.symm ps rfl
    have rl := rp.length_eq
    have hP1 := sG _ _ hP
    refine ⟨q, rfl, ⟨_, SqL.of gq⟩, fun D nD => dc_it walk_list (fun i G1 => Same G G1 ∧ ∃ gvs, G1 D = some (.dK gvs) ∧ KRs (AmV A G1) gvs (rs.take i)) ⟨Same.new (Same.refl G) nD, [], upd_same, .nil⟩ (fun i G1 _ z => SqL.of (z.1 _ _ gq)) ?_ ?_⟩
    · rintro i y G1 G2 hi ⟨s1, gvs, gD, ka⟩ ⟨rfl, e⟩
      rw [List.length_map, List.length_map] at hi
      have eq : rs[i]? = some rs[i] := List.getElem?_eq_getElem hi
      have qm : rs[i] ∈ ps := rp.mem_iff.mp (List.getElem_mem hi)
      rw [List.getElem?_map, List.getElem?_map, eq] at e
      have rnd : (rs.map (·.1)).Nodup := (rp.map _).nodup_iff.mpr nd
      have tk : rs.take (i + 1) = rs.take i ++ [rs[i]] := by rw [List.take_add_one, eq]; rfl
      have out : ∀ p ∈ rs.take i, p.1 ≠ rs[i].1 := take_out rnd eq
      generalize rs[i] = g at eq qm e tk out
      obtain ⟨n, t, b⟩ := g
      obtain rfl : V.str (ofL n) = y := Option.some.inj e
      obtain ⟨v, v1, nu, lo, S1, S2⟩ := kr.get nd qm
      have dg : DGet G2 P_ (.str (ofL n)) (some v) := by have := DGet.k (k := .inr (ofL n)) (s1 _ _ hP1); rwa [v1] at this
      refine ⟨rfl, rfl, P_, v, rfl, dg, v, t, b, rfl, (nu.mo sG).mo s1, S1.mono (by decide), fun r G3 s2 am => ⟨gvs, .inr (ofL n), rfl, s2 _ _ gD, by rw [ka.len, List.length_take, sizeLine_eq]; omega, Same.mut (s1.trans s2) nD, _, upd_same, ?_⟩⟩
      rw [putK_new _ (ka.out out), tk]
      exact KRs.snoc (AmV.upd (Same.refl G3) (s2 _ _ gD) ⟨r, rfl, am⟩) (ka.mo fun _ _ _ z => AmV.upd s2 (s2 _ _ gD) z)
    · rintro G1 ⟨s1, gvs, gD, ka⟩
      rw [List.length_map, List.length_map, List.take_length] at ka
      have kal := ka.len
      have nx : D ≠ x := fun z => by rw [z] at nD; have := sG _ _ hx; rw [nD] at this; cases this
      refine ⟨D, .dK gvs, gD, trivial, fun od => ⟨D, od, gvs, rfl, upd_same, fun D2 nD2 => dc_it walk_items (fun i G2 => Same (upd G1 D (.frz od (.dK gvs))) G2 ∧ ∃ hvs, G2 D2 = some (.dK hvs) ∧ KRs (AmV A G2) hvs ((rs.take i).filter nz)) ⟨Same.new (Same.refl _) nD2, [], upd_same, .nil⟩ (fun i G2 _ z => z.1 _ _ upd_same) ?_ ?_⟩⟩
      · rintro i y G2 G3 hi ⟨s2, hvs, hD, kh⟩ ⟨T_, a, b, rfl, nT, rfl, e1, e2⟩
        have eg : gvs[i]? = some gvs[i] := List.getElem?_eq_getElem hi
        have e1 : gvs[i]?.map (fun kv => kV kv.1) = some a := e1
        have e2 : gvs[i]?.map Prod.snd = some b := e2
        rw [eg] at e1 e2
        generalize gvs[i] = g at eg e1 e2
        obtain ⟨ky, v⟩ := g
        cases e1
        cases e2
        obtain ⟨n, t, b, er, rfl, av⟩ := ka.at_ i ky v eg
        have tk : rs.take (i + 1) = rs.take i ++ [(n, t, b)] := by rw [List.take_add_one, er]; rfl
        obtain ⟨r, rfl, dy, ea⟩ := AmV.upd (o := .frz od (.dK gvs)) (Same.refl G1) gD av
        have s3 := Same.new (o := .tup [kV (.inr (ofL n)), .ref r]) (Same.refl G2) nT
        have ea3 := s3 _ _ (s2 _ _ ea)
        have hD3 := s3 _ _ hD
        refine ⟨T_, _, rfl, SqT.of upd_same, rfl, _, _, rfl, _, _, rfl, rfl, rfl, r, A, dy, _, _, rfl, ea3, U.cls, U.nT, rfl, ?_⟩
        by_cases t0 : t = 0
        · have nzf : nz (n, t, b) = false := by simp [nz, t0]
          subst t0
          exact ⟨s2.trans s3, hvs, hD3, by rw [tk, List.filter_append, List.filter_cons, nzf]; simpa using kh.mo fun _ _ _ ⟨a, e, am⟩ => ⟨a, e, am.mo s3⟩⟩
        · have nzt : nz (n, t, b) = true := by simp [nz, t0]
          show if (xor true (decide (t = 0))) = true then _ else _
          rw [decide_eq_false t0]
          have rnd : (rs.map (·.1)).Nodup := (rp.map _).nodup_iff.mpr nd
          have lf := List.length_filter_le nz (rs.take i)
          refine ⟨hvs, .inr (ofL n), rfl, hD3, by rw [kh.len, sizeLine_eq]; rw [List.length_take] at lf; omega, Same.mut (s2.trans s3) nD2, _, upd_same, ?_⟩
          rw [putK_new _ (kh.out fun p hp => take_out rnd er p (List.mem_filter.mp hp).1), tk, List.filter_append, List.filter_cons, nzt]
          exact KRs.snoc (AmV.upd (Same.refl _) hD3 ⟨r, rfl, dy, ea3⟩) (kh.mo fun _ _ _ z => AmV.upd s3 hD3 z)
      · rintro G2 ⟨s2, hvs, hD, kh⟩
        rw [kal, List.take_length] at kh
        have gf := s2 _ _ upd_same
        have hxG := s1 _ _ (sG _ _ hx)
        have hx2 : G2 x = some (.ins C dx []) := s2 _ _ (by rw [upd_ne (Ne.symm nx)]; exact hxG)
        have D2x : D2 ≠ x := fun z => by rw [z, upd_ne (Ne.symm nx), hxG] at nD2; cases nD2
        have D2D : D2 ≠ D := fun z => by rw [z, upd_same] at nD2; cases nD2
        refine ⟨gf, x, C, dx, _, rfl, by rw [upd_ne (Ne.symm nx)]; exact hx2, Cc, nTo, by show 0 < 1000; decide, ?_⟩
        refine k _ D2 hvs rs ((sG.trans s1).free (by have z := nD2; rw [upd_ne D2D] at z; exact z)) (fun b o n e => ?_) upd_same (by rw [upd_ne D2x, upd_ne D2D]; exact hD) (kh.mo fun v t b ⟨a, e, dy, ea⟩ => ⟨a, e, dy, ?_⟩) rp (by rw [List.map_map] at srt; exact srt)
        · have bD : b ≠ D := fun z => by rw [z] at e; have := sG _ _ e; rw [nD] at this; cases this
          rw [upd_ne n, upd_ne bD]
          exact s2 _ _ (by rw [upd_ne bD]; exact s1 _ _ (sG _ _ e))
        · rw [upd_ne (fun z => by rw [z, hx2] at ea; cases ea), upd_ne (fun z => by rw [z, gf] at ea; cases ea)]
          exact ea

end
end LW
set_option Elab.async false
set_option linter.all false
set_option maxRecDepth 100000
set_option maxHeartbeats 4000000
namespace LW
open PySem PySem.Spec PyProof.Rows L2 HX NumText
section
variable {P : Program} {w : World} {K : PySem.W.Frag} {mg : Str → Option Value} {base : Heap}

/-- gaps as they stand: ps are what they tell, by ascending names -/
def GpsAt (C : Addr) (H : Hp) (x D : Addr) (gvs : List (Key × V)) : Prop := (∃ dx, H x = some (.ins C dx [("_told", .ref D)])) ∧ H D = some (.dK gvs)
theorem GpsAt.mo {C x D : Addr} {H G : Hp} {gvs : List (Key × V)} (s : Same H G) : GpsAt C H x D gvs → GpsAt C G x D gvs := fun ⟨⟨dx, a⟩, b⟩ => ⟨⟨dx, s _ _ a⟩, s _ _ b⟩
def spGCon (C : Addr) : Sp := fun vs H Q _ => ∃ (x D : Addr) (gvs : List (Key × V)) (k : Str), vs = [.ref x, .str k] ∧ GpsAt C H x D gvs ∧ Q (.bl (valV gvs (.inr k)).isSome) H
theorem ok_gcon {f C : Addr} {fd : FuncData} (F : Fun K "__contains__" "Gaps.__contains__" s_Gaps_contains f fd) (T : Txt K mg) (T2 : Txt2 mg) (Cc : Cls K C) (nTo : NoAttr K C "_told") : FnOk P w K mg base CX0 1 f fd ["self", "value"] (spGCon C) := by
  refine F.ok sc_Gaps_contains (fun vs H Q E h => ?_) (fun cdv A' outer s H vs Q E hr h => ?_)
  · obtain ⟨x, D, gvs, k, rfl, _⟩ := h
    rfl
  · obtain ⟨x, D, gvs, k, rfl, ⟨⟨dx, hx⟩, hD⟩, q⟩ := h
    refine ⟨_, (pss_one (ps_ret (e_and (pe_callB c_isi (by rfl) T.b_isinstance (by decide +kernel) (pa_cons (pc 1) (pa_cons (pe_bltn (v := .ty "str") (u := .type "str") (by rfl) T2.b_str (by decide +kernel) rfl) pa_nil))) (pe_one (pe_cmp (pc_din (Nat.lt_of_le_of_lt (Nat.add_le_add_left (by decide : 1 ≤ 64) _) hr.units) (pc 1) (pe_fld (pc 0) rfl))))))), ?_⟩
    exact ⟨_, _, _, _, true, rfl, .str _, (fun u r => r), rfl, ⟨fun _ => ⟨x, C, dx, _, _, rfl, hx, Cc, nTo, rfl, D, _, rfl, DGet.k (k := .inr k) hD, q⟩, fun h => absurd h (by decide)⟩⟩

end
end LW
set_option Elab.async false
set_option linter.all false
set_option maxRecDepth 100000
set_option maxHeartbeats 4000000
namespace LW
open PySem PySem.Spec PyProof.Rows L2 HX NumText
section
variable {P : Program} {w : World} {K : PySem.W.Frag} {mg : Str → Option Value} {base : Heap}

/-- what stands under a name that is there -/
def spGGet (C : Addr) : Sp := fun vs H Q _ => ∃ (x D : Addr) (gvs : List (Key × V)) (k : Str) (v : V), vs = [.ref x, .str k] ∧ GpsAt C H x D gvs ∧ valV gvs (.inr k) = some v ∧ Q v H
theorem ok_gget {f fC C : Addr} {fd fdC : FuncData} (F : Fun K "__getitem__" "Gaps.__getitem__" s_Gaps_getitem f fd) (T : Txt K mg) (T2 : Txt2 mg) (Cc : Cls K C) (nTo : NoAttr K C "_told") (hCon : PySem.W.findIn K (.ref C) "__contains__" = some (some (.ref fC))) (fCon : PySem.W.isFn K (.ref fC) = true) (FC : FnOk P w K mg base CX0 1 fC fdC ["self", "value"] (spGCon C)) (bC : Binds K fdC ["self", "value"] []) : FnOk P w K mg base CX0 2 f fd ["self", "account"] (spGGet C) := by
  refine F.ok sc_Gaps_getitem (fun vs H Q E h => ?_) (fun cdv A' outer s H vs Q E hr h => ?_)
  · obtain ⟨x, D, gvs, k, v, rfl, _⟩ := h
    rfl
  · obtain ⟨x, D, gvs, k, v, rfl, ⟨⟨dx, hx⟩, hD⟩, hv, q⟩ := h
    refine ⟨_, (pss_cons (s_if (t_cmp (op_inO hCon fCon FC bC (hr.mono (by decide)) pass0) (pc 1) (pc 0)) (pss_one (ps_ret (pe_dget (Nat.lt_of_le_of_lt (Nat.add_le_add_left (by decide : 1 ≤ 64) _) hr.units) (pe_fld (pc 0) rfl) (pc 1) (by exact fun _ _ => rfl)))) pss_nil) (pss_cons ps_dead (pss_one ps_dead))), ?_⟩
    refine ⟨x, rfl, ⟨dx, _, hx⟩, x, D, gvs, k, rfl, ⟨⟨dx, hx⟩, hD⟩, _, rfl, ⟨fun _ => ⟨x, C, dx, _, _, rfl, hx, Cc, nTo, rfl, D, v, rfl, ?_, q⟩, fun z => ?_⟩⟩
    · have := DGet.k (k := .inr k) hD
      rwa [hv] at this
    · rw [hv] at z
      simp at z

end
end LW
set_option Elab.async false
set_option linter.all false
set_option maxRecDepth 100000
set_option maxHeartbeats 2000000
/-! ### == of two dicts whose values have an own __eq__ -/
namespace PySem
namespace HXD
open W PySem.Spec PySem.Calls PyProof.Rows PyProof.V
section
variable {prog : Program} {w : World} {K : Type} [DecidableEq K] {knd : KeyKind prog w K} {A : Around} {E : Value → Shared → Prop}
/-- the pairs of one dict, looked for in another one; R tells what == of two values gives -/
inductive Hits (R : Value → Value → Bool → Prop) (kb : List (K × Value)) : List (K × Value) → Bool → Prop
  | nil : Hits R kb [] true
  | miss {k : K} {v : Value} {r : List (K × Value)} : valueAt kb k = none → Hits R kb ((k, v) :: r) false
  | hit {k : K} {v y : Value} {r : List (K × Value)} {e z : Bool} : valueAt kb k = some y → R v y e → Hits R kb r z → Hits R kb ((k, v) :: r) (e && z)
variable {R : Value → Value → Bool → Prop} {J : Shared → Prop} {a b : Addr} {ka kb : List (K × Value)} {oa ob : Obj} {r : Bool}
theorem pairsJ {nm : String} {Q : Bool → Shared → Prop} (la : (a == sysModules) = false) (lb : (b == sysModules) = false) (hJ : ∀ s, J s → s.heap.get? a = some oa ∧ s.heap.get? b = some ob) (da : oa.IsDictOf knd ka) (db : ob.IsDictOf knd kb)
    (turn : ∀ v y e, R v y e → ∀ s, J s → wpAny (model prog w) A (eqBool v y) (fun z s' => z = e ∧ J s') E s) (hits : ka.length = kb.length → Hits R kb ka r) (fin : ∀ s, J s → Q (ka.length == kb.length && r) s) {s : Shared} (j : J s) :
    wpAny (model prog w) A (Builtin.Dict.samePairs nm a b) Q E s := by
  obtain ⟨es, ep, _, hda, hka, hpa, _⟩ := da
  obtain ⟨fs, fp, _, hdb, hkb, hpb, _⟩ := db
  have na : ka.length = es.size := hpa.length.symm.trans Array.length_toList
  have nb : kb.length = fs.size := hpb.length.symm.trans Array.length_toList
  have look : ∀ k, findBy knd.is fs k = valueAt kb k := fun k => (show findBy knd.is fs k = _ by cases fs; simp [findBy]).trans (hpb.find k)
  unfold Builtin.Dict.samePairs Builtin.Dict.showsAll
  rw [if_neg (by rw [la]; exact Bool.false_ne_true : ¬ (a == sysModules) = true), if_neg (by rw [lb]; exact Bool.false_ne_true : ¬ (b == sysModules) = true)]
  refine wpAny_bind (wpAny_pure (wpAny_bind (wpAny_pure (wpAny_bind (wpAny_dictEntries (hJ s j).1 hda ?_)))))
  refine wpAny_bind (wpAny_dictEntries (hJ s j).2 hdb ?_)
  by_cases sz : es.size = fs.size
  · have fin2 : ∀ s2, J s2 → Q r s2 := fun s2 j2 => by
      have := fin s2 j2
      rwa [show (ka.length == kb.length) = true by rw [na, nb, sz]; exact beq_self_eq_true _, Bool.true_and] at this
    have hh := hits (by omega)
    rw [if_neg (by rw [sz]; simp)]
    refine wpAny_bind (wpAny_dictEpoch (hJ s j).1 hda (wpAny_bind ?_))
    (rw [Std.Legacy.Range.forIn_eq_forIn_range']; simp only [Std.Legacy.Range.size, Nat.sub_zero, Nat.add_sub_cancel, Nat.div_one])
    refine wpAny_forIn_list _ (fun rest q s' => J s' ∧ q = (none, ()) ∧ ∃ i, rest = List.range' i (es.size - i) ∧ i ≤ es.size ∧ Hits R kb (ka.drop i) r) _ ?_ ?_ _ _ ⟨j, rfl, 0, by simp, Nat.zero_le _, hh⟩
    · rintro x rest q s1 ⟨j1, rfl, i, e1, le, h1⟩
      have lt : i < es.size := by
        by_cases z : i < es.size
        · exact z
        · rw [show es.size - i = 0 by omega] at e1
          cases e1
      rw [show es.size - i = (es.size - (i + 1)) + 1 by omega, List.range'_succ] at e1
      obtain ⟨rfl, er⟩ := List.cons.inj e1
      have lk : x < ka.length := by omega
      have lt2 : x < es.toList.length := by rw [Array.length_toList]; exact lt
      refine wpAny_bind (wpAny_dictEntries (hJ s1 j1).1 hda ?_)
      rw [Array.getElem?_eq_getElem lt]
      obtain ⟨p1, p2⟩ := hpa.get? (i := x) (e := es[x]) (k := ka[x].1) (v := ka[x].2) (by rw [Array.getElem?_toList]; exact Array.getElem?_eq_getElem lt) (List.getElem?_eq_getElem lk)
      have dr : ka.drop x = (ka[x].1, ka[x].2) :: ka.drop (x + 1) := List.drop_eq_getElem_cons lk
      generalize ka[x].1 = k at p1 dr
      generalize ka[x].2 = v at p2 dr
      obtain ⟨k2, p3, hold⟩ := hka es[x] (Array.getElem_mem lt)
      cases knd.inj _ _ _ p3 p1
      show wpAny _ _ (holding [es[x].key, es[x].val] _ >>= _) _ _ _
      rw [hold]
      refine wpAny_bind (wpAny_holding (wpAny_bind (wpAny_dictFind_of p1 (hJ s1 j1).2 hdb hkb ?_)))
      rw [dr] at h1
      have lk2 := look k
      rw [findBy_of_findIdx?] at lk2
      cases hj : fs.findIdx? fun e => knd.is k e.key with
      | none =>
        rw [hj] at lk2
        have lk2 : none = valueAt kb k := lk2
        refine wpAny_pure ?_
        show wpAny _ _ (if (!false) = true then _ else _) _ _ _
        rw [if_pos (show (!false) = true from by decide)]
        refine wpAny_pure (wpAny_pure ?_)
        cases h1 with
        | miss _ => exact fin2 s1 j1
        | hit e _ _ => rw [← lk2] at e; cases e
      | some n =>
        obtain ⟨hn, _, _⟩ := Array.findIdx?_eq_some_iff_getElem.mp hj
        rw [hj] at lk2
        have lk2 : some fs[n].val = valueAt kb k := by simpa [Array.getElem?_eq_getElem hn] using lk2
        refine wpAny_bind (wpAny_dictEntries (hJ s1 j1).2 hdb ?_)
        rw [Array.getElem?_eq_getElem hn]
        cases h1 with
        | miss e => rw [← lk2] at e; cases e
        | @hit _ _ y _ e z ey hR h2 =>
          rw [← lk2] at ey
          cases ey
          rw [← p2] at hR
          refine wpAny_holding (wpAny_mono (turn _ _ _ hR s1 j1) (fun c s2 hc => ?_) fun _ _ z => z)
          obtain ⟨rfl, j2⟩ := hc
          cases c with
          | false =>
            show wpAny _ _ (if (!false) = true then _ else _) _ _ _
            rw [if_pos (show (!false) = true from by decide)]
            exact wpAny_pure (wpAny_pure (by have := fin2 s2 j2; rwa [Bool.false_and] at this))
          | true =>
            show wpAny _ _ (if (!true) = true then _ else _) _ _ _
            rw [if_neg (by decide)]
            refine wpAny_bind (wpAny_dictEpoch (hJ s2 j2).1 hda ?_)
            rw [if_neg (by simp)]
            rw [Bool.true_and]
            exact wpAny_pure ⟨j2, rfl, x + 1, er, lt, h2⟩
    · rintro q s1 ⟨j1, rfl, i, e1, le, h1⟩
      have ie : i = es.size := by
        by_cases z : i < es.size
        · rw [show es.size - i = (es.size - (i + 1)) + 1 by omega, List.range'_succ] at e1
          cases e1
        · omega
      rw [ie, ← na, List.drop_length] at h1
      cases h1
      exact wpAny_pure (fin2 s1 j1)
  · rw [if_pos (by simpa using sz)]
    refine wpAny_bind (wpAny_rule (wpAny_pure ?_))
    have := fin s j
    rwa [show (ka.length == kb.length) = false by rw [na, nb]; simpa using sz, Bool.false_and] at this
theorem dictsJ {Q : Value → Shared → Prop} (la : (a == sysModules) = false) (lb : (b == sysModules) = false) (hJ : ∀ s, J s → s.heap.get? a = some oa ∧ s.heap.get? b = some ob) (da : oa.IsDictOf knd ka) (db : ob.IsDictOf knd kb) (hu : A.units < cLine)
    (turn : ∀ v y e, R v y e → ∀ s, J s → wpAny (model prog w) A.in1 (eqBool v y) (fun z s' => z = e ∧ J s') E s) (hits : ka.length = kb.length → Hits R kb ka r) (fin : ∀ s, J s → Q (.bool (ka.length == kb.length && r)) s) {s : Shared} (j : J s) :
    wpAny (model prog w) A (compareOp .Eq (.ref a) (.ref b)) Q E s := by
  have ta : s.heap.DictOf knd a ka := Heap.dictOf_iff.mpr ⟨oa, (hJ s j).1, da⟩
  have tb : s.heap.DictOf knd b kb := Heap.dictOf_iff.mpr ⟨ob, (hJ s j).2, db⟩
  refine wpAny_richCompare_same_room (op := .Eq) ta.typeIs tb.typeIs F.slot_dict_eq (wpAny_call_entry F.slot_dict_eq ta.typeIs F.entry_dict_eq ?_ (F.args_dict_eq_2 _ _)) hu
  show wpAny _ _ (Builtin.Dict.dictSlotArgs "__eq__" ⟨[.ref a, .ref b], []⟩ >>= _) _ _ s
  unfold Builtin.Dict.dictSlotArgs
  refine wpAny_bind (wpAny_bind (wpAny_notOrdered_dict ta.typeIs ?_))
  show wpAny _ _ (pure (Value.ref a, Value.ref b)) _ _ s
  refine wpAny_pure (wpAny_bind (wpAny_isInstance (T := "dict") tb.typeIs F.sub_dict_dict ?_))
  simp only [Bool.not_true, Bool.false_eq_true, if_false]
  refine wpAny_bind (wpAny_pure (wpAny_bind (wpAny_pure (wpAny_bind (pairsJ la lb hJ da db turn hits (fun s2 j2 => wpAny_pure ⟨_, rfl, (fun x => nomatch x), ?_⟩) j)))))
  simpa using fin s2 j2
end
end HXD
end PySem
namespace HX
open PySem PySem.Spec PyProof.Rows L2
/-- the values of one dict against those of another; e is what their own __eq__ says -/
inductive DHits (R : Addr → Addr → Bool → Prop) (kb : List (Key × V)) : List (Key × V) → Bool → Prop
  | nil : DHits R kb [] true
  | miss {k : Key} {v : V} {r : List (Key × V)} : valV kb k = none → DHits R kb ((k, v) :: r) false
  | hit {k : Key} {c d : Addr} {r : List (Key × V)} {e z : Bool} : valV kb k = some (.ref d) → R c d e → DHits R kb r z → DHits R kb ((k, .ref c) :: r) (e && z)
/-- what == of two own instances says wherever all but the two dicts stands as in H -/
def EqAtO (C : Addr) (sp : Sp) (E : XK) (H : Hp) (a b : Addr) (c d : Addr) (e : Bool) : Prop := (c = d → e = true) ∧ ∀ G : Hp, (∀ p o, p ≠ a → p ≠ b → H p = some o → G p = some o) → IsI C G c ∧ IsI C G d ∧ sp [.ref c, .ref d] G (fun z G2 => z = .bl e ∧ Same G G2) E
def rEqDO (C : Addr) (sp : Sp) (E : XK) : L2.R2 := fun x y H Q => ∃ (a b : Addr) (ka kb : List (Key × V)) (r : Bool), x = .ref a ∧ y = .ref b ∧ a ≠ b ∧ H a = some (.dK ka) ∧ H b = some (.dK kb) ∧ (ka.length = kb.length → DHits (EqAtO C sp E H a b) kb ka r) ∧ ∀ G, Same H G → Q (.bl (decide (ka.length = kb.length) && r)) G
section
variable {X : Cx} {C f : Addr} {fd : FuncData} {ps : List Str} {sp : Sp} {CY : CXT} {k : Nat} {E : XK}
theorem DHits.low {R : Addr → Addr → Bool → Prop} {kb : List (Key × V)} {vb : List (Key × Value)} (rb : KV kb vb) : ∀ {ka : List (Key × V)} {va : List (Key × Value)} {z : Bool}, DHits R kb ka z → KV ka va → PySem.HXD.Hits (fun v y e => ∃ c d, v = .ref c ∧ y = .ref d ∧ R c d e) vb va z
  | _, _, _, .nil, .nil => .nil
  | _, _, _, .miss (k := k) e, .cons (b := (k2, v2)) ⟨e1, _⟩ _ => by
    cases e1
    exact .miss (RelO.none_of (by rw [← e]; exact rb.val k))
  | _, _, _, .hit (k := k) (c := c) (d := d) e hR t, .cons (b := (k2, v2)) ⟨e1, e2⟩ q => by
    cases e1
    cases e2
    obtain ⟨u, hu, ru⟩ := RelO.some_of (v := .ref d) (o := valueAt vb k) (by rw [← e]; exact rb.val k)
    cases ru
    exact .hit hu ⟨c, d, rfl, rfl, hR⟩ (t.low rb q)
theorem op_eqDO (hs : PySem.W.findIn X.K (.ref C) "__eq__" = some (some (.ref f))) (hf : PySem.W.isFn X.K (.ref f) = true) (Fi : FnOk X.prog X.w X.K X.mg X.base CY k f fd ps sp) (bd : Binds X.K fd ps []) (hr : Room (k + 1) X.A) (hx : Passes CY X E) :
    OpR X (compareOp .Eq) (rEqDO C sp E) := by
  intro pins s σ H x y v u Q I rx ry h
  obtain ⟨a, b, ka, kb, r, rfl, rfl, ab, ea, eb, hits, q⟩ := h
  cases rx
  cases ry
  obtain ⟨oa, I1⟩ := I.lock ea trivial
  obtain ⟨ob, I2⟩ := I1.lock (d := b) (u := .dK kb) (by rw [upd_ne (Ne.symm ab)]; exact eb) trivial
  generalize hL : upd (upd H a (.frz oa (.dK ka))) b (.frz ob (.dK kb)) = L at I2
  have La : L a = some (.frz oa (.dK ka)) := by rw [← hL, upd_ne ab, upd_same]
  have Lb : L b = some (.frz ob (.dK kb)) := by rw [← hL, upd_same]
  obtain ⟨ga, _, na, va, ra, da⟩ := (show ObjOk X.prog X.w L s.heap a (.frz oa (.dK ka)) from I2.hok a _ La)
  obtain ⟨gb, _, nb, vb, rb, db⟩ := (show ObjOk X.prog X.w L s.heap b (.frz ob (.dK kb)) from I2.hok b _ Lb)
  obtain ⟨oa2, g2, da⟩ := Heap.dictOf_iff.mp da
  rw [ga] at g2
  cases g2
  obtain ⟨ob2, g2, db⟩ := Heap.dictOf_iff.mp db
  rw [gb] at g2
  cases g2
  have l1 : ka.length = va.length := ra.length
  have l2 : kb.length = vb.length := rb.length
  refine PySem.HXD.dictsJ (J := fun s' => ∃ G, Inv X pins σ G s' ∧ Same L G) (R := fun v y e => ∃ c d, v = .ref c ∧ y = .ref d ∧ EqAtO C sp E H a b c d e) na nb (fun s' ⟨G, J, sm⟩ => ⟨?_, ?_⟩) da db hr.units0 ?_ (fun e => (hits (by omega)).low rb ra) ?_ ⟨L, I2, Same.refl L⟩
  · exact (show ObjOk X.prog X.w G s'.heap a (.frz oa (.dK ka)) from J.hok a _ (sm _ _ La)).1
  · exact (show ObjOk X.prog X.w G s'.heap b (.frz ob (.dK kb)) from J.hok b _ (sm _ _ Lb)).1
  · rintro v y e ⟨c, d, rfl, rfl, h1, h2⟩ s' ⟨G, J, sm⟩
    by_cases cd : c = d
    · subst cd
      unfold eqBool
      refine wpAny_holding ?_
      refine wpAny_ite_split (fun _ => wpAny_bind (wpAny_rule (wpAny_pure ?_))) (fun hab => absurd (beq_self_eq_true _) hab)
      exact ⟨(h1 rfl).symm, G, J, sm⟩
    · obtain ⟨i1, i2, z⟩ := h2 G fun p o n1 n2 e => sm p o (by rw [← hL, upd_ne n2, upd_ne n1]; exact e)
      obtain ⟨dx, od, Ja, _⟩ := inst_at J i1
      obtain ⟨dy, od2, Jb, _⟩ := inst_at J i2
      refine GQ.eqBool_refG cd (PySem.HXC.cmE hr.in1.units0 J.kIn Ja Jb hs hf (wpAny_mono (run_at Fi bd hr.in1 J.env0.in1 hx J (show Vals [V.ref c, V.ref d] [Value.ref c, Value.ref d] from .cons rfl (.cons rfl .nil)) z) (fun u s2 h => ?_) fun _ _ z => z))
      obtain ⟨v, G2, J2, rv, rfl, sm2⟩ := h
      cases (show u = Value.bool e from rv)
      exact ⟨e, rfl, rfl, G2, J2, sm.trans sm2⟩
  · rintro s' ⟨G, J, sm⟩
    have Gb := sm _ _ Lb
    have J1 := J.unlock Gb (I1.nofrz (d := b) (u := .dK kb) (by rw [upd_ne (Ne.symm ab)]; exact eb) trivial)
    have J0 := J1.unlock (d := a) (od := oa) (u := .dK ka) (by rw [upd_ne ab]; exact sm _ _ La) (I.nofrz ea trivial)
    refine ⟨_, _, J0, ?_, q _ fun p o e => ?_⟩
    · show _ = _
      rw [l1, l2]
      congr 1
    · by_cases pa : p = a
      · rw [pa] at e ⊢
        rw [ea] at e
        cases e
        exact upd_same
      · rw [upd_ne pa]
        by_cases pb : p = b
        · rw [pb] at e ⊢
          rw [eb] at e
          cases e
          exact upd_same
        · rw [upd_ne pb]
          exact sm p o (by rw [← hL, upd_ne pb, upd_ne pa]; exact e)
end
end HX

set_option Elab.async false
set_option linter.all false
set_option maxRecDepth 100000
set_option maxHeartbeats 2000000
/-! ### tuple(d) of a dict -/
namespace PySem
namespace HXD
open W PySem.Spec PySem.Calls PyProof.Rows PyProof.V
section
variable {prog : Program} {w : World} {A : Around} {E : Value → Shared → Prop} {s : Shared} {r : Addr} {n : Nat} {P : Nat → Value → Prop} {OK : Heap → Prop}
theorem new_tupD {Q : Value → Shared → Prop} (S : KdlSrc prog w "dict" r r n P OK) (hh : A.handled = none) (ok : OK s.heap) (hn : n ≤ sizeLine)
    (h : ∀ (h' : Heap) (tk : Nat) (acc : Array Value), (∀ b o, s.heap.get? b = some o → h'.get? b = some o) → ItemsOf P acc n → Q (.ref h'.objs.size) { s with heap := h'.push { cls := .type "tuple", data := .seq acc }, toks := tk }) :
    wpAny (model prog w) A (call (.type "tuple") [.ref r]) Q E s := by
  refine callType_codes (Q₁ := fun obj s₁ => s₁.TypeIs obj "tuple" ∧ Q obj s₁) F.called_tuple (F.typeCall_tuple_1 _) F.entry_object_init (codeAny_of_tree ?_) fun obj s1 z => ⟨z.1, F.args_object_init_2 obj _, object_init_meets F.called_tuple.init.lookup F.called_tuple.made (by decide) prog w A.in1 _ s1 ⟨z.1, rfl, z.2⟩⟩
  show wpAny _ A.in1.in1 (do checkBuiltinCall "tuple.__new__" ⟨[.type "tuple", .ref r], []⟩; again (.builtin "tuple.__new__" ⟨[.type "tuple", .ref r], []⟩)) _ _ s
  refine wpAny_bind (wpAny_of_eq (F.newCall_tuple_1 _) (wpAny_pure ⟨plainId_quiet F.plain_tuple_new _, codeAny_builtin F.entry_tuple_new ?_⟩))
  rw [Around.under_plainId F.plain_tuple_new _]
  have f1 := sub_tuple_self
  have f2 := init_tuple_lookup
  have f3 := madeHere_tuple
  have ty := S.type s ok
  wp_walk using wpAny_typeOf ty, kdu_collect (A := A.in1.in1) S hh ok hn
  intro h' tk acc hk ia
  show wpAny _ _ (Builtin.Tuple.tupleExact acc.toList.toArray >>= fun v => ret v) _ _ _
  unfold Builtin.Tuple.tupleExact
  have ea : acc.toList.toArray = acc := by simp
  refine wpAny_bind (wpAny_newObj_type ?_ (by show acc.toList.toArray.size ≤ sizeLine; rw [ea, ia.1]; exact hn))
  rw [ea]
  exact wpAny_pure ⟨⟨_, Heap.get?_push_size _ rfl, rfl⟩, h h' tk acc hk ia⟩
end
end HXD
end PySem
namespace HX
open PySem PySem.Spec PyProof.Rows L2
section
variable {X : Cx} {C f : Addr} {fd : FuncData} {ps : List Str} {sp : Sp} {CY : CXT} {k : Nat} {E : XK}
def rTupD : List V → Hp → VK → Prop := fun xs H Q => ∃ p kvs, xs = [.ref p] ∧ H p = some (.dK kvs) ∧ ∀ q, H q = none → Q (.ref q) (upd H q (.tup (kvs.map fun kv => kV kv.1)))
theorem call_tuple_dK (hc : X.calm = true) : CallR X (.type "tuple") rTupD := by
  intro pins s σ H xs us Q I r h
  obtain ⟨p, kvs, rfl, hp, q⟩ := h
  obtain ⟨u, rfl, rx⟩ := vals1 r
  obtain rfl : u = Value.ref p := rx
  obtain ⟨z, lo, vs, rk, hd⟩ := (show ObjOk X.prog X.w H s.heap p (.dK kvs) from I.hok p _ hp)
  obtain ⟨ep, dat⟩ := hd.dictAt
  have hl : kvs.length = vs.length := Paired.length rk
  refine PySem.HXD.new_tupD (PySem.W.kdl_dict (knd := mixKind X.prog X.w) (kvs := vs) (ep := ep) lo) (I.ok.hd hc) dat (by omega) fun h' tk acc hk ia => ?_
  have n1 : acc.size = vs.length := ia.1
  have I1 : L2.Inv X pins σ H { s with heap := h' } := I.kept (t' := s.toks) hk
  refine ⟨.ref h'.objs.size, upd H h'.objs.size (.tup (kvs.map fun kv => kV kv.1)), I1.laid (t' := tk) (fun b o e => Heap.get?_push_of_some _ e) (Nat.le_refl _) (show ObjOk X.prog X.w _ _ _ (.tup (kvs.map fun kv => kV kv.1)) from ⟨by rw [List.length_map]; exact z, acc.toList, vals_of_at (by rw [List.length_map]; exact hl.trans (n1.symm.trans Array.length_toList.symm)) fun j x w h1 h2 => ?_, ?_⟩), rfl, q _ (I1.hok.fresh (Nat.le_refl _))⟩
  · obtain ⟨ky, y, hky, hi⟩ := ia.2 j w (by rw [← Array.getElem?_toList]; exact h2)
    have e1 : (kvs.map (·.1))[j]? = some ky := by rw [KV.keys rk, List.getElem?_map, hky]; rfl
    have e2 : (kvs.map fun kv => kV kv.1) = (kvs.map (·.1)).map kV := by rw [List.map_map]; rfl
    rw [e2, List.getElem?_map, e1] at h1
    cases h1
    exact keyIs_rel hi
  · have e3 : acc.toList.toArray = acc := by simp
    rw [e3]
    exact IsTup.new _ _
/-- {x} of an own instance with an own __str__ -/
def tFmtO (C : Addr) (sp : Sp) (E : XK) (te : TE) : TE := fun σ H Q => te σ H fun x G => ∃ a, x = .ref a ∧ IsI C G a ∧ sp [.ref a] G (fun v G2 => ∃ z, v = .str z ∧ Q v G2) E
theorem pe_fmtO {e : Expr} {te : TE} {pos : Pos} (hfm : PySem.W.findIn X.K (.ref C) "__format__" = some (some (.builtin "object.__format__"))) (hm : PySem.W.mroIn X.K C (.type "object") = some true) (hs : PySem.W.findIn X.K (.ref C) "__str__" = some (some (.ref f))) (hf : PySem.W.isFn X.K (.ref f) = true)
    (Fi : FnOk X.prog X.w X.K X.mg X.base CY k f fd ps sp) (b : Binds X.K fd ps []) (hr : Room (k + 1) X.A) (hx : Passes CY X E) (he : PE X e te) : PE X (.FormattedValue e (-1) none pos) (tFmtO C sp E te) := by
  refine ⟨fun pins s σ H Q I h => wpAny_FormattedValue_plain (thn (he.run pins s σ H _ I h) fun v s1 ⟨x, G, I1, r1, a, ex, i1, z⟩ => ?_)⟩
  subst ex
  cases r1
  obtain ⟨dx, od, J, ho⟩ := inst_at I1 i1
  refine PySem.W.kfo_fieldS hr.in1.units0 I1.kIn J hfm hm hs hf (wpAny_mono (run_at Fi b hr.in1 (I1.tok _).env0.in1 hx (I1.tok _) (show Vals [V.ref a] [Value.ref a] from .cons rfl .nil) z) (fun u s2 h => ?_) fun _ _ z => z)
  obtain ⟨v, G2, J2, rv, y, rfl, qz⟩ := h
  obtain ⟨t, rfl⟩ := (show ∃ t, u = Value.str y t from rv)
  exact ⟨.str y, G2, J2, ⟨t, rfl⟩, qz⟩
end
end HX

set_option Elab.async false
set_option linter.all false
set_option maxRecDepth 100000
set_option maxHeartbeats 4000000
namespace LW
open PySem PySem.Spec PyProof.Rows L2 HX NumText
section
variable {P : Program} {w : World} {K : PySem.W.Frag} {mg : Str → Option Value} {base : Heap}

structure GpC (K : PySem.W.Frag) (mg : Str → Option Value) (C : Addr) : Prop where
  g : mg "Gaps" = some (.ref C)
  cls : Cls K C
  nTo : NoAttr K C "_told"
  ha : PySem.W.findIn K (.ref C) "__class__" = some (some (.builtin "object.__class__"))
  hn : PySem.W.specialIn K (.builtin "object.__class__") "__get__" = some (some (.builtin "getset_descriptor.__get__"))
  ht : PySem.W.takesIn K (.builtin "object.__class__") = some true
  hm : PySem.W.mroIn K C (.type "object") = some true
theorem GpC.ty {C a dx : Addr} {H : Hp} {fs : List (Str × V)} (U : GpC K mg C) (e : H a = some (.ins C dx fs)) : TyOf K H (.ref a) (.ref C) := .ins e U.cls U.ha U.hn U.ht U.hm
/-- texts one behind the other, as one reading -/
def tJd (ts : List TE) : TE := fun σ H Q => tJs ts Str.empty σ H fun out H1 => Q (.str out) H1
theorem pe_joinedD {X : Cx} {v1 v2 : Expr} {rest : List Expr} {ts : List TE} {pos : Pos} (h : PJ X (v1 :: v2 :: rest) ts) : PE X (.JoinedStr (v1 :: v2 :: rest) pos) (tJd ts) := pe_joined h

/-- gaps at x: rs are what they tell -/
def GpO (A C : Addr) (H : Hp) (x : Addr) (rs : List (List Nat × Int × Int)) : Prop := ∃ (D : Addr) (gvs : List (Key × V)), GpsAt C H x D gvs ∧ KRs (AmV A H) gvs rs
theorem AmV.mo {A : Addr} {H G : Hp} {v : V} {t b : Int} (s : Same H G) : AmV A H v t b → AmV A G v t b := fun ⟨a, e, am⟩ => ⟨a, e, am.mo s⟩
theorem GpO.mo {A C x : Addr} {H G : Hp} {rs : List (List Nat × Int × Int)} (s : Same H G) : GpO A C H x rs → GpO A C G x rs := fun ⟨D, gvs, a, b⟩ => ⟨D, gvs, a.mo s, b.mo fun _ _ _ z => z.mo s⟩
theorem GpO.isI {A C x : Addr} {H : Hp} {rs : List (List Nat × Int × Int)} : GpO A C H x rs → IsI C H x := fun ⟨D, gvs, ⟨⟨dx, a⟩, _⟩, b⟩ => ⟨dx, _, a⟩
/-- of what gaps tell -/
structure GsOk (rs : List (List Nat × Int × Int)) : Prop where
  nd : (rs.map (·.1)).Nodup
  l64 : rs.length < 64
  srt : sortedS (rs.map fun p => ofL p.1) = true
  all : ∀ p ∈ rs, Nm p.1 ∧ Low p.2.1 p.2.2 ∧ Sm 1300 p.2.1 ∧ Sm 1300 p.2.2 ∧ p.2.1 ≠ 0
theorem atx_len {t b : Int} (h1 : Sm 1300 t) (h2 : Sm 1300 b) : (atx t b).length ≤ 2700 := by
  have l1 := intT_len h1 (by decide)
  have l2 := intT_len h2 (by decide)
  have e : (amText t b).length = (atx t b).length := by rw [amText_at, ofL_len]
  have e1 : (Str.ofString "/").length = 1 := rfl
  rw [← e]
  unfold amText
  split
  · omega
  · rw [Str.length_append, Str.length_append, Str.length_append]
    have e0 : Str.empty.length = 0 := rfl
    omega
def spGStr (A C : Addr) : Sp := fun vs H Q _ => ∃ (x : Addr) (rs : List (List Nat × Int × Int)), vs = [.ref x] ∧ GpO A C H x rs ∧ GsOk rs ∧ ∀ G, Same H G → Q (.str (gtx rs)) G
theorem ok_gstr {A fI pO gO pN gN f C : Addr} {mc : Value} {fd : FuncData} (F : Fun K "__str__" "Gaps.__str__" s_Gaps_str f fd) (T : Txt K mg) (T2 : Txt2 mg) (U : AmC K mg A fI pO gO pN gN mc) (Cc : Cls K C) (nTo : NoAttr K C "_told") (hfm : PySem.W.findIn K (.ref A) "__format__" = some (some (.builtin "object.__format__"))) (hmr : PySem.W.mroIn K A (.type "object") = some true) (cSt : UnC P w K mg base A "__str__" (spStr A)) : FnOk P w K mg base CX0 7 f fd ["self"] (spGStr A C) := by
  obtain ⟨fSt, fdSt, hSt, iSt, FSt, bSt⟩ := cSt
  refine F.ok sc_Gaps_str (fun vs H Q E h => ?_) (fun cdv A' outer s H vs Q E hr h => ?_)
  · obtain ⟨x, rs, rfl, _⟩ := h
    rfl
  · obtain ⟨x, rs, rfl, ⟨D, gvs, ⟨⟨dx, hx⟩, hD⟩, kr⟩, ok, k⟩ := h
    refine ⟨_, (pss_cons (s_if (pt_not (pt_truth (pe_fld (pc 0) (by rfl)) (by intro _; rfl))) (pss_one (ps_ret pe_str)) pss_nil) (pss_one (ps_ret (pe_join pe_str (pe_lock (pe_lc (own := [("account", 1), ("gap", 2)]) (g := gTup K 2 (gCons (gName 1) (gCons (gName 2) gNil))) (tt := tYes) rfl sc_Gaps_str.nd (pi_items (pe_fld (pc 0) (by rfl))) (blkOk_by (own := [("account", 1), ("gap", 2)]) (N := n_Gaps_str) (sc := defScope s_Gaps_str) (by decide +kernel)) (fun _ _ _ _ _ => (by exact pg_tup rfl (pgs_cons (pg_name (i := 1) sc_Gaps_str.nd rfl (Or.inl rfl)) (pgs_cons (pg_name (i := 2) sc_Gaps_str.nd rfl (Or.inl rfl)) pgs_nil)))) (fun _ _ _ _ _ => pts_nil) (fun _ _ _ _ _ => (pe_joinedD (PJ.cons (pe_fmt (pc 1)) (PJ.cons pe_str (PJ.cons (pe_fmtO hfm hmr hSt iSt FSt bSt (hr.mono (by decide)) pass0 (pc 2)) PJ.nil))))))))))), ?_⟩
    have kl := kr.len
    refine ⟨x, C, dx, _, _, rfl, hx, Cc, nTo, rfl, !gvs.isEmpty, .inr (.inr ⟨gvs, hD, rfl⟩), ⟨fun h => ?_, fun h => ?_⟩⟩
    · have e : rs = [] := List.length_eq_zero_iff.mp (by rw [← kl]; cases gvs with | nil => rfl | cons _ _ => cases h)
      subst e
      exact k H (Same.refl H)
    have ne : rs ≠ [] := fun z => by
      rw [z] at kl
      rw [List.length_eq_zero_iff.mp kl] at h
      cases h
    have Dx : D ≠ x := fun z => by rw [z, hx] at hD; cases hD
    refine ⟨⟨_, rfl⟩, D, .dK gvs, hD, trivial, fun od => ⟨x, C, dx, _, _, rfl, by rw [upd_ne (Ne.symm Dx)]; exact hx, Cc, nTo, rfl, D, od, gvs, rfl, upd_same, fun L nL => lc_it walk_items
      (fun i G => Same (upd H D (.frz od (.dK gvs))) G ∧ G L = some (.lst ((rs.take i).map fun q => .str (gwd q)))) ⟨Same.new (Same.refl _) nL, upd_same⟩ (fun i G _ z => z.1 _ _ upd_same) ?_ ?_⟩⟩
    · rintro i y G G1 hi ⟨s1, gL⟩ ⟨T_, a, b, rfl, nT, rfl, e1, e2⟩
      have eg : gvs[i]? = some gvs[i] := List.getElem?_eq_getElem hi
      have e1 : gvs[i]?.map (fun kv => kV kv.1) = some a := e1
      have e2 : gvs[i]?.map Prod.snd = some b := e2
      rw [eg] at e1 e2
      generalize gvs[i] = g at eg e1 e2
      obtain ⟨ky, v⟩ := g
      cases e1
      cases e2
      obtain ⟨n, t, b, er, rfl, av⟩ := kr.at_ i ky v eg
      have rm : (n, t, b) ∈ rs := List.mem_of_getElem? er
      obtain ⟨nm, lo, S1, S2, _⟩ := ok.all _ rm
      obtain ⟨r, rfl, dy, ea⟩ := AmV.upd (o := .frz od (.dK gvs)) (Same.refl H) hD av
      have s3 := Same.new (o := .tup [kV (.inr (ofL n)), .ref r]) (Same.refl G) nT
      have am : Am A (upd G T_ (.tup [kV (.inr (ofL n)), .ref r])) r t b := ⟨dy, s3 _ _ (s1 _ _ ea)⟩
      have la : (atx t b).length ≤ 2700 := atx_len S1 S2
      have ln : (ofL n).length ≤ 8 := by rw [ofL_len]; exact nm.2.1
      have e0 : Str.empty ++ ofL n = ofL n := by
        show Str.mk (#[] ++ _) = _
        simp
      have hg : Str.empty ++ ofL n ++ Str.ofString " " ++ ofL (atx t b) = gwd (n, t, b) := by rw [e0]; rfl
      refine ⟨T_, _, rfl, SqT.of upd_same, rfl, _, _, rfl, _, _, rfl, rfl, rfl, .inl ⟨ofL n, rfl, by rw [sizeLine_eq]; omega, ofL n, rfl, by rw [e0, sizeLine_eq]; omega, Str.ofString " ", rfl, ?_, r, rfl, am.isI, r, t, b, rfl, am, S1.mono (by decide), S2.mono (by decide), _, rfl, _, rfl, ?_, ?_⟩⟩
      · rw [e0, Str.length_append, sizeLine_eq]
        show (ofL n).length + 1 ≤ _
        omega
      · rw [e0, Str.length_append, Str.length_append, ofL_len (atx t b), sizeLine_eq]
        show (ofL n).length + 1 + _ ≤ _
        omega
      · refine ⟨_, s3 _ _ gL, by rw [List.length_map, List.length_take, sizeLine_eq]; have := ok.l64; omega, Same.mut (s1.trans s3) nL, ?_⟩
        rw [upd_same, List.take_add_one, er, List.map_append, hg]
        rfl
    · rintro G ⟨s1, gL⟩
      rw [kl, List.take_length] at gL
      have DL : D ≠ L := fun z => by rw [← z, upd_same] at nL; cases nL
      have gD := s1 _ _ upd_same
      have s2 : Same H (upd G D (.dK gvs)) := fun b o z => by
        by_cases bp : b = D
        · rw [bp] at z ⊢
          rw [hD] at z
          cases z
          exact upd_same
        · rw [upd_ne bp]
          exact s1 _ _ (by rw [upd_ne bp]; exact z)
      have sm : ∀ zs : List (List Nat × Int × Int), (∀ z ∈ zs, z ∈ rs) → ((zs.map gwd).map (·.length)).sum ≤ zs.length * 2709 := fun zs => by
        induction zs with
        | nil => exact fun _ => Nat.le_refl _
        | cons z r ih =>
          intro hz
          have i1 := ih fun y hy => hz y (List.mem_cons_of_mem _ hy)
          obtain ⟨y1, _, y3, y4, _⟩ := ok.all z (hz z (List.mem_cons_self ..))
          have la := atx_len y3 y4
          have ln : (ofL z.1).length ≤ 8 := by rw [ofL_len]; exact y1.2.1
          have lz : (gwd z).length ≤ 2709 := by
            unfold gwd
            rw [Str.length_append, Str.length_append, ofL_len (atx _ _)]
            show (ofL z.1).length + 1 + _ ≤ _
            omega
          rw [List.map_cons, List.map_cons, List.sum_cons, List.length_cons]
          omega
      have sb := sm rs fun z hz => hz
      refine ⟨gD, _, L, rs.map gwd, rfl, rfl, .inl (SqL.of (by rw [upd_ne (Ne.symm DL), List.map_map]; exact gL)), ?_, ?_⟩
      · rw [List.length_map]
        have := ok.l64
        show _ + rs.length * 1 ≤ _
        omega
      · have := k _ s2
        unfold gtx at this
        rw [if_neg ne] at this
        exact this

def spGAcc (A C : Addr) : Sp := fun vs H Q _ => ∃ (x : Addr) (rs : List (List Nat × Int × Int)), vs = [.ref x] ∧ GpO A C H x rs ∧ ∀ q, H q = none → Q (.ref q) (upd H q (.tup (rs.map fun p => .str (ofL p.1))))
theorem ok_gacc {A f C : Addr} {fd : FuncData} (F : Fun K "accounts" "Gaps.accounts" s_Gaps_accounts f fd) (htu : mg "tuple" = none) (Cc : Cls K C) (nTo : NoAttr K C "_told") : FnOk P w K mg base CX0 1 f fd ["self"] (spGAcc A C) := by
  refine F.ok sc_Gaps_accounts (fun vs H Q E h => ?_) (fun cdv A' outer s H vs Q E hr h => ?_)
  · obtain ⟨x, rs, rfl, _⟩ := h
    rfl
  · obtain ⟨x, rs, rfl, ⟨D, gvs, ⟨⟨dx, hx⟩, hD⟩, kr⟩, k⟩ := h
    refine ⟨_, (pss_one (ps_ret (pe_callTy (call_tuple_dK rfl) (by rfl) htu (by decide +kernel) (pa_cons (pe_fld (pc 0) (by rfl)) pa_nil)))), ?_⟩
    refine ⟨x, C, dx, _, _, rfl, hx, Cc, nTo, rfl, D, gvs, rfl, hD, fun q nq => ?_⟩
    have e : (gvs.map fun kv => kV kv.1) = rs.map fun p => .str (ofL p.1) := by
      have := congrArg (List.map kV) kr.keys
      simpa [List.map_map, Function.comp_def, kV] using this
    rw [e]
    exact k q nq

theorem KRs.hits {A : Addr} {H : Hp} {a b : Addr} {kb : List (Key × V)} {ss : List (List Nat × Int × Int)} (kb_ : KRs (AmV A H) kb ss) (nd : (ss.map (·.1)).Nodup) (hl : ∀ p ∈ ss, Low p.2.1 p.2.2 ∧ Sm 1300 p.2.1 ∧ Sm 1300 p.2.2) (ha : ∃ ka, H a = some (.dK ka)) (hb : H b = some (.dK kb)) :
    ∀ {ka : List (Key × V)} {rs : List (List Nat × Int × Int)}, KRs (AmV A H) ka rs → (∀ p ∈ rs, Low p.2.1 p.2.2 ∧ Sm 1300 p.2.1 ∧ Sm 1300 p.2.2) → DHits (EqAtO A (spCmp A gEq) (fun _ _ _ => False) H a b) kb ka (rs.all fun p => decide (p ∈ ss))
  | _, _, .nil, _ => .nil
  | _, _, .cons (v := v) (k := n) (t := t) (b := c) (kvs := kvs) (ps := ps) ⟨r, er, am⟩ rest, hr => by
    have ih := KRs.hits kb_ nd hl ha hb rest fun p hp => hr p (List.mem_cons_of_mem _ hp)
    subst er
    rw [List.all_cons]
    cases z : valV kb (.inr (ofL n)) with
    | none =>
      have no : decide ((n, t, c) ∈ ss) = false := decide_eq_false fun y => by
        obtain ⟨v, e, _⟩ := kb_.get nd y
        rw [z] at e
        cases e
      rw [no, Bool.false_and]
      exact .miss z
    | some v =>
      obtain ⟨n2, t2, c2, mm, e2, av⟩ : ∃ n2 t2 c2, (n2, t2, c2) ∈ ss ∧ n2 = n ∧ AmV A H v t2 c2 := by
        have : ∀ {kb : List (Key × V)} {ss : List (List Nat × Int × Int)}, KRs (AmV A H) kb ss → valV kb (.inr (ofL n)) = some v → ∃ n2 t2 c2, (n2, t2, c2) ∈ ss ∧ n2 = n ∧ AmV A H v t2 c2 := fun {kb ss} h => by
          induction h with
          | nil => intro e; cases e
          | @cons u k t b kvs ps e r ih =>
            intro z
            by_cases kn : k = n
            · rw [valV_pos (p := ((Sum.inr (ofL k) : Key), u)) (by rw [kn])] at z
              cases z
              exact ⟨k, t, b, List.mem_cons_self .., kn, e⟩
            · rw [valV_neg (by intro y; exact kn (ofL_inj (Sum.inr.inj y)))] at z
              obtain ⟨n2, t2, c2, x1, x2, x3⟩ := ih z
              exact ⟨n2, t2, c2, List.mem_cons_of_mem _ x1, x2, x3⟩
        exact this kb_ z
      subst e2
      obtain ⟨d, rfl, am2⟩ := av
      have q : decide ((n2, t, c) ∈ ss) = gEq t c t2 c2 := by
        unfold gEq
        rw [← Bool.decide_and]
        refine decide_eq_decide.mpr ⟨fun y => ?_, fun ⟨y1, y2⟩ => by rw [y1, y2]; exact mm⟩
        obtain ⟨v, e, d2, rfl, dx, ed⟩ := kb_.get nd y
        rw [z] at e
        cases e
        obtain ⟨dy, ed2⟩ := am2
        rw [ed2] at ed
        injection ed with ed
        injection ed with _ _ ed
        have e1 := (List.cons.inj ed)
        unfold afs at ed
        simp at ed
        exact ⟨ed.1.symm, ed.2.symm⟩
      rw [q]
      obtain ⟨h1, h2, h3⟩ := hr _ (List.mem_cons_self ..)
      obtain ⟨h4, h5, h6⟩ := hl _ mm
      refine .hit z ⟨fun y => ?_, fun G kp => ?_⟩ ih
      · subst y
        obtain ⟨dx, e1⟩ := am
        obtain ⟨dy, e2⟩ := am2
        rw [e1] at e2
        injection e2 with e2
        injection e2 with _ _ e2
        unfold afs at e2
        simp at e2
        unfold gEq
        simp [e2]
      · have kp2 : ∀ x t b, Am A H x t b → Am A G x t b := fun x t b ⟨dx, e⟩ => ⟨dx, kp _ _ (fun y => by obtain ⟨ka, ea⟩ := ha; rw [y, ea] at e; cases e) (fun y => by rw [y, hb] at e; cases e) e⟩
        exact ⟨(kp2 _ _ _ am).isI, (kp2 _ _ _ am2).isI, r, _, t, c, t2, c2, rfl, kp2 _ _ _ am, .inl ⟨d, rfl, kp2 _ _ _ am2⟩, h1, h4, h2.mono (by decide), h3.mono (by decide), h5.mono (by decide), h6.mono (by decide), fun G2 s2 => ⟨rfl, s2⟩⟩
theorem GsOk.low {rs : List (List Nat × Int × Int)} (h : GsOk rs) : ∀ p ∈ rs, Low p.2.1 p.2.2 ∧ Sm 1300 p.2.1 ∧ Sm 1300 p.2.2 := fun p hp => ⟨(h.all p hp).2.1, (h.all p hp).2.2.1, (h.all p hp).2.2.2.1⟩
def spGEq (A C : Addr) : Sp := fun vs H Q _ => ∃ (x y : Addr) (rs ss : List (List Nat × Int × Int)) (D E : Addr) (ka kb : List (Key × V)), vs = [.ref x, .ref y] ∧ D ≠ E ∧ GpsAt C H x D ka ∧ KRs (AmV A H) ka rs ∧ GpsAt C H y E kb ∧ KRs (AmV A H) kb ss ∧ GsOk rs ∧ GsOk ss ∧ ∀ G, Same H G → Q (.bl (decide (rs.length = ss.length) && rs.all fun p => decide (p ∈ ss))) G
theorem ok_geq {A C f : Addr} {mc : Value} {fd : FuncData} (F : Fun K "__eq__" "Gaps.__eq__" s_Gaps_eq f fd) (T : Txt K mg) (T2 : Txt2 mg) (UG : GpC K mg C) {fEq : Addr} {fdEq : FuncData} (hEq : PySem.W.findIn K (.ref A) "__eq__" = some (some (.ref fEq))) (iEq : PySem.W.isFn K (.ref fEq) = true) (FEq : FnOk P w K mg base CX0 7 fEq fdEq ["self", "other"] (spCmp A gEq)) (bEq : Binds K fdEq ["self", "other"] []) : FnOk P w K mg base CX0 9 f fd ["self", "other"] (spGEq A C) := by
  refine F.ok sc_Gaps_eq (fun vs H Q E h => ?_) (fun cdv A' outer s H vs Q E hr h => ?_)
  · obtain ⟨x, y, rs, ss, D, E', ka, kb, rfl, _⟩ := h
    rfl
  · obtain ⟨x, y, rs, ss, D, E', ka, kb, rfl, DE, ⟨⟨dx, hx⟩, hD⟩, kr, ⟨⟨dy, hy⟩, hE⟩, ks, o1, o2, k⟩ := h
    refine ⟨_, (pss_one (ps_ret (e_and (pe_callB c_isi (by rfl) T.b_isinstance (by decide +kernel) (pa_cons (pc 1) (pa_cons (p_gc UG.g) pa_nil))) (pe_one (p_cmp (op_eqDO hEq iEq FEq bEq (hr.mono (by decide)) pass0) (pe_fld (pc 0) rfl) (pe_fld (pc 1) rfl)))))), ?_⟩
    refine ⟨_, _, _, _, true, rfl, UG.ty hy, (fun u r => r), kit_self K C, ⟨fun _ => ⟨x, C, dx, _, _, rfl, hx, UG.cls, UG.nTo, rfl, y, C, dy, _, _, rfl, hy, UG.cls, UG.nTo, rfl, D, E', ka, kb, _, rfl, rfl, DE, hD, hE, fun _ => KRs.hits ks o2.nd o2.low ⟨_, hD⟩ hE kr o1.low, fun G s1 => ?_⟩, fun h => absurd h (by decide)⟩⟩
    have := k G s1
    rwa [← kr.len, ← ks.len] at this

end
end LW
set_option Elab.async false
set_option linter.all false
set_option maxRecDepth 100000
set_option maxHeartbeats 2000000
namespace HX
open PySem PySem.Spec PyProof.Rows L2
/-! ### a class that a local name holds, made of nothing -/
theorem pe_makeL0 {X : Cx} {CY : CXT} {C f : Addr} {k i : Nat} {fd : FuncData} {ps : List Str} {sp : Sp} {ds : List Value} {dvs : List V} {E : XK} {x : Str} {p pos : Pos} (M : Mk X.K C f) (F : FnOk X.prog X.w X.K X.mg X.base CY k f fd ps sp) (hr : Room (k + 1) X.A) (hb : Binds X.K fd ps ds) (hd : Vals dvs ds) (hx : Passes CY X E)
    (hN : X.N[i]? = some x := by rfl) (hv : Vis X.env.scope x := by first | exact Or.inl rfl | exact Or.inr (Or.inl rfl) | exact Or.inr (Or.inr rfl)) (hdb : (x == ("__debug__" : Str)) = false := by decide) (hcd : (x == ("__classdict__" : Str)) = false := by decide) :
    PE X (.Call (.Name x p) [] [] pos) (tMakeL i C sp dvs E tNil) := by
  refine ⟨fun pins s σ H Q I h => wpAny_Call_Name_kw (thn ((pe_var hN hv hdb hcd).run pins s σ H (fun v G => v = .ref C ∧ G = H) I ⟨_, h.1, rfl, rfl⟩) fun u s0 ⟨v, G, I0, rv, ev, eG⟩ => ?_)⟩
  subst ev
  subst eG
  obtain rfl : u = Value.ref C := rv
  exact PySem.W.callWith_K0 I0.kIn M.kp (run_make (us := []) M F hr hb hd hx I0 .nil h.2)
/-! ### names in order -/
theorem risingS_pw {α : Type} (f : α → List Nat) : ∀ (rs : List α) (p : List Nat), risingS (ofL p) (rs.map fun r => ofL (f r)) = true → (p :: rs.map f).Pairwise (fun a b => ¬ b < a)
  | [], p, _ => List.pairwise_singleton ..
  | r :: rs, p, h => by
    have h : (!ltCps (ofL (f r)).cps.toList (ofL p).cps.toList && risingS (ofL (f r)) (rs.map fun r => ofL (f r))) = true := h
    rw [Bool.and_eq_true, ltCps_eq, ofL_cps, ofL_cps] at h
    have h1 : ¬ f r < p := by simpa using h.1
    have ih := risingS_pw f rs (f r) h.2
    rw [List.map_cons]
    refine List.pairwise_cons.mpr ⟨fun q hq => ?_, ih⟩
    rcases List.mem_cons.mp hq with e | hq
    · rw [e]
      exact h1
    · have h2 := (List.pairwise_cons.mp ih).1 q hq
      exact fun z => h1 (List.lt_of_le_of_lt (List.not_lt.mp h2) z)
theorem sortedS_pw {α : Type} (f : α → List Nat) (rs : List α) (h : sortedS (rs.map fun r => ofL (f r)) = true) : (rs.map f).Pairwise (fun a b => ¬ b < a) := by
  cases rs with
  | nil => exact .nil
  | cons r rs => exact risingS_pw f rs (f r) h
/-- one order alone: two lists with the same pairs, both in the order of their names -/
theorem sorted_one {α : Type} (f : α → List Nat) {rs ps : List α} (pm : rs.Perm ps) (h : sortedS (rs.map fun r => ofL (f r)) = true) (h2 : sortedS (ps.map fun r => ofL (f r)) = true) (nd : (ps.map f).Nodup) : rs = ps := by
  refine List.Perm.eq_of_pairwise (le := fun a b => ¬ f b < f a) (fun a b ha hb h1 h2 => ?_) (List.pairwise_map.mp (sortedS_pw f rs h)) (List.pairwise_map.mp (sortedS_pw f ps h2)) pm
  have e : f a = f b := List.le_antisymm (List.not_lt.mp h1) (List.not_lt.mp h2)
  have hb2 : a ∈ ps := pm.mem_iff.mp ha
  have : ∀ (l : List α), (l.map f).Nodup → a ∈ l → b ∈ l → a = b := fun l => by
    induction l with
    | nil => exact fun _ z => nomatch z
    | cons c l ih =>
      intro n x y
      rw [List.map_cons, List.nodup_cons] at n
      rcases List.mem_cons.mp x with x | x
      · rcases List.mem_cons.mp y with y | y
        · rw [x, y]
        · exact absurd (List.mem_map.mpr ⟨b, y, by rw [← e, x]⟩) n.1
      · rcases List.mem_cons.mp y with y | y
        · exact absurd (List.mem_map.mpr ⟨a, x, by rw [e, y]⟩) n.1
        · exact ih n.2 x y
  exact this ps nd hb2 hb
/-- ascending names are in order -/
theorem asc_sorted {α : Type} (f : α → List Nat) : ∀ (rs : List α), (rs.map f).Pairwise (· < ·) → sortedS (rs.map fun r => ofL (f r)) = true
  | [], _ => rfl
  | r :: rs, h => by
    have go : ∀ (rs : List α) (p : List Nat), (p :: rs.map f).Pairwise (· < ·) → risingS (ofL p) (rs.map fun r => ofL (f r)) = true := fun rs => by
      induction rs with
      | nil => exact fun _ _ => rfl
      | cons r rs ih =>
        intro p h
        rw [List.map_cons] at h
        obtain ⟨h1, h2⟩ := List.pairwise_cons.mp h
        show (!ltCps (ofL (f r)).cps.toList (ofL p).cps.toList && risingS (ofL (f r)) (rs.map fun r => ofL (f r))) = true
        rw [ltCps_eq, ofL_cps, ofL_cps, ih _ h2, Bool.and_true]
        have h3 := h1 (f r) (List.mem_cons_self ..)
        have : ¬ f r < p := List.not_lt.mpr (List.le_of_lt h3)
        simpa using this
    exact go rs (f r) h
theorem asc_nodup {l : List (List Nat)} (h : l.Pairwise (· < ·)) : l.Nodup := h.imp fun h e => by
  rw [e] at h
  exact List.lt_irrefl _ h
end HX

set_option Elab.async false
set_option linter.all false
set_option maxRecDepth 100000
set_option maxHeartbeats 4000000
namespace LW
open PySem PySem.Spec PyProof.Rows L2 HX NumText
section
variable {P : Program} {w : World} {K : PySem.W.Frag} {mg : Str → Option Value} {base : Heap}

theorem krs_all {R : V → Int → Int → Prop} {S : Int → Int → Prop} (rs : ∀ v t b, R v t b → S t b) : ∀ {kvs ps}, KRs R kvs ps → ∀ p ∈ ps, S p.2.1 p.2.2
  | _, _, .nil => fun _ z => nomatch z
  | _, _, .cons e r => fun p hp => by
    rcases List.mem_cons.mp hp with z | z
    · rw [z]
      exact rs _ _ _ e
    · exact krs_all rs r p z
theorem pw_sortedS {α : Type} (f : α → List Nat) : ∀ (rs : List α), (rs.map f).Pairwise (fun a b => ¬ b < a) → sortedS (rs.map fun r => ofL (f r)) = true
  | [], _ => rfl
  | r :: rs, h => by
    have go : ∀ (rs : List α) (p : List Nat), (p :: rs.map f).Pairwise (fun a b => ¬ b < a) → risingS (ofL p) (rs.map fun r => ofL (f r)) = true := fun rs => by
      induction rs with
      | nil => exact fun _ _ => rfl
      | cons r rs ih =>
        intro p h
        rw [List.map_cons] at h
        obtain ⟨h1, h2⟩ := List.pairwise_cons.mp h
        show (!ltCps (ofL (f r)).cps.toList (ofL p).cps.toList && risingS (ofL (f r)) (rs.map fun r => ofL (f r))) = true
        rw [ltCps_eq, ofL_cps, ofL_cps, ih _ h2, Bool.and_true]
        have : ¬ f r < p := h1 (f r) (List.mem_cons_self ..)
        simpa using this
    exact go rs (f r) h
theorem gs_of {ps rs : List (List Nat × Int × Int)} (wd : GwOk ps) (lo : ∀ p ∈ ps, Low p.2.1 p.2.2 ∧ Sm 1300 p.2.1 ∧ Sm 1300 p.2.2) (pm : rs.Perm ps) (srt : sortedS (rs.map fun p => ofL p.1) = true) : GsOk (rs.filter nz) := by
  obtain ⟨nd, l64, nm⟩ := wd
  have sl : (rs.filter nz).Sublist rs := List.filter_sublist
  have rnd : (rs.map (·.1)).Nodup := (pm.map _).nodup_iff.mpr nd
  have le := List.length_filter_le nz rs
  have ple := pm.length_eq
  refine ⟨List.Nodup.sublist (sl.map _) rnd, by omega, pw_sortedS (fun p : List Nat × Int × Int => p.1) _ ((sortedS_pw (fun p : List Nat × Int × Int => p.1) rs srt).sublist (sl.map _)), fun p hp => ?_⟩
  have hm := List.mem_filter.mp hp
  have hm2 := pm.mem_iff.mp hm.1
  obtain ⟨h1, h2, h3⟩ := lo p hm2
  exact ⟨nm p hm2, h1, h2, h3, of_decide_eq_true hm.2⟩
/-- new gaps are the answer -/
def GNew (A C : Addr) (H : Hp) (Q : VK) (rs : List (List Nat × Int × Int)) : Prop := ∀ (G : Hp) (x D : Addr) (gvs : List (Key × V)), H x = none → H D = none → Same H G → GpsAt C G x D gvs → KRs (AmV A G) gvs rs → GsOk rs → Q (.ref x) G
theorem GNew.mo {A C : Addr} {H G : Hp} {Q : VK} {rs : List (List Nat × Int × Int)} (s : Same H G) (h : GNew A C H Q rs) : GNew A C G Q rs := fun J x D gvs n1 n2 s2 g k o => h J x D gvs (s.free n1) (s.free n2) (s.trans s2) g k o
theorem mkG {A C : Addr} {H : Hp} {Q : VK} {E : XK} {v : V} {ps : List (List Nat × Int × Int)} (hv : (v = .non ∧ ps = []) ∨ ∃ (P_ : Addr) (kvs : List (Key × V)), v = .ref P_ ∧ H P_ = some (.dK kvs) ∧ KRs (NuV A H) kvs ps ∧ GwOk ps)
    (k : ∀ rs : List (List Nat × Int × Int), rs.Perm ps → sortedS (rs.map fun p => ofL p.1) = true → GsOk (rs.filter nz) → GNew A C H Q (rs.filter nz)) : ∀ x dx, H x = none → H dx = none → dx ≠ x →
    spGInit A C [.ref x, v] (upd (upd H dx (.own x)) x (.ins C dx [])) (fun v H2 => v = .non ∧ Q (.ref x) H2) E := fun x dx nx nd ne => by
  have sU : Same H (upd (upd H dx (.own x)) x (.ins C dx [])) := fun b o e => by rw [upd_ne (ne_of_none e nx), upd_ne (ne_of_none e nd)]; exact e
  have lo : GwOk ps ∧ ∀ p ∈ ps, Low p.2.1 p.2.2 ∧ Sm 1300 p.2.1 ∧ Sm 1300 p.2.2 := by
    rcases hv with ⟨_, rfl⟩ | ⟨P_, kvs, _, _, kr, wd⟩
    · exact ⟨⟨List.nodup_nil, by decide, fun _ z => nomatch z⟩, fun _ z => nomatch z⟩
    · exact ⟨wd, krs_all (S := fun t b => Low t b ∧ Sm 1300 t ∧ Sm 1300 b) (fun v t b z => ⟨z.2.1, z.2.2.1, z.2.2.2⟩) kr⟩
  refine ⟨x, dx, v, rfl, upd_same, ps, ?_, fun G D gvs rs nD kp gx gD kr pm srt => ⟨rfl, ?_⟩⟩
  · rcases hv with h | ⟨P_, kvs, e, hP, kr, wd⟩
    · exact .inl h
    · exact .inr ⟨P_, kvs, e, sU _ _ hP, kr.mo fun v t b z => ⟨z.1.mo sU, z.2⟩, wd⟩
  · have nD0 : H D = none := sU.free nD
    have ok := gs_of lo.1 lo.2 pm srt
    exact k rs pm srt ok G x D gvs nx nD0 (fun b o e => kp b o (ne_of_none e nx) (sU b o e)) ⟨⟨dx, gx⟩, gD⟩ kr ok
def GrdW (A C BT : Addr) (H : Hp) (Q : VK) (E : XK) : Nat ⊕ List (List Nat × Int × Int) → Prop
  | .inl n => RzW BT n H E
  | .inr ps => GNew A C H Q ps
/-- what a read gap is -/
def AmL (A : Addr) (H : Hp) (v : V) (t b : Int) : Prop := AmV A H v t b ∧ Low t b ∧ Sm 1300 t ∧ Sm 1300 b ∧ t ≠ 0
theorem nameS_isNm (u : List Nat) : nameD (.str (ofL u)) = isNm u := by
  show nameS (ofL u) = _
  unfold nameS isNm
  rw [ofL_len, ofL_cps, Bool.eq_iff_iff]
  simp only [Bool.and_eq_true, decide_eq_true_eq, List.all_eq_true]
theorem isNm_nm {u : List Nat} (h : isNm u = true) : Nm u := by
  unfold isNm at h
  unfold Nm
  exact of_decide_eq_true h
def spGRead (K : PySem.W.Frag) (A C BT : Addr) : Sp := fun vs H Q E => ∃ x : V, vs = [.ref C, x] ∧ ((∃ l : List Nat, x = .str (ofL l) ∧ l.length ≤ 90000 ∧ (wds l).length ≤ 120 ∧ GrdW A C BT H Q E (due l)) ∨ ((∃ t, TyOf K H x t ∧ PySem.W.kitOne K t (.type "str") = some false) ∧ RzW BT 0 H E))
theorem ok_gread {A C fG f BT : Addr} {fd fdG : FuncData} (F : Fun K "read" "Gaps.read" s_Gaps_read f fd) (T : Txt K mg) (T2 : Txt2 mg) (hen : mg "enumerate" = none) (mG : Mk K C fG) (FG : FnOk P w K mg base CX0 5 fG fdG ["self", "values"] (spGInit A C)) (bG1 : Binds K fdG ["self", "values"] [.none]) (vG1 : Vals [V.non] [Value.none]) (bG2 : Binds K fdG ["self", "values"] []) (cI : CalO P w K mg base "is_name" 1 ["value"] spIsName (fun _ => True))
    (cGap : CalX P w K mg base "_read_gap" 10 ["word", "at"] (spGap A BT) (fun _ => True)) (Z : ErrC P w K mg base "BadText" BT ["self", "line", "word"] (spI2 BT "line" "word")) : FnOk P w K mg base (CX P w) 11 f fd ["cls", "text"] (spGRead K A C BT) := by
  refine F.okX sc_Gaps_read (fun vs H Q E h => ?_) (fun cdv A' outer s H vs Q E hr h => ?_)
  · obtain ⟨x, rfl, _⟩ := h
    rfl
  · obtain ⟨x, rfl, hc⟩ := h
    refine ⟨_, (pss_cons (s_if (pt_not (t_val (pe_callB c_isi (by rfl) T.b_isinstance (by decide +kernel) (pa_cons (pc 1) (pa_cons (pe_bltn (v := .ty "str") (u := .type "str") (by rfl) T2.b_str (by decide +kernel) rfl) pa_nil))))) (pss_one (ps_rz Z rfl (hr.mono (by decide)) (takes_of rfl rfl rfl rfl) (pa_cons pe_int (pa_cons pe_int pa_nil)))) pss_nil)
    (pss_cons (s_if (t_cmp (o_eq hr.units) (pc 1) pe_str) (pss_one (ps_ret (pe_makeL0 (i := 0) mG FG (hr.mono (by decide)) bG1 vG1 pass0))) pss_nil)
    (pss_cons (ps_set (i := 2) sc_Gaps_read.nd rfl (Or.inl rfl) (pe_split (pc 1) pe_str))
    (pss_cons (ps_set (i := 3) sc_Gaps_read.nd rfl (Or.inl rfl) pe_dnewK)
    (pss_cons (ps_set (i := 4) sc_Gaps_read.nd rfl (Or.inl rfl) pe_str)
    (pss_cons (ps_for (passes_of rfl) rfl (pi_enum (by rfl) hen (pa_cons (pc 2) pa_nil)) (pg_tup rfl (pgs_cons (pg_name (i := 5) sc_Gaps_read.nd rfl (Or.inl rfl)) (pgs_cons (pg_name (i := 6) sc_Gaps_read.nd rfl (Or.inl rfl)) pgs_nil))) (pss_one (s_if (t_cmp (o_eq hr.units) (pe_op o_mod (pc 5) pe_int) pe_int) (pss_one (ps_dput (Nat.lt_of_le_of_lt (Nat.add_le_add_left (by decide : 1 ≤ 64) _) hr.units) (pc 3) (pc 4) (pe_cX cGap (hr.mono (by decide)) (takes_of rfl rfl rfl rfl) (pa_cons (pc 6) (pa_cons (pc 5) pa_nil))) rfl)) (pss_one (s_if (PW.pt (w_and (t_val (pe_cO cI (hr.mono (by decide)) (pa_cons (pc 6) pa_nil))) (pw_and1 (t_cmp op_gt_str (pc 6) (pc 4))))) (pss_one (ps_set (i := 4) sc_Gaps_read.nd rfl (Or.inl rfl) (pc 6))) (pss_one (ps_rz Z rfl (hr.mono (by decide)) (takes_of rfl rfl rfl rfl) (pa_cons pe_int (pa_cons (pc 5) pa_nil)))))))))
    (pss_cons (s_if (t_cmp (o_eq hr.units) (pe_op o_mod (pe_callB c_len (by rfl) T.b_len (by decide +kernel) (pa_cons (pc 2) pa_nil)) pe_int) pe_int) (pss_one (ps_rz Z rfl (hr.mono (by decide)) (takes_of rfl rfl rfl rfl) (pa_cons pe_int (pa_cons (pe_callB c_len (by rfl) T.b_len (by decide +kernel) (pa_cons (pc 2) pa_nil)) pa_nil)))) pss_nil)
    (pss_one (ps_ret (pe_makeL (i := 0) mG FG (hr.mono (by decide)) bG2 .nil pass0 (pa_cons (pc 3) pa_nil))))))))))), ?_⟩
    rcases hc with ⟨l, rfl, ln, lw, hk⟩ | ⟨⟨t, ty, kt⟩, z⟩
    rotate_left
    · exact ⟨_, _, _, _, false, rfl, ty, (fun u r => r), kt, ⟨fun _ => z.ans, fun h => absurd h (by decide)⟩⟩
    have none_ : Str.ofString "none" = ofL [110, 111, 110, 101] := by decide +kernel
    refine ⟨_, _, _, _, true, rfl, .str _, (fun u r => r), rfl, ⟨fun h => absurd h (by decide), fun _ => ⟨fun h => ?_, fun h => ?_⟩⟩⟩
    · have h : l = [110, 111, 110, 101] := ofL_inj (by rw [← none_]; simpa using h)
      have hk : GNew A C H Q [] := by
        have e : due l = .inr [] := if_pos h
        rw [e] at hk
        exact hk
      refine ⟨rfl, ?_⟩
      refine mkG (.inl ⟨rfl, rfl⟩) fun rs pm srt ok => ?_
      rw [List.perm_nil.mp pm] at ok ⊢
      exact hk
    have h : ¬ l = [110, 111, 110, 101] := fun z => by rw [z, ← none_] at h; simp at h
    have du : due l = duW 0 [] [] (wds l) := if_neg h
    obtain ⟨w1, w2⟩ := wds_len l
    refine ⟨⟨_, rfl⟩, _, _, rfl, rfl, by decide +kernel, by rw [ofL_len, sizeLine_eq]; omega, fun W nW => ?_⟩
    rw [wds_is]
    intro Df nDf
    have WD : W ≠ Df := fun z => by rw [← z, upd_same] at nDf; cases nDf
    have nDH : H Df = none := by rw [upd_ne (Ne.symm WD)] at nDf; exact nDf
    have hW : L2.upd (L2.upd H W (.lst (((wds l).map ofL).map V.str))) Df (.dK []) W = some (.lst ((wds l).map fun w => .str (ofL w))) := by rw [upd_ne WD, upd_same, List.map_map]; rfl
    refine ⟨W, (wds l).map fun w => .str (ofL w), rfl, SqL.of hW, for_it walk_enum (fun i σ G => ∃ (ah : List Nat) (acc : List (List Nat × Int × Int)) (kvs : List (Key × V)) (x4 x5 : Option V),
      σ = [some (.ref C), some (.str (ofL l)), some (.ref W), some (.ref Df), some (.str (ofL ah)), x4, x5] ∧ Same H G ∧ G W = some (.lst ((wds l).map fun w => .str (ofL w))) ∧ G Df = some (.dK kvs) ∧ KRs (AmL A G) kvs acc ∧ acc.length ≤ i / 2 ∧
      duW i ah acc ((wds l).drop i) = duW 0 [] [] (wds l) ∧ (∀ p ∈ acc, p.1 = ah ∨ p.1 < ah) ∧ (i % 2 = 1 → Nm ah ∧ ∀ p ∈ acc, p.1 < ah) ∧ (acc.map (·.1)).Pairwise (· < ·) ∧ ∀ p ∈ acc, Nm p.1) ?_ (fun i σ G _ z => by obtain ⟨_, _, _, _, _, _, _, z, _⟩ := z; exact SqL.of z) ?_ ?_⟩
    · exact ⟨[], [], [], none, none, rfl, (Same.new (Same.refl H) nW).trans (Same.new (Same.refl _) nDf), hW, upd_same, .nil, Nat.zero_le _, rfl, (fun _ z => nomatch z), (fun z => absurd z (by decide)), .nil, fun _ z => nomatch z⟩
    · rintro i y σ G G1 hi ⟨ah, acc, kvs, x4, x5, rfl, sG, gW, gD, kp, al, dw, o1, o2, pw, nms⟩ ⟨T_, a, b, rfl, nT, rfl, e1, e2⟩
      rw [List.length_map] at hi
      have gw : (wds l)[i]? = some (wds l)[i] := List.getElem?_eq_getElem hi
      have wm : (wds l)[i] ∈ wds l := List.getElem_mem hi
      obtain ⟨wl, _⟩ := wds_mem wm
      have dr : (wds l).drop i = (wds l)[i] :: (wds l).drop (i + 1) := List.drop_eq_getElem_cons hi
      have e2 : ((wds l).map fun w => V.str (ofL w))[i]? = some b := e2
      rw [List.getElem?_map, gw] at e2
      generalize (wds l)[i] = u at gw wl dr wm e2
      cases e1
      cases e2
      rw [dr] at dw
      have s1 := Same.new (o := .tup [.int (i : Int), .str (ofL u)]) (Same.refl G) nT
      have gW1 := s1 _ _ gW
      have gD1 := s1 _ _ gD
      have kp1 := kp.mo fun v t b (z : AmL A G v t b) => (⟨z.1.mo s1, z.2⟩ : AmL A (upd G T_ (.tup [.int (i : Int), .str (ofL u)])) v t b)
      have sG1 := sG.trans s1
      have gT : upd G T_ (.tup [.int (i : Int), .str (ofL u)]) T_ = some (.tup [.int (i : Int), .str (ofL u)]) := upd_same
      generalize upd G T_ (.tup [.int (i : Int), .str (ofL u)]) = G1 at gT gW1 gD1 kp1 sG1
      have bad : due l = .inl i → RzW BT i G1 E := fun e => by
        rw [e] at hk
        exact RzW.mo sG1 hk
      have ev : (((i : Int)) % 2 = 1) ↔ ¬ i % 2 = 0 := by omega
      refine ⟨T_, _, rfl, SqT.of gT, rfl, _, _, rfl, _, _, rfl, rfl, (by decide : (0 : Int) < 2), ⟨fun he => ?_, fun he => ?_⟩⟩
      · have he : ¬ i % 2 = 0 := ev.mp (by simpa using he)
        obtain ⟨nmA, o3⟩ := o2 (by omega)
        have un : ∀ t b, rdv u = some (t, b) → t ≠ 0 → duW (i + 1) ah (acc ++ [(ah, t, b)]) ((wds l).drop (i + 1)) = duW 0 [] [] (wds l) := fun t b e n => by
          rw [← dw]
          conv => rhs; unfold duW
          rw [if_neg he, e]
          show _ = if t = 0 then _ else _
          rw [if_neg n]
        have ub : (∀ t b, rdv u = some (t, b) → t = 0) → due l = .inl i := fun hn => by
          rw [du, ← dw]
          unfold duW
          rw [if_neg he]
          cases er : rdv u with
          | none => rfl
          | some p =>
            obtain ⟨t, b⟩ := p
            show (if t = 0 then _ else _) = _
            rw [if_pos (hn t b er)]
        refine ⟨u, i, rfl, by omega, ?_⟩
        by_cases hn : ∀ t b, rdv u = some (t, b) → t = 0
        · exact .inr ⟨hn, bad (ub hn)⟩
        obtain ⟨t, hn⟩ := Classical.not_forall.mp hn
        obtain ⟨b, hn⟩ := Classical.not_forall.mp hn
        obtain ⟨er, t0⟩ := Classical.not_imp.mp hn
        obtain ⟨lo, S1, S2⟩ := rdv_sm er
        refine .inl ⟨t, b, er, t0, fun r G2 nr s2 am => ?_⟩
        have gD2 := s2 _ _ gD1
        have new := kp1.out (k := ah) fun p hp z => List.lt_irrefl _ (by have := o3 p hp; rwa [z] at this)
        have kl := kp1.len
        refine ⟨Df, _, rfl, DPut.k (k := .inr (ofL ah)) gD2 (by rw [sizeLine_eq]; omega), ah, acc ++ [(ah, t, b)], _, _, _, rfl, Same.mut (sG1.trans s2) nDH, by rw [upd_ne WD]; exact s2 _ _ gW1, upd_same, ?_, by rw [List.length_append, List.length_singleton]; omega, un t b er t0, fun p hp => ?_, fun z => absurd z (by omega), ?_, fun p hp => ?_⟩
        · rw [putK_new _ new]
          exact KRs.snoc ⟨AmV.upd (Same.refl G2) gD2 ⟨r, rfl, am⟩, lo, S1.mono (by decide), S2.mono (by decide), t0⟩ (kp1.mo fun v t b z => ⟨AmV.upd s2 gD2 z.1, z.2⟩)
        · rcases List.mem_append.mp hp with z | z
          · exact o1 p z
          · rw [List.mem_singleton.mp z]
            exact .inl rfl
        · rw [List.map_append]
          refine List.pairwise_append.mpr ⟨pw, List.pairwise_singleton .., fun x hx y hy => ?_⟩
          obtain ⟨p, hp, rfl⟩ := List.mem_map.mp hx
          obtain rfl : y = ah := List.mem_singleton.mp hy
          exact o3 p hp
        · rcases List.mem_append.mp hp with z | z
          · exact nms p z
          · rw [List.mem_singleton.mp z]
            exact nmA
      · have he : i % 2 = 0 := by
          have : ¬ ((i : Int) % 2 = 1) := fun z => by rw [decide_eq_true z] at he; cases he
          omega
        have ret : ¬ (isNm u = true ∧ ah < u) → RzW BT i G1 E := fun n => bad (by
          rw [du, ← dw]
          unfold duW
          rw [if_pos he, if_neg n])
        refine ⟨_, .str (ofL u), rfl, .str _, by show (ofL u).length ≤ _; rw [ofL_len]; omega, fun G2 s2 => ?_⟩
        rw [nameS_isNm]
        refine ⟨fun n1 => ⟨_, _, rfl, rfl, ⟨fun n2 => ?_, fun n2 => ?_⟩⟩, fun n1 => ?_⟩
        · have lt : ah < u := by
            have n2 : decide ((ofL ah).cps.toList < (ofL u).cps.toList) = true := n2
            rw [ofL_cps, ofL_cps] at n2
            exact of_decide_eq_true n2
          have un : duW (i + 1) u acc ((wds l).drop (i + 1)) = duW 0 [] [] (wds l) := by
            rw [← dw]
            conv => rhs; unfold duW
            rw [if_pos he, if_pos ⟨n1, lt⟩]
          have o3 : ∀ p ∈ acc, p.1 < u := fun p hp => (o1 p hp).elim (fun z => by rw [z]; exact lt) (fun z => List.lt_trans z lt)
          exact ⟨u, acc, kvs, _, _, rfl, sG1.trans s2, s2 _ _ gW1, s2 _ _ gD1, kp1.mo (fun v t b z => ⟨z.1.mo s2, z.2⟩), by omega, un, fun p hp => .inr (o3 p hp), fun _ => ⟨isNm_nm n1, o3⟩, pw, nms⟩
        · refine ((ret (fun c => ?_)).mo s2).ans
          have n2 : decide ((ofL ah).cps.toList < (ofL u).cps.toList) = false := n2
          rw [ofL_cps, ofL_cps, decide_eq_true c.2] at n2
          cases n2
        · exact ⟨fun z => absurd z (by decide), fun _ => ((ret (fun c => by have := c.1; rw [n1] at this; cases this)).mo s2).ans⟩
    · rintro σ G ⟨ah, acc, kvs, x4, x5, rfl, sG, gW, gD, kp, al, dw, o1, o2, pw, nms⟩
      rw [List.length_map, List.drop_length] at dw
      rw [List.length_map] at al
      have e : due l = if (wds l).length % 2 = 1 then .inl (wds l).length else .inr acc := by
        rw [du, ← dw]
        rfl
      refine ⟨_, .inl (SqL.of gW), (by decide : (0 : Int) < 2), ⟨fun z => ?_, fun z => ?_⟩⟩
      · rw [List.length_map] at z
        have z : (wds l).length % 2 = 1 := by
          have z : ((wds l).length : Int) % 2 = 1 := by simpa using z
          omega
        rw [e, if_pos z] at hk
        refine ⟨_, .inl (SqL.of gW), ?_⟩
        rw [List.length_map]
        exact (RzW.mo sG hk).ans
      · rw [List.length_map] at z
        have z : ¬ (wds l).length % 2 = 1 := fun y => by
          have z : ¬ ((wds l).length : Int) % 2 = 1 := by simpa using z
          omega
        rw [e, if_neg z] at hk
        have hk : GNew A C H Q acc := hk
        have nzf : ∀ p ∈ acc, nz p = true := fun p hp => decide_eq_true (krs_all (S := fun t b => t ≠ 0) (fun v t b z => z.2.2.2.2) kp p hp)
        have wd : GwOk acc := ⟨asc_nodup pw, by omega, nms⟩
        refine ⟨rfl, mkG (.inr ⟨Df, kvs, rfl, gD, kp.mo (fun v t b z => ⟨.inl z.1, z.2.1, z.2.2.1, z.2.2.2.1⟩), wd⟩) fun rs pm srt ok => ?_⟩
        have er : rs = acc := sorted_one (fun p : List Nat × Int × Int => p.1) pm srt (asc_sorted (fun p : List Nat × Int × Int => p.1) acc pw) wd.1
        subst er
        rw [List.filter_eq_self.mpr nzf] at ok ⊢
        exact hk.mo sG

end
end LW
set_option Elab.async false
set_option linter.all false
set_option maxRecDepth 100000
set_option maxHeartbeats 2000000
namespace HX
open PySem PySem.Spec PyProof.Rows L2
/-! ### == of two dicts of data -/
inductive DatHits (K : PySem.W.Frag) (H : Hp) (kb : List (Key × V)) : List (Key × V) → Bool → Prop
  | nil : DatHits K H kb [] true
  | miss {k : Key} {v : V} {r : List (Key × V)} : valV kb k = none → DatHits K H kb ((k, v) :: r) false
  | hit {k : Key} {v y : V} {d e : PyData} {r : List (Key × V)} {z : Bool} : valV kb k = some y → Dp K H v d → Dp K H y e → SeqAt.shaped d = true → SeqAt.shaped e = true → DatHits K H kb r z → DatHits K H kb ((k, v) :: r) (PyData.eqv d e && z)
def rEqDD (K : PySem.W.Frag) (neg : Bool) : L2.R2 := fun x y H Q => ∃ (a b : Addr) (ka kb : List (Key × V)) (r : Bool), x = .ref a ∧ y = .ref b ∧ H a = some (.dK ka) ∧ H b = some (.dK kb) ∧ (ka.length = kb.length → DatHits K H kb ka r) ∧ Q (.bl (xor neg (decide (ka.length = kb.length) && r))) H
section
variable {X : Cx}
theorem DatHits.low {pins : List (Addr × Obj)} {σ : L2.St} {H : Hp} {s : Shared} {A : Around} (I : Inv X pins σ H s) (hu : A.in1.units + 64 < cLine) {kb : List (Key × V)} {vb : List (Key × Value)} (rb : KV kb vb) : ∀ {ka : List (Key × V)} {va : List (Key × Value)} {z : Bool}, DatHits X.K H kb ka z → KV ka va → PySem.W.KeqHits A.in1 s vb va z
  | _, _, _, .nil, .nil => .nil
  | _, _, _, .miss (k := k) e, .cons (b := (k2, v2)) ⟨e1, _⟩ _ => by
    cases e1
    exact .miss (RelO.none_of (by rw [← e]; exact rb.val k))
  | _, _, _, .hit (k := k) (y := y) e hd he sd se t, .cons (b := (k2, v2)) ⟨e1, e2⟩ q => by
    cases e1
    obtain ⟨u, hu2, ru⟩ := RelO.some_of (v := y) (o := valueAt vb k) (by rw [← e]; exact rb.val k)
    obtain ⟨as, r1⟩ := Dp.reads I _ _ _ hd e2
    obtain ⟨bs, r2⟩ := Dp.reads I _ _ _ he ru
    exact .hit hu2 (PySem.W.keq_at r1 r2 sd se hu) (DatHits.low I hu rb t q)
theorem op_eqDD (hr : Room 1 X.A) : OpR X (compareOp .Eq) (rEqDD X.K false) := by
  intro pins s σ H x y v u Q I rx ry h
  obtain ⟨a, b, ka, kb, r, rfl, rfl, ea, eb, hits, q⟩ := h
  obtain rfl : v = Value.ref a := rx
  obtain rfl : u = Value.ref b := ry
  obtain ⟨_, na, va, ra, da⟩ := (show ObjOk X.prog X.w H s.heap a (.dK ka) from I.hok a _ ea)
  obtain ⟨_, nb, vb, rb, db⟩ := (show ObjOk X.prog X.w H s.heap b (.dK kb) from I.hok b _ eb)
  have la : ka.length = va.length := ra.length
  have lb : kb.length = vb.length := rb.length
  refine PySem.W.keq_eq (knd := mixKind X.prog X.w) (r := r) na nb da db hr.units0 (fun e => (hits (by omega)).low I hr.in1.units rb ra) (fin_bl I q ?_)
  rw [Bool.false_xor, la, lb]
  rfl
theorem op_neDD (hr : Room 1 X.A) : OpR X (compareOp .NotEq) (rEqDD X.K true) := by
  intro pins s σ H x y v u Q I rx ry h
  obtain ⟨a, b, ka, kb, r, rfl, rfl, ea, eb, hits, q⟩ := h
  obtain rfl : v = Value.ref a := rx
  obtain rfl : u = Value.ref b := ry
  obtain ⟨_, na, va, ra, da⟩ := (show ObjOk X.prog X.w H s.heap a (.dK ka) from I.hok a _ ea)
  obtain ⟨_, nb, vb, rb, db⟩ := (show ObjOk X.prog X.w H s.heap b (.dK kb) from I.hok b _ eb)
  have la : ka.length = va.length := ra.length
  have lb : kb.length = vb.length := rb.length
  refine PySem.W.keq_ne (knd := mixKind X.prog X.w) (r := r) na nb da db hr.units0 (fun e => (hits (by omega)).low I hr.in1.units rb ra) (fin_bl I q ?_)
  rw [Bool.true_xor, la, lb]
  rfl
end
/-! ### a list of pairs for a dict -/
theorem mergeK_new : ∀ (more acc : List (Key × V)), ((acc ++ more).map (·.1)).Nodup → mergeK acc more = acc ++ more
  | [], acc, _ => by rw [List.append_nil]; rfl
  | (k, v) :: r, acc, nd => by
    have no : valV acc k = none := by
      cases e : valV acc k with
      | none => rfl
      | some y =>
        have : k ∈ acc.map (·.1) := valV_in e
        rw [List.map_append, List.map_cons] at nd
        exact absurd rfl ((List.nodup_append.mp nd).2.2 _ this _ (List.mem_cons_self ..))
    show mergeK (putK acc k v) r = _
    rw [putK_new _ no, mergeK_new r _ (by rw [List.append_assoc]; exact nd), List.append_assoc]
    rfl
/-- tuples (name, (top, bottom)) at ps -/
inductive PrP (H : Hp) : List Addr → List (Key × V) → List (List Nat × Int × Int) → Prop
  | nil : PrP H [] [] []
  | cons {p q : Addr} {n : List Nat} {t b : Int} {ps : List Addr} {kvs : List (Key × V)} {rs : List (List Nat × Int × Int)} : H p = some (.tup [.str (ofL n), .ref q]) → H q = some (.tup [.int t, .int b]) → PrP H ps kvs rs → PrP H (p :: ps) ((.inr (ofL n), .ref q) :: kvs) ((n, t, b) :: rs)
theorem PrP.mo {H G : Hp} (s : ∀ q xs, H q = some (.tup xs) → G q = some (.tup xs)) : ∀ {ps kvs rs}, PrP H ps kvs rs → PrP G ps kvs rs
  | _, _, _, .nil => .nil
  | _, _, _, .cons e1 e2 r => .cons (s _ _ e1) (s _ _ e2) (r.mo s)
theorem PrP.snoc {H : Hp} {p q : Addr} {n : List Nat} {t b : Int} (e1 : H p = some (.tup [.str (ofL n), .ref q])) (e2 : H q = some (.tup [.int t, .int b])) : ∀ {ps kvs rs}, PrP H ps kvs rs → PrP H (ps ++ [p]) (kvs ++ [(.inr (ofL n), .ref q)]) (rs ++ [(n, t, b)])
  | _, _, _, .nil => .cons e1 e2 .nil
  | _, _, _, .cons a b r => .cons a b (r.snoc e1 e2)
theorem PrP.len {H : Hp} : ∀ {ps kvs rs}, PrP H ps kvs rs → ps.length = rs.length
  | _, _, _, .nil => rfl
  | _, _, _, .cons _ _ r => by rw [List.length_cons, List.length_cons, r.len]
theorem PrP.kps {H : Hp} : ∀ {ps kvs rs}, PrP H ps kvs rs → KPs H kvs rs
  | _, _, _, .nil => .nil
  | _, _, _, .cons _ e2 r => .cons e2 r.kps
theorem PrP.pairs {K : PySem.W.Frag} {H : Hp} : ∀ {ps kvs rs}, PrP H ps kvs rs → Paired (fun p kv => SqT K H p [kV kv.1, kv.2]) ps kvs
  | _, _, _, .nil => .nil
  | _, _, _, .cons e1 _ r => .cons (SqT.of e1) r.pairs
theorem KPs.keys {H : Hp} : ∀ {kvs ps}, KPs H kvs ps → kvs.map (·.1) = (ps.map (·.1)).map fun k => (Sum.inr (ofL k) : Key)
  | _, _, .nil => rfl
  | _, _, .cons _ r => by rw [List.map_cons, List.map_cons, List.map_cons, r.keys]
theorem KPs.merge {H : Hp} {kvs : List (Key × V)} {ps : List (List Nat × Int × Int)} (h : KPs H kvs ps) (nd : (ps.map (·.1)).Nodup) : mergeK [] kvs = kvs := by
  refine mergeK_new kvs [] ?_
  rw [List.nil_append, h.keys]
  exact (List.nodup_iff_pairwise_ne.mpr ((List.pairwise_map.mpr ((List.nodup_iff_pairwise_ne.mp nd).imp fun h e => h (ofL_inj (Sum.inr.inj e))))))
/-- two dicts of pairs by names -/
theorem KPs.hits {K : PySem.W.Frag} {H : Hp} {kb : List (Key × V)} {ss : List (List Nat × Int × Int)} (hb : KPs H kb ss) (nd : (ss.map (·.1)).Nodup) : ∀ {ka rs}, KPs H ka rs → DatHits K H kb ka (rs.all fun p => decide (p ∈ ss))
  | _, _, .nil => .nil
  | _, _, .cons (q := q) (k := n) (t := t) (b := c) (ps := ps) e r => by
    rw [List.all_cons]
    have ih := hb.hits (K := K) nd r
    by_cases h : ∃ t2 c2, (n, t2, c2) ∈ ss
    · obtain ⟨t2, c2, hm⟩ := h
      obtain ⟨q2, v2, e2⟩ := hb.get nd hm
      have eq : decide ((n, t, c) ∈ ss) = PyData.eqv (.tuple [.int t, .int c]) (.tuple [.int t2, .int c2]) := by
        have e3 : PyData.eqv (.tuple [.int t, .int c]) (.tuple [.int t2, .int c2]) = decide (t = t2 ∧ c = c2) := by
          rw [← SeqAt.same_eq_eqv _ _ (by rfl)]
          simp only [PySem.Spec.same, PySem.Spec.sameAll]
          rw [Bool.eq_iff_iff]
          simp
        rw [e3]
        refine decide_eq_decide.mpr ⟨fun hm2 => ?_, fun ⟨x, y⟩ => by rw [x, y]; exact hm⟩
        obtain ⟨q3, v3, e4⟩ := hb.get nd hm2
        rw [v2] at v3
        cases v3
        rw [e2] at e4
        simp at e4
        exact ⟨e4.1.symm, e4.2.symm⟩
      rw [eq]
      exact .hit v2 (.tup (SqT.of e) (.cons (.int _) (.cons (.int _) .nil))) (.tup (SqT.of e2) (.cons (.int _) (.cons (.int _) .nil))) rfl rfl ih
    · have no : decide ((n, t, c) ∈ ss) = false := decide_eq_false fun z => h ⟨t, c, z⟩
      rw [no, Bool.false_and]
      exact .miss (hb.out fun p hp z => h ⟨p.2.1, p.2.2, by rw [← z]; exact hp⟩)
end HX

set_option Elab.async false
set_option linter.all false
set_option maxRecDepth 100000
set_option maxHeartbeats 2000000
namespace HX
open PySem PySem.Spec PyProof.Rows L2 NumText
/-! ### words and blanks -/
theorem pre32 (c : Nat) (r : List Nat) : TL.pre [32] (c :: r) = decide (c = 32) := by
  unfold TL.pre
  simp only [List.length_singleton, List.take_succ_cons, List.take_zero]
  rw [Bool.eq_iff_iff]
  simp
theorem spl32b : ∀ (r acc : List Nat), 32 ∉ acc → (∀ w ∈ TL.spl [32] 0 acc r, 32 ∉ w) ∧ (TL.spl [32] 0 acc r).length = r.count 32 + 1 ∧ ((TL.spl [32] 0 acc r).map (·.length)).sum + r.count 32 = acc.length + r.length
  | [], acc, h => by
    rw [TL.spl_nil]
    exact ⟨fun w hw => by rw [List.mem_singleton.mp hw]; exact h, rfl, by simp⟩
  | c :: r, acc, h => by
    by_cases e : c = 32
    · obtain ⟨i1, i2, i3⟩ := spl32b r [] (fun z => nomatch z)
      have hit : TL.pre [32] (c :: r) = true := by rw [pre32]; exact decide_eq_true e
      have e2 : TL.spl [32] 0 acc (c :: r) = acc :: TL.spl [32] 0 [] r := TL.spl_hit hit
      rw [e2, e, List.count_cons_self]
      refine ⟨fun w hw => ?_, by rw [List.length_cons, i2], ?_⟩
      · rcases List.mem_cons.mp hw with z | z
        · rw [z]
          exact h
        · exact i1 w z
      · rw [List.map_cons, List.sum_cons, List.length_cons]
        simp at i3
        omega
    · have miss : TL.pre [32] (c :: r) = false := by rw [pre32]; exact decide_eq_false e
      obtain ⟨i1, i2, i3⟩ := spl32b r (acc ++ [c]) (fun z => (List.mem_append.mp z).elim h fun z => e (List.mem_singleton.mp z).symm)
      rw [TL.spl_miss miss, List.count_cons_of_ne e]
      refine ⟨i1, i2, ?_⟩
      rw [List.length_append, List.length_singleton] at i3
      rw [List.length_cons]
      omega
theorem wds_no {l w : List Nat} (h : w ∈ wds l) : 32 ∉ w := (spl32b l [] (fun z => nomatch z)).1 w h
theorem wds_count (l : List Nat) : (wds l).length = l.count 32 + 1 := (spl32b l [] (fun z => nomatch z)).2.1
theorem wds_sum (l : List Nat) : ((wds l).map (·.length)).sum + l.count 32 = l.length := by
  have := (spl32b l [] (fun z => nomatch z)).2.2
  rw [List.length_nil, Nat.zero_add] at this
  exact this
def jn (ws : List (List Nat)) : List Nat := TL.joinL [32] ws
theorem jn_len : ∀ ws : List (List Nat), (jn ws).length + 1 ≤ (ws.map (·.length)).sum + ws.length + 1 ∧ (ws ≠ [] → (jn ws).length + 1 = (ws.map (·.length)).sum + ws.length)
  | [] => ⟨by decide, fun h => absurd rfl h⟩
  | [p] => by
    show p.length + 1 ≤ _ ∧ (_ → p.length + 1 = _)
    simp
  | p :: q :: r => by
    have ih := (jn_len (q :: r)).2 (by simp)
    have e : jn (p :: q :: r) = p ++ ([32] ++ jn (q :: r)) := rfl
    rw [e, List.length_append, List.length_append]
    have l1 : (p :: q :: r).length = (q :: r).length + 1 := rfl
    have l2 : [32].length = 1 := rfl
    rw [List.map_cons, List.sum_cons, l1, l2]
    constructor
    · omega
    · intro _
      omega
theorem jn_mem : ∀ (ws : List (List Nat)) (c : Nat), c ∈ jn ws → c = 32 ∨ ∃ w ∈ ws, c ∈ w
  | [], c, h => nomatch h
  | [p], c, h => .inr ⟨p, List.mem_cons_self .., h⟩
  | p :: q :: r, c, h => by
    have e : jn (p :: q :: r) = p ++ ([32] ++ jn (q :: r)) := rfl
    rw [e] at h
    rcases List.mem_append.mp h with h | h
    · exact .inr ⟨p, List.mem_cons_self .., h⟩
    · rcases List.mem_append.mp h with h | h
      · exact .inl (List.mem_singleton.mp h)
      · rcases jn_mem (q :: r) c h with h | ⟨w, hw, hc⟩
        · exact .inl h
        · exact .inr ⟨w, List.mem_cons_of_mem _ hw, hc⟩
theorem wds_jn {ws : List (List Nat)} (ne : ws ≠ []) (h : ∀ w ∈ ws, 32 ∉ w) : wds (jn ws) = ws := TL.spl_join ne h
theorem wds_jn_len {ws : List (List Nat)} (h : ∀ w ∈ ws, 32 ∉ w) : (wds (jn ws)).length ≤ ws.length + 1 := by
  by_cases e : ws = []
  · subst e
    decide +kernel
  · rw [wds_jn e h]
    omega
theorem jn_txt (ws : List (List Nat)) : Txt.join (Str.ofString " ") (ws.map ofL) = ofL (jn ws) := by
  have e : (Str.ofString " ") = SX.S [32] := by decide +kernel
  rw [e]
  exact SX.join_S [32] ws
/-! ### the text of gaps says just these -/
def gws (ps : List (List Nat × Int × Int)) : List (List Nat) := ps.flatMap fun p => [p.1, atx p.2.1 p.2.2]
theorem jn_gws : ∀ ps : List (List Nat × Int × Int), TL.joinL [32] (ps.map fun p => p.1 ++ 32 :: atx p.2.1 p.2.2) = jn (gws ps)
  | [] => rfl
  | [p] => rfl
  | p :: q :: r => by
    have ih := jn_gws (q :: r)
    have e1 : TL.joinL [32] ((p :: q :: r).map fun p => p.1 ++ 32 :: atx p.2.1 p.2.2) = (p.1 ++ 32 :: atx p.2.1 p.2.2) ++ ([32] ++ TL.joinL [32] ((q :: r).map fun p => p.1 ++ 32 :: atx p.2.1 p.2.2)) := rfl
    have e2 : jn (gws (p :: q :: r)) = p.1 ++ ([32] ++ (atx p.2.1 p.2.2 ++ ([32] ++ jn (gws (q :: r))))) := rfl
    rw [e1, ih, e2]
    simp
theorem gws_len (ps : List (List Nat × Int × Int)) : (gws ps).length = 2 * ps.length := by
  induction ps with
  | nil => rfl
  | cons p r ih =>
    show ([p.1, atx p.2.1 p.2.2] ++ gws r).length = _
    have l1 : (p :: r).length = r.length + 1 := rfl
    rw [List.length_append, ih, l1]
    show 2 + _ = _
    omega
theorem it_no32 (i : Int) : 32 ∉ it i := by
  intro h
  unfold it at h
  split at h
  · rcases List.mem_cons.mp h with z | z
    · omega
    · have := dg_all _ _ z
      omega
  · have := dg_all _ _ h
    omega
theorem atx_no32 (t b : Int) : 32 ∉ atx t b := by
  intro h
  unfold atx at h
  split at h
  · exact it_no32 _ h
  · rcases List.mem_append.mp h with z | z
    · exact it_no32 _ z
    · rcases List.mem_cons.mp z with z | z
      · omega
      · exact it_no32 _ z
theorem it_128 (i : Int) : ∀ c ∈ it i, c < 128 := by
  intro c h
  unfold it at h
  split at h
  · rcases List.mem_cons.mp h with z | z
    · omega
    · have := dg_all _ _ z
      omega
  · have := dg_all _ _ h
    omega
theorem atx_128 (t b : Int) : ∀ c ∈ atx t b, c < 128 := by
  intro c h
  unfold atx at h
  split at h
  · exact it_128 _ c h
  · rcases List.mem_append.mp h with z | z
    · exact it_128 _ c z
    · rcases List.mem_cons.mp z with z | z
      · omega
      · exact it_128 _ c z
/-- right gaps: ascending names, fractions in lowest terms, none of them 0 -/
structure Gpw (ps : List (List Nat × Int × Int)) : Prop where
  pw : (ps.map (·.1)).Pairwise (· < ·)
  nm : ∀ p ∈ ps, isNm p.1 = true
  am : ∀ p ∈ ps, Low p.2.1 p.2.2 ∧ p.2.1.natAbs < 10 ^ 200 ∧ p.2.2.natAbs < 10 ^ 200 ∧ p.2.1 ≠ 0
theorem isNm_no32 {n : List Nat} (h : isNm n = true) : 32 ∉ n := by
  unfold isNm at h
  have h := (of_decide_eq_true h).2.2
  exact fun z => absurd (h 32 z) (by decide)
theorem isNm_128 {n : List Nat} (h : isNm n = true) : ∀ c ∈ n, c < 128 := by
  unfold isNm at h
  have h := (of_decide_eq_true h).2.2
  have h2 : ∀ c ∈ abc, c < 128 := by decide
  exact fun c hc => h2 c (h c hc)
theorem duW_gws : ∀ (ps acc : List (List Nat × Int × Int)) (i : Nat) (ah : List Nat), i % 2 = 0 → Gpw ps → (∀ p ∈ ps, ah < p.1) → duW i ah acc (gws ps) = .inr (acc ++ ps)
  | [], acc, i, ah, hi, _, _ => by
    show duW i ah acc [] = _
    unfold duW
    rw [if_neg (by omega), List.append_nil]
  | p :: r, acc, i, ah, hi, w, ha => by
    obtain ⟨n, t, b⟩ := p
    obtain ⟨lo, ht, hb, t0⟩ := w.am _ (List.mem_cons_self ..)
    have hn := w.nm _ (List.mem_cons_self ..)
    have pw := w.pw
    rw [List.map_cons] at pw
    obtain ⟨pw1, pw2⟩ := List.pairwise_cons.mp pw
    have w2 : Gpw r := ⟨pw2, fun p hp => w.nm p (List.mem_cons_of_mem _ hp), fun p hp => w.am p (List.mem_cons_of_mem _ hp)⟩
    show duW i ah acc (n :: atx t b :: gws r) = _
    unfold duW
    rw [if_pos hi, if_pos ⟨hn, ha _ (List.mem_cons_self ..)⟩]
    unfold duW
    rw [if_neg (by omega), rt_rdv ⟨lo, ht, hb, rfl⟩]
    show (if t = 0 then _ else _) = _
    rw [if_neg t0, duW_gws r _ _ n (by omega) w2 (fun p hp => pw1 _ (List.mem_map.mpr ⟨p, hp, rfl⟩)), List.append_assoc]
    rfl
theorem gws_no32 {ps : List (List Nat × Int × Int)} (w : Gpw ps) : ∀ u ∈ gws ps, 32 ∉ u := by
  intro u hu
  obtain ⟨p, hp, h⟩ := List.mem_flatMap.mp hu
  rcases List.mem_cons.mp h with e | h
  · rw [e]
    exact isNm_no32 (w.nm p hp)
  · rw [List.mem_singleton.mp h]
    exact atx_no32 _ _
/-- the text of right gaps, as a list of signs -/
def gtl (ps : List (List Nat × Int × Int)) : List Nat := if ps = [] then [110, 111, 110, 101] else jn (gws ps)
theorem gws_ne {ps : List (List Nat × Int × Int)} (h : ps ≠ []) : gws ps ≠ [] := fun z => by
  have := gws_len ps
  rw [z] at this
  exact h (List.length_eq_zero_iff.mp (by simp at this; omega))
theorem wds_gtl {ps : List (List Nat × Int × Int)} (w : Gpw ps) (h : ps ≠ []) : wds (gtl ps) = gws ps := by
  unfold gtl
  rw [if_neg h]
  exact wds_jn (gws_ne h) (gws_no32 w)
theorem due_gtl {ps : List (List Nat × Int × Int)} (w : Gpw ps) : due (gtl ps) = .inr ps := by
  by_cases h : ps = []
  · subst h
    rfl
  · have e := wds_gtl w h
    have ne : gtl ps ≠ [110, 111, 110, 101] := fun z => by
      rw [z] at e
      have := gws_len ps
      rw [← e] at this
      have l1 : (wds [110, 111, 110, 101]).length = 1 := by decide +kernel
      omega
    unfold due
    rw [if_neg ne, e, duW_gws ps [] 0 [] rfl w ?_]
    · rfl
    · intro p hp
      have hn := w.nm p hp
      unfold isNm at hn
      have hn := (of_decide_eq_true hn).1
      cases e2 : p.1 with
      | nil => rw [e2] at hn; simp at hn
      | cons c r => exact List.nil_lt_cons c r
end HX

set_option Elab.async false
set_option linter.all false
set_option maxRecDepth 100000
set_option maxHeartbeats 4000000
namespace LW
open PySem PySem.Spec PyProof.Rows L2 HX NumText
section
variable {P : Program} {w : World} {K : PySem.W.Frag} {mg : Str → Option Value} {base : Heap}

structure TxH (K : PySem.W.Frag) (mg : Str → Option Value) (S BT BI : Addr) : Prop where
  g_ShiftError : mg "ShiftError" = some (.ref S)
  g_BadText : mg "BadText" = some (.ref BT)
  g_BadInput : mg "BadInput" = some (.ref BI)
  ex : ExC K BT
  mS : PySem.W.exmOne K (.ref BT) (.ref S) = some true
  tT : PySem.W.kitOne K (.ref BT) (.ref BT) = some true
  tI : PySem.W.kitOne K (.ref BT) (.ref BI) = some true
  nl : PySem.W.findIn K (.ref BT) "line" = some none
  nw : PySem.W.findIn K (.ref BT) "word" = some none

theorem pe_gacc {X : Cx} {A C : Addr} {e : Expr} {ta : TE} {pos : Pos} (c : Cls X.K C) (Z : ∃ (p g : Addr) (fd : FuncData), PropOf X.K C "accounts" p g ∧ FnOk X.prog X.w X.K X.mg X.base CX0 1 g fd ["self"] (spGAcc A C) ∧ Binds X.K fd ["self"] []) (hr : Room 2 X.A) (he : PE X e ta)
    (hab : attributeBase e "accounts" X.env (eval e X.env) = eval e X.env := by rfl) : PE X (.Attribute e "accounts" pos) (tProp C (spGAcc A C) [] (fun _ _ _ => False) ta) := by
  obtain ⟨p, g, fd, hp, F1, b⟩ := Z
  exact pe_prop he c hp F1 hr b .nil pass0 hab
theorem gwd_is (p : List Nat × Int × Int) : gwd p = ofL (p.1 ++ 32 :: atx p.2.1 p.2.2) := by
  have e1 : (Str.ofString " ") = ofL [32] := by decide +kernel
  unfold gwd
  rw [e1, ofL_app, ofL_app]
  simp
theorem gtx_is (ps : List (List Nat × Int × Int)) : gtx ps = ofL (gtl ps) := by
  unfold gtx gtl
  by_cases h : ps = []
  · rw [if_pos h, if_pos h]
    decide +kernel
  · rw [if_neg h, if_neg h, ← jn_gws, ← jn, ← jn_txt, List.map_map]
    refine congrArg _ (List.map_congr_left fun p _ => gwd_is p)
def teGt (K : PySem.W.Frag) (C : Addr) (f : Str) : TE := tFld K (tOp (rIxO C (spGGet C) (fun _ _ _ => False)) (cV 2) (cV 4)) f
def teHd (K : PySem.W.Frag) (C : Addr) : TE := tTup (tCons (cV 4) (tCons (tTup (tCons (teGt K C "top") (tCons (teGt K C "bottom") tNil))) tNil))
theorem grd_inr {A C BT : Addr} {H : Hp} {Q : VK} {E : XK} {d : Nat ⊕ List (List Nat × Int × Int)} {ps : List (List Nat × Int × Int)} (e : d = .inr ps) (h : GNew A C H Q ps) : GrdW A C BT H Q E d := by
  rw [e]
  exact h
theorem grd_inl {A C BT : Addr} {H : Hp} {Q : VK} {E : XK} {d : Nat ⊕ List (List Nat × Int × Int)} {n : Nat} (e : d = .inl n) (h : RzW BT n H E) : GrdW A C BT H Q E d := by
  rw [e]
  exact h
def HdX (K : PySem.W.Frag) (H : Hp) (x : V) (o : Nat ⊕ List (List Nat × Int × Int)) : Prop := (∃ l : List Nat, x = .str (ofL l) ∧ l.length ≤ 90000 ∧ (wds l).length ≤ 120 ∧ due l = o) ∨ (o = .inl 0 ∧ ∃ t, TyOf K H x t ∧ PySem.W.kitOne K t (.type "str") = some false)
def spHeard (K : PySem.W.Frag) : Sp := fun vs H Q _ => ∃ (x : V) (o : Nat ⊕ List (List Nat × Int × Int)), vs = [x] ∧ HdX K H x o ∧ ∀ v G, Same H G → DueV G v o → (∀ ps, o = .inr ps → GsOk ps) → Q v G

theorem ok_heard {A fI pO gO pN gN f S BT BI C fRd pRd fGet : Addr} {mc mcG : Value} {fd fdGet : FuncData} (F : Fun K "_law_heard" "_law_heard" s__law_heard f fd) (T : Txt K mg) (T2 : Txt2 mg) (U : AmC K mg A fI pO gO pN gN mc) (hdi : mg "dict" = none) (UG : GpC K mg C) (V_ : TxH K mg S BT BI) (cRdG : ClX.CRead K C mcG) (cMrG : ClX.CMet K C mcG "read" pRd fRd) (FRdG : FnR P w K mg base (CX P w) 11 fRd (spGRead K A C BT)) (hGet : PySem.W.findIn K (.ref C) "__getitem__" = some (some (.ref fGet))) (iGet : PySem.W.isFn K (.ref fGet) = true) (nGet : PySem.W.fnIn K fGet = true) (FGet : FnOk P w K mg base CX0 2 fGet fdGet ["self", "account"] (spGGet C)) (bGet : Binds K fdGet ["self", "account"] []) (cAcc : ∃ (p g : Addr) (fd : FuncData), PropOf K C "accounts" p g ∧ FnOk P w K mg base CX0 1 g fd ["self"] (spGAcc A C) ∧ Binds K fd ["self"] []) : FnOk P w K mg base CX0 12 f fd ["_law_told_text"] (spHeard K) := by
  refine F.ok sc__law_heard (fun vs H Q E h => ?_) (fun cdv A' outer s H vs Q E hr h => ?_)
  · obtain ⟨x, o, rfl, _⟩ := h
    rfl
  · obtain ⟨x, o, rfl, hx, k⟩ := h
    refine ⟨_, (pss_cons (ps_set (i := 1) sc__law_heard.nd rfl (Or.inl rfl) pe_non)
    (pss_cons (ps_set (i := 2) sc__law_heard.nd rfl (Or.inr rfl) pe_non)
    (pss_cons (ps_try_keep (i := 3) (Wout := fun _ _ _ _ => False) rfl rfl sc__law_heard.nd rfl rfl ⟨rfl, by decide, Or.inl V_.g_ShiftError⟩ takes0 (fun W pn xe tk _ => (pss_one (ps_set (i := 2) sc__law_heard.nd rfl (Or.inr rfl) (pe_cmethX (p_gc UG.g) cRdG cMrG FRdG (hr.mono (by decide)) tk (pa_cons (pc 0) pa_nil))))) (fun a pn => (pss_one (ps_set (i := 1) sc__law_heard.nd rfl (Or.inl rfl) (pc 3)))))
    (pss_cons (s_if (t_cmp o_is (pc 1) pe_non) (pss_cons (s_if (pt_not (t_val (pe_callB c_isi (by rfl) T.b_isinstance (by decide +kernel) (pa_cons (pc 2) (pa_cons (p_gc UG.g) pa_nil))))) (pss_one (ps_ret (pe_un un_neg pe_int))) pss_nil)
    (pss_one (ps_ret (pe_callTy (call_dictP rfl) (by rfl) hdi (by decide +kernel) (pa_cons (pe_lc (own := [("_law_name", 4)]) (g := gName 4) (tt := tYes) (te := teHd K C) rfl sc__law_heard.nd (pi_tup (pe_gacc UG.cls cAcc (hr.mono (by decide)) (pc 2))) (blkOk_by (own := [("_law_name", 4)]) (N := n__law_heard) (sc := defScope s__law_heard) (by decide +kernel)) (fun _ _ _ _ _ => pg_name (i := 4) sc__law_heard.nd rfl (Or.inl rfl)) (fun _ _ _ _ _ => pts_nil) (fun _ _ _ _ _ => (pe_tup (pa_cons (pc 4) (pa_cons (pe_tup (pa_cons (pe_fld (pe_ixO hGet iGet nGet FGet bGet (hr.mono (by decide)) pass0 (pc 2) (pc 4)) rfl) (pa_cons (pe_fld (pe_ixO hGet iGet nGet FGet bGet (hr.mono (by decide)) pass0 (pc 2) (pc 4)) rfl) pa_nil))) pa_nil))))) pa_nil))))) pss_nil)
    (pss_cons (s_if (PW.pt (w_or (pt_not (t_val (pe_callB call_isX (by rfl) T.b_isinstance (by decide +kernel) (pa_cons (pc 1) (pa_cons (p_gc V_.g_BadText) pa_nil))))) (w_or (pt_not (t_val (pe_callB call_isX (by rfl) T.b_isinstance (by decide +kernel) (pa_cons (pc 1) (pa_cons (p_gc V_.g_BadInput) pa_nil))))) (pw_or1 (t_cmp (o_ne hr.units) (pe_callB SkE.call_repr_int (by rfl) T.b_repr (by decide +kernel) (pa_cons (pe_exf (pc 1)) pa_nil)) pe_str))))) (pss_one (ps_ret (pe_un un_neg pe_int))) pss_nil)
    (pss_one (ps_ret (pe_exf (pc 1))))))))), ?_⟩
    rcases hx with ⟨l, rfl, ln, lw, e⟩ | ⟨rfl, t, ty, kt⟩
    · cases o with
      | inr ps =>
        refine ⟨rfl, _, rfl, .inl ⟨l, rfl, ln, lw, grd_inr e fun G x D gvs nx nD sG hg kr ok => ?_⟩⟩
        refine ⟨fun _ => ?_, fun h => absurd h (by decide)⟩
        obtain ⟨⟨dx, hx⟩, hD⟩ := id hg
        refine ⟨_, _, _, _, true, rfl, UG.ty hx, (fun u r => r), kit_self K C, ⟨fun h => absurd h (by decide), fun _ => ?_⟩⟩
        refine ⟨x, dx, _, rfl, hx, x, ps, rfl, ⟨D, gvs, hg, kr⟩, fun q nq => ?_⟩
        have sT := Same.new (o := .tup (ps.map fun p => .str (ofL p.1))) (Same.refl G) nq
        refine ⟨q, rfl, ⟨_, SqT.of upd_same⟩, fun L nL => lc_it (te := teHd K C) walk_tup (fun i G1 => Same (upd G q (.tup (ps.map fun p => .str (ofL p.1)))) G1 ∧ ∃ as kvs, G1 L = some (.lst (as.map V.ref)) ∧ PrP G1 as kvs (ps.take i)) ⟨Same.new (Same.refl _) nL, [], [], upd_same, .nil⟩ (fun i G1 _ z => SqT.of (z.1 _ _ upd_same)) ?_ ?_⟩
        · rintro i y G1 G2 hi ⟨s1, as, kvs, gL, pp⟩ ⟨rfl, e1⟩
          rw [List.length_map] at hi
          have eq : ps[i]? = some ps[i] := List.getElem?_eq_getElem hi
          have qm : ps[i] ∈ ps := List.getElem_mem hi
          rw [List.getElem?_map, eq] at e1
          have tk : ps.take (i + 1) = ps.take i ++ [ps[i]] := by rw [List.take_add_one, eq]; rfl
          generalize ps[i] = g at eq qm e1 tk
          obtain ⟨n, t, b⟩ := g
          obtain rfl : V.str (ofL n) = y := Option.some.inj e1
          obtain ⟨v, hv, r, rfl, dy, ea⟩ := kr.get ok.nd qm
          have s2 := sT.trans s1
          have hx2 := s2 _ _ hx
          have hg2 := hg.mo s2
          have ea2 := s2 _ _ ea
          refine ⟨rfl, x, rfl, ⟨dx, _, hx2⟩, x, D, gvs, ofL n, _, rfl, hg2, hv, r, A, dy, _, _, rfl, ea2, U.cls, U.nT, rfl, x, rfl, ⟨dx, _, hx2⟩, x, D, gvs, ofL n, _, rfl, hg2, hv, r, A, dy, _, _, rfl, ea2, U.cls, U.nB, rfl, by show 2 ≤ sizeLine; decide, fun T2 n2 => ⟨by show 2 ≤ sizeLine; decide, fun T1 n1 => ?_⟩⟩
          have s3 := Same.new (o := .tup [.int t, .int b]) (Same.refl G2) n2
          have s4 := Same.new (o := .tup [.str (ofL n), .ref T2]) (Same.refl (upd G2 T2 (.tup [.int t, .int b]))) n1
          have gL4 := s4 _ _ (s3 _ _ gL)
          have eT2 := s4 _ _ (upd_same : upd G2 T2 (.tup [.int t, .int b]) T2 = _)
          have eT1 : upd (upd G2 T2 (.tup [.int t, .int b])) T1 (.tup [.str (ofL n), .ref T2]) T1 = some (.tup [.str (ofL n), .ref T2]) := upd_same
          have pl := pp.len
          have kt : ∀ (G5 : Hp) (o : HO) (as' : List V), G5 L = some (.lst as') → ∀ q xs, G5 q = some (.tup xs) → upd G5 L o q = some (.tup xs) := fun G5 o as' e q xs z => by rw [upd_ne (fun y => by rw [y, e] at z; cases z)]; exact z
          refine ⟨_, gL4, by rw [List.length_map, pl, List.length_take, sizeLine_eq]; have := ok.l64; omega, Same.mut ((s1.trans s3).trans s4) nL, as ++ [T1], kvs ++ [(.inr (ofL n), .ref T2)], by rw [upd_same, List.map_append]; rfl, ?_⟩
          rw [tk]
          exact PrP.snoc (kt _ _ _ gL4 _ _ eT1) (kt _ _ _ gL4 _ _ eT2) (pp.mo fun q xs z => kt _ _ _ gL4 _ _ (s4 _ _ (s3 _ _ z)))
        · rintro G1 ⟨s1, as, kvs, gL, pp⟩
          rw [List.length_map, List.take_length] at pp
          refine ⟨L, as, kvs, rfl, SqL.of gL, pp.pairs, fun p np => ?_⟩
          rw [pp.kps.merge ok.nd]
          have s5 := Same.new (o := .dK kvs) (Same.refl G1) np
          exact k _ _ (((sG.trans sT).trans s1).trans s5) ⟨p, kvs, rfl, upd_same, pp.kps.mo fun q t b z => s5 _ _ z⟩ fun ps' z => by cases z; exact ok
      | inl n =>
        refine ⟨rfl, _, rfl, .inl ⟨l, rfl, ln, lw, grd_inl e fun G dd sG nd ed => ?_⟩⟩
        refine ⟨true, V_.mS, fun _ e na => ?_, fun z => Bool.noConfusion z⟩
        have s3 := Same.new (o := exT e (.ref BT) (some dd)) sG na
        have e1 : upd G e (exT e (.ref BT) (some dd)) e = some (exT e (.ref BT) (some dd)) := upd_same
        have e2 := kpN (o := exT e (.ref BT) (some dd)) ed na
        generalize upd G e (exT e (.ref BT) (some dd)) = G3 at s3 e1 e2 ⊢
        refine ⟨fun h => by simp at h, fun _ => ?_⟩
        refine ⟨e, BT, some dd, _, _, true, rfl, e1, fun _ z => ⟨_, by cases z; exact e2⟩, V_.ex, (fun u r => r), V_.tT, ⟨fun h => absurd h (by decide), fun _ => ?_⟩⟩
        refine ⟨e, BT, some dd, _, _, true, rfl, e1, fun _ z => ⟨_, by cases z; exact e2⟩, V_.ex, (fun u r => r), V_.tI, ⟨fun h => absurd h (by decide), fun _ => ?_⟩⟩
        refine ⟨e, BT, dd, _, _, rfl, e1, e2, V_.ex, V_.nl, rfl, 0, rfl, by decide, ⟨fun h => absurd h (by decide +kernel), fun _ => ?_⟩⟩
        exact ⟨e, BT, dd, _, _, rfl, e1, e2, V_.ex, V_.nw, rfl, k _ _ s3 rfl (fun ps z => nomatch z)⟩
    · refine ⟨rfl, _, rfl, .inr ⟨⟨t, ty, kt⟩, fun G dd sG nd ed => ?_⟩⟩
      refine ⟨true, V_.mS, fun _ e na => ?_, fun z => Bool.noConfusion z⟩
      have s3 := Same.new (o := exT e (.ref BT) (some dd)) sG na
      have e1 : upd G e (exT e (.ref BT) (some dd)) e = some (exT e (.ref BT) (some dd)) := upd_same
      have e2 := kpN (o := exT e (.ref BT) (some dd)) ed na
      generalize upd G e (exT e (.ref BT) (some dd)) = G3 at s3 e1 e2 ⊢
      refine ⟨fun h => by simp at h, fun _ => ?_⟩
      refine ⟨e, BT, some dd, _, _, true, rfl, e1, fun _ z => ⟨_, by cases z; exact e2⟩, V_.ex, (fun u r => r), V_.tT, ⟨fun h => absurd h (by decide), fun _ => ?_⟩⟩
      refine ⟨e, BT, some dd, _, _, true, rfl, e1, fun _ z => ⟨_, by cases z; exact e2⟩, V_.ex, (fun u r => r), V_.tI, ⟨fun h => absurd h (by decide), fun _ => ?_⟩⟩
      refine ⟨e, BT, dd, _, _, rfl, e1, e2, V_.ex, V_.nl, rfl, 0, rfl, by decide, ⟨fun h => absurd h (by decide +kernel), fun _ => ?_⟩⟩
      exact ⟨e, BT, dd, _, _, rfl, e1, e2, V_.ex, V_.nw, rfl, k _ _ s3 rfl (fun ps z => nomatch z)⟩

end
end LW
set_option Elab.async false
set_option linter.all false
set_option maxRecDepth 100000
set_option maxHeartbeats 2000000
namespace HX
open PySem PySem.Spec PyProof.Rows L2

/-! ### a text turned round: x[::-1] -/
def tRevS (te : TE) : TE := fun σ H Q => te σ H fun x H1 => ∃ l : List Nat, x = .str (ofL l) ∧ l.length ≤ sizeLine ∧ Q (.str (ofL l.reverse)) H1
theorem rev_pick (l : List Nat) : (⟨((Builtin.Str.strSliceIndices none none (-1) (ofL l).length).filterMap ((ofL l).cps[·]?)).toArray⟩ : Str) = ofL l.reverse := by
  refine StrLaws.mk_of_toList ?_
  rw [picked_rev, List.toList_toArray, filterMap_get, List.map_map]
  · refine List.ext_getElem? fun i => ?_
    rw [ofL_len, List.getElem?_map]
    rcases Nat.lt_or_ge i l.length with h | h
    · rw [List.getElem?_range h, List.getElem?_reverse h]
      show some ((ofL l).cps.getD (l.length - 1 - i) 0) = _
      have h2 : l.length - 1 - i < l.length := by omega
      rw [List.getElem?_eq_getElem h2]
      simp [ofL, Array.getD, h2]
    · rw [List.getElem?_eq_none (by rw [List.length_range]; exact h), List.getElem?_eq_none (by rw [List.length_reverse]; exact h)]
      rfl
  · intro i hi
    obtain ⟨k, hk, rfl⟩ := List.mem_map.mp hi
    have hk' : k < (ofL l).length := List.mem_range.mp hk
    show (ofL l).length - 1 - k < (ofL l).length
    omega
section
variable {X : Cx}
theorem pe_revS {e : Expr} {te : TE} {k : Nat} {p1 p2 p3 pos : Pos} (he : PE X e te) : PE X (.Subscript e (.Slice none none (some (.UnaryOp .USub (.Constant (.int 1) k p1) p2)) p3) pos) (tRevS te) := by
  refine ⟨fun pins s σ H Q I h => ?_⟩
  refine Subscript_ (thn (he.run pins s σ H _ I h) fun v s1 ⟨x, H1, I1, r1, q1⟩ => ?_)
  obtain ⟨l, ex, hz, q⟩ := q1
  subst ex
  obtain ⟨t, rfl⟩ := r1
  have hst : PO X (some (.UnaryOp .USub (.Constant (.int 1) k p1) p2)) (tPart (tUn (rU fun i => .int (-i)) (tC (.int 1)))) := po_some (pe_un un_neg pe_int)
  refine wpAny_Slice (thn (po_none.run pins s1 σ H1 (fun o H2 => o = none ∧ H2 = H1) I1 ⟨rfl, rfl⟩) fun vl s2 ⟨l1, H2, I2, pl, el, e2⟩ => ?_)
  subst el e2
  refine thn (po_none.run pins s2 σ H2 (fun o H3 => o = none ∧ H3 = H2) I2 ⟨rfl, rfl⟩) fun vu s3 ⟨u, H3, I3, pu, eu, e3⟩ => ?_
  subst eu e3
  refine thn (hst.run pins s3 σ H3 (fun o H4 => o = some (-1) ∧ H4 = H3) I3 ⟨1, rfl, -1, rfl, rfl, rfl⟩) fun vs s4 ⟨o, H4, I4, ps, eo, e4⟩ => ?_
  subst eo e4
  have I5 : Inv X pins σ H4 { s4 with heap := s4.heap.push { cls := .type "slice", data := .fields #[vl, vu, vs] } } := I4.kept (t' := s4.toks) fun b ob q => Heap.get?_push_of_some _ q
  show wpAny (model X.prog X.w) X.A (subscriptTail e (.Slice none none (some (.UnaryOp .USub (.Constant (.int 1) k p1) p2)) p3) (.str (ofL l) t) (.ref s4.heap.objs.size)) (EP X pins σ Q) X.xe { s4 with heap := s4.heap.push { cls := .type "slice", data := .fields #[vl, vu, vs] } }
  obtain ⟨lo, rfl, elo⟩ := IsPart.raw pl
  obtain ⟨up, rfl, eup⟩ := IsPart.raw pu
  obtain ⟨stp, rfl, est⟩ := IsPart.raw ps
  refine tail_any (ops := [.str (ofL l) t, .ref s4.heap.objs.size]) (typeIs_str _ _ _) F.slot_str_getitem.lookup ?_ (by with_unfolding_all rfl)
  refine wpAny_getItem_str_slice (l := lo) (u := up) (st := stp) ⟨_, Heap.get?_push_size _ rfl, rfl, rfl⟩ (by rw [est]; rfl) ?_
  have e1 : lo = none := by cases lo with | none => rfl | some z => cases elo
  have e2 : up = none := by cases up with | none => rfl | some z => cases eup
  subst e1 e2
  obtain ⟨tk, e3⟩ : ∃ tk, stp = some ((-1 : Int), tk) := by
    cases stp with
    | none => cases est
    | some z =>
      obtain ⟨i, tk⟩ := z
      cases est
      exact ⟨tk, rfl⟩
  subst e3
  show Made.post (Made.str ⟨((Builtin.Str.strSliceIndices none none (-1) (ofL l).length).filterMap ((ofL l).cps[·]?)).toArray⟩) (EP X pins σ Q) _
  rw [rev_pick]
  exact ⟨by rw [ofL_len, List.length_reverse]; exact hz, .str _, H4, I5.tok _, ⟨_, rfl⟩, q⟩
end
end HX

set_option Elab.async false
set_option linter.all false
set_option maxRecDepth 100000
set_option maxHeartbeats 2000000
namespace HX
open PySem PySem.Spec PyProof.Rows L2

/-! ### a sign, many times -/
def rRepS : L2.R2 := fun x y H Q => ∃ (c : Nat) (k : Int), x = .str (ofL [c]) ∧ y = .int k ∧ 2 ≤ k ∧ k ≤ 1000 ∧ Q (.str (ofL (List.replicate k.toNat c))) H
theorem fold_rep (c : Nat) : ∀ (m : Nat) (acc : Array Nat), ((List.replicate m (#[c] : Array Nat)).foldl (· ++ ·) acc).toList = acc.toList ++ List.replicate m c
  | 0, acc => by simp
  | m + 1, acc => by
    rw [List.replicate_succ, List.foldl_cons, fold_rep c m, List.replicate_succ]
    simp
theorem op_repS {X : Cx} : OpR X (binaryOp .Mult) rRepS := by
  intro pins s σ H x y v u Q I rx ry h
  obtain ⟨c, k, rfl, rfl, h1, h2, q⟩ := h
  obtain ⟨t, rfl⟩ := rx
  obtain ⟨t2, rfl⟩ := ry
  have l1 : (ofL [c]).length = 1 := rfl
  have e : (⟨(List.replicate k.toNat (ofL [c]).cps).foldl (· ++ ·) #[]⟩ : Str) = ofL (List.replicate k.toNat c) := by
    refine StrLaws.mk_of_toList ?_
    show ((List.replicate k.toNat (#[c] : Array Nat)).foldl (· ++ ·) #[]).toList = _
    rw [fold_rep]
    simp
  refine P.mul_str (by rw [decide_eq_false (by omega), decide_eq_false (by omega)]; rfl) (fun _ _ => ?_) (fun _ _ => ?_) ?_
  · rw [l1]
    have : (1 : Int) ≤ (2 ^ 63 - 1) / k := by
      have h3 : (2 ^ 63 - 1) / k ≥ (2 ^ 63 - 1) / 1000 := by
        refine (Int.le_ediv_iff_mul_le (by omega)).mpr ?_
        have h4 : ((2 : Int) ^ 63 - 1) / 1000 = 9223372036854775 := by decide +kernel
        rw [h4]
        have : (9223372036854775 : Int) * k ≤ 9223372036854775 * 1000 := Int.mul_le_mul_of_nonneg_left h2 (by decide)
        omega
      have h4 : ((2 : Int) ^ 63 - 1) / 1000 = 9223372036854775 := by decide +kernel
      omega
    omega
  · rw [l1]
    unfold Builtin.Str.tooLong
    exact decide_eq_false (by rw [sizeLine_eq]; omega)
  · rw [if_neg (by omega), if_neg (by rw [l1]; simp; omega), e]
    exact ⟨by rw [ofL_len, List.length_replicate, sizeLine_eq]; omega, .str _, H, I.tok _, ⟨_, rfl⟩, q⟩
end HX

set_option Elab.async false
set_option linter.all false
set_option maxRecDepth 100000
set_option maxHeartbeats 2000000
namespace HX
open PySem PySem.Spec PyProof.Rows L2
/-! ### slices of lists from an end -/
theorem cutV_to {xs : List V} {i : Int} (h : 0 ≤ i) : cutV xs none (some i) = xs.take i.toNat := by
  have e : HT.sIx xs.length xs.length (some i) = min i.toNat xs.length := if_neg (by omega)
  unfold cutV
  rw [e, HT.sIx_none, Nat.sub_zero, List.drop_zero]
  by_cases z : i.toNat ≤ xs.length
  · rw [Nat.min_eq_left z]
  · rw [Nat.min_eq_right (by omega), List.take_length, List.take_of_length_le (by omega)]
theorem cutV_from {xs : List V} {i : Int} (h : 0 ≤ i) : cutV xs (some i) none = xs.drop i.toNat := by
  have e : HT.sIx xs.length 0 (some i) = min i.toNat xs.length := if_neg (by omega)
  unfold cutV
  rw [e, HT.sIx_none]
  by_cases z : i.toNat ≤ xs.length
  · rw [Nat.min_eq_left z]
    exact List.take_of_length_le (by rw [List.length_drop]; omega)
  · rw [Nat.min_eq_right (by omega), List.drop_eq_nil_of_le (Nat.le_refl _), List.drop_eq_nil_of_le (by omega), List.take_nil]
theorem sumTD (ws : List (List Nat)) (n : Nat) : ((ws.take n).map (·.length)).sum + ((ws.drop n).map (·.length)).sum = (ws.map (·.length)).sum := by
  rw [← List.sum_append, ← List.map_append, List.take_append_drop]
theorem sumD1 (ws : List (List Nat)) (n : Nat) : ((ws.drop (n + 1)).map (·.length)).sum ≤ ((ws.drop n).map (·.length)).sum := by
  have := sumTD (ws.drop n) 1
  rw [List.drop_drop] at this
  omega
theorem cntTD (l : List Nat) (n : Nat) : (l.take n).count 32 + (l.drop n).count 32 = l.count 32 := by
  rw [← List.count_append, List.take_append_drop]
theorem cntD1 (l : List Nat) (n : Nat) : (l.drop (n + 1)).count 32 ≤ (l.drop n).count 32 := by
  have := cntTD (l.drop n) 1
  rw [List.drop_drop] at this
  omega
end HX

set_option Elab.async false
set_option linter.all false
set_option maxRecDepth 100000
set_option maxHeartbeats 4000000
namespace LW
open PySem PySem.Spec PyProof.Rows L2 HX NumText
section
variable {P : Program} {w : World} {K : PySem.W.Frag} {mg : Str → Option Value} {base : Heap}

def SmV (G : Hp) (v : V) : Nat ⊕ List (List Nat × Int × Int) → Prop
  | .inl n => v = .int (n : Int)
  | .inr ps => ∃ (L : Addr) (as : List Addr) (kvs : List (Key × V)) (rs : List (List Nat × Int × Int)), v = .ref L ∧ G L = some (.lst (as.map V.ref)) ∧ PrP G as kvs rs ∧ rs.Perm ps ∧ sortedS (rs.map fun p => ofL p.1) = true
def spSame : Sp := fun vs H Q _ => ∃ (v : V) (o : Nat ⊕ List (List Nat × Int × Int)), vs = [v] ∧ DueV H v o ∧ (∀ ps, o = .inr ps → (ps.map (·.1)).Nodup ∧ ps.length < 64) ∧ ∀ v' G, Same H G → SmV G v' o → Q v' G
theorem ok_same {f : Addr} {fd : FuncData} (F : Fun K "_law_same" "_law_same" s__law_same f fd) (T : Txt K mg) (T2 : Txt2 mg) (hso : mg "sorted" = none) (hdi : mg "dict" = none) : FnOk P w K mg base CX0 1 f fd ["_law_told"] spSame := by
  refine F.ok sc__law_same (fun vs H Q E h => ?_) (fun cdv A' outer s H vs Q E hr h => ?_)
  · obtain ⟨v, o, rfl, _⟩ := h
    rfl
  · obtain ⟨v, o, rfl, dv, wf, k⟩ := h
    refine ⟨_, (pss_cons (s_if (pt_not (t_val (pe_callB c_isi (by rfl) T.b_isinstance (by decide +kernel) (pa_cons (pc 0) (pa_cons (pe_bltn (v := .ty "dict") (u := .type "dict") (by rfl) hdi (by decide +kernel) rfl) pa_nil))))) (pss_one (ps_ret (pc 0))) pss_nil)
    (pss_one (ps_ret (pe_lc (own := [("_law_name", 1)]) (g := gName 1) (tt := tYes) rfl sc__law_same.nd (pi_list (pe_callB cr_sortedS (by rfl) hso (by decide +kernel) (pa_cons (pe_lock (pe_lc (own := [("_law_one", 2)]) (g := gName 2) (tt := tYes) rfl sc__law_same.nd (pi_keys (pc 0)) (blkOk_by (own := [("_law_one", 2)]) (N := n__law_same) (sc := defScope s__law_same) (by decide +kernel)) (fun _ _ _ _ _ => pg_name (i := 2) sc__law_same.nd rfl (Or.inl rfl)) (fun _ _ _ _ _ => pts_nil) (fun _ _ _ _ _ => (pe_callTy SkE.call_str_str (by rfl) T2.b_str (by decide +kernel) (pa_cons (pc 2) pa_nil))))) pa_nil))) (blkOk_by (own := [("_law_name", 1)]) (N := n__law_same) (sc := defScope s__law_same) (by decide +kernel)) (fun _ _ _ _ _ => pg_name (i := 1) sc__law_same.nd rfl (Or.inl rfl)) (fun _ _ _ _ _ => pts_nil) (fun _ _ _ _ _ => (pe_tup (pa_cons (pc 1) (pa_cons (pe_dget (Nat.lt_of_le_of_lt (Nat.add_le_add_left (by decide : 1 ≤ 64) _) hr.units) (pc 0) (pc 1) (by exact fun _ _ => rfl)) pa_nil)))))))), ?_⟩
    cases o with
    | inl n =>
      have dv : v = .int (n : Int) := dv
      subst dv
      exact ⟨_, _, _, _, false, rfl, .int _, (fun u r => r), kit_ty (by show kitB _ _ = some false; decide +kernel), ⟨fun _ => k _ H (Same.refl H) rfl, fun h => absurd h (by decide)⟩⟩
    | inr ps =>
      obtain ⟨p, kvs, rfl, hp, kp⟩ := dv
      obtain ⟨nd, l64⟩ := wf ps rfl
      have kl := kp.len
      refine ⟨_, _, _, _, true, rfl, .dK hp, (fun u r => r), kit_ty (by show kitB _ _ = some true; decide +kernel), ⟨fun h => absurd h (by decide), fun _ => ?_⟩⟩
      refine ⟨p, .dK kvs, hp, trivial, fun od => ⟨p, od, rfl, .inl ⟨kvs, upd_same, fun D nD => lc_it walk_keys
        (fun i G => Same (upd H p (.frz od (.dK kvs))) G ∧ G D = some (.lst ((ps.take i).map fun q => .str (ofL q.1)))) ⟨Same.new (Same.refl _) nD, upd_same⟩ (fun i G _ z => z.1 _ _ upd_same) ?_ ?_⟩⟩⟩
      · rintro i x G G' hi ⟨s1, gD⟩ ⟨rfl, ky, v, e, rfl⟩
        obtain ⟨n, t, b, e2, rfl⟩ := kp.at_ i ky v e
        exact ⟨rfl, ofL n, rfl, _, gD, by rw [List.length_map, List.length_take, sizeLine_eq]; omega, Same.mut s1 nD, by rw [upd_same, List.take_add_one, e2, List.map_append]; rfl⟩
      · rintro G ⟨s1, gD⟩
        have pD : D ≠ p := fun z => by rw [z, upd_same] at nD; cases nD
        rw [kl, List.take_length] at gD
        have gp := s1 _ _ upd_same
        have s2 : Same H (upd G p (.dK kvs)) := fun b o z => by
          by_cases bp : b = p
          · rw [bp] at z ⊢
            rw [hp] at z
            cases z
            exact upd_same
          · rw [upd_ne bp]
            exact s1 _ _ (by rw [upd_ne bp]; exact z)
        have gD2 : upd G p (.dK kvs) D = some (.lst (ps.map fun q => .str (ofL q.1))) := by rw [upd_ne pD]; exact gD
        refine ⟨gp, ?_⟩
        generalize upd G p (.dK kvs) = H2 at s2 gD2
        refine ⟨D, ps.map fun q => ofL q.1, rfl, SqL.of (by rw [List.map_map]; exact gD2), by rw [List.length_map]; exact l64, fun ys pS perm srt nS => ?_⟩
        obtain ⟨qs, q1, rfl⟩ := perm_lift (fun q : List Nat × Int × Int => ofL q.1) perm.symm ps rfl
        have s3 := s2.trans (Same.new (o := .lst ((qs.map fun q => ofL q.1).map V.str)) (Same.refl H2) nS)
        have hp3 := s3 _ _ hp
        have kp3 := kp.mo (fun q t b z => s3 _ _ z)
        have hS : upd H2 pS (.lst ((qs.map fun q => ofL q.1).map V.str)) pS = some (.lst ((qs.map fun q => ofL q.1).map V.str)) := upd_same
        generalize upd H2 pS (.lst ((qs.map fun q => ofL q.1).map V.str)) = H3 at s3 hp3 kp3 hS
        refine ⟨pS, rfl, ⟨_, SqL.of hS⟩, fun D2 nD2 => lc_it walk_list (fun i G => Same H3 G ∧ ∃ as kws, G D2 = some (.lst (as.map V.ref)) ∧ PrP G as kws (qs.take i)) ⟨Same.new (Same.refl _) nD2, [], [], upd_same, .nil⟩ (fun i G _ z => SqL.of (z.1 _ _ hS)) ?_ ?_⟩
        · rintro i x G G' hi ⟨s4, as, kws, gL, pp⟩ ⟨rfl, e⟩
          rw [List.length_map, List.length_map] at hi
          have eq : qs[i]? = some qs[i] := List.getElem?_eq_getElem hi
          have qm : qs[i] ∈ ps := q1.mem_iff.mp (List.getElem_mem hi)
          rw [List.getElem?_map, List.getElem?_map, eq] at e
          have tk : qs.take (i + 1) = qs.take i ++ [qs[i]] := by rw [List.take_add_one, eq]; rfl
          generalize qs[i] = g at eq qm e tk
          obtain ⟨n, t, b⟩ := g
          obtain rfl : V.str (ofL n) = x := Option.some.inj e
          obtain ⟨r, v1, tp⟩ := kp3.get nd qm
          have dg : DGet G' p (.str (ofL n)) (some (.ref r)) := by have := DGet.k (k := .inr (ofL n)) (s4 _ _ hp3); rwa [v1] at this
          refine ⟨rfl, p, .ref r, rfl, dg, by show 2 ≤ sizeLine; decide, fun T1 n1 => ?_⟩
          have s5 := Same.new (o := .tup [.str (ofL n), .ref r]) (Same.refl G') n1
          have gL5 := s5 _ _ gL
          have eT1 : upd G' T1 (.tup [.str (ofL n), .ref r]) T1 = some (.tup [.str (ofL n), .ref r]) := upd_same
          have pl := pp.len
          have ql := q1.length_eq
          have kt : ∀ (G5 : Hp) (o : HO) (as' : List V), G5 D2 = some (.lst as') → ∀ q xs, G5 q = some (.tup xs) → upd G5 D2 o q = some (.tup xs) := fun G5 o as' e q xs z => by rw [upd_ne (fun y => by rw [y, e] at z; cases z)]; exact z
          refine ⟨_, gL5, by rw [List.length_map, pl, List.length_take, sizeLine_eq]; omega, Same.mut (s4.trans s5) nD2, as ++ [T1], kws ++ [(.inr (ofL n), .ref r)], by rw [upd_same, List.map_append]; rfl, ?_⟩
          rw [tk]
          exact PrP.snoc (kt _ _ _ gL5 _ _ eT1) (kt _ _ _ gL5 _ _ (s5 _ _ (s4 _ _ tp))) (pp.mo fun q xs z => kt _ _ _ gL5 _ _ (s5 _ _ z))
        · rintro G ⟨s4, as, kws, gL, pp⟩
          rw [List.length_map, List.length_map, List.take_length] at pp
          exact k _ G (s3.trans s4) ⟨D2, as, kws, qs, rfl, gL, pp, q1, srt⟩

theorem sameN {G : Hp} {p : Addr} {o : HO} (m : G p = none) : Same G (upd G p o) := Same.new (Same.refl G) m
/-- a word to be put in -/
def Wd (v : V) : Prop := ∃ l : List Nat, v = .str (ofL l) ∧ l.length ≤ 202 ∧ 32 ∉ l ∧ ∀ c ∈ l, c < 128
theorem wd_of {x : Str} (h : x.cps.toList.length ≤ 202) (h2 : 32 ∉ x.cps.toList) (h3 : ∀ c ∈ x.cps.toList, c < 128) : Wd (.str x) := ⟨_, congrArg V.str (ofL_of x).symm, h, h2, h3⟩
theorem wd_rep {c n : Nat} (h : n ≤ 202) (h2 : c ≠ 32) (h3 : c < 128) : Wd (.str (ofL (List.replicate n c))) := ⟨_, rfl, by rw [List.length_replicate]; exact h, fun z => h2 (List.mem_replicate.mp z).2.symm, fun x hx => by rw [(List.mem_replicate.mp hx).2]; exact h3⟩
def Bt (l : List Nat) (N M : Nat) : Prop := l.length ≤ N ∧ (wds l).length ≤ M ∧ ∀ c ∈ l, c < 128
def spBent : Sp := fun vs H Q _ => ∃ (p k0 : Addr) (c : Int) (l : List Nat), vs = [.ref p, .str (ofL l)] ∧ Pe H p k0 c ∧ c < 999000 ∧ l.length ≤ 40000 ∧ (wds l).length ≤ 1000 ∧ (∀ c ∈ l, c < 128) ∧ ∀ (l2 : List Nat) (G : Hp), Bt l2 (2 * l.length + 300) (2 * (wds l).length) → Kp p H G → Pe G p k0 (c + 5) → Q (.str (ofL l2)) G
theorem ok_bent {f : Addr} {fd : FuncData} (F : Fun K "_law_bent" "_law_bent" s__law_bent f fd) (T : Txt K mg) (T2 : Txt2 mg) (cD : CalO P w K mg base "_law_draw" 1 ["_law_pen_here", "_law_many"] spDraw (fun _ => True)) (cP : CalO P w K mg base "_law_pick" 2 ["_law_pen_here", "_law_some"] (spPick K) (fun _ => True)) : FnOk P w K mg base CX0 3 f fd ["_law_pen_here", "_law_told_text"] spBent := by
  refine F.ok sc__law_bent (fun vs H Q E h => ?_) (fun cdv A' outer s H vs Q E hr h => ?_)
  · obtain ⟨p, k0, c, l, rfl, _⟩ := h
    rfl
  · obtain ⟨p, k0, c, l, rfl, Pp, hc, ln, lw, lc, k⟩ := h
    refine ⟨_, (pss_cons (ps_par (i := 2) (j := 3) (by rfl) sc__law_bent.nd rfl rfl (by decide) rfl rfl (pa_cons (pe_split (pc 1) pe_str) (pa_cons (pe_cO cD (hr.mono (by decide)) (pa_cons (pc 0) (pa_cons pe_int pa_nil))) pa_nil)) (by rfl))
    (pss_cons (ps_par (i := 4) (j := 5) (by rfl) sc__law_bent.nd rfl rfl (by decide) rfl rfl (pa_cons (pe_cO cD (hr.mono (by decide)) (pa_cons (pc 0) (pa_cons (pe_callB c_len (by rfl) T.b_len (by decide +kernel) (pa_cons (pc 2) pa_nil)) pa_nil))) (pa_cons (pe_cO cD (hr.mono (by decide)) (pa_cons (pc 0) (pa_cons (pe_op o_add (pe_callB c_len (by rfl) T.b_len (by decide +kernel) (pa_cons (pc 1) pa_nil)) pe_int) pa_nil))) pa_nil)) (by rfl))
    (pss_cons (ps_set (i := 6) sc__law_bent.nd rfl (Or.inl rfl) (pe_lst (pa_cons pe_str (pa_cons pe_str (pa_cons pe_str (pa_cons pe_str (pa_cons pe_str (pa_cons pe_str (pa_cons pe_str (pa_cons pe_str (pa_cons pe_str (pa_cons pe_str (pa_cons pe_str (pa_cons pe_str (pa_cons pe_str (pa_cons pe_str (pa_cons pe_str (pa_cons pe_str pa_nil))))))))))))))))))
    (pss_cons (ps_set (i := 7) sc__law_bent.nd rfl (Or.inl rfl) (pe_cO cP (hr.mono (by decide)) (pa_cons (pc 0) (pa_cons (pe_op op_cat (pc 6) (pe_lst (pa_cons pe_str (pa_cons pe_str (pa_cons (pe_op HX.op_repS pe_str pe_int) (pa_cons (pe_op HX.op_repS pe_str pe_int) (pa_cons (pe_op HX.op_repS pe_str pe_int) (pa_cons (pe_op o_add pe_str (pe_op HX.op_repS pe_str pe_int)) pa_nil)))))))) pa_nil))))
    (pss_cons (s_if (t_cmp (o_eq hr.units) (pc 3) pe_int) (pss_one (ps_ret (pe_join pe_str (pe_op op_cat (pe_slice sl_list (pc 2) po_none (po_some (pc 4))) (pe_slice sl_list (pc 2) (po_some (pe_op o_add (pc 4) pe_int)) po_none))))) pss_nil)
    (pss_cons (s_if (t_cmp (o_eq hr.units) (pc 3) pe_int) (pss_one (ps_ret (pe_join pe_str (pe_op op_cat (pe_op op_cat (pe_slice sl_list (pc 2) po_none (po_some (pc 4))) (pe_lst (pa_cons (pc 7) pa_nil))) (pe_slice sl_list (pc 2) (po_some (pc 4)) po_none))))) pss_nil)
    (pss_cons (s_if (t_cmp o_lt (pc 3) pe_int) (pss_one (ps_ret (pe_join pe_str (pe_op op_cat (pe_op op_cat (pe_slice sl_list (pc 2) po_none (po_some (pc 4))) (pe_lst (pa_cons (pc 7) pa_nil))) (pe_slice sl_list (pc 2) (po_some (pe_op o_add (pc 4) pe_int)) po_none))))) pss_nil)
    (pss_cons (s_if (t_cmp (o_eq hr.units) (pc 3) pe_int) (pss_one (ps_ret (pe_join pe_str (pe_op op_cat (pe_slice sl_list (pc 2) (po_some (pc 4)) po_none) (pe_slice sl_list (pc 2) po_none (po_some (pc 4))))))) pss_nil)
    (pss_cons (s_if (t_cmp (o_eq hr.units) (pc 3) pe_int) (pss_one (ps_ret (pe_op o_add (pe_op o_add (pe_slice C8.sl_txt (pc 1) po_none (po_some (pc 5))) (pe_cO cP (hr.mono (by decide)) (pa_cons (pc 0) (pa_cons (pe_lst (pa_cons pe_str (pa_cons pe_str (pa_cons pe_str (pa_cons pe_str (pa_cons pe_str (pa_cons pe_str (pa_cons pe_str pa_nil)))))))) pa_nil)))) (pe_slice C8.sl_txt (pc 1) (po_some (pc 5)) po_none)))) pss_nil)
    (pss_one (ps_ret (e_if (t_cmp (o_eq hr.units) (pc 3) pe_int) (pe_op o_add (pe_slice C8.sl_txt (pc 1) po_none (po_some (pc 5))) (pe_slice C8.sl_txt (pc 1) (po_some (pe_op o_add (pc 5) pe_int)) po_none)) (pe_op o_add (pe_op o_add (pc 1) pe_str) (pc 1)))))))))))))), ?_⟩
    have ll := ofL_len l
    have ln' : (ofL l).length ≤ sizeLine := by rw [ofL_len, sizeLine_eq]; omega
    have big := size_line_big
    refine ⟨⟨_, rfl⟩, _, _, rfl, rfl, by decide +kernel, by rw [ofL_len, sizeLine_eq]; omega, fun W nW => ?_⟩
    rw [wds_is]
    have gW0 : upd H W (.lst (((wds l).map ofL).map V.str)) W = some (.lst ((wds l).map fun w => .str (ofL w))) := by rw [upd_same, List.map_map]; rfl
    have w1 := (wds_len l).1
    refine ⟨p, k0, c, 8, rfl, Pp.new nW, by decide, by decide, by omega, fun y G1 y0 y1 k1 P1 => ⟨_, _, rfl, ?_⟩⟩
    have Wp : W ≠ p := Pp.ne nW
    have gW1 := k1 _ _ Wp gW0
    refine ⟨_, .inl (SqL.of gW1), p, k0, _, _, rfl, P1, by rw [List.length_map]; omega, by rw [List.length_map]; omega, by omega, fun a G2 a0 a1 k2 P2 => ?_⟩
    rw [List.length_map] at a1
    have gW2 := k2 _ _ Wp gW1
    refine ⟨ln', p, k0, _, _, rfl, P2, by rw [ll]; omega, by rw [ll]; omega, by omega, fun sp G3 s0 s1 k3 P3 => ⟨_, _, rfl, by show 16 ≤ sizeLine; decide, fun q1 n1 => ?_⟩⟩
    rw [ll] at s1
    have gW3 := k3 _ _ Wp gW2
    have c9 : (Str.ofString "9") = ofL [57] := by decide +kernel
    have c0 : (Str.ofString "0") = ofL [48] := by decide +kernel
    have c1 : (Str.ofString "1/1") = ofL [49, 47, 49] := by decide +kernel
    refine ⟨57, 60, congrArg V.str c9, rfl, by decide, by decide, 57, 200, congrArg V.str c9, rfl, by decide, by decide, 57, 201, congrArg V.str c9, rfl, by decide, by decide, 48, 199, congrArg V.str c0, rfl, by decide, by decide, ?_⟩
    refine ⟨by rw [c1, ofL_len, ofL_len, List.length_replicate, sizeLine_eq]; decide, by show 6 ≤ sizeLine; decide, fun q2 n2 => ⟨q1, q2, _, _, rfl, rfl, kpN upd_same n2, upd_same, by show 16 + 6 ≤ sizeLine; decide, fun q3 n3 => ?_⟩⟩
    refine ⟨p, k0, _, .ref q3, rfl, ((P3.new n1).new n2).new n3, by omega, .inr ⟨q3, _, rfl, ((P3.new n1).new n2).ne n3, .inl (SqL.of upd_same), by show 0 < 22; decide, by show 22 ≤ 1000000; decide, fun v G4 hv k4 P4 => ?_⟩⟩
    obtain ⟨u, rfl, ul, un, uc⟩ : Wd v := by
      rw [c1, ofL_app] at hv
      simp only [List.mem_append, List.mem_cons, List.not_mem_nil, or_false] at hv
      rcases hv with (rfl | rfl | rfl | rfl | rfl | rfl | rfl | rfl | rfl | rfl | rfl | rfl | rfl | rfl | rfl | rfl) | (rfl | rfl | rfl | rfl | rfl | rfl)
      any_goals exact wd_of (by decide +kernel) (by decide +kernel) (by decide +kernel)
    have gW4 := k4 _ _ Wp (kpN (kpN (kpN gW3 n1) n2) n3)
    have kA : Kp p H G4 := ((((((Kp.refl.new nW).trans k1).trans k2).trans k3).trans (Kp.refl.new n1)).trans ((Kp.refl.new n2).trans (Kp.refl.new n3))).trans k4
    have fin : ∀ (l2 : List Nat) (G : Hp), Bt l2 (2 * l.length + 300) (2 * (wds l).length) → Same G4 G → Q (.str (ofL l2)) G := fun l2 G h1 s => k l2 G h1 (kA.trans (Kp.same s)) ((P4.same s).mono (by omega))
    have ws0 := wds_sum l
    have wc0 := wds_count l
    have fj : ∀ (ws : List (List Nat)) (G : Hp) (L : Addr) (xs : List V), Same G4 G → G L = some (.lst xs) → xs = ws.map (fun w => V.str (ofL w)) → (∀ w ∈ ws, w ∈ wds l ∨ w = u) → (ws.map (·.length)).sum ≤ ((wds l).map (·.length)).sum + 202 → (ws.length + 1 ≤ (wds l).length ∨ (ws ≠ [] ∧ ws.length ≤ (wds l).length + 1)) →
        ∃ (a : Str) (p : Addr) (ys : List Str), V.str (Str.ofString " ") = V.str a ∧ [V.ref L] = [V.ref p] ∧ (SqL K G p (ys.map V.str) ∨ SqT K G p (ys.map V.str)) ∧ ((ys.map (·.length)).sum + ys.length * a.length ≤ 16777216) ∧ Q (.str (Txt.join a ys)) G := fun ws G L xs s e ex mem sm cnt => by
      have jl := (jn_len ws).1
      have e32 : ∀ w ∈ ws, 32 ∉ w := fun w hw => (mem w hw).elim (fun z => wds_no z) (fun z => by rw [z]; exact un)
      have len_ : ((ws.map ofL).map (·.length)) = ws.map (·.length) := by rw [List.map_map]; exact List.map_congr_left fun w _ => ofL_len w
      have l1 : (Str.ofString " ").length = 1 := rfl
      subst ex
      refine ⟨_, L, ws.map ofL, rfl, rfl, .inl (SqL.of (by rw [List.map_map]; exact e)), by rw [len_, l1, List.length_map]; omega, ?_⟩
      rw [jn_txt]
      refine fin _ G ⟨by omega, ?_, fun c hc => ?_⟩ s
      · have wl := wds_jn_len e32
        rcases cnt with z | ⟨ne, z⟩
        · omega
        · rw [wds_jn ne e32]
          omega
      · rcases jn_mem ws c hc with z | ⟨w, hw, z⟩
        · omega
        · rcases mem w hw with y | y
          · exact lc c ((wds_mem y).2 c z)
          · rw [y] at z
            exact uc c z
    have mT : ∀ (n : Nat) (w : List Nat), w ∈ (wds l).take n → w ∈ wds l := fun n w h => List.mem_of_mem_take h
    have mD : ∀ (n : Nat) (w : List Nat), w ∈ (wds l).drop n → w ∈ wds l := fun n w h => List.mem_of_mem_drop h
    have td := sumTD (wds l) a.toNat
    have d1 := sumD1 (wds l) a.toNat
    have ea : (a + 1).toNat = a.toNat + 1 := by omega
    have an : a.toNat < (wds l).length := by omega
    have szW : ((wds l).map fun w => V.str (ofL w)).length ≤ 1000 := by rw [List.length_map]; omega
    have cl : ∀ lo hi, (cutV ((wds l).map fun w => V.str (ofL w)) lo hi).length ≤ 1000 := fun lo hi => Nat.le_trans (cutV_length _ lo hi) szW
    have es : (sp + 1).toNat = sp.toNat + 1 := by omega
    have ct := cntTD l sp.toNat
    have cd1 := cntD1 l sp.toNat
    have e_to : Txt.slice (ofL l) none (some sp) = ofL (l.take sp.toNat) := SX.slice_to s0
    have e_fr : Txt.slice (ofL l) (some sp) none = ofL (l.drop sp.toNat) := SX.slice_from s0
    have e_f1 : Txt.slice (ofL l) (some (sp + 1)) none = ofL (l.drop (sp + 1).toNat) := SX.slice_from (by omega)
    have c_to : ∀ c ∈ l.take sp.toNat, c < 128 := fun c hc => lc c (List.mem_of_mem_take hc)
    have c_dr : ∀ n, ∀ c ∈ l.drop n, c < 128 := fun n c hc => lc c (List.mem_of_mem_drop hc)
    have l_to : (l.take sp.toNat).length ≤ l.length := by rw [List.length_take]; omega
    have l_dr : ∀ n, (l.drop n).length ≤ l.length := fun n => by rw [List.length_drop]; omega
    have l_d0 := l_dr sp.toNat
    have l_d1 := l_dr (sp + 1).toNat
    refine ⟨fun h => ?_, fun _ => ⟨fun h => ?_, fun _ => ⟨fun h => ?_, fun _ => ⟨fun h => ?_, fun _ => ⟨fun h => ?_, fun _ => ⟨fun h => ?_, fun h => ?_⟩⟩⟩⟩⟩⟩
    · refine ⟨⟨_, rfl⟩, a, rfl, W, _, rfl, SqL.of gW4, fun p1 m1 => ⟨a + 1, rfl, W, _, rfl, SqL.of (kpN gW4 m1), fun p2 m2 => ⟨p1, p2, _, _, rfl, rfl, kpN upd_same m2, upd_same, ?_, fun p3 m3 => ?_⟩⟩⟩
      · have z1 := cl  none (some a)
        have z2 := cl  (some (a + 1)) none
        rw [sizeLine_eq]
        omega
      · refine fj (((wds l).take a.toNat) ++ ((wds l).drop (a + 1).toNat)) _ p3 _ (Same.trans (sameN m1) (Same.trans (sameN m2) (sameN m3))) upd_same ?_ (fun w hw => .inl ((List.mem_append.mp hw).elim (fun z => mT _ w z) fun z => mD _ w z)) ?_ ?_
        · rw [cutV_to a0, cutV_from (by omega : (0 : Int) ≤ a + 1), List.map_append, List.map_take, List.map_drop]
        · rw [List.map_append, List.sum_append]
          try rw [ea]
          omega
        · rw [List.length_append, List.length_take, List.length_drop]
          exact .inl (by omega)
    · refine ⟨⟨_, rfl⟩, a, rfl, W, _, rfl, SqL.of gW4, fun p1 m1 => ⟨by show 1 ≤ sizeLine; decide, fun p2 m2 => ⟨p1, p2, _, _, rfl, rfl, kpN upd_same m2, upd_same, ?_, fun p3 m3 => ⟨a, rfl, W, _, rfl, SqL.of (kpN (kpN (kpN gW4 m1) m2) m3), fun p4 m4 => ⟨p3, p4, _, _, rfl, rfl, kpN upd_same m4, upd_same, ?_, fun p5 m5 => ?_⟩⟩⟩⟩⟩
      · have z1 := cl none (some a)
        rw [sizeLine_eq]
        show _ + 1 ≤ _
        omega
      · have z1 := cl none (some a)
        have z2 := cl  (some a) none
        rw [List.length_append, sizeLine_eq]
        show _ + 1 + _ ≤ _
        omega
      · refine fj (((wds l).take a.toNat) ++ [u] ++ ((wds l).drop a.toNat)) _ p5 _ (Same.trans (sameN m1) (Same.trans (sameN m2) (Same.trans (sameN m3) (Same.trans (sameN m4) (sameN m5))))) upd_same ?_ (fun w hw => (List.mem_append.mp hw).elim (fun z => (List.mem_append.mp z).elim (fun z => .inl (mT _ w z)) fun z => .inr (List.mem_singleton.mp z)) fun z => .inl (mD _ w z)) ?_ ?_
        · rw [cutV_to a0, cutV_from a0, List.map_append, List.map_append, List.map_take, List.map_drop]
          rfl
        · rw [List.map_append, List.map_append, List.sum_append, List.sum_append]
          try rw [ea]
          show _ + (u.length + 0) + _ ≤ _
          omega
        · refine .inr ⟨by simp, ?_⟩
          rw [List.length_append, List.length_append, List.length_take, List.length_drop]
          show _ + 1 + _ ≤ _
          omega
    · refine ⟨⟨_, rfl⟩, a, rfl, W, _, rfl, SqL.of gW4, fun p1 m1 => ⟨by show 1 ≤ sizeLine; decide, fun p2 m2 => ⟨p1, p2, _, _, rfl, rfl, kpN upd_same m2, upd_same, ?_, fun p3 m3 => ⟨a + 1, rfl, W, _, rfl, SqL.of (kpN (kpN (kpN gW4 m1) m2) m3), fun p4 m4 => ⟨p3, p4, _, _, rfl, rfl, kpN upd_same m4, upd_same, ?_, fun p5 m5 => ?_⟩⟩⟩⟩⟩
      · have z1 := cl none (some a)
        rw [sizeLine_eq]
        show _ + 1 ≤ _
        omega
      · have z1 := cl none (some a)
        have z2 := cl  (some (a + 1)) none
        rw [List.length_append, sizeLine_eq]
        show _ + 1 + _ ≤ _
        omega
      · refine fj (((wds l).take a.toNat) ++ [u] ++ ((wds l).drop (a + 1).toNat)) _ p5 _ (Same.trans (sameN m1) (Same.trans (sameN m2) (Same.trans (sameN m3) (Same.trans (sameN m4) (sameN m5))))) upd_same ?_ (fun w hw => (List.mem_append.mp hw).elim (fun z => (List.mem_append.mp z).elim (fun z => .inl (mT _ w z)) fun z => .inr (List.mem_singleton.mp z)) fun z => .inl (mD _ w z)) ?_ ?_
        · rw [cutV_to a0, cutV_from (by omega : (0 : Int) ≤ a + 1), List.map_append, List.map_append, List.map_take, List.map_drop]
          rfl
        · rw [List.map_append, List.map_append, List.sum_append, List.sum_append]
          try rw [ea]
          show _ + (u.length + 0) + _ ≤ _
          omega
        · refine .inr ⟨by simp, ?_⟩
          rw [List.length_append, List.length_append, List.length_take, List.length_drop]
          show _ + 1 + _ ≤ _
          omega
    · refine ⟨⟨_, rfl⟩, a, rfl, W, _, rfl, SqL.of gW4, fun p1 m1 => ⟨a, rfl, W, _, rfl, SqL.of (kpN gW4 m1), fun p2 m2 => ⟨p1, p2, _, _, rfl, rfl, kpN upd_same m2, upd_same, ?_, fun p3 m3 => ?_⟩⟩⟩
      · have z1 := cl  (some a) none
        have z2 := cl  none (some a)
        rw [sizeLine_eq]
        omega
      · refine fj (((wds l).drop a.toNat) ++ ((wds l).take a.toNat)) _ p3 _ (Same.trans (sameN m1) (Same.trans (sameN m2) (sameN m3))) upd_same ?_ (fun w hw => .inl ((List.mem_append.mp hw).elim (fun z => mD _ w z) fun z => mT _ w z)) ?_ ?_
        · rw [cutV_from a0, cutV_to a0, List.map_append, List.map_drop, List.map_take]
        · rw [List.map_append, List.sum_append]
          try rw [ea]
          omega
        · rw [List.length_append, List.length_drop, List.length_take]
          exact .inr ⟨fun z => by have := congrArg List.length z; rw [List.length_append, List.length_take, List.length_drop, List.length_nil] at this; omega, by omega⟩
    · refine ⟨sp, rfl, _, rfl, ln', by show 7 ≤ sizeLine; decide, fun q4 n4 => ⟨p, k0, _, .ref q4, rfl, P4.new n4, by omega, .inr ⟨q4, _, rfl, P4.ne n4, .inl (SqL.of upd_same), by show 0 < 7; decide, by show 7 ≤ 1000000; decide, fun v G5 hv k5 P5 => ?_⟩⟩⟩
      obtain ⟨x, rfl, xc⟩ : ∃ x : Nat, v = .str (ofL [x]) ∧ x < 128 := by
        simp only [List.mem_cons, List.not_mem_nil, or_false] at hv
        rcases hv with rfl | rfl | rfl | rfl | rfl | rfl | rfl
        · exact ⟨32, congrArg V.str (by decide +kernel), by decide⟩
        · exact ⟨45, congrArg V.str (by decide +kernel), by decide⟩
        · exact ⟨47, congrArg V.str (by decide +kernel), by decide⟩
        · exact ⟨48, congrArg V.str (by decide +kernel), by decide⟩
        · exact ⟨10, congrArg V.str (by decide +kernel), by decide⟩
        · exact ⟨97, congrArg V.str (by decide +kernel), by decide⟩
        · exact ⟨44, congrArg V.str (by decide +kernel), by decide⟩
      have kB := (kA.trans (Kp.refl.new n4)).trans k5
      rw [e_to]
      refine ⟨by rw [ofL_len, ofL_len, sizeLine_eq]; show _ + 1 ≤ _; omega, sp, rfl, _, rfl, ln', ?_⟩
      rw [e_fr, ofL_app]
      refine ⟨by rw [ofL_len, ofL_len, List.length_append, sizeLine_eq]; show _ + 1 + _ ≤ _; omega, ?_⟩
      rw [ofL_app]
      refine k _ G5 ⟨?_, ?_, ?_⟩ kB (P5.mono (by omega))
      · rw [List.length_append, List.length_append]
        show _ + 1 + _ ≤ _
        omega
      · rw [wds_count, List.count_append, List.count_append]
        have : [x].count 32 ≤ 1 := List.count_le_length
        omega
      · intro c hc
        rcases List.mem_append.mp hc with z | z
        · rcases List.mem_append.mp z with z | z
          · exact c_to c z
          · rw [List.mem_singleton.mp z]
            exact xc
        · exact c_dr _ c z
    · refine ⟨sp, rfl, _, rfl, ln', sp + 1, rfl, _, rfl, ln', ?_⟩
      rw [e_to, e_f1]
      refine ⟨by rw [ofL_len, ofL_len, sizeLine_eq]; omega, ?_⟩
      rw [ofL_app]
      refine fin _ G4 ⟨by rw [List.length_append]; omega, ?_, ?_⟩ (Same.refl G4)
      · rw [wds_count, List.count_append, es]
        omega
      · intro c hc
        rcases List.mem_append.mp hc with z | z
        · exact c_to c z
        · exact c_dr _ c z
    · have e32 : (Str.ofString " ") = ofL [32] := by decide +kernel
      refine ⟨by rw [e32, ofL_len, ofL_len, sizeLine_eq]; show _ + 1 ≤ _; omega, ?_⟩
      rw [e32, ofL_app]
      refine ⟨by rw [ofL_len, ofL_len, List.length_append, sizeLine_eq]; show _ + 1 + _ ≤ _; omega, ?_⟩
      rw [ofL_app]
      refine fin _ G4 ⟨?_, ?_, ?_⟩ (Same.refl G4)
      · rw [List.length_append, List.length_append]
        show _ + 1 + _ ≤ _
        omega
      · rw [wds_count, List.count_append, List.count_append]
        show _ + 1 + _ + 1 ≤ _
        omega
      · intro c hc
        rcases List.mem_append.mp hc with z | z
        · rcases List.mem_append.mp z with z | z
          · exact lc c z
          · rw [List.mem_singleton.mp z]
            decide
        · exact lc c z

end
end LW
set_option Elab.async false
set_option linter.all false
set_option maxRecDepth 100000
set_option maxHeartbeats 2000000
namespace HX
open PySem PySem.Spec PyProof.Rows L2 NumText
/-! ### a list of pairs (name, value) for a dict, R of the values -/
inductive PrR (H : Hp) (R : V → Int → Int → Prop) : List Addr → List (Key × V) → List (List Nat × Int × Int) → Prop
  | nil : PrR H R [] [] []
  | cons {p : Addr} {v : V} {n : List Nat} {t b : Int} {ps : List Addr} {kvs : List (Key × V)} {rs : List (List Nat × Int × Int)} : H p = some (.tup [.str (ofL n), v]) → R v t b → PrR H R ps kvs rs → PrR H R (p :: ps) ((.inr (ofL n), v) :: kvs) ((n, t, b) :: rs)
theorem PrR.mo {H G : Hp} {R S : V → Int → Int → Prop} (s : ∀ q xs, H q = some (.tup xs) → G q = some (.tup xs)) (s2 : ∀ v t b, R v t b → S v t b) : ∀ {ps kvs rs}, PrR H R ps kvs rs → PrR G S ps kvs rs
  | _, _, _, .nil => .nil
  | _, _, _, .cons e1 e2 r => .cons (s _ _ e1) (s2 _ _ _ e2) (r.mo s s2)
theorem PrR.snoc {H : Hp} {R : V → Int → Int → Prop} {p : Addr} {v : V} {n : List Nat} {t b : Int} (e1 : H p = some (.tup [.str (ofL n), v])) (e2 : R v t b) : ∀ {ps kvs rs}, PrR H R ps kvs rs → PrR H R (ps ++ [p]) (kvs ++ [(.inr (ofL n), v)]) (rs ++ [(n, t, b)])
  | _, _, _, .nil => .cons e1 e2 .nil
  | _, _, _, .cons a b r => .cons a b (r.snoc e1 e2)
theorem PrR.len {H : Hp} {R : V → Int → Int → Prop} : ∀ {ps kvs rs}, PrR H R ps kvs rs → ps.length = rs.length
  | _, _, _, .nil => rfl
  | _, _, _, .cons _ _ r => by rw [List.length_cons, List.length_cons, r.len]
theorem PrR.krs {H : Hp} {R : V → Int → Int → Prop} : ∀ {ps kvs rs}, PrR H R ps kvs rs → KRs R kvs rs
  | _, _, _, .nil => .nil
  | _, _, _, .cons _ e2 r => .cons e2 r.krs
theorem PrR.pairs {K : PySem.W.Frag} {H : Hp} {R : V → Int → Int → Prop} : ∀ {ps kvs rs}, PrR H R ps kvs rs → Paired (fun p kv => SqT K H p [kV kv.1, kv.2]) ps kvs
  | _, _, _, .nil => .nil
  | _, _, _, .cons e1 _ r => .cons (SqT.of e1) r.pairs
theorem KRs.merge {R : V → Int → Int → Prop} {kvs : List (Key × V)} {ps : List (List Nat × Int × Int)} (h : KRs R kvs ps) (nd : (ps.map (·.1)).Nodup) : mergeK [] kvs = kvs := by
  refine mergeK_new kvs [] ?_
  rw [List.nil_append, h.keys]
  exact (List.nodup_iff_pairwise_ne.mpr ((List.pairwise_map.mpr ((List.nodup_iff_pairwise_ne.mp nd).imp fun h e => h (ofL_inj (Sum.inr.inj e))))))
/-! ### repr of a list whose text is known to be short -/
structure OkE (d : PyData) : Prop where
  sh : d.showable = true
  dp : d.depth ≤ 60
  len : d.shown.length ≤ sizeLine
def rReprE : List V → Hp → VK → Prop := fun xs H Q => ∃ (a : Addr) (vs : List V) (ds : List PyData), xs = [.ref a] ∧ H a = some (.lst vs) ∧ Das H vs ds ∧ OkE (.list ds) ∧ Q (.str (PyData.list ds).shown) H
theorem call_reprE {X : Cx} (gd : X.A.guards = some []) (hu : X.A.units + 64 < cLine) : CallR X (.builtin "repr") rReprE := by
  intro pins s σ H xs us Q I r h
  obtain ⟨a, vs, ds, rfl, ha, hd, ok, q⟩ := h
  obtain ⟨u, rfl, ru⟩ := vals1 r
  cases ru
  obtain ⟨its, rv, ⟨o, n, ho, hc, _, hda⟩, _⟩ := I.list (SqL.of ha)
  obtain ⟨as, hr, ns⟩ := Das.reads I hd rv
  have S := shows_list (P := X.prog) (w := X.w) ho hc hda (by simpa using hr) ok.sh ns ok.len
  have dp := ok.dp
  refine call_repr_slot (by omega) (S.typeIs s fun _ _ e => e) S.slotRepr (S.call X.A.in1 X.xe s _ gd (by show X.A.units + 1 + (PyData.list ds).depth < cLine; omega) (fun _ _ e => e) fun h' t tk kk => ?_)
  exact ⟨_, _, rfl, .str (PyData.list ds).shown, H, I.kept kk, ⟨_, rfl⟩, q⟩
/-! ### the data of gaps -/
def dat (p : List Nat × Int × Int) : PyData := .tuple [.str (ofL p.1), .tuple [.int p.2.1, .int p.2.2]]
theorem PrP.das {H : Hp} : ∀ {ps kvs rs}, PrP H ps kvs rs → Das H (ps.map V.ref) (rs.map dat)
  | _, _, _, .nil => .nil
  | _, _, _, .cons e1 e2 r => .cons (.tup e1 (.cons (.str _) (.cons (.tup e2 (.cons (.int _) (.cons (.int _) .nil))) .nil))) r.das
/-- what is short of a pair -/
def Sml (p : List Nat × Int × Int) : Prop := p.1.length ≤ 8 ∧ (∀ c ∈ p.1, c < 128) ∧ p.2.1.natAbs < 10 ^ 200 ∧ p.2.2.natAbs < 10 ^ 200
theorem it_short {i : Int} (h : i.natAbs < 10 ^ 200) : (it i).length ≤ 201 := by
  have h2 : (dg i.natAbs).length ≤ 200 := (dg_len (by decide)).mpr h
  unfold it
  split
  · rw [List.length_cons]
    omega
  · omega
theorem ten_log {i : Int} (h : i.natAbs < 10 ^ 200) : i.natAbs.log2 < 700 := by
  by_cases z : i.natAbs = 0
  · rw [z]
    decide
  · exact (Nat.log2_lt z).mpr (Nat.lt_trans h (by decide +kernel))
theorem dat_facts {p : List Nat × Int × Int} (h : Sml p) : (dat p).showable = true ∧ (dat p).depth ≤ 3 ∧ (dat p).leavesShort 210 = true ∧ (dat p).weight ≤ 1420 := by
  obtain ⟨h1, h2, h3, h4⟩ := h
  have a3 := ten_log h3
  have a4 := ten_log h4
  have s3 : (PyData.shown (.int p.2.1)).length ≤ 210 := by
    show (Str.ofString (toString p.2.1)).length ≤ 210
    rw [it_text, ofL_len]
    have := it_short h3
    omega
  have s4 : (PyData.shown (.int p.2.2)).length ≤ 210 := by
    show (Str.ofString (toString p.2.2)).length ≤ 210
    rw [it_text, ofL_len]
    have := it_short h4
    omega
  have sn : (ofL p.1).cps.toList.all (fun c => decide (c < 16 ^ 8)) = true := by
    rw [ofL_cps, List.all_eq_true]
    intro c hc
    have := h2 c hc
    exact decide_eq_true (by omega)
  refine ⟨?_, ?_, ?_, ?_⟩
  · unfold dat
    simp only [PyData.showable, PyData.showableAll, Bool.and_true, Bool.and_eq_true, decide_eq_true_eq]
    first
      | exact ⟨by omega, by omega⟩
      | exact ⟨trivial, by omega, by omega⟩
      | exact ⟨sn, by omega, by omega⟩
  · unfold dat
    simp [PyData.depth, PyData.depthAll]
  · unfold dat
    simp only [PyData.leavesShort, PyData.leavesShortAll, Bool.and_true, Bool.and_eq_true, decide_eq_true_eq]
    first
      | exact ⟨sn, s3, s4⟩
      | exact ⟨trivial, s3, s4⟩
  · have l1 : (ofL p.1).cps.size ≤ 8 := by
      have : (ofL p.1).length ≤ 8 := by rw [ofL_len]; exact h1
      exact this
    unfold dat
    simp only [PyData.weight, PyData.weightAll]
    split <;> split <;> omega
theorem dats_facts : ∀ (rs : List (List Nat × Int × Int)), (∀ p ∈ rs, Sml p) → PyData.showableAll (rs.map dat) = true ∧ PyData.depthAll (rs.map dat) ≤ 3 ∧ PyData.leavesShortAll 210 (rs.map dat) = true ∧ PyData.weightAll (rs.map dat) ≤ 1421 * rs.length
  | [], _ => ⟨rfl, by decide, rfl, by decide⟩
  | p :: r, h => by
    obtain ⟨a1, a2, a3, a4⟩ := dat_facts (h p (List.mem_cons_self ..))
    obtain ⟨b1, b2, b3, b4⟩ := dats_facts r fun q hq => h q (List.mem_cons_of_mem _ hq)
    rw [List.map_cons, List.length_cons]
    refine ⟨by rw [PyData.showableAll, a1, b1]; rfl, ?_, by rw [PyData.leavesShortAll, a3, b3]; rfl, ?_⟩
    · rw [PyData.depthAll]
      omega
    · rw [PyData.weightAll]
      omega
theorem okE_dats {rs : List (List Nat × Int × Int)} (h : ∀ p ∈ rs, Sml p) (hl : rs.length ≤ 30) : OkE (.list (rs.map dat)) := by
  obtain ⟨b1, b2, b3, b4⟩ := dats_facts rs h
  refine ⟨b1, by simp only [PyData.depth]; omega, ?_⟩
  have e := PyData.shown_le 210 (by decide) (.list (rs.map dat)) b3
  have w : (PyData.list (rs.map dat)).weight = PyData.weightAll (rs.map dat) := rfl
  rw [w] at e
  rw [sizeLine_eq]
  omega
/-! ### what a text of gaps says is short -/
theorem duW_inr : ∀ (ws : List (List Nat)) (i : Nat) (ah : List Nat) (acc ps : List (List Nat × Int × Int)), (i % 2 = 1 → isNm ah = true) → duW i ah acc ws = .inr ps → (∀ p ∈ ps, p ∈ acc ∨ Sml p) ∧ 2 * ps.length ≤ 2 * acc.length + ws.length + i % 2
  | [], i, ah, acc, ps, _, h => by
    unfold duW at h
    split at h
    · cases h
    · cases h
      exact ⟨fun p hp => .inl hp, by simp⟩
  | w :: ws, i, ah, acc, ps, ha, h => by
    unfold duW at h
    split at h
    · rename_i e
      split at h
      · rename_i c
        obtain ⟨a, b⟩ := duW_inr ws (i + 1) w acc ps (fun _ => c.1) h
        refine ⟨a, ?_⟩
        rw [List.length_cons]
        omega
      · cases h
    · rename_i e
      split at h
      · rename_i t b er
        split at h
        · cases h
        · obtain ⟨a, c⟩ := duW_inr ws (i + 1) ah _ ps (fun z => absurd z (by omega)) h
          rw [List.length_append, List.length_singleton] at c
          rw [List.length_cons]
          refine ⟨fun p hp => ?_, by omega⟩
          rcases a p hp with z | z
          · rcases List.mem_append.mp z with z | z
            · exact .inl z
            · rw [List.mem_singleton.mp z]
              obtain ⟨lo, x1, x2, _⟩ := rdv_rt er
              have hn := ha (by omega)
              have n128 := isNm_128 hn
              unfold isNm at hn
              exact .inr ⟨(of_decide_eq_true hn).2.1, n128, x1, x2⟩
          · exact .inr z
      · cases h
theorem due_inr {l : List Nat} {ps : List (List Nat × Int × Int)} (h : due l = .inr ps) : (∀ p ∈ ps, Sml p) ∧ 2 * ps.length ≤ (wds l).length := by
  unfold due at h
  split at h
  · cases h
    exact ⟨fun _ z => (nomatch z), Nat.zero_le _⟩
  · obtain ⟨a, b⟩ := duW_inr (wds l) 0 [] [] ps (fun z => absurd z (by decide)) h
    exact ⟨fun p hp => (a p hp).elim (fun z => nomatch z) id, by simpa using b⟩
theorem duW_inl : ∀ (ws : List (List Nat)) (i n : Nat) (ah : List Nat) (acc : List (List Nat × Int × Int)), duW i ah acc ws = .inl n → n ≤ i + ws.length
  | [], i, n, ah, acc, h => by
    unfold duW at h
    split at h
    · cases h
      exact Nat.le_refl _
    · cases h
  | w :: ws, i, n, ah, acc, h => by
    rw [List.length_cons]
    unfold duW at h
    split at h
    · split at h
      · have := duW_inl ws _ _ _ _ h
        omega
      · cases h
        omega
    · split at h
      · split at h
        · cases h
          omega
        · have := duW_inl ws _ _ _ _ h
          omega
      · cases h
        omega
theorem due_inl {l : List Nat} {n : Nat} (h : due l = .inl n) : n ≤ (wds l).length := by
  unfold due at h
  split at h
  · cases h
  · have := duW_inl _ _ _ _ _ h
    omega
/-- names in order, each once -/
theorem asc_of {α : Type} (f : α → List Nat) {rs : List α} (h : sortedS (rs.map fun r => ofL (f r)) = true) (nd : (rs.map f).Nodup) : (rs.map f).Pairwise (· < ·) := by
  refine (sortedS_pw f rs h).imp₂ (fun a b h1 h2 => ?_) (List.nodup_iff_pairwise_ne.mp nd)
  rcases Decidable.em (a < b) with z | z
  · exact z
  · exact absurd (List.le_antisymm (List.not_lt.mp h1) (List.not_lt.mp z)) h2
end HX

set_option Elab.async false
set_option linter.all false
set_option maxRecDepth 100000
set_option maxHeartbeats 8000000
namespace LW
open PySem PySem.Spec PyProof.Rows L2 HX NumText
section
variable {P : Program} {w : World} {K : PySem.W.Frag} {mg : Str → Option Value} {base : Heap}

def rReprS : List V → Hp → VK → Prop := fun xs H Q => (∃ i : Int, xs = [.int i] ∧ i.natAbs.log2 < 1920 ∧ Q (.str (toString i)) H) ∨ rReprE xs H Q
theorem call_reprS {X : Cx} (gd : X.A.guards = some []) (hu : X.A.units + 64 < cLine) : CallR X (.builtin "repr") rReprS := fun pins s σ H xs us Q I r h => h.elim (fun z => SkE.call_repr_int pins s σ H xs us Q I r z) (fun z => call_reprE gd hu pins s σ H xs us Q I r z)
def spLaw (K : PySem.W.Frag) : Sp := fun vs H Q _ => ∃ (a : Addr) (ns : List Int), vs = [.ref a] ∧ SqL K H a (ns.map V.int) ∧ ∀ H', Q (.bl true) H'
theorem kpT {H G : Hp} {p l q : Addr} {c : Int} {xs : List V} (k : Kp p H G) (P : Pe H p l c) (e : H q = some (.tup xs)) : G q = some (.tup xs) := k _ _ (P.ne2 e (fun _ _ _ z => by cases z)) e
theorem kpI {H G : Hp} {p l q C dx : Addr} {c : Int} {fs : List (Str × V)} (k : Kp p H G) (P : Pe H p l c) (e : H q = some (.ins C dx fs)) : G q = some (.ins C dx fs) := k _ _ (P.ne2 e (fun _ _ _ z => by cases z)) e
theorem kpD {H G : Hp} {p l q : Addr} {c : Int} {kvs : List (Key × V)} (k : Kp p H G) (P : Pe H p l c) (e : H q = some (.dK kvs)) : G q = some (.dK kvs) := k _ _ (P.ne2 e (fun _ _ _ z => by cases z)) e
theorem mkGR {A C : Addr} {H : Hp} {R : Addr → Hp → Prop} {E : XK} {v : V} {ps : List (List Nat × Int × Int)} (hv : (v = .non ∧ ps = []) ∨ ∃ (P_ : Addr) (kvs : List (Key × V)), v = .ref P_ ∧ H P_ = some (.dK kvs) ∧ KRs (NuV A H) kvs ps ∧ GwOk ps)
    (k : ∀ rs : List (List Nat × Int × Int), rs.Perm ps → sortedS (rs.map fun p => ofL p.1) = true → GsOk (rs.filter nz) → ∀ (G : Hp) (x D : Addr) (gvs : List (Key × V)), H x = none → H D = none → Same H G → GpsAt C G x D gvs → KRs (AmV A G) gvs (rs.filter nz) → R x G) : ∀ x dx, H x = none → H dx = none → dx ≠ x →
    spGInit A C [.ref x, v] (upd (upd H dx (.own x)) x (.ins C dx [])) (fun v H2 => v = .non ∧ R x H2) E := fun x dx nx nd ne => by
  have z := mkG (E := E) (Q := fun v G => ∀ y, v = .ref y → R y G) hv (fun rs pm srt ok G x D gvs n1 n2 s g kr _ y e => by cases e; exact k rs pm srt ok G x D gvs n1 n2 s g kr) x dx nx nd ne
  obtain ⟨x', dx', v', e1, h1, ps', h2, h3⟩ := z
  exact ⟨x', dx', v', e1, h1, ps', h2, fun G D gvs rs a1 a2 a3 a4 a5 a6 a7 => ⟨(h3 G D gvs rs a1 a2 a3 a4 a5 a6 a7).1, (h3 G D gvs rs a1 a2 a3 a4 a5 a6 a7).2 x rfl⟩⟩
theorem rep_same {lb : List Nat} {H : Hp} {Q : VK} {a0 a1 a2 a3 a4 a5 a6 a7 a8 a10 a11 : Option V} (h1 : lb.length ≤ 90000) (h2 : (wds lb).length ≤ 60) (h3 : ∀ c ∈ lb, c < 128) (k : ∀ G, Same H G → Q (.bl false) G) :
    tOp (rEq2 K true) (tCB rReprS (tCons (tCall spSame [] (fun _ _ _ => False) (tCons (tCall (spHeard K) [] (fun _ _ _ => False) (tCons (cV 9) tNil)) tNil)) tNil)) (tCB rReprS (tCons (tCall spSame [] (fun _ _ _ => False) (tCons (tCall spDue [] (fun _ _ _ => False) (tCons (cV 9) tNil)) tNil)) tNil)) [a0, a1, a2, a3, a4, a5, a6, a7, a8, some (.str (ofL lb)), a10, a11] H Q := by
  refine ⟨.str (ofL lb), due lb, rfl, .inl ⟨lb, rfl, h1, by omega, rfl⟩, fun v G1 s1 dv gk => ⟨v, due lb, rfl, dv, fun ps e => ⟨(gk ps e).nd, (gk ps e).l64⟩, fun v1 G2 s2 sv => ?_⟩⟩
  have two : ∀ (tx : Str) (R : VK), (∀ (u : V) (G : Hp), Same G2 G → SmV G u (due lb) → rReprS [u] G R) → tCB rReprS (tCons (tCall spSame [] (fun _ _ _ => False) (tCons (tCall spDue [] (fun _ _ _ => False) (tCons (cV 9) tNil)) tNil)) tNil) [a0, a1, a2, a3, a4, a5, a6, a7, a8, some (.str (ofL lb)), a10, a11] G2 R := fun tx R go =>
    ⟨lb, rfl, h1, h3, fun u G3 s3 du => ⟨u, due lb, rfl, du, fun ps e => ⟨(gk ps e).nd, (gk ps e).l64⟩, fun u1 G4 s4 su => go u1 G4 (s3.trans s4) su⟩⟩
  have fin : ∀ (tx : Str) (G : Hp), Same G2 G → rEq2 K true (.str tx) (.str tx) G Q := fun tx G s => by
    show Q (.bl (xor true (decide (tx = tx)))) G
    rw [decide_eq_true rfl]
    exact k G ((s1.trans s2).trans s)
  cases hd : due lb with
  | inl n =>
    rw [hd] at sv
    have sv : v1 = .int (n : Int) := sv
    subst sv
    have nl := due_inl hd
    have sm : ((n : Int)).natAbs.log2 < 1920 := by
      by_cases z : n = 0
      · subst z
        decide
      · exact (Nat.log2_lt (by omega)).mpr (Nat.lt_of_lt_of_le (by omega : ((n : Int)).natAbs < 2 ^ 7) (Nat.pow_le_pow_right (by decide) (by decide)))
    refine .inl ⟨n, rfl, sm, two (toString (n : Int)) _ fun u G s su => ?_⟩
    rw [hd] at su
    have su : u = .int (n : Int) := su
    subst su
    exact .inl ⟨n, rfl, sm, fin _ G s⟩
  | inr ps =>
    rw [hd] at sv
    obtain ⟨L, as, kvs, rs, rfl, gL, pp, pm, srt⟩ := sv
    obtain ⟨sml, cnt⟩ := due_inr hd
    have nd := (gk ps hd).nd
    have ok : ∀ rs2 : List (List Nat × Int × Int), rs2.Perm ps → OkE (.list (rs2.map dat)) := fun rs2 pm2 => okE_dats (fun q hq => sml q (pm2.mem_iff.mp hq)) (by have := pm2.length_eq; omega)
    refine .inr ⟨L, as.map V.ref, rs.map dat, rfl, gL, pp.das, ok rs pm, two (PyData.list (rs.map dat)).shown _ fun u G s su => ?_⟩
    rw [hd] at su
    obtain ⟨L2, as2, kvs2, rs2, rfl, gL2, pp2, pm2, srt2⟩ := su
    have er : rs2 = rs := sorted_one (fun p : List Nat × Int × Int => p.1) (pm2.trans pm.symm) srt2 srt ((pm.map _).nodup_iff.mpr nd)
    subst er
    exact .inr ⟨L2, as2.map V.ref, _, rfl, gL2, pp2.das, ok _ pm, fin _ G s⟩
theorem due_a : due [] = .inl 0 := by
  unfold due
  rw [if_neg (by decide)]
  show duW 0 [] [] [[]] = _
  unfold duW
  rw [if_pos rfl, if_neg (by decide)]
theorem due_b : due [32] = .inl 0 := by
  unfold due
  rw [if_neg (by decide), show wds [32] = [[], []] by decide +kernel]
  unfold duW
  rw [if_pos rfl, if_neg (by decide)]
theorem due_c : due [110, 111, 110, 101, 32] = .inl 1 := by
  have e : rdv [] = none := rdv_none.mpr fun c => (figB_iff.mp c.1.1).2.1 rfl
  unfold due
  rw [if_neg (by decide), show wds [110, 111, 110, 101, 32] = [[110, 111, 110, 101], []] by decide +kernel]
  unfold duW
  rw [if_pos rfl, if_pos ⟨by decide, by decide⟩]
  unfold duW
  rw [if_neg (by decide), e]
theorem due_d : due [32, 110, 111, 110, 101] = .inl 0 := by
  unfold due
  rw [if_neg (by decide), show wds [32, 110, 111, 110, 101] = [[], [110, 111, 110, 101]] by decide +kernel]
  unfold duW
  rw [if_pos rfl, if_neg (by decide)]
theorem due_f : due [97, 32, 49, 32, 110, 111, 110, 101] = .inl 3 := by
  have e : rdv [49] = some (1, 1) := rt_rdv ⟨⟨by decide, by decide⟩, by decide +kernel, by decide +kernel, by decide +kernel⟩
  unfold due
  rw [if_neg (by decide), show wds [97, 32, 49, 32, 110, 111, 110, 101] = [[97], [49], [110, 111, 110, 101]] by decide +kernel]
  unfold duW
  rw [if_pos rfl, if_pos ⟨by decide, by decide⟩]
  unfold duW
  rw [if_neg (by decide), e]
  show (if (1 : Int) = 0 then _ else _) = _
  rw [if_neg (by decide)]
  unfold duW
  rw [if_pos (by decide), if_pos ⟨by decide, by decide⟩]
  unfold duW
  rw [if_pos (by decide)]
def tx5 : List V := [.str (Str.ofString ""), .str (Str.ofString " "), .str (Str.ofString "none "), .str (Str.ofString " none"), .str (Str.ofString "a 1 none")]
def nt5 : List Int := [0, 0, 1, 0, 3]
theorem five {K : PySem.W.Frag} {H : Hp} : ∀ j, j < 5 → ∃ (x : V) (n : Nat), tx5[j]? = some x ∧ HdX K H x (.inl n) ∧ nt5.take (j + 1) = nt5.take j ++ [(n : Int)]
  | 0, _ => ⟨_, 0, rfl, .inl ⟨_, congrArg V.str (by decide +kernel : Str.ofString "" = ofL []), by decide, by decide +kernel, due_a⟩, rfl⟩
  | 1, _ => ⟨_, 0, rfl, .inl ⟨_, congrArg V.str (by decide +kernel : Str.ofString " " = ofL [32]), by decide, by decide +kernel, due_b⟩, rfl⟩
  | 2, _ => ⟨_, 1, rfl, .inl ⟨_, congrArg V.str (by decide +kernel : Str.ofString "none " = ofL [110, 111, 110, 101, 32]), by decide, by decide +kernel, due_c⟩, rfl⟩
  | 3, _ => ⟨_, 0, rfl, .inl ⟨_, congrArg V.str (by decide +kernel : Str.ofString " none" = ofL [32, 110, 111, 110, 101]), by decide, by decide +kernel, due_d⟩, rfl⟩
  | 4, _ => ⟨_, 3, rfl, .inl ⟨_, congrArg V.str (by decide +kernel : Str.ofString "a 1 none" = ofL [97, 32, 49, 32, 110, 111, 110, 101]), by decide, by decide +kernel, due_f⟩, rfl⟩
  | j + 5, h => absurd h (by omega)
/-- what a turn holds: the plain dict, the gaps -/
def LF (A C : Addr) (G : Hp) (Pl x : Addr) (ps qs : List (List Nat × Int × Int)) : Prop := ∃ (kvs : List (Key × V)) (D : Addr) (gvs : List (Key × V)), G Pl = some (.dK kvs) ∧ KPs G kvs ps ∧ GpsAt C G x D gvs ∧ KRs (AmV A G) gvs qs
theorem LF.kp {A C : Addr} {H G : Hp} {p l Pl x : Addr} {c : Int} {ps qs : List (List Nat × Int × Int)} (k : Kp p H G) (P : Pe H p l c) : LF A C H Pl x ps qs → LF A C G Pl x ps qs := fun ⟨kvs, D, gvs, h1, h2, ⟨⟨dx, h3⟩, h4⟩, h5⟩ =>
  ⟨kvs, D, gvs, kpD k P h1, h2.mo (fun q t b e => kpT k P e), ⟨⟨dx, kpI k P h3⟩, kpD k P h4⟩, h5.mo fun v t b ⟨a, e, dy, ea⟩ => ⟨a, e, dy, kpI k P ea⟩⟩
theorem LF.mo {A C : Addr} {H G : Hp} {Pl x : Addr} {ps qs : List (List Nat × Int × Int)} (s : Same H G) : LF A C H Pl x ps qs → LF A C G Pl x ps qs := fun ⟨kvs, D, gvs, h1, h2, h3, h5⟩ =>
  ⟨kvs, D, gvs, s _ _ h1, h2.mo (fun q t b e => s _ _ e), h3.mo s, h5.mo fun v t b z => z.mo s⟩
def DsOk (ds : List (List Nat × Int × Int)) : Prop := (ds.map (·.1)).Nodup ∧ ds.length ≤ 5 ∧ ∀ d ∈ ds, Nm d.1 ∧ Low d.2.1 d.2.2 ∧ Sm 100 d.2.1 ∧ Sm 100 d.2.2
theorem atx_len1 {t b : Int} (h1 : Sm 100 t) (h2 : Sm 100 b) : (atx t b).length ≤ 250 := by
  have l1 := intT_len h1 (by decide)
  have l2 := intT_len h2 (by decide)
  have e : (amText t b).length = (atx t b).length := by rw [amText_at, ofL_len]
  have e1 : (Str.ofString "/").length = 1 := rfl
  rw [← e]
  unfold amText
  split
  · omega
  · rw [Str.length_append, Str.length_append, Str.length_append]
    have e0 : Str.empty.length = 0 := rfl
    omega
theorem nm_isNm {u : List Nat} (h : Nm u) : isNm u = true := decide_eq_true h
theorem sm_ten2 {i : Int} (h : Sm 100 i) : i.natAbs < 10 ^ 200 := Nat.lt_trans h (by decide +kernel)
theorem gtl_bt {qs : List (List Nat × Int × Int)} (w : Gpw qs) (hl : qs.length ≤ 5) (h : ∀ q ∈ qs, q.1.length ≤ 8 ∧ (atx q.2.1 q.2.2).length ≤ 250) : Bt (gtl qs) 1400 10 := by
  by_cases e : qs = []
  · subst e
    exact ⟨by decide, by decide +kernel, by decide⟩
  · have e2 : gtl qs = jn (gws qs) := if_neg e
    have gl := gws_len qs
    have sm : ∀ rs : List (List Nat × Int × Int), (∀ q ∈ rs, q ∈ qs) → ((gws rs).map (·.length)).sum ≤ 258 * rs.length := fun rs => by
      induction rs with
      | nil => exact fun _ => Nat.le_refl _
      | cons q r ih =>
        intro hm
        have i1 := ih fun z hz => hm z (List.mem_cons_of_mem _ hz)
        obtain ⟨a1, a2⟩ := h q (hm q (List.mem_cons_self ..))
        show (([q.1, atx q.2.1 q.2.2] ++ gws r).map (·.length)).sum ≤ _
        rw [List.map_append, List.sum_append, List.length_cons]
        show q.1.length + ((atx q.2.1 q.2.2).length + 0) + _ ≤ _
        omega
    have s0 := sm qs fun q hq => hq
    have jl := (jn_len (gws qs)).1
    refine ⟨by rw [e2]; omega, by rw [wds_gtl w e]; omega, fun c hc => ?_⟩
    rw [e2] at hc
    rcases jn_mem _ c hc with z | ⟨u, hu, z⟩
    · omega
    · obtain ⟨q, hq, hu⟩ := List.mem_flatMap.mp hu
      rcases List.mem_cons.mp hu with y | y
      · rw [y] at z
        exact isNm_128 (w.nm q hq) c z
      · rw [List.mem_singleton.mp y] at z
        exact atx_128 _ _ c z
theorem ok_law {A fI pO gO pN gN f BT fRd pRd C fG fGs fGe : Addr} {mc mcG : Value} {fd fdG fdGs fdGe : FuncData} (F : Fun K "law" "law" s_law f fd) (T : Txt K mg) (T2 : Txt2 mg) (U : AmC K mg A fI pO gO pN gN mc) (hdi : mg "dict" = none) (UG : GpC K mg C) (kGS : PySem.W.kitOne K (.ref C) (.type "str") = some false) (mG : Mk K C fG) (FG : FnOk P w K mg base CX0 5 fG fdG ["self", "values"] (spGInit A C)) (bG2 : Binds K fdG ["self", "values"] []) (hGs : PySem.W.findIn K (.ref C) "__str__" = some (some (.ref fGs))) (iGs : PySem.W.isFn K (.ref fGs) = true) (FGs : FnOk P w K mg base CX0 7 fGs fdGs ["self"] (spGStr A C)) (bGs : Binds K fdGs ["self"] []) (OG : CmpO K C .Eq fGe fGe "int.__eq__") (FGe : FnOk P w K mg base CX0 9 fGe fdGe ["self", "other"] (spGEq A C)) (bGe : Binds K fdGe ["self", "other"] [])
    (cRdG : ClX.CRead K C mcG) (cMrG : ClX.CMet K C mcG "read" pRd fRd) {fdR : FuncData} (FRdK : FnOk P w K mg base (CX P w) 11 fRd fdR ["cls", "text"] (spGRead K A C BT)) (kRd : KBn K fdR ["cls", "text"] 1 ["text"] (fun us ws => us ++ ws) (fun vs zs => vs ++ zs)) (cPn : CalO P w K mg base "_law_pen" 1 ["_law_script"] (spPen K) (fun _ => True)) (cD : CalO P w K mg base "_law_draw" 1 ["_law_pen_here", "_law_many"] spDraw (fun _ => True)) (cP : CalO P w K mg base "_law_pick" 2 ["_law_pen_here", "_law_some"] (spPick K) (fun _ => True)) (cNm : CalO P w K mg base "_law_names" 3 ["_law_pen_here", "_law_many"] spNames (fun _ => True)) (cPa : CalO P w K mg base "_law_pair" 3 ["_law_pen_here"] spPair (fun _ => True)) (cNu : CalO P w K mg base "_law_number" 4 ["_law_pen_here", "_law_pair_here"] (spNumber A) (fun _ => True)) (cTx : CalO P w K mg base "_law_text" 2 ["_law_plain"] spGTx (fun _ => True)) (cHe : CalO P w K mg base "_law_heard" 12 ["_law_told_text"] (spHeard K) (fun _ => True)) (cBe : CalO P w K mg base "_law_bent" 3 ["_law_pen_here", "_law_told_text"] spBent (fun _ => True)) (cSa : CalO P w K mg base "_law_same" 1 ["_law_told"] spSame (fun _ => True)) (cDu : CalO P w K mg base "_law_due" 4 ["_law_told_text"] spDue (fun _ => True)) : FnG P w K mg base CX0 13 f fd ["_law_script"] (spLaw K) := by
  refine fun_okG F sc_law (fun vs H Q E h => ?_) (fun cdv A' outer s H vs Q E gd hr h => ?_)
  · obtain ⟨a, ns, rfl, _⟩ := h
    rfl
  · obtain ⟨a, ns, rfl, hs, k⟩ := h
    refine ⟨_, (pss_cons (ps_set (i := 1) sc_law.nd rfl (Or.inr rfl) (pe_cO cPn (hr.mono (by decide)) (pa_cons (pc 0) pa_nil)))
    (pss_cons (ps_for PassesOwn.never rfl (pi_range1 (by rfl) T.b_range (pa_cons pe_int pa_nil)) (pg_name (i := 2) sc_law.nd rfl (Or.inl rfl)) (pss_cons (ps_set (i := 3) sc_law.nd rfl (Or.inl rfl) (pe_cO cNm (hr.mono (by decide)) (pa_cons (pc 1) (pa_cons pe_int pa_nil))))
    (s_cut (ps_set (i := 4) sc_law.nd rfl (Or.inr rfl) (pe_callTy (call_dictP rfl) (by rfl) hdi (by decide +kernel) (pa_cons (pe_lc (own := [("_law_name", 11)]) (g := gName 11) (tt := tYes) rfl sc_law.nd (pi_list (pe_slice sl_list (pc 3) po_none (po_some (pe_cO cD (hr.mono (by decide)) (pa_cons (pc 1) (pa_cons pe_int pa_nil)))))) (blkOk_by (own := [("_law_name", 11)]) (N := n_law) (sc := defScope s_law) (by decide +kernel)) (fun _ _ _ _ _ => pg_name (i := 11) sc_law.nd rfl (Or.inl rfl)) (fun _ _ _ _ _ => pts_nil) (fun _ _ _ _ _ => (pe_tup (pa_cons (pc 11) (pa_cons (pe_cO cPa (hr.mono (by decide)) (pa_cons (pc 1) pa_nil)) pa_nil))))) pa_nil)))
    (s_cut (ps_set (i := 5) sc_law.nd rfl (Or.inl rfl) (pe_callTy (call_dictP rfl) (by rfl) hdi (by decide +kernel) (pa_cons (pe_lock (pe_lc (own := [("_law_name", 11)]) (g := gName 11) (tt := cT (tOp (rEq2 K true) (tOp (rIx2 K) (tDGet (cV 4) (cV 11)) (tC (.int 0))) (tC (.int 0)))) rfl sc_law.nd (pi_keys (pc 4)) (blkOk_by (own := [("_law_name", 11)]) (N := n_law) (sc := defScope s_law) (by decide +kernel)) (fun _ _ _ _ _ => pg_name (i := 11) sc_law.nd rfl (Or.inl rfl)) (fun _ _ _ _ _ => (pts_one (t_cmp (o_ne hr.units) (p_ix (pe_dget (Nat.lt_of_le_of_lt (Nat.add_le_add_left (by decide : 1 ≤ 64) _) hr.units) (pc 4) (pc 11) (by exact fun _ _ => rfl)) pe_int) pe_int))) (fun _ _ _ _ _ => (pe_tup (pa_cons (pc 11) (pa_cons (pe_dget (Nat.lt_of_le_of_lt (Nat.add_le_add_left (by decide : 1 ≤ 64) _) hr.units) (pc 4) (pc 11) (by exact fun _ _ => rfl)) pa_nil)))))) pa_nil)))
    (pss_cons (ps_set (i := 6) sc_law.nd rfl (Or.inl rfl) (pe_cO cTx (hr.mono (by decide)) (pa_cons (pc 5) pa_nil)))
    (s_cut (ps_set (i := 7) sc_law.nd rfl (Or.inl rfl) (pe_make mG FG (hr.mono (by decide)) (by rfl) UG.g bG2 .nil pass0 (pa_cons (pe_callTy (call_dictP rfl) (by rfl) hdi (by decide +kernel) (pa_cons (pe_lock (pe_lc (own := [("_law_name", 11)]) (g := gName 11) (tt := tYes) rfl sc_law.nd (pi_keys (pc 4)) (blkOk_by (own := [("_law_name", 11)]) (N := n_law) (sc := defScope s_law) (by decide +kernel)) (fun _ _ _ _ _ => pg_name (i := 11) sc_law.nd rfl (Or.inl rfl)) (fun _ _ _ _ _ => pts_nil) (fun _ _ _ _ _ => (pe_tup (pa_cons (pc 11) (pa_cons (pe_cO cNu (hr.mono (by decide)) (pa_cons (pc 1) (pa_cons (pe_dget (Nat.lt_of_le_of_lt (Nat.add_le_add_left (by decide : 1 ≤ 64) _) hr.units) (pc 4) (pc 11) (by exact fun _ _ => rfl)) pa_nil))) pa_nil)))))) pa_nil)) pa_nil)))
    (s_cut (s_if (PW.pt (w_or (t_cmp (o_ne hr.units) (pe_callTy (call_strO hGs iGs FGs bGs (hr.mono (by decide)) pass0) (by rfl) T2.b_str (by decide +kernel) (pa_cons (pc 7) pa_nil)) (pc 6)) (w_or (t_cmp (op_neDD (hr.mono (by decide))) (pe_cO cHe (hr.mono (by decide)) (pa_cons (pc 6) pa_nil)) (pc 5)) (pw_or1 (pt_not (t_cmp (op_cm (o_eq hr.units) OG FGe FGe bGe bGe (hr.mono (by decide)) pass0) (pe_cmk (p_gc UG.g) cRdG cMrG FRdK kRd (hr.mono (by decide)) (passes_call takes0 (fun _ _ _ _ z => z)) (pk_cons (pc 6) pk_nil)) (pc 7))))))) (pss_one (ps_ret pe_bl)) pss_nil)
    (s_cut (ps_for PassesOwn.never rfl (pi_range1 (by rfl) T.b_range (pa_cons pe_int pa_nil)) (pg_name (i := 8) sc_law.nd rfl (Or.inl rfl)) (pss_cons (ps_set (i := 9) sc_law.nd rfl (Or.inl rfl) (pe_cO cBe (hr.mono (by decide)) (pa_cons (pc 1) (pa_cons (pc 6) pa_nil))))
    (pss_cons (s_if (t_cmp (o_ne hr.units) (pe_callB (call_reprS gd hr.units) (by rfl) T.b_repr (by decide +kernel) (pa_cons (pe_cO cSa (hr.mono (by decide)) (pa_cons (pe_cO cHe (hr.mono (by decide)) (pa_cons (pc 9) pa_nil)) pa_nil)) pa_nil)) (pe_callB (call_reprS gd hr.units) (by rfl) T.b_repr (by decide +kernel) (pa_cons (pe_cO cSa (hr.mono (by decide)) (pa_cons (pe_cO cDu (hr.mono (by decide)) (pa_cons (pc 9) pa_nil)) pa_nil)) pa_nil))) (pss_one (ps_ret pe_bl)) pss_nil)
    (pss_cons (ps_set (i := 9) sc_law.nd rfl (Or.inl rfl) (pe_cO cBe (hr.mono (by decide)) (pa_cons (pc 1) (pa_cons (pc 9) pa_nil))))
    (pss_one (s_if (t_cmp (o_ne hr.units) (pe_callB (call_reprS gd hr.units) (by rfl) T.b_repr (by decide +kernel) (pa_cons (pe_cO cSa (hr.mono (by decide)) (pa_cons (pe_cO cHe (hr.mono (by decide)) (pa_cons (pc 9) pa_nil)) pa_nil)) pa_nil)) (pe_callB (call_reprS gd hr.units) (by rfl) T.b_repr (by decide +kernel) (pa_cons (pe_cO cSa (hr.mono (by decide)) (pa_cons (pe_cO cDu (hr.mono (by decide)) (pa_cons (pc 9) pa_nil)) pa_nil)) pa_nil))) (pss_one (ps_ret pe_bl)) pss_nil))))))
    (pss_cons (ps_set (i := 10) sc_law.nd rfl (Or.inl rfl) (pe_cO cP (hr.mono (by decide)) (pa_cons (pc 1) (pa_cons (pe_lst (pa_cons pe_non (pa_cons pe_int (pa_cons pe_bl (pa_cons (pe_lst (pa_cons pe_str pa_nil)) (pa_cons (pe_tup (pa_cons pe_str (pa_cons pe_int pa_nil))) (pa_cons pe_dnewK (pa_cons (pc 7) (pa_cons (pe_un un_neg pe_int) pa_nil))))))))) pa_nil))))
    (pss_one (s_if (t_cmp (o_ne hr.units) (pe_cO cHe (hr.mono (by decide)) (pa_cons (pc 10) pa_nil)) pe_int) (pss_one (ps_ret pe_bl)) pss_nil)))))))))))
    (pss_cons (s_if (PW.pt (w_or (t_cmp (op_neDD (hr.mono (by decide))) (pe_cO cHe (hr.mono (by decide)) (pa_cons pe_str pa_nil)) (pe_disp (pps_cons pe_str (pe_tup (pa_cons pe_int (pa_cons pe_int pa_nil))) pps_nil) (by rfl) (by rfl) (fun z => by cases z) (by decide))) (pw_or1 (t_cmp (o_ne hr.units) (pe_callTy (call_strO hGs iGs FGs bGs (hr.mono (by decide)) pass0) (by rfl) T2.b_str (by decide +kernel) (pa_cons (pe_make mG FG (hr.mono (by decide)) (by rfl) UG.g bG2 .nil pass0 (pa_cons (pe_disp (pps_cons pe_str pe_int pps_nil) (by rfl) (by rfl) (fun z => by cases z) (by decide)) pa_nil)) pa_nil)) pe_str)))) (pss_one (ps_ret pe_bl)) pss_nil)
    (pss_one (ps_ret (p_cmp (o_eq hr.units) (pe_lc (own := [("_law_told_text", 6)]) (g := gName 6) (tt := tYes) rfl sc_law.nd (pi_list (pe_lst (pa_cons pe_str (pa_cons pe_str (pa_cons pe_str (pa_cons pe_str (pa_cons pe_str pa_nil))))))) (blkOk_by (own := [("_law_told_text", 6)]) (N := n_law) (sc := defScope s_law) (by decide +kernel)) (fun _ _ _ _ _ => pg_name (i := 6) sc_law.nd rfl (Or.inl rfl)) (fun _ _ _ _ _ => pts_nil) (fun _ _ _ _ _ => (pe_cO cHe (hr.mono (by decide)) (pa_cons (pc 6) pa_nil)))) (pe_lst (pa_cons pe_int (pa_cons pe_int (pa_cons pe_int (pa_cons pe_int (pa_cons pe_int pa_nil)))))))))))), ?_⟩
    refine ⟨a, ns, rfl, hs, fun p l G np sG P0 => ?_⟩
    refine ⟨6, rfl, by decide, by decide, for_range (lo := 0) (n := 6) (fun i σ G => ∃ x2 x3 x4 x5 x6 x7 x8 x9 x10 x11, σ = [some (.ref a), some (.ref p), x2, x3, x4, x5, x6, x7, x8, x9, x10, x11] ∧ Pe G p l (150 * i)) ⟨none, none, none, none, none, none, none, none, none, none, rfl, P0.mono (by decide)⟩ ?_ ?_⟩
    · rintro i σ G hi ⟨x2, x3, x4, x5, x6, x7, x8, x9, x10, x11, rfl, Pi⟩
      refine ⟨p, l, 150 * i, 5, rfl, Pi, by decide, by decide, by omega, fun ls q1 G1 ll nm nd k1 P1 q1p gq1 => ?_⟩
      refine ⟨fun σ G => ∃ (Dd : Addr) (kvs : List (Key × V)) (ds : List (List Nat × Int × Int)) (y2 y3 y11 : Option V), σ = [some (.ref a), some (.ref p), y2, y3, some (.ref Dd), x5, x6, x7, x8, x9, x10, y11] ∧ Pe G p l (150 * i + 40) ∧ G Dd = some (.dK kvs) ∧ KPs G kvs ds ∧ DsOk ds, ?_, ?_⟩
      · refine ⟨p, l, _, 6, rfl, P1, by decide, by decide, by omega, fun r G2 r0 r1 k2 P2 => ?_⟩
        have gq2 := k2 _ _ q1p gq1
        refine ⟨r, rfl, q1, _, rfl, SqL.of gq2, fun q2 n2 => ?_⟩
        have n128 : r.toNat ≤ 5 := by omega
        obtain ⟨ws, hws⟩ : ∃ ws, ws = ls.take r.toNat := ⟨_, rfl⟩
        have wl : ws.length ≤ 5 := by rw [hws, List.length_take]; omega
        have wn : ws.Nodup := by rw [hws]; exact nd.sublist (List.take_sublist _ _)
        have wm : ∀ n ∈ ws, Nm n := fun n hn => nm n (List.mem_of_mem_take (by rw [hws] at hn; exact hn))
        have ce : cutV (ls.map fun l => V.str (ofL l)) none (some r) = ws.map fun l => V.str (ofL l) := by rw [cutV_to r0, ← List.map_take, hws]
        rw [ce]
        have gq3 : upd G2 q2 (.lst (ws.map fun l => V.str (ofL l))) q2 = some (.lst (ws.map fun l => V.str (ofL l))) := upd_same
        have P3 := P2.new (o := .lst (ws.map fun l => V.str (ofL l))) n2
        have q2p := P2.ne n2
        generalize upd G2 q2 (.lst (ws.map fun l => V.str (ofL l))) = G3 at gq3 P3
        refine ⟨q2, rfl, ⟨_, SqL.of gq3⟩, fun L nL => ?_⟩
        have Lp := P3.ne nL
        have Ll := P3.neL nL
        have q2L : q2 ≠ L := fun z => by rw [← z, gq3] at nL; cases nL
        refine lc_it walk_list (fun j G => ∃ as kvs ds, G L = some (.lst (as.map V.ref)) ∧ PrP G as kvs ds ∧ ds.map (·.1) = ws.take j ∧ (∀ d ∈ ds, Low d.2.1 d.2.2 ∧ Sm 100 d.2.1 ∧ Sm 100 d.2.2) ∧ Pe G p l (150 * i + 12 + 5 * j) ∧ G q2 = some (.lst (ws.map fun l => V.str (ofL l)))) ⟨[], [], [], upd_same, .nil, rfl, (fun _ z => nomatch z), (P3.new nL).mono (by omega), kpN gq3 nL⟩ (fun j G _ z => by obtain ⟨_, _, _, _, _, _, _, _, z⟩ := z; exact SqL.of z) ?_ ?_
        · rintro j y G4 G5 hj ⟨as, kvs, ds, gL, pp, en, am, P4, gq4⟩ ⟨rfl, e⟩
          rw [List.length_map] at hj
          have eq : ws[j]? = some ws[j] := List.getElem?_eq_getElem hj
          rw [List.getElem?_map, eq] at e
          have tk : ws.take (j + 1) = ws.take j ++ [ws[j]] := by rw [List.take_add_one, eq]; rfl
          generalize ws[j] = n at eq e tk
          obtain rfl : V.str (ofL n) = y := Option.some.inj e
          refine ⟨rfl, p, l, _, rfl, P4, by omega, fun q t b G6 lo S1 S2 k6 P6 hq => ⟨by show 2 ≤ sizeLine; decide, fun T1 n1 => ?_⟩⟩
          have gL6 := kpN (o := .tup [.str (ofL n), .ref q]) (k6 _ _ Lp gL) n1
          have eT1 : upd G6 T1 (.tup [.str (ofL n), .ref q]) T1 = some (.tup [.str (ofL n), .ref q]) := upd_same
          have eq6 := kpN (o := .tup [.str (ofL n), .ref q]) hq n1
          have P7 := P6.new (o := .tup [.str (ofL n), .ref q]) n1
          have pp6 := pp.mo fun q' xs z => kpN (o := .tup [.str (ofL n), .ref q]) (kpT k6 P4 z) n1
          have gq6 := kpN (o := .tup [.str (ofL n), .ref q]) (k6 _ _ q2p gq4) n1
          have pl := pp.len
          have dl : ds.length ≤ j := by
            have := congrArg List.length en
            rw [List.length_map, List.length_take] at this
            omega
          generalize upd G6 T1 (.tup [.str (ofL n), .ref q]) = G7 at gL6 eT1 eq6 P7 pp6 gq6
          have kt : ∀ (o : HO) q' xs, G7 q' = some (.tup xs) → upd G7 L o q' = some (.tup xs) := fun o q' xs z => by rw [upd_ne (fun y => by rw [y, gL6] at z; cases z)]; exact z
          refine ⟨_, gL6, by rw [List.length_map, pl, sizeLine_eq]; omega, as ++ [T1], kvs ++ [(.inr (ofL n), .ref q)], ds ++ [(n, t, b)], by rw [upd_same, List.map_append]; rfl, PrP.snoc (kt _ _ _ eT1) (kt _ _ _ eq6) (pp6.mo (kt _)), by rw [List.map_append, en, tk]; rfl, fun d hd => ?_, (P7.mut Lp Ll).mono (by omega), by rw [upd_ne q2L]; exact gq6⟩
          rcases List.mem_append.mp hd with z | z
          · exact am d z
          · rw [List.mem_singleton.mp z]
            exact ⟨lo, S1, S2⟩
        · rintro G4 ⟨as, kvs, ds, gL, pp, en, am, P4, gq4⟩
          rw [List.length_map] at P4
          rw [List.length_map, List.take_length] at en
          have dn : (ds.map (·.1)).Nodup := by rw [en]; exact wn
          have dl : ds.length ≤ 5 := by
            have := congrArg List.length en
            rw [List.length_map] at this
            omega
          refine ⟨L, as, kvs, rfl, SqL.of gL, pp.pairs, fun Dd nDd => ?_⟩
          rw [pp.kps.merge dn]
          exact ⟨Dd, kvs, ds, _, _, _, rfl, (P4.new nDd).mono (by omega), upd_same, pp.kps.mo fun q t b z => kpN z nDd, dn, dl, fun d hd => ⟨wm _ (by rw [← en]; exact List.mem_map.mpr ⟨d, hd, rfl⟩), am d hd⟩⟩
      rintro σ G2 ⟨Dd, kvs, ds, y2, y3, y11, rfl, P2, gD, kp, nd, l5, dok⟩
      have kl := kp.len
      have fsub : (ds.filter nz).Sublist ds := List.filter_sublist
      have fnd : ((ds.filter nz).map (·.1)).Nodup := nd.sublist (fsub.map _)
      have fl := List.length_filter_le nz ds
      refine ⟨fun σ G => ∃ (Pl : Addr) (kws : List (Key × V)) (y2 y3 y11 : Option V), σ = [some (.ref a), some (.ref p), y2, y3, some (.ref Dd), some (.ref Pl), x6, x7, x8, x9, x10, y11] ∧ Pe G p l (150 * i + 40) ∧ G Dd = some (.dK kvs) ∧ KPs G kvs ds ∧ G Pl = some (.dK kws) ∧ KPs G kws (ds.filter nz), ?_, ?_⟩
      · refine ⟨Dd, .dK kvs, gD, trivial, fun od => ⟨Dd, od, rfl, .inl ⟨kvs, upd_same, fun L nL => ?_⟩⟩⟩
        have DL : Dd ≠ L := fun z => by rw [← z, upd_same] at nL; cases nL
        refine lc_it walk_keys (fun j G3 => Same (upd G2 Dd (.frz od (.dK kvs))) G3 ∧ ∃ as kws, G3 L = some (.lst (as.map V.ref)) ∧ PrP G3 as kws ((ds.take j).filter nz)) ⟨Same.new (Same.refl _) nL, [], [], upd_same, .nil⟩ (fun j G _ z => z.1 _ _ upd_same) ?_ ?_
        · rintro j y G3 G4 hj ⟨s1, as, kws, gL, pp⟩ ⟨rfl, ky, v, e, rfl⟩
          obtain ⟨n, t, b, e2, rfl⟩ := kp.at_ j ky v e
          have tk : ds.take (j + 1) = ds.take j ++ [(n, t, b)] := by rw [List.take_add_one, e2]; rfl
          obtain ⟨q, v1, tq⟩ := kp.get nd (List.mem_of_getElem? e2)
          have tq4 : G4 q = some (.tup [.int t, .int b]) := s1 _ _ (by rw [upd_ne (fun z => by rw [z, gD] at tq; cases tq)]; exact tq)
          have dg : DGet G4 Dd (.str (ofL n)) (some (.ref q)) := .inl ⟨kvs, .inr (ofL n), .inr ⟨od, s1 _ _ upd_same⟩, rfl, v1.symm⟩
          have pl := pp.len
          have lf := List.length_filter_le nz (ds.take j)
          have lt := List.length_take_le j ds
          refine ⟨rfl, Dd, _, rfl, dg, _, _, .inr (SqT.of tq4), rfl, ?_⟩
          by_cases t0 : t = 0
          · have nzf : nz (n, t, b) = false := by simp [nz, t0]
            subst t0
            exact ⟨s1, as, kws, gL, by rw [tk, List.filter_append, List.filter_cons, nzf]; simpa using pp⟩
          · have nzt : nz (n, t, b) = true := by simp [nz, t0]
            show if (xor true (decide (t = 0))) = true then _ else _
            rw [decide_eq_false t0]
            refine ⟨Dd, _, rfl, dg, by show 2 ≤ sizeLine; decide, fun T1 n1 => ?_⟩
            have gL5 := kpN (o := .tup [kV (.inr (ofL n)), .ref q]) gL n1
            have eT1 : upd G4 T1 (.tup [kV (.inr (ofL n)), .ref q]) T1 = some (.tup [kV (.inr (ofL n)), .ref q]) := upd_same
            have eq5 := kpN (o := .tup [kV (.inr (ofL n)), .ref q]) tq4 n1
            have pp5 := pp.mo fun q' xs z => kpN (o := .tup [kV (.inr (ofL n)), .ref q]) z n1
            have s2 := s1.trans (Same.new (o := .tup [kV (.inr (ofL n)), .ref q]) (Same.refl G4) n1)
            generalize upd G4 T1 (.tup [kV (.inr (ofL n)), .ref q]) = G5 at gL5 eT1 eq5 pp5 s2
            have kt : ∀ (o : HO) q' xs, G5 q' = some (.tup xs) → upd G5 L o q' = some (.tup xs) := fun o q' xs z => by rw [upd_ne (fun y => by rw [y, gL5] at z; cases z)]; exact z
            refine ⟨_, gL5, by rw [List.length_map, pl, sizeLine_eq]; omega, Same.mut s2 nL, as ++ [T1], kws ++ [(.inr (ofL n), .ref q)], by rw [upd_same, List.map_append]; rfl, ?_⟩
            rw [tk, List.filter_append, List.filter_cons, nzt]
            exact PrP.snoc (kt _ _ _ eT1) (kt _ _ _ eq5) (pp5.mo (kt _))
        · rintro G3 ⟨s1, as, kws, gL, pp⟩
          rw [kl, List.take_length] at pp
          have gf := s1 _ _ upd_same
          have s2 : Same G2 (upd G3 Dd (.dK kvs)) := fun b o z => by
            by_cases bp : b = Dd
            · rw [bp] at z ⊢
              rw [gD] at z
              cases z
              exact upd_same
            · rw [upd_ne bp]
              exact s1 _ _ (by rw [upd_ne bp]; exact z)
          have pp2 := pp.mo fun q xs z => (by rw [upd_ne (fun y => by rw [y, gf] at z; cases z)]; exact z : upd G3 Dd (.dK kvs) q = some (.tup xs))
          have gL2 : upd G3 Dd (.dK kvs) L = some (.lst (as.map V.ref)) := by rw [upd_ne (Ne.symm DL)]; exact gL
          refine ⟨gf, ?_⟩
          generalize upd G3 Dd (.dK kvs) = G4 at s2 pp2 gL2
          refine ⟨L, as, kws, rfl, SqL.of gL2, pp2.pairs, fun Pl nPl => ?_⟩
          rw [pp2.kps.merge fnd]
          have s3 := s2.trans (Same.new (o := .dK kws) (Same.refl G4) nPl)
          exact ⟨Pl, kws, _, _, _, rfl, P2.same s3, s3 _ _ gD, kp.mo fun q t b z => s3 _ _ z, upd_same, pp2.kps.mo fun q t b z => kpN z nPl⟩
      rintro σ G3 ⟨Pl, kws, y2, y3, y11, rfl, P3, gD3, kp3, gP3, kw3⟩
      have sml : ∀ d ∈ ds, (d.1).length ≤ 8 ∧ Sm 1300 d.2.1 ∧ Sm 1300 d.2.2 ∧ (atx d.2.1 d.2.2).length ≤ 250 := fun d hd => by
        obtain ⟨nm, lo, S1, S2⟩ := dok d hd
        exact ⟨nm.2.1, S1.mono (by decide), S2.mono (by decide), atx_len1 S1 S2⟩
      refine ⟨Pl, kws, ds.filter nz, rfl, gP3, kw3, ⟨fnd, by omega, fun q hq => ?_⟩, fun qs G4 pm srt s4 => ?_⟩
      · obtain ⟨h1, h2, h3, h4⟩ := sml q (List.mem_filter.mp hq).1
        exact ⟨h1, h2, h3, by omega⟩
      rw [gtx_is]
      have gD4 := s4 _ _ gD3
      have gP4 := s4 _ _ gP3
      have kp4 := kp3.mo fun q t b z => s4 _ _ z
      have kw4 := kw3.mo fun q t b z => s4 _ _ z
      have P4 := P3.same s4
      have qnd : (qs.map (·.1)).Nodup := (pm.map _).nodup_iff.mpr fnd
      have ql := pm.length_eq
      have qm : ∀ q ∈ qs, q ∈ ds ∧ q.2.1 ≠ 0 := fun q hq => by
        have := List.mem_filter.mp (pm.mem_iff.mp hq)
        exact ⟨this.1, of_decide_eq_true this.2⟩
      have gpw : Gpw qs := ⟨asc_of (fun p : List Nat × Int × Int => p.1) srt qnd, fun q hq => nm_isNm (dok q (qm q hq).1).1, fun q hq => by
        obtain ⟨nm, lo, S1, S2⟩ := dok q (qm q hq).1
        exact ⟨lo, sm_ten2 S1, sm_ten2 S2, (qm q hq).2⟩⟩
      have gsk : GsOk qs := ⟨qnd, by omega, srt, fun q hq => by
        obtain ⟨nm, lo, S1, S2⟩ := dok q (qm q hq).1
        exact ⟨nm, lo, S1.mono (by decide), S2.mono (by decide), (qm q hq).2⟩⟩
      have tb : Bt (gtl qs) 1400 10 := gtl_bt gpw (by omega) fun q hq => ⟨(sml q (qm q hq).1).1, (sml q (qm q hq).1).2.2.2⟩
      refine ⟨fun σ G => ∃ (x : Addr) (y2 y3 y11 : Option V), σ = [some (.ref a), some (.ref p), y2, y3, some (.ref Dd), some (.ref Pl), some (.str (ofL (gtl qs))), some (.ref x), x8, x9, x10, y11] ∧ Pe G p l (150 * i + 60) ∧ LF A C G Pl x (ds.filter nz) qs, ?_, ?_⟩
      · have Dp : Dd ≠ p := P4.ne2 gD4 (fun _ _ _ z => by cases z)
        have Dl : Dd ≠ l := by
          obtain ⟨_, _, _, Z, _⟩ := P4
          exact ne_of gD4 Z.cel (fun z => by cases z)
        refine ⟨Dd, .dK kvs, gD4, trivial, fun od => ⟨Dd, od, rfl, .inl ⟨kvs, upd_same, fun L nL => ?_⟩⟩⟩
        have PL := P4.mut (o := .frz od (.dK kvs)) Dp Dl
        have Lp := PL.ne nL
        have Ll := PL.neL nL
        have DL : Dd ≠ L := fun z => by rw [← z, upd_same] at nL; cases nL
        have kpL : KPs (upd G4 Dd (.frz od (.dK kvs))) kvs ds := kp4.mo fun q t b z => by rw [upd_ne (fun y => by rw [y, gD4] at z; cases z)]; exact z
        have fD : upd G4 Dd (.frz od (.dK kvs)) Dd = some (.frz od (.dK kvs)) := upd_same
        have kU0 : ∀ G : Hp, Kp p (upd G4 Dd (.frz od (.dK kvs))) G → Kp p G4 (upd G Dd (.dK kvs)) := fun G kk b o n z => by
          by_cases bp : b = Dd
          · rw [bp] at z ⊢
            rw [gD4] at z
            cases z
            exact upd_same
          · rw [upd_ne bp]
            exact kk _ _ n (by rw [upd_ne bp]; exact z)
        generalize upd G4 Dd (.frz od (.dK kvs)) = GL at nL PL kpL fD kU0
        refine lc_it walk_keys (fun j G => Kp p GL G ∧ Pe G p l (150 * i + 40 + 2 * j) ∧ ∃ as kws, G L = some (.lst (as.map V.ref)) ∧ PrR G (NuV A G) as kws (ds.take j)) ⟨Kp.refl.new nL, (PL.new nL).mono (by omega), [], [], upd_same, .nil⟩ (fun j G _ z => z.1 _ _ Dp fD) ?_ ?_
        · rintro j y G5 G6 hj ⟨k5, P5, as, kws', gL, pp⟩ ⟨rfl, ky, v, e, rfl⟩
          obtain ⟨n, t, b, e2, rfl⟩ := kpL.at_ j ky v e
          have tk : ds.take (j + 1) = ds.take j ++ [(n, t, b)] := by rw [List.take_add_one, e2]; rfl
          have dm : (n, t, b) ∈ ds := List.mem_of_getElem? e2
          have jl : j < ds.length := (List.getElem?_eq_some_iff.mp e2).1
          obtain ⟨q, v1, tq⟩ := kpL.get nd dm
          obtain ⟨_, lo, S1, S2⟩ := dok _ dm
          have tq6 : G6 q = some (.tup [.int t, .int b]) := kpT k5 PL tq
          have dg : DGet G6 Dd (.str (ofL n)) (some (.ref q)) := .inl ⟨kvs, .inr (ofL n), .inr ⟨od, k5 _ _ Dp fD⟩, rfl, v1.symm⟩
          refine ⟨rfl, Dd, _, rfl, dg, p, l, q, _, t, b, rfl, P5, by omega, tq6, P5.ne2 tq6 (fun _ _ _ z => by cases z), lo, S1, S2, fun w G7 k7 P7 nu => ⟨by show 2 ≤ sizeLine; decide, fun T1 n1 => ?_⟩⟩
          have s8 := Same.new (o := .tup [kV (.inr (ofL n)), w]) (Same.refl G7) n1
          have gL8 := s8 _ _ (k7 _ _ Lp gL)
          have eT1 : upd G7 T1 (.tup [kV (.inr (ofL n)), w]) T1 = some (.tup [kV (.inr (ofL n)), w]) := upd_same
          have P8 := P7.same s8
          have k8 := (k5.trans k7).trans (Kp.same s8)
          have nuM : ∀ v t b, NuV A G6 v t b → NuV A (upd G7 T1 (.tup [kV (.inr (ofL n)), w])) v t b := fun v t b ⟨z1, z2⟩ => ⟨z1.elim (fun ⟨a, e, dx, ea⟩ => .inl ⟨a, e, dx, s8 _ _ (kpI k7 P5 ea)⟩) .inr, z2⟩
          have pp8 := pp.mo (fun q' xs z => s8 _ _ (kpT k7 P5 z)) nuM
          have nu8 : NuV A (upd G7 T1 (.tup [kV (.inr (ofL n)), w])) w t b := ⟨nu.mo s8, lo, S1.mono (by decide), S2.mono (by decide)⟩
          have pl := pp.len
          have lt := List.length_take_le j ds
          generalize upd G7 T1 (.tup [kV (.inr (ofL n)), w]) = G8 at gL8 eT1 P8 k8 pp8 nu8
          have kt : ∀ (o : HO) q' xs, G8 q' = some (.tup xs) → upd G8 L o q' = some (.tup xs) := fun o q' xs z => by rw [upd_ne (fun y => by rw [y, gL8] at z; cases z)]; exact z
          have kn : ∀ (o : HO) v t b, NuV A G8 v t b → NuV A (upd G8 L o) v t b := fun o v t b ⟨z1, z2⟩ => ⟨z1.elim (fun ⟨a, e, dx, ea⟩ => .inl ⟨a, e, dx, by rw [upd_ne (fun y => by rw [y, gL8] at ea; cases ea)]; exact ea⟩) .inr, z2⟩
          refine ⟨_, gL8, by rw [List.length_map, pl, sizeLine_eq]; omega, k8.mut nL, (P8.mut Lp Ll).mono (by omega), as ++ [T1], kws' ++ [(.inr (ofL n), w)], by rw [upd_same, List.map_append]; rfl, ?_⟩
          rw [tk]
          exact PrR.snoc (kt _ _ _ eT1) (kn _ _ _ _ nu8) (pp8.mo (kt _) (kn _))
        · rintro G5 ⟨k5, P5, as, kws', gL, pp⟩
          rw [kl] at P5
          rw [kl, List.take_length] at pp
          have gf := k5 _ _ Dp fD
          have kU := kU0 G5 k5
          have P6 := P5.mut (o := .dK kvs) Dp Dl
          have pp6 := pp.mo (G := upd G5 Dd (.dK kvs)) (S := NuV A (upd G5 Dd (.dK kvs))) (fun q xs z => by rw [upd_ne (fun y => by rw [y, gf] at z; cases z)]; exact z) fun v t b ⟨z1, z2⟩ => ⟨z1.elim (fun ⟨a, e, dx, ea⟩ => .inl ⟨a, e, dx, by rw [upd_ne (fun y => by rw [y, gf] at ea; cases ea)]; exact ea⟩) .inr, z2⟩
          have gL6 : upd G5 Dd (.dK kvs) L = some (.lst (as.map V.ref)) := by rw [upd_ne (Ne.symm DL)]; exact gL
          refine ⟨gf, ?_⟩
          generalize upd G5 Dd (.dK kvs) = G6 at kU P6 pp6 gL6
          refine ⟨L, as, kws', rfl, SqL.of gL6, pp6.pairs, fun Dn nDn => ?_⟩
          rw [pp6.krs.merge nd]
          have s7 := Same.new (o := .dK kws') (Same.refl G6) nDn
          refine mkGR (.inr ⟨Dn, kws', rfl, upd_same, pp6.krs.mo fun v t b z => ⟨z.1.mo s7, z.2⟩, nd, by omega, fun d hd => (dok d hd).1⟩) fun rs pm2 srt2 ok2 G8 x D gvs nx nD s8 hg kr => ?_
          have er : rs.filter nz = qs := sorted_one (fun p : List Nat × Int × Int => p.1) ((pm2.filter nz).trans pm.symm) ok2.srt srt qnd
          rw [er] at kr
          have k8 := kU.trans (Kp.same (s7.trans s8))
          exact ⟨x, _, _, _, rfl, (P6.same (s7.trans s8)).mono (by omega), kws, D, gvs, kpD k8 P4 gP4, kw4.mo fun q t b z => kpT k8 P4 z, hg, kr⟩
      rintro σ G5 ⟨x, y2, y3, y11, rfl, P5, lf⟩
      obtain ⟨tb1, tb2, tb3⟩ := tb
      refine ⟨fun σ G => σ = [some (.ref a), some (.ref p), y2, y3, some (.ref Dd), some (.ref Pl), some (.str (ofL (gtl qs))), some (.ref x), x8, x9, x10, y11] ∧ Pe G p l (150 * i + 60) ∧ LF A C G Pl x (ds.filter nz) qs, ?_, ?_⟩
      · obtain ⟨kws', D, gvs, h1, h2, hg, kr⟩ := id lf
        refine ⟨(show GpO A C G5 x qs from ⟨D, gvs, hg, kr⟩).isI, x, qs, rfl, ⟨D, gvs, hg, kr⟩, gsk, fun G6 s6 => ⟨gtx qs, rfl, ⟨fun h => ?_, fun _ => ?_⟩⟩⟩
        · rw [gtx_is] at h
          simp at h
        refine ⟨.str (ofL (gtl qs)), .inr qs, rfl, .inl ⟨gtl qs, rfl, by omega, by omega, due_gtl gpw⟩, fun v G7 s7 dv _ => ?_⟩
        obtain ⟨D', kvs', rfl, gD', kp'⟩ := dv
        have s67 := s6.trans s7
        have eq1 : (xor true (decide (kvs'.length = kws'.length) && qs.all fun p => decide (p ∈ ds.filter nz))) = false := by
          have l1 : kvs'.length = kws'.length := by rw [kp'.len, h2.len, ql]
          have l2 : (qs.all fun p => decide (p ∈ ds.filter nz)) = true := List.all_eq_true.mpr fun q hq => decide_eq_true (pm.mem_iff.mp hq)
          rw [decide_eq_true l1, l2]
          rfl
        refine ⟨D', Pl, kvs', kws', _, rfl, rfl, gD', s67 _ _ h1, fun _ => KPs.hits (h2.mo fun q t b z => s67 _ _ z) fnd kp', ?_⟩
        rw [eq1]
        refine ⟨fun h => absurd h (by decide), fun _ => ?_⟩
        refine ⟨rfl, rfl, .str (ofL (gtl qs)), rfl, .inl ⟨gtl qs, rfl, by omega, by omega, grd_inr (due_gtl gpw) fun G8 y D2 gvs2 ny nD2 s8 hg2 kr2 ok2 => ?_⟩⟩
        have s68 := s67.trans s8
        have hg8 := hg.mo s68
        have kr8 := kr.mo fun v t b z => AmV.mo s68 z
        have D2D : D2 ≠ D := fun z => by
          have := s67 _ _ hg.2
          rw [← z, nD2] at this
          cases this
        have eq2 : (decide (qs.length = qs.length) && qs.all fun p => decide (p ∈ qs)) = true := by
          have l2 : (qs.all fun p => decide (p ∈ qs)) = true := List.all_eq_true.mpr fun q hq => decide_eq_true hq
          rw [decide_eq_true rfl, l2]
          rfl
        refine ⟨(show GpO A C G8 y qs from ⟨D2, gvs2, hg2, kr2⟩).isI, (show GpO A C G8 x qs from ⟨D, gvs, hg8, kr8⟩).isI, y, x, qs, qs, D2, D, gvs2, gvs, rfl, D2D, hg2, kr2, hg8, kr8, gsk, gsk, fun G9 s9 => ?_⟩
        rw [eq2]
        have s59 := s68.trans s9
        exact ⟨fun h => absurd h (by decide), fun _ => ⟨rfl, P5.same s59, lf.mo s59⟩⟩
      rintro σ G6 ⟨rfl, P6, lf6⟩
      refine ⟨fun σ G => ∃ (y8 y9 : Option V), σ = [some (.ref a), some (.ref p), y2, y3, some (.ref Dd), some (.ref Pl), some (.str (ofL (gtl qs))), some (.ref x), y8, y9, x10, y11] ∧ Pe G p l (150 * i + 60 + 50) ∧ IsI C G x, ?_, ?_⟩
      · refine ⟨5, rfl, by decide, by decide, for_range (lo := 0) (n := 5) (fun j σ G => ∃ (y8 y9 : Option V), σ = [some (.ref a), some (.ref p), y2, y3, some (.ref Dd), some (.ref Pl), some (.str (ofL (gtl qs))), some (.ref x), y8, y9, x10, y11] ∧ Pe G p l (150 * i + 60 + 10 * j) ∧ LF A C G Pl x (ds.filter nz) qs) ⟨_, _, rfl, P6.mono (by omega), lf6⟩ ?_ ?_⟩
        · rintro j σ G7 hj ⟨y8, y9, rfl, P7, lf7⟩
          refine ⟨p, l, _, gtl qs, rfl, P7, by omega, by omega, by omega, tb3, fun l2 G8 b2 k8 P8 => ?_⟩
          obtain ⟨b21, b22, b23⟩ := b2
          refine rep_same (by omega) (by omega) b23 fun G9 s9 => ⟨fun h => absurd h (by decide), fun _ => ?_⟩
          refine ⟨p, l, _, l2, rfl, P8.same s9, by omega, by omega, by omega, b23, fun l3 G10 b3 k10 P10 => ?_⟩
          obtain ⟨b31, b32, b33⟩ := b3
          refine rep_same (by omega) (by omega) b33 fun G11 s11 => ⟨fun h => absurd h (by decide), fun _ => ?_⟩
          exact ⟨_, _, rfl, (P10.same s11).mono (by omega), ((lf7.kp k8 P7).mo s9 |>.kp k10 (P8.same s9)).mo s11⟩
        · rintro σ G7 ⟨y8, y9, rfl, P7, lf7⟩
          obtain ⟨_, _, _, _, _, hg, _⟩ := lf7
          exact ⟨_, _, rfl, P7.mono (by omega), let ⟨⟨dx, e⟩, _⟩ := hg; ⟨dx, _, e⟩⟩
      rintro σ G7 ⟨y8, y9, rfl, P7, ix⟩
      refine ⟨by show 1 ≤ sizeLine; decide, fun q1 n1 => ⟨by show 2 ≤ sizeLine; decide, fun q2 n2 => fun q3 n3 => ⟨1, rfl, by show 8 ≤ sizeLine; decide, fun q4 n4 => ?_⟩⟩⟩
      have Pa := P7.new (o := .lst [.str (Str.ofString "a 1")]) n1
      have Pb := Pa.new (o := .tup [.str (Str.ofString "a"), .int 1]) n2
      have Pc := Pb.new (o := .dK []) n3
      refine ⟨p, l, _, .ref q4, rfl, Pc.new n4, by omega, .inr ⟨q4, _, rfl, Pc.ne n4, .inl (SqL.of upd_same), by show 0 < 8; decide, by show 8 ≤ 1000000; decide, fun v G8 hv k8 P8 => ?_⟩⟩
      have e1 := k8 _ _ (P7.ne n1) (kpN (kpN (kpN upd_same n2) n3) n4)
      have e2 := k8 _ _ (Pa.ne n2) (kpN (kpN upd_same n3) n4)
      have e3 := k8 _ _ (Pb.ne n3) (kpN upd_same n4)
      obtain ⟨dx, fs, ex⟩ := ix
      have e4 := kpI k8 (Pc.new n4) (kpN (kpN (kpN (kpN ex n1) n2) n3) n4)
      obtain ⟨t, ty, kt⟩ : ∃ t, TyOf K G8 v t ∧ PySem.W.kitOne K t (.type "str") = some false := by
        simp only [List.mem_cons, List.not_mem_nil, or_false] at hv
        rcases hv with rfl | rfl | rfl | rfl | rfl | rfl | rfl | rfl
        · exact ⟨_, .non, kit_ty (by show kitB _ _ = some false; decide +kernel)⟩
        · exact ⟨_, .int _, kit_ty (by show kitB _ _ = some false; decide +kernel)⟩
        · exact ⟨_, .bl _, kit_ty (by show kitB _ _ = some false; decide +kernel)⟩
        · exact ⟨_, .lst e1, kit_ty (by show kitB _ _ = some false; decide +kernel)⟩
        · exact ⟨_, .tup e2, kit_ty (by show kitB _ _ = some false; decide +kernel)⟩
        · exact ⟨_, .dK e3, kit_ty (by show kitB _ _ = some false; decide +kernel)⟩
        · exact ⟨_, UG.ty e4, kGS⟩
        · exact ⟨_, .int _, kit_ty (by show kitB _ _ = some false; decide +kernel)⟩
      refine ⟨v, .inl 0, rfl, .inr ⟨rfl, t, ty, kt⟩, fun u G9 s9 du _ => ?_⟩
      have du : u = .int ((0 : Nat) : Int) := du
      subst du
      exact ⟨fun h => absurd h (by decide), fun _ => ⟨_, _, _, _, _, _, _, _, _, _, rfl, (P8.same s9).mono (by omega)⟩⟩
    · rintro σ G ⟨x2, x3, x4, x5, x6, x7, x8, x9, x10, x11, rfl, _⟩
      have n2 : (Str.ofString "none 2") = ofL [110, 111, 110, 101, 32, 50] := by decide +kernel
      have gp2 : Gpw [([110, 111, 110, 101], 2, 1)] := ⟨List.pairwise_singleton .., fun q hq => by rw [List.mem_singleton.mp hq]; decide, fun q hq => by rw [List.mem_singleton.mp hq]; exact ⟨⟨by decide, by decide⟩, by decide +kernel, by decide +kernel, by decide⟩⟩
      have d2 : due [110, 111, 110, 101, 32, 50] = .inr [([110, 111, 110, 101], 2, 1)] := by
        have := due_gtl gp2
        rwa [show gtl [([110, 111, 110, 101], 2, 1)] = [110, 111, 110, 101, 32, 50] by decide +kernel] at this
      refine ⟨.str (Str.ofString "none 2"), _, rfl, .inl ⟨_, congrArg V.str n2, by decide, by decide +kernel, d2⟩, fun v G1 s1 dv gk => ?_⟩
      obtain ⟨D1, kv1, rfl, g1, kp1⟩ := dv
      have nn : (Str.ofString "none") = ofL [110, 111, 110, 101] := by decide +kernel
      refine fun pd npd => ⟨by show 2 ≤ sizeLine; decide, fun T1 n1 => ⟨kpN upd_same n1, [(.inr (Str.ofString "none"), .ref T1)], rfl, by show 1 ≤ 15; decide, ?_⟩⟩
      have T1p : pd ≠ T1 := fun z => by rw [← z, upd_same] at n1; cases n1
      have D1p : D1 ≠ pd := fun z => by rw [z, npd] at g1; cases g1
      have s2 := Same.trans (sameN (o := .dK []) npd) (sameN (o := .tup [.int 2, .int 1]) n1)
      have kt : ∀ q xs, G1 q = some (.tup xs) → upd (upd (upd G1 pd (.dK [])) T1 (.tup [.int 2, .int 1])) pd (.dK (mergeK [] [(.inr (Str.ofString "none"), .ref T1)])) q = some (.tup xs) := fun q xs z => by
        rw [upd_ne (fun y => by rw [y, npd] at z; cases z)]
        exact s2 _ _ z
      have kb : KPs (upd (upd (upd G1 pd (.dK [])) T1 (.tup [.int 2, .int 1])) pd (.dK (mergeK [] [(.inr (Str.ofString "none"), .ref T1)]))) (mergeK [] [(.inr (Str.ofString "none"), .ref T1)]) [([110, 111, 110, 101], 2, 1)] := by
        rw [nn]
        exact .cons (by rw [upd_ne (Ne.symm T1p), upd_same]) .nil
      have eq1 : (xor true (decide (kv1.length = (mergeK [] [((.inr (Str.ofString "none") : Key), V.ref T1)]).length) && [(([110, 111, 110, 101] : List Nat), (2 : Int), (1 : Int))].all fun p => decide (p ∈ [(([110, 111, 110, 101] : List Nat), (2 : Int), (1 : Int))]))) = false := by
        have l1 : kv1.length = (mergeK [] [((.inr (Str.ofString "none") : Key), V.ref T1)]).length := kp1.len
        rw [decide_eq_true l1]
        rfl
      refine ⟨D1, pd, kv1, _, _, rfl, rfl, by rw [upd_ne D1p]; exact s2 _ _ g1, upd_same, fun _ => KPs.hits kb (by decide) (kp1.mo fun q t b z => kt _ _ z), ?_⟩
      rw [eq1]
      refine ⟨fun h => absurd h (by decide), fun _ => ?_⟩
      generalize upd (upd (upd G1 pd (.dK [])) T1 (.tup [.int 2, .int 1])) pd (.dK (mergeK [] [(.inr (Str.ofString "none"), .ref T1)])) = G4
      refine fun p2 np2 => ⟨upd_same, [(.inr (Str.ofString "none"), .int 2)], rfl, by decide, ?_⟩
      refine mkGR (ps := [([110, 111, 110, 101], 2, 1)]) (.inr ⟨p2, _, rfl, upd_same, by rw [nn]; exact .cons ⟨.inr ⟨rfl, rfl⟩, ⟨by decide, by decide⟩, Sm.mono (m := 10) (by show (2 : Int).natAbs < 2 ^ 10; decide) (by decide), Sm.mono (m := 10) (by show (1 : Int).natAbs < 2 ^ 10; decide) (by decide)⟩ .nil, by decide, by decide, fun q hq => by rw [List.mem_singleton.mp hq]; exact ⟨by decide, by decide, by decide⟩⟩) fun rs pm srt ok G5 x D gvs _ _ s5 hg kr => ?_
      rw [List.perm_singleton.mp pm] at kr ok
      have kr : KRs (AmV A G5) gvs [([110, 111, 110, 101], 2, 1)] := kr
      have ok : GsOk [([110, 111, 110, 101], 2, 1)] := ok
      have tx : gtx [([110, 111, 110, 101], 2, 1)] = (Str.ofString "none 2") := by
        rw [gtx_is, n2, show gtl [([110, 111, 110, 101], 2, 1)] = [110, 111, 110, 101, 32, 50] by decide +kernel]
      refine ⟨(show GpO A C G5 x _ from ⟨D, gvs, hg, kr⟩).isI, x, _, rfl, ⟨D, gvs, hg, kr⟩, ok, fun G6 s6 => ⟨_, rfl, ?_⟩⟩
      rw [tx]
      refine ⟨fun h => absurd h (by simp), fun _ => ?_⟩
      refine ⟨by show 5 ≤ sizeLine; decide, fun q1 n1 => ⟨q1, rfl, ⟨_, SqL.of upd_same⟩, fun L nL => ?_⟩⟩
      refine lc_it (walk_list (xs := tx5)) (fun j G => G q1 = some (.lst tx5) ∧ G L = some (.lst ((nt5.take j).map V.int))) ⟨kpN upd_same nL, upd_same⟩ (fun j G _ z => SqL.of z.1) ?_ ?_
      · rintro j y G7 G8 hj ⟨g1, g2⟩ ⟨rfl, e⟩
        obtain ⟨x, n, e1, e2, e3⟩ := five (K := K) (H := G8) j hj
        rw [e1] at e
        cases e
        refine ⟨rfl, _, .inl n, rfl, e2, fun u G9 s9 du _ => ⟨_, s9 _ _ g2, ?_, ?_, ?_⟩⟩
        · have n5 : nt5.length = 5 := rfl
          rw [List.length_map, List.length_take, sizeLine_eq, n5]
          omega
        · rw [upd_ne (fun z => by rw [z, upd_same] at nL; cases nL)]
          exact s9 _ _ g1
        · have du : u = .int (n : Int) := du
          subst du
          rw [upd_same, e3, List.map_append]
          rfl
      · rintro G7 ⟨g1, g2⟩
        refine ⟨by show 5 ≤ sizeLine; decide, fun q2 nq2 => ⟨.list (nt5.map PyData.int), .list (nt5.map PyData.int), .lst (SqL.of (kpN g2 nq2)) (dp_ints nt5), .lst (SqL.of upd_same) (dp_ints nt5), shaped_ints _, shaped_ints _, ?_⟩⟩
        rw [show PyData.eqv (.list (nt5.map PyData.int)) (.list (nt5.map PyData.int)) = true by decide +kernel]
        exact k _

end
end LW
set_option Elab.async false
set_option linter.all false
set_option maxRecDepth 100000
set_option maxHeartbeats 40000000
namespace LW
open PySem PySem.Spec PyProof.Rows L2 HX NumText
theorem exm_mk {K : PySem.W.Frag} {C S : Addr} (h1 : PySem.W.subIn K (.ref S) (.type "BaseException") = some true) (h2 : PySem.W.isClsIn K S = true) (h3 : PySem.W.typeIn K (.ref S) = some (.type "type")) (h4 : PySem.W.subIn K (.ref C) (.ref S) = some true) :
    PySem.W.exmOne K (.ref C) (.ref S) = some true := by
  have e1 : (PySem.W.subIn K (.ref S) (.type "BaseException") == some true) = true := by rw [h1] <;> rfl
  have e2 : ((PySem.W.clsIn K S).isSome && PySem.W.typeIn K (.ref S) == some (.type "type")) = true := by
    have h2' : (PySem.W.clsIn K S).isSome = true := h2
    rw [h2', h3] <;> rfl
  unfold PySem.W.exmOne
  rw [if_pos e1]
  show (if ((PySem.W.clsIn K S).isSome && PySem.W.typeIn K (.ref S) == some (.type "type")) = true then PySem.W.subIn K (.ref C) (.ref S) else none) = some true
  rw [if_pos e2, h4]
theorem kb_2 {K : PySem.W.Frag} {f : Addr} {fd : FuncData} {x q p0 p : Str} {st : Stmt} (F : Fun K x q st f fd) (hb : ∀ (kV doc pm : Value) (an : Option Addr) (cdv ct : Value) (s : Shared) (z u : Value), BindsTo s (PySem.W.fnOf x q (defArgs st) (defBody st) (defScope st) .none kV doc pm an cdv ct) ⟨[z], [(p, u)]⟩ [(p0, z), (p, u)]) : KBn K fd [p0, p] 1 [p] (fun us ws => us ++ ws) (fun vs zs => vs ++ zs) := by
  obtain ⟨oc, od, kV, doc, pm, an, cdv, ct, osl, rfl, lk, hcd⟩ := F.ex
  exact ⟨fun s us ws _ l1 l2 => match us, ws, l1, l2 with | [z], [u], _, _ => hb kV doc pm an cdv ct s z u, fun r1 r2 => r1.append r2⟩
theorem all_mk {l : PySem.W.OpenLaw} {w : World} {K : PySem.W.Frag} {h : Heap} {mg : Str → Option Value} {fa : Addr} (X : K.In h) (G : h.Ns mainGlobals mg) (hfa : mg "law" = some (.ref fa))
    {A : Addr}
    {f_I T_I : Addr} {od_I an_I odT_I : Option Addr} {sl_I slT_I : Array (Option Value)} {oc_I kV_I dc_I pm_I cd_I ct_I ocT_I : Value} {zT_I : Nat} {tk_I : Tok}
    {f_of : Addr} {od_of an_of : Option Addr} {sl_of : Array (Option Value)} {oc_of kV_of dc_of pm_of cd_of ct_of : Value}
    {p_of : Addr} {rest_of : List Value}
    {f_num : Addr} {od_num an_num : Option Addr} {sl_num : Array (Option Value)} {oc_num kV_num dc_num pm_num cd_num ct_num : Value}
    {p_num : Addr} {rest_num : List Value}
    {t_MOST_FIGURES : Nat}
    {t_MOST_LETTERS : Nat}
    {f_str : Addr} {od_str an_str : Option Addr} {sl_str : Array (Option Value)} {oc_str kV_str dc_str pm_str cd_str ct_str : Value}
    {f_eq : Addr} {od_eq an_eq : Option Addr} {sl_eq : Array (Option Value)} {oc_eq kV_eq dc_eq pm_eq cd_eq ct_eq : Value}
    {f_rdA : Addr} {od_rdA an_rdA : Option Addr} {sl_rdA : Array (Option Value)} {oc_rdA kV_rdA dc_rdA pm_rdA cd_rdA ct_rdA : Value}
    {p_rdA : Addr} {rest_rdA : List Value}
    {S : Addr}
    {BI : Addr}
    {BT : Addr}
    {nm_BT q_BT : Str} {N_BT : Addr} {bs_BT : List Value} {sn_BT : List Str} {sub_BT : List Value} {ab_BT : Bool} {col_BT : Option Bool} {dd_BT : Option Addr} {m0_BT m1_BT m2_BT m3_BT m5_BT : Option Value}
    {f_IBT : Addr} {od_IBT an_IBT : Option Addr} {sl_IBT : Array (Option Value)} {oc_IBT kV_IBT dc_IBT pm_IBT cd_IBT ct_IBT : Value}
    {C : Addr}
    {f_G0 T_G0 : Addr} {od_G0 an_G0 odT_G0 : Option Addr} {sl_G0 slT_G0 : Array (Option Value)} {oc_G0 kV_G0 dc_G0 pm_G0 cd_G0 ct_G0 ocT_G0 : Value} {zT_G0 : Nat}
    {f_gs : Addr} {od_gs an_gs : Option Addr} {sl_gs : Array (Option Value)} {oc_gs kV_gs dc_gs pm_gs cd_gs ct_gs : Value}
    {f_ge : Addr} {od_ge an_ge : Option Addr} {sl_ge : Array (Option Value)} {oc_ge kV_ge dc_ge pm_ge cd_ge ct_ge : Value}
    {f_gg : Addr} {od_gg an_gg : Option Addr} {sl_gg : Array (Option Value)} {oc_gg kV_gg dc_gg pm_gg cd_gg ct_gg : Value}
    {f_gc : Addr} {od_gc an_gc : Option Addr} {sl_gc : Array (Option Value)} {oc_gc kV_gc dc_gc pm_gc cd_gc ct_gc : Value}
    {f_rdG : Addr} {od_rdG an_rdG : Option Addr} {sl_rdG : Array (Option Value)} {oc_rdG kV_rdG dc_rdG pm_rdG cd_rdG ct_rdG : Value}
    {p_rdG : Addr} {rest_rdG : List Value}
    {f_ga : Addr} {od_ga an_ga : Option Addr} {sl_ga : Array (Option Value)} {oc_ga kV_ga dc_ga pm_ga cd_ga ct_ga : Value}
    {p_ga : Addr} {rest_ga : List Value}
    {f_isint : Addr} {od_isint an_isint : Option Addr} {sl_isint : Array (Option Value)} {oc_isint kV_isint dc_isint pm_isint cd_isint ct_isint : Value}
    {f_figs : Addr} {od_figs an_figs : Option Addr} {sl_figs : Array (Option Value)} {oc_figs kV_figs dc_figs pm_figs cd_figs ct_figs : Value}
    {f_isn : Addr} {od_isn an_isn : Option Addr} {sl_isn : Array (Option Value)} {oc_isn kV_isn dc_isn pm_isn cd_isn ct_isn : Value}
    {f_need : Addr} {od_need an_need : Option Addr} {sl_need : Array (Option Value)} {oc_need kV_need dc_need pm_need cd_need ct_need : Value}
    {f_asc : Addr} {od_asc an_asc : Option Addr} {sl_asc : Array (Option Value)} {oc_asc kV_asc dc_asc pm_asc cd_asc ct_asc : Value}
    {f_gap : Addr} {od_gap an_gap : Option Addr} {sl_gap : Array (Option Value)} {oc_gap kV_gap dc_gap pm_gap cd_gap ct_gap : Value}
    {f_pen : Addr} {od_pen an_pen : Option Addr} {sl_pen : Array (Option Value)} {oc_pen kV_pen dc_pen pm_pen cd_pen ct_pen : Value}
    {f_draw : Addr} {od_draw an_draw : Option Addr} {sl_draw : Array (Option Value)} {oc_draw kV_draw dc_draw pm_draw cd_draw ct_draw : Value}
    {f_pick : Addr} {od_pick an_pick : Option Addr} {sl_pick : Array (Option Value)} {oc_pick kV_pick dc_pick pm_pick cd_pick ct_pick : Value}
    {f_names : Addr} {od_names an_names : Option Addr} {sl_names : Array (Option Value)} {oc_names kV_names dc_names pm_names cd_names ct_names : Value}
    {f_low : Addr} {od_low an_low : Option Addr} {sl_low : Array (Option Value)} {oc_low kV_low dc_low pm_low cd_low ct_low : Value}
    {f_pair : Addr} {od_pair an_pair : Option Addr} {sl_pair : Array (Option Value)} {oc_pair kV_pair dc_pair pm_pair cd_pair ct_pair : Value}
    {f_number : Addr} {od_number an_number : Option Addr} {sl_number : Array (Option Value)} {oc_number kV_number dc_number pm_number cd_number ct_number : Value}
    {f_word : Addr} {od_word an_word : Option Addr} {sl_word : Array (Option Value)} {oc_word kV_word dc_word pm_word cd_word ct_word : Value}
    {f_text : Addr} {od_text an_text : Option Addr} {sl_text : Array (Option Value)} {oc_text kV_text dc_text pm_text cd_text ct_text : Value}
    {f_lin : Addr} {od_lin an_lin : Option Addr} {sl_lin : Array (Option Value)} {oc_lin kV_lin dc_lin pm_lin cd_lin ct_lin : Value}
    {f_lfig : Addr} {od_lfig an_lfig : Option Addr} {sl_lfig : Array (Option Value)} {oc_lfig kV_lfig dc_lfig pm_lfig cd_lfig ct_lfig : Value}
    {f_lam : Addr} {od_lam an_lam : Option Addr} {sl_lam : Array (Option Value)} {oc_lam kV_lam dc_lam pm_lam cd_lam ct_lam : Value}
    {f_due : Addr} {od_due an_due : Option Addr} {sl_due : Array (Option Value)} {oc_due kV_due dc_due pm_due cd_due ct_due : Value}
    {f_heard : Addr} {od_heard an_heard : Option Addr} {sl_heard : Array (Option Value)} {oc_heard kV_heard dc_heard pm_heard cd_heard ct_heard : Value}
    {f_bent : Addr} {od_bent an_bent : Option Addr} {sl_bent : Array (Option Value)} {oc_bent kV_bent dc_bent pm_bent cd_bent ct_bent : Value}
    {f_same : Addr} {od_same an_same : Option Addr} {sl_same : Array (Option Value)} {oc_same kV_same dc_same pm_same cd_same ct_same : Value}
    {f_law : Addr} {od_law an_law : Option Addr} {sl_law : Array (Option Value)} {oc_law kV_law dc_law pm_law cd_law ct_law : Value}
    (n_int : PySem.W.nsIn K mainGlobals "int" = some none)
    (n_len : PySem.W.nsIn K mainGlobals "len" = some none)
    (n_abs : PySem.W.nsIn K mainGlobals "abs" = some none)
    (n_list : PySem.W.nsIn K mainGlobals "list" = some none)
    (n_range : PySem.W.nsIn K mainGlobals "range" = some none)
    (n_isinstance : PySem.W.nsIn K mainGlobals "isinstance" = some none)
    (n_repr : PySem.W.nsIn K mainGlobals "repr" = some none)
    (n_bool : PySem.W.nsIn K mainGlobals "bool" = some none)
    (n_str : PySem.W.nsIn K mainGlobals "str" = some none)
    (n_dict : PySem.W.nsIn K mainGlobals "dict" = some none)
    (n_tuple : PySem.W.nsIn K mainGlobals "tuple" = some none)
    (n_sorted : PySem.W.nsIn K mainGlobals "sorted" = some none)
    (n_enumerate : PySem.W.nsIn K mainGlobals "enumerate" = some none)
    (hn : PySem.W.specialIn K (.builtin "object.__class__") "__get__" = some (some (.builtin "getset_descriptor.__get__")))
    (ht : PySem.W.takesIn K (.builtin "object.__class__") = some true)
    (a_A : PySem.W.nsIn K mainGlobals "Amount" = some (some (.ref A)))
    (pg_A : PySem.W.plainGet K A Str.empty = true)
    (hd_A : PySem.W.hasDictIn K A = true)
    (po_A : PySem.W.plainOver K A = true)
    (sa_A : PySem.W.findIn K (.ref A) "__setattr__" = some (some (.builtin "object.__setattr__")))
    (mk_A : PySem.W.makesIn K A = true)
    (kA_A : PySem.W.keepIn K (.ref A) = true)
    (ha_A : PySem.W.findIn K (.ref A) "__class__" = some (some (.builtin "object.__class__")))
    (hm_A : PySem.W.mroIn K A (.type "object") = some true)
    (sub_A : PySem.W.subIn K (.ref A) (.type "int") = some false)
    (rd_A : PySem.W.readsIn K A (.type "type") = true)
    (gat_A : PySem.W.specialIn K (.ref A) "__getattribute__" = some (some (.builtin "type.__getattribute__")))
    (no_A_top : PySem.W.findIn K (.ref A) "top" = some none)
    (no_A_bottom : PySem.W.findIn K (.ref A) "bottom" = some none)
    (first_A : PySem.W.selfFirst K A = true)
    (hgcd : PySem.W.nsIn K mainGlobals "gcd" = some (some (.builtin "math.gcd")))
    (tI : PySem.W.kitOne K (.ref A) (.type "int") = some false)
    (tA : PySem.W.kitOne K (.type "int") (.ref A) = some false)
    (a_I : PySem.W.findIn K (.ref A) "__init__" = some (some (.ref f_I)))
    (i_I : PySem.W.isFn K (.ref f_I) = true)
    (l_I : K.lookup f_I = some ⟨oc_I, od_I, .func (PySem.W.fnOf "__init__" "Amount.__init__" (defArgs s_Amount_init) (defBody s_Amount_init) (defScope s_Amount_init) (.ref T_I) kV_I dc_I pm_I an_I cd_I ct_I), sl_I⟩)
    (c_I : PySem.W.codeIn K cd_I "Amount.__init__" = true)
    (k_I : PySem.W.keepIn K (.ref f_I) = true)
    (lT_I : K.lookup T_I = some ⟨ocT_I, odT_I, .seq #[.int 1 tk_I] zT_I, slT_I⟩)
    (a_of : PySem.W.findCls K (.ref A) (.type "type") "of" = some (.get (.builtin "staticmethod.__get__") (.ref p_of) .none (.ref A)))
    (r_of : PySem.W.recIn K p_of "staticmethod" = some (.ref f_of :: rest_of))
    (i_of : PySem.W.isFn K (.ref f_of) = true)
    (l_of : K.lookup f_of = some ⟨oc_of, od_of, .func (PySem.W.fnOf "of" "Amount.of" (defArgs s_Amount_of) (defBody s_Amount_of) (defScope s_Amount_of) .none kV_of dc_of pm_of an_of cd_of ct_of), sl_of⟩)
    (c_of : PySem.W.codeIn K cd_of "Amount.of" = true)
    (k_of : PySem.W.keepIn K (.ref f_of) = true)
    (a_num : PySem.W.findCls K (.ref A) (.type "type") "is_number" = some (.get (.builtin "staticmethod.__get__") (.ref p_num) .none (.ref A)))
    (r_num : PySem.W.recIn K p_num "staticmethod" = some (.ref f_num :: rest_num))
    (i_num : PySem.W.isFn K (.ref f_num) = true)
    (l_num : K.lookup f_num = some ⟨oc_num, od_num, .func (PySem.W.fnOf "is_number" "Amount.is_number" (defArgs s_Amount_is_number) (defBody s_Amount_is_number) (defScope s_Amount_is_number) .none kV_num dc_num pm_num an_num cd_num ct_num), sl_num⟩)
    (c_num : PySem.W.codeIn K cd_num "Amount.is_number" = true)
    (k_num : PySem.W.keepIn K (.ref f_num) = true)
    (g_MOST_FIGURES : PySem.W.nsIn K mainGlobals "MOST_FIGURES" = some (some (.int 200 t_MOST_FIGURES)))
    (g_MOST_LETTERS : PySem.W.nsIn K mainGlobals "MOST_LETTERS" = some (some (.int 8 t_MOST_LETTERS)))
    (nd1 : PySem.W.nsOkIn K cStatics = true)
    (nd2 : PySem.W.nsIn K cStatics "sys.int_max_str_digits" = some none)
    (a_str : PySem.W.findIn K (.ref A) "__str__" = some (some (.ref f_str)))
    (i_str : PySem.W.isFn K (.ref f_str) = true)
    (l_str : K.lookup f_str = some ⟨oc_str, od_str, .func (PySem.W.fnOf "__str__" "Amount.__str__" (defArgs s_Amount_str) (defBody s_Amount_str) (defScope s_Amount_str) .none kV_str dc_str pm_str an_str cd_str ct_str), sl_str⟩)
    (c_str : PySem.W.codeIn K cd_str "Amount.__str__" = true)
    (k_str : PySem.W.keepIn K (.ref f_str) = true)
    (a_eq : PySem.W.findIn K (.ref A) "__eq__" = some (some (.ref f_eq)))
    (i_eq : PySem.W.isFn K (.ref f_eq) = true)
    (l_eq : K.lookup f_eq = some ⟨oc_eq, od_eq, .func (PySem.W.fnOf "__eq__" "Amount.__eq__" (defArgs s_Amount_eq) (defBody s_Amount_eq) (defScope s_Amount_eq) .none kV_eq dc_eq pm_eq an_eq cd_eq ct_eq), sl_eq⟩)
    (c_eq : PySem.W.codeIn K cd_eq "Amount.__eq__" = true)
    (k_eq : PySem.W.keepIn K (.ref f_eq) = true)
    (a_rdA : PySem.W.findCls K (.ref A) (.type "type") "read" = some (.get (.builtin "classmethod.__get__") (.ref p_rdA) .none (.ref A)))
    (r_rdA : PySem.W.recIn K p_rdA "classmethod" = some (.ref f_rdA :: rest_rdA))
    (fi_rdA : PySem.W.fnIn K f_rdA = true)
    (l_rdA : K.lookup f_rdA = some ⟨oc_rdA, od_rdA, .func (PySem.W.fnOf "read" "Amount.read" (defArgs s_Amount_read) (defBody s_Amount_read) (defScope s_Amount_read) .none kV_rdA dc_rdA pm_rdA an_rdA cd_rdA ct_rdA), sl_rdA⟩)
    (c_rdA : PySem.W.codeIn K cd_rdA "Amount.read" = true)
    (k_rdA : PySem.W.keepIn K (.ref f_rdA) = true)
    (fmA : PySem.W.findIn K (.ref A) "__format__" = some (some (.builtin "object.__format__")))
    (a_S : PySem.W.nsIn K mainGlobals "ShiftError" = some (some (.ref S)))
    (a_BI : PySem.W.nsIn K mainGlobals "BadInput" = some (some (.ref BI)))
    (iS : PySem.W.isClsIn K S = true)
    (tS : PySem.W.typeIn K (.ref S) = some (.type "type"))
    (bS : PySem.W.subIn K (.ref S) (.type "BaseException") = some true)
    (a_BT : PySem.W.nsIn K mainGlobals "BadText" = some (some (.ref BT)))
    (xL_BT : K.lookup BT = some (excClassObj nm_BT q_BT BT N_BT bs_BT [.ref BI, .ref S, .type "ValueError", .type "Exception", .type "BaseException", .type "object"] true sn_BT sub_BT ab_BT col_BT dd_BT m0_BT m1_BT m2_BT m3_BT m5_BT "ValueError.__new__"))
    (sa_BT : PySem.W.findIn K (.ref BT) "__setattr__" = some (some (.builtin "object.__setattr__")))
    (eC_BT : PySem.W.subIn K (.ref BT) (.type "BaseException") = some true)
    (tC_BT : PySem.W.typeIn K (.ref BT) = some (.type "type"))
    (kC_BT : PySem.W.keepIn K (.ref BT) = true)
    (ga_BT : PySem.W.findIn K (.ref BT) "__getattribute__" = some (some (.builtin "BaseException.__getattribute__")))
    (gg_BT : PySem.W.findIn K (.ref BT) "__getattr__" = some none)
    (hd_BT : PySem.W.hasDictIn K BT = true)
    (ha_BT : PySem.W.findIn K (.ref BT) "__class__" = some (some (.builtin "object.__class__")))
    (hn_BT : PySem.W.specialIn K (.builtin "object.__class__") "__get__" = some (some (.builtin "getset_descriptor.__get__")))
    (ht_BT : PySem.W.takesIn K (.builtin "object.__class__") = some true)
    (hm_BT : PySem.W.mroIn K BT (.type "object") = some true)
    (no_BT_line : PySem.W.findIn K (.ref BT) "line" = some none)
    (no_BT_word : PySem.W.findIn K (.ref BT) "word" = some none)
    (a_IBT : PySem.W.findIn K (.ref BT) "__init__" = some (some (.ref f_IBT)))
    (t_IBT : PySem.W.typeIn K (.ref f_IBT) = some (.type "function"))
    (l_IBT : K.lookup f_IBT = some ⟨oc_IBT, od_IBT, .func (PySem.W.fnOf "__init__" "BadText.__init__" (defArgs s_BadText_init) (defBody s_BadText_init) (defScope s_BadText_init) .none kV_IBT dc_IBT pm_IBT an_IBT cd_IBT ct_IBT), sl_IBT⟩)
    (c_IBT : PySem.W.codeIn K cd_IBT "BadText.__init__" = true)
    (k_IBT : PySem.W.keepIn K (.ref f_IBT) = true)
    (iBT : PySem.W.isClsIn K BT = true)
    (sTS : PySem.W.subIn K (.ref BT) (.ref S) = some true)
    (sTT : PySem.W.subIn K (.ref BT) (.ref BT) = some true)
    (q_TI : PySem.W.kitOne K (.ref BT) (.ref BI) = some true)
    (a_C : PySem.W.nsIn K mainGlobals "Gaps" = some (some (.ref C)))
    (pg_C : PySem.W.plainGet K C Str.empty = true)
    (hd_C : PySem.W.hasDictIn K C = true)
    (po_C : PySem.W.plainOver K C = true)
    (sa_C : PySem.W.findIn K (.ref C) "__setattr__" = some (some (.builtin "object.__setattr__")))
    (mk_C : PySem.W.makesIn K C = true)
    (kA_C : PySem.W.keepIn K (.ref C) = true)
    (ha_C : PySem.W.findIn K (.ref C) "__class__" = some (some (.builtin "object.__class__")))
    (hm_C : PySem.W.mroIn K C (.type "object") = some true)
    (sub_C : PySem.W.subIn K (.ref C) (.type "int") = some false)
    (rd_C : PySem.W.readsIn K C (.type "type") = true)
    (gat_C : PySem.W.specialIn K (.ref C) "__getattribute__" = some (some (.builtin "type.__getattribute__")))
    (no_C__told : PySem.W.findIn K (.ref C) "_told" = some none)
    (a_G0 : PySem.W.findIn K (.ref C) "__init__" = some (some (.ref f_G0)))
    (i_G0 : PySem.W.isFn K (.ref f_G0) = true)
    (l_G0 : K.lookup f_G0 = some ⟨oc_G0, od_G0, .func (PySem.W.fnOf "__init__" "Gaps.__init__" (defArgs s_Gaps_init) (defBody s_Gaps_init) (defScope s_Gaps_init) (.ref T_G0) kV_G0 dc_G0 pm_G0 an_G0 cd_G0 ct_G0), sl_G0⟩)
    (c_G0 : PySem.W.codeIn K cd_G0 "Gaps.__init__" = true)
    (k_G0 : PySem.W.keepIn K (.ref f_G0) = true)
    (lT_G0 : K.lookup T_G0 = some ⟨ocT_G0, odT_G0, .seq #[.none] zT_G0, slT_G0⟩)
    (a_gs : PySem.W.findIn K (.ref C) "__str__" = some (some (.ref f_gs)))
    (i_gs : PySem.W.isFn K (.ref f_gs) = true)
    (l_gs : K.lookup f_gs = some ⟨oc_gs, od_gs, .func (PySem.W.fnOf "__str__" "Gaps.__str__" (defArgs s_Gaps_str) (defBody s_Gaps_str) (defScope s_Gaps_str) .none kV_gs dc_gs pm_gs an_gs cd_gs ct_gs), sl_gs⟩)
    (c_gs : PySem.W.codeIn K cd_gs "Gaps.__str__" = true)
    (k_gs : PySem.W.keepIn K (.ref f_gs) = true)
    (a_ge : PySem.W.findIn K (.ref C) "__eq__" = some (some (.ref f_ge)))
    (i_ge : PySem.W.isFn K (.ref f_ge) = true)
    (l_ge : K.lookup f_ge = some ⟨oc_ge, od_ge, .func (PySem.W.fnOf "__eq__" "Gaps.__eq__" (defArgs s_Gaps_eq) (defBody s_Gaps_eq) (defScope s_Gaps_eq) .none kV_ge dc_ge pm_ge an_ge cd_ge ct_ge), sl_ge⟩)
    (c_ge : PySem.W.codeIn K cd_ge "Gaps.__eq__" = true)
    (k_ge : PySem.W.keepIn K (.ref f_ge) = true)
    (a_gg : PySem.W.findIn K (.ref C) "__getitem__" = some (some (.ref f_gg)))
    (i_gg : PySem.W.isFn K (.ref f_gg) = true)
    (l_gg : K.lookup f_gg = some ⟨oc_gg, od_gg, .func (PySem.W.fnOf "__getitem__" "Gaps.__getitem__" (defArgs s_Gaps_getitem) (defBody s_Gaps_getitem) (defScope s_Gaps_getitem) .none kV_gg dc_gg pm_gg an_gg cd_gg ct_gg), sl_gg⟩)
    (c_gg : PySem.W.codeIn K cd_gg "Gaps.__getitem__" = true)
    (k_gg : PySem.W.keepIn K (.ref f_gg) = true)
    (a_gc : PySem.W.findIn K (.ref C) "__contains__" = some (some (.ref f_gc)))
    (i_gc : PySem.W.isFn K (.ref f_gc) = true)
    (l_gc : K.lookup f_gc = some ⟨oc_gc, od_gc, .func (PySem.W.fnOf "__contains__" "Gaps.__contains__" (defArgs s_Gaps_contains) (defBody s_Gaps_contains) (defScope s_Gaps_contains) .none kV_gc dc_gc pm_gc an_gc cd_gc ct_gc), sl_gc⟩)
    (c_gc : PySem.W.codeIn K cd_gc "Gaps.__contains__" = true)
    (k_gc : PySem.W.keepIn K (.ref f_gc) = true)
    (fn_gg : PySem.W.fnIn K f_gg = true)
    (a_rdG : PySem.W.findCls K (.ref C) (.type "type") "read" = some (.get (.builtin "classmethod.__get__") (.ref p_rdG) .none (.ref C)))
    (r_rdG : PySem.W.recIn K p_rdG "classmethod" = some (.ref f_rdG :: rest_rdG))
    (fi_rdG : PySem.W.fnIn K f_rdG = true)
    (l_rdG : K.lookup f_rdG = some ⟨oc_rdG, od_rdG, .func (PySem.W.fnOf "read" "Gaps.read" (defArgs s_Gaps_read) (defBody s_Gaps_read) (defScope s_Gaps_read) .none kV_rdG dc_rdG pm_rdG an_rdG cd_rdG ct_rdG), sl_rdG⟩)
    (c_rdG : PySem.W.codeIn K cd_rdG "Gaps.read" = true)
    (k_rdG : PySem.W.keepIn K (.ref f_rdG) = true)
    (a_ga : PySem.W.findIn K (.ref C) "accounts" = some (some (.ref p_ga)))
    (g_ga : PySem.W.specialIn K (.ref p_ga) "__get__" = some (some (.builtin "property.__get__")))
    (t_ga : PySem.W.takesIn K (.ref p_ga) = some true)
    (r_ga : PySem.W.recIn K p_ga "property" = some (.ref f_ga :: rest_ga))
    (l_ga : K.lookup f_ga = some ⟨oc_ga, od_ga, .func (PySem.W.fnOf "accounts" "Gaps.accounts" (defArgs s_Gaps_accounts) (defBody s_Gaps_accounts) (defScope s_Gaps_accounts) .none kV_ga dc_ga pm_ga an_ga cd_ga ct_ga), sl_ga⟩)
    (c_ga : PySem.W.codeIn K cd_ga "Gaps.accounts" = true)
    (k_ga : PySem.W.keepIn K (.ref f_ga) = true)
    (kGS : PySem.W.kitOne K (.ref C) (.type "str") = some false)
    (a_isint : PySem.W.nsIn K mainGlobals "is_int" = some (some (.ref f_isint)))
    (l_isint : K.lookup f_isint = some ⟨oc_isint, od_isint, .func (PySem.W.fnOf "is_int" "is_int" (defArgs s_is_int) (defBody s_is_int) (defScope s_is_int) .none kV_isint dc_isint pm_isint an_isint cd_isint ct_isint), sl_isint⟩)
    (c_isint : PySem.W.codeIn K cd_isint "is_int" = true)
    (k_isint : PySem.W.keepIn K (.ref f_isint) = true)
    (a_figs : PySem.W.nsIn K mainGlobals "_is_figures" = some (some (.ref f_figs)))
    (l_figs : K.lookup f_figs = some ⟨oc_figs, od_figs, .func (PySem.W.fnOf "_is_figures" "_is_figures" (defArgs s__is_figures) (defBody s__is_figures) (defScope s__is_figures) .none kV_figs dc_figs pm_figs an_figs cd_figs ct_figs), sl_figs⟩)
    (c_figs : PySem.W.codeIn K cd_figs "_is_figures" = true)
    (k_figs : PySem.W.keepIn K (.ref f_figs) = true)
    (a_isn : PySem.W.nsIn K mainGlobals "is_name" = some (some (.ref f_isn)))
    (l_isn : K.lookup f_isn = some ⟨oc_isn, od_isn, .func (PySem.W.fnOf "is_name" "is_name" (defArgs s_is_name) (defBody s_is_name) (defScope s_is_name) .none kV_isn dc_isn pm_isn an_isn cd_isn ct_isn), sl_isn⟩)
    (c_isn : PySem.W.codeIn K cd_isn "is_name" = true)
    (k_isn : PySem.W.keepIn K (.ref f_isn) = true)
    (a_need : PySem.W.nsIn K mainGlobals "need_name" = some (some (.ref f_need)))
    (l_need : K.lookup f_need = some ⟨oc_need, od_need, .func (PySem.W.fnOf "need_name" "need_name" (defArgs s_need_name) (defBody s_need_name) (defScope s_need_name) .none kV_need dc_need pm_need an_need cd_need ct_need), sl_need⟩)
    (c_need : PySem.W.codeIn K cd_need "need_name" = true)
    (k_need : PySem.W.keepIn K (.ref f_need) = true)
    (a_asc : PySem.W.nsIn K mainGlobals "_ascending_names" = some (some (.ref f_asc)))
    (l_asc : K.lookup f_asc = some ⟨oc_asc, od_asc, .func (PySem.W.fnOf "_ascending_names" "_ascending_names" (defArgs s__ascending_names) (defBody s__ascending_names) (defScope s__ascending_names) .none kV_asc dc_asc pm_asc an_asc cd_asc ct_asc), sl_asc⟩)
    (c_asc : PySem.W.codeIn K cd_asc "_ascending_names" = true)
    (k_asc : PySem.W.keepIn K (.ref f_asc) = true)
    (a_gap : PySem.W.nsIn K mainGlobals "_read_gap" = some (some (.ref f_gap)))
    (l_gap : K.lookup f_gap = some ⟨oc_gap, od_gap, .func (PySem.W.fnOf "_read_gap" "_read_gap" (defArgs s__read_gap) (defBody s__read_gap) (defScope s__read_gap) .none kV_gap dc_gap pm_gap an_gap cd_gap ct_gap), sl_gap⟩)
    (c_gap : PySem.W.codeIn K cd_gap "_read_gap" = true)
    (k_gap : PySem.W.keepIn K (.ref f_gap) = true)
    (a_pen : PySem.W.nsIn K mainGlobals "_law_pen" = some (some (.ref f_pen)))
    (l_pen : K.lookup f_pen = some ⟨oc_pen, od_pen, .func (PySem.W.fnOf "_law_pen" "_law_pen" (defArgs s__law_pen) (defBody s__law_pen) (defScope s__law_pen) .none kV_pen dc_pen pm_pen an_pen cd_pen ct_pen), sl_pen⟩)
    (c_pen : PySem.W.codeIn K cd_pen "_law_pen" = true)
    (k_pen : PySem.W.keepIn K (.ref f_pen) = true)
    (a_draw : PySem.W.nsIn K mainGlobals "_law_draw" = some (some (.ref f_draw)))
    (l_draw : K.lookup f_draw = some ⟨oc_draw, od_draw, .func (PySem.W.fnOf "_law_draw" "_law_draw" (defArgs s__law_draw) (defBody s__law_draw) (defScope s__law_draw) .none kV_draw dc_draw pm_draw an_draw cd_draw ct_draw), sl_draw⟩)
    (c_draw : PySem.W.codeIn K cd_draw "_law_draw" = true)
    (k_draw : PySem.W.keepIn K (.ref f_draw) = true)
    (a_pick : PySem.W.nsIn K mainGlobals "_law_pick" = some (some (.ref f_pick)))
    (l_pick : K.lookup f_pick = some ⟨oc_pick, od_pick, .func (PySem.W.fnOf "_law_pick" "_law_pick" (defArgs s__law_pick) (defBody s__law_pick) (defScope s__law_pick) .none kV_pick dc_pick pm_pick an_pick cd_pick ct_pick), sl_pick⟩)
    (c_pick : PySem.W.codeIn K cd_pick "_law_pick" = true)
    (k_pick : PySem.W.keepIn K (.ref f_pick) = true)
    (a_names : PySem.W.nsIn K mainGlobals "_law_names" = some (some (.ref f_names)))
    (l_names : K.lookup f_names = some ⟨oc_names, od_names, .func (PySem.W.fnOf "_law_names" "_law_names" (defArgs s__law_names) (defBody s__law_names) (defScope s__law_names) .none kV_names dc_names pm_names an_names cd_names ct_names), sl_names⟩)
    (c_names : PySem.W.codeIn K cd_names "_law_names" = true)
    (k_names : PySem.W.keepIn K (.ref f_names) = true)
    (a_low : PySem.W.nsIn K mainGlobals "_law_lowest" = some (some (.ref f_low)))
    (l_low : K.lookup f_low = some ⟨oc_low, od_low, .func (PySem.W.fnOf "_law_lowest" "_law_lowest" (defArgs s__law_lowest) (defBody s__law_lowest) (defScope s__law_lowest) .none kV_low dc_low pm_low an_low cd_low ct_low), sl_low⟩)
    (c_low : PySem.W.codeIn K cd_low "_law_lowest" = true)
    (k_low : PySem.W.keepIn K (.ref f_low) = true)
    (a_pair : PySem.W.nsIn K mainGlobals "_law_pair" = some (some (.ref f_pair)))
    (l_pair : K.lookup f_pair = some ⟨oc_pair, od_pair, .func (PySem.W.fnOf "_law_pair" "_law_pair" (defArgs s__law_pair) (defBody s__law_pair) (defScope s__law_pair) .none kV_pair dc_pair pm_pair an_pair cd_pair ct_pair), sl_pair⟩)
    (c_pair : PySem.W.codeIn K cd_pair "_law_pair" = true)
    (k_pair : PySem.W.keepIn K (.ref f_pair) = true)
    (a_number : PySem.W.nsIn K mainGlobals "_law_number" = some (some (.ref f_number)))
    (l_number : K.lookup f_number = some ⟨oc_number, od_number, .func (PySem.W.fnOf "_law_number" "_law_number" (defArgs s__law_number) (defBody s__law_number) (defScope s__law_number) .none kV_number dc_number pm_number an_number cd_number ct_number), sl_number⟩)
    (c_number : PySem.W.codeIn K cd_number "_law_number" = true)
    (k_number : PySem.W.keepIn K (.ref f_number) = true)
    (a_word : PySem.W.nsIn K mainGlobals "_law_word" = some (some (.ref f_word)))
    (l_word : K.lookup f_word = some ⟨oc_word, od_word, .func (PySem.W.fnOf "_law_word" "_law_word" (defArgs s__law_word) (defBody s__law_word) (defScope s__law_word) .none kV_word dc_word pm_word an_word cd_word ct_word), sl_word⟩)
    (c_word : PySem.W.codeIn K cd_word "_law_word" = true)
    (k_word : PySem.W.keepIn K (.ref f_word) = true)
    (a_text : PySem.W.nsIn K mainGlobals "_law_text" = some (some (.ref f_text)))
    (l_text : K.lookup f_text = some ⟨oc_text, od_text, .func (PySem.W.fnOf "_law_text" "_law_text" (defArgs s__law_text) (defBody s__law_text) (defScope s__law_text) .none kV_text dc_text pm_text an_text cd_text ct_text), sl_text⟩)
    (c_text : PySem.W.codeIn K cd_text "_law_text" = true)
    (k_text : PySem.W.keepIn K (.ref f_text) = true)
    (a_lin : PySem.W.nsIn K mainGlobals "_law_is_name" = some (some (.ref f_lin)))
    (l_lin : K.lookup f_lin = some ⟨oc_lin, od_lin, .func (PySem.W.fnOf "_law_is_name" "_law_is_name" (defArgs s__law_is_name) (defBody s__law_is_name) (defScope s__law_is_name) .none kV_lin dc_lin pm_lin an_lin cd_lin ct_lin), sl_lin⟩)
    (c_lin : PySem.W.codeIn K cd_lin "_law_is_name" = true)
    (k_lin : PySem.W.keepIn K (.ref f_lin) = true)
    (a_lfig : PySem.W.nsIn K mainGlobals "_law_figures" = some (some (.ref f_lfig)))
    (l_lfig : K.lookup f_lfig = some ⟨oc_lfig, od_lfig, .func (PySem.W.fnOf "_law_figures" "_law_figures" (defArgs s__law_figures) (defBody s__law_figures) (defScope s__law_figures) .none kV_lfig dc_lfig pm_lfig an_lfig cd_lfig ct_lfig), sl_lfig⟩)
    (c_lfig : PySem.W.codeIn K cd_lfig "_law_figures" = true)
    (k_lfig : PySem.W.keepIn K (.ref f_lfig) = true)
    (a_lam : PySem.W.nsIn K mainGlobals "_law_amount" = some (some (.ref f_lam)))
    (l_lam : K.lookup f_lam = some ⟨oc_lam, od_lam, .func (PySem.W.fnOf "_law_amount" "_law_amount" (defArgs s__law_amount) (defBody s__law_amount) (defScope s__law_amount) .none kV_lam dc_lam pm_lam an_lam cd_lam ct_lam), sl_lam⟩)
    (c_lam : PySem.W.codeIn K cd_lam "_law_amount" = true)
    (k_lam : PySem.W.keepIn K (.ref f_lam) = true)
    (a_due : PySem.W.nsIn K mainGlobals "_law_due" = some (some (.ref f_due)))
    (l_due : K.lookup f_due = some ⟨oc_due, od_due, .func (PySem.W.fnOf "_law_due" "_law_due" (defArgs s__law_due) (defBody s__law_due) (defScope s__law_due) .none kV_due dc_due pm_due an_due cd_due ct_due), sl_due⟩)
    (c_due : PySem.W.codeIn K cd_due "_law_due" = true)
    (k_due : PySem.W.keepIn K (.ref f_due) = true)
    (a_heard : PySem.W.nsIn K mainGlobals "_law_heard" = some (some (.ref f_heard)))
    (l_heard : K.lookup f_heard = some ⟨oc_heard, od_heard, .func (PySem.W.fnOf "_law_heard" "_law_heard" (defArgs s__law_heard) (defBody s__law_heard) (defScope s__law_heard) .none kV_heard dc_heard pm_heard an_heard cd_heard ct_heard), sl_heard⟩)
    (c_heard : PySem.W.codeIn K cd_heard "_law_heard" = true)
    (k_heard : PySem.W.keepIn K (.ref f_heard) = true)
    (a_bent : PySem.W.nsIn K mainGlobals "_law_bent" = some (some (.ref f_bent)))
    (l_bent : K.lookup f_bent = some ⟨oc_bent, od_bent, .func (PySem.W.fnOf "_law_bent" "_law_bent" (defArgs s__law_bent) (defBody s__law_bent) (defScope s__law_bent) .none kV_bent dc_bent pm_bent an_bent cd_bent ct_bent), sl_bent⟩)
    (c_bent : PySem.W.codeIn K cd_bent "_law_bent" = true)
    (k_bent : PySem.W.keepIn K (.ref f_bent) = true)
    (a_same : PySem.W.nsIn K mainGlobals "_law_same" = some (some (.ref f_same)))
    (l_same : K.lookup f_same = some ⟨oc_same, od_same, .func (PySem.W.fnOf "_law_same" "_law_same" (defArgs s__law_same) (defBody s__law_same) (defScope s__law_same) .none kV_same dc_same pm_same an_same cd_same ct_same), sl_same⟩)
    (c_same : PySem.W.codeIn K cd_same "_law_same" = true)
    (k_same : PySem.W.keepIn K (.ref f_same) = true)
    (a_law : PySem.W.nsIn K mainGlobals "law" = some (some (.ref f_law)))
    (l_law : K.lookup f_law = some ⟨oc_law, od_law, .func (PySem.W.fnOf "law" "law" (defArgs s_law) (defBody s_law) (defScope s_law) .none kV_law dc_law pm_law an_law cd_law ct_law), sl_law⟩)
    (c_law : PySem.W.codeIn K cd_law "law" = true)
    (k_law : PySem.W.keepIn K (.ref f_law) = true) :
    ∃ fd : FuncData, (∀ (s : Shared) (v : Value), BindsTo s fd ⟨[v], []⟩ [("_law_script", v)]) ∧ ∀ base : Heap, K.In base → base.Ns mainGlobals mg → FnG l.prog w K mg base CX0 13 fa fd ["_law_script"] (spLaw K) := by
  have e := hfa.symm.trans (PySem.W.mg_of X G a_law)
  cases e
  have mn_int := PySem.W.mg_none_of X G n_int
  have mn_len := PySem.W.mg_none_of X G n_len
  have mn_abs := PySem.W.mg_none_of X G n_abs
  have mn_list := PySem.W.mg_none_of X G n_list
  have mn_range := PySem.W.mg_none_of X G n_range
  have mn_isinstance := PySem.W.mg_none_of X G n_isinstance
  have mn_repr := PySem.W.mg_none_of X G n_repr
  have mn_bool := PySem.W.mg_none_of X G n_bool
  have mn_str := PySem.W.mg_none_of X G n_str
  have mn_dict := PySem.W.mg_none_of X G n_dict
  have mn_tuple := PySem.W.mg_none_of X G n_tuple
  have mn_sorted := PySem.W.mg_none_of X G n_sorted
  have mn_enumerate := PySem.W.mg_none_of X G n_enumerate
  have m_A := PySem.W.mg_of X G a_A
  have cls_A : Cls K A := ⟨pg_A, hd_A, po_A, sa_A⟩
  have F_I : FunD K "__init__" "Amount.__init__" (defArgs s_Amount_init) (defBody s_Amount_init) (defScope s_Amount_init) [.int 1] [] f_I (PySem.W.fnOf "__init__" "Amount.__init__" (defArgs s_Amount_init) (defBody s_Amount_init) (defScope s_Amount_init) (.ref T_I) kV_I dc_I pm_I an_I cd_I ct_I) := ⟨⟨oc_I, od_I, _, kV_I, dc_I, pm_I, an_I, cd_I, ct_I, sl_I, rfl, l_I, c_I, .inr ⟨by decide, T_I, _, [.int 1 tk_I], zT_I, rfl, lT_I, rfl, .cons ⟨tk_I, rfl⟩ .nil⟩, .inl rfl⟩, k_I⟩
  obtain ⟨ds1_I, v1_I, b1_I⟩ := F_I.binds1 (ps := ["self", "top", "bottom"]) 2 0 (by decide) rfl fun _ _ _ _ _ _ _ us its h1 h2 => match us, its, h1, h2 with | [_, _], [_], _, _ => ⟨_, rfl, rfl⟩
  obtain ⟨ds2_I, v2_I, b2_I⟩ := F_I.binds1 (ps := ["self", "top", "bottom"]) 3 1 (by decide) rfl fun _ _ _ _ _ _ _ us its h1 h2 => match us, its, h1, h2 with | [_, _, _], [_], _, _ => ⟨_, rfl, rfl⟩
  cases v2_I
  have F_of := fun_mk (st := s_Amount_of) l_of c_of k_of
  have b_of := F_of.binds (ps := ["number"]) fun _ _ _ _ _ _ us hl => match us, hl with | [_], _ => rfl
  have F_num := fun_mk (st := s_Amount_is_number) l_num c_num k_num
  have b_num := F_num.binds (ps := ["value"]) fun _ _ _ _ _ _ us hl => match us, hl with | [_], _ => rfl
  have mg_MOST_FIGURES := PySem.W.mg_of X G g_MOST_FIGURES
  have mg_MOST_LETTERS := PySem.W.mg_of X G g_MOST_LETTERS
  have F_str := fun_mk (st := s_Amount_str) l_str c_str k_str
  have b_str := F_str.binds (ps := ["self"]) fun _ _ _ _ _ _ us hl => match us, hl with | [_], _ => rfl
  have F_eq := fun_mk (st := s_Amount_eq) l_eq c_eq k_eq
  have b_eq := F_eq.binds (ps := ["self", "other"]) fun _ _ _ _ _ _ us hl => match us, hl with | [_, _], _ => rfl
  have F_rdA := fun_mk (st := s_Amount_read) l_rdA c_rdA k_rdA
  have b_rdA := F_rdA.binds (ps := ["cls", "text"]) fun _ _ _ _ _ _ us hl => match us, hl with | [_, _], _ => rfl
  have m_S := PySem.W.mg_of X G a_S
  have m_BI := PySem.W.mg_of X G a_BI
  have m_BT := PySem.W.mg_of X G a_BT
  have ox_BT : OexC K BT := ⟨⟨nm_BT, q_BT, N_BT, bs_BT, _, sn_BT, sub_BT, ab_BT, col_BT, dd_BT, m0_BT, m1_BT, m2_BT, m3_BT, m5_BT, xL_BT, by rfl⟩, sa_BT, eC_BT, tC_BT, kC_BT⟩
  have ex_BT : ExC K BT := ⟨ga_BT, gg_BT, eC_BT, hd_BT, ha_BT, hn_BT, ht_BT, hm_BT⟩
  have F_IBT := fun_mk (st := s_BadText_init) l_IBT c_IBT k_IBT
  have b_IBT := F_IBT.binds (ps := ["self", "line", "word"]) fun _ _ _ _ _ _ us hl => match us, hl with | [_, _, _], _ => rfl
  have rx_BT : RxC K mg "BadText" BT f_IBT := ⟨ox_BT, a_IBT, t_IBT, m_BT⟩
  have zE_BT : ∀ base : Heap, ErrC l.prog w K mg base "BadText" BT ["self", "line", "word"] (spI2 BT "line" "word") := fun base => ⟨f_IBT, _, rx_BT, ok_init2 F_IBT ox_BT no_BT_line no_BT_word sc_BadText_init ⟨_, _, _, _, _, _, _, _, rfl⟩, b_IBT⟩
  have m_C := PySem.W.mg_of X G a_C
  have cls_C : Cls K C := ⟨pg_C, hd_C, po_C, sa_C⟩
  have F_G0 : FunD K "__init__" "Gaps.__init__" (defArgs s_Gaps_init) (defBody s_Gaps_init) (defScope s_Gaps_init) [.non] [] f_G0 (PySem.W.fnOf "__init__" "Gaps.__init__" (defArgs s_Gaps_init) (defBody s_Gaps_init) (defScope s_Gaps_init) (.ref T_G0) kV_G0 dc_G0 pm_G0 an_G0 cd_G0 ct_G0) := ⟨⟨oc_G0, od_G0, _, kV_G0, dc_G0, pm_G0, an_G0, cd_G0, ct_G0, sl_G0, rfl, l_G0, c_G0, .inr ⟨by decide, T_G0, _, [.none], zT_G0, rfl, lT_G0, rfl, .cons rfl .nil⟩, .inl rfl⟩, k_G0⟩
  obtain ⟨ds1_G0, v1_G0, b1_G0⟩ := F_G0.binds1 (ps := ["self", "values"]) 1 0 (by decide) rfl fun _ _ _ _ _ _ _ us its h1 h2 => match us, its, h1, h2 with | [_], [_], _, _ => ⟨_, rfl, rfl⟩
  obtain ⟨ds2_G0, v2_G0, b2_G0⟩ := F_G0.binds1 (ps := ["self", "values"]) 2 1 (by decide) rfl fun _ _ _ _ _ _ _ us its h1 h2 => match us, its, h1, h2 with | [_, _], [_], _, _ => ⟨_, rfl, rfl⟩
  cases v2_G0
  have F_gs := fun_mk (st := s_Gaps_str) l_gs c_gs k_gs
  have b_gs := F_gs.binds (ps := ["self"]) fun _ _ _ _ _ _ us hl => match us, hl with | [_], _ => rfl
  have F_ge := fun_mk (st := s_Gaps_eq) l_ge c_ge k_ge
  have b_ge := F_ge.binds (ps := ["self", "other"]) fun _ _ _ _ _ _ us hl => match us, hl with | [_, _], _ => rfl
  have F_gg := fun_mk (st := s_Gaps_getitem) l_gg c_gg k_gg
  have b_gg := F_gg.binds (ps := ["self", "account"]) fun _ _ _ _ _ _ us hl => match us, hl with | [_, _], _ => rfl
  have F_gc := fun_mk (st := s_Gaps_contains) l_gc c_gc k_gc
  have b_gc := F_gc.binds (ps := ["self", "value"]) fun _ _ _ _ _ _ us hl => match us, hl with | [_, _], _ => rfl
  have F_rdG := fun_mk (st := s_Gaps_read) l_rdG c_rdG k_rdG
  have b_rdG := F_rdG.binds (ps := ["cls", "text"]) fun _ _ _ _ _ _ us hl => match us, hl with | [_, _], _ => rfl
  have F_ga := fun_mk (st := s_Gaps_accounts) l_ga c_ga k_ga
  have b_ga := F_ga.binds (ps := ["self"]) fun _ _ _ _ _ _ us hl => match us, hl with | [_], _ => rfl
  have F_isint := fun_mk (st := s_is_int) l_isint c_isint k_isint
  have b_isint := F_isint.binds (ps := ["value"]) fun _ _ _ _ _ _ us hl => match us, hl with | [_], _ => rfl
  have m_isint := PySem.W.mg_of X G a_isint
  have F_figs := fun_mk (st := s__is_figures) l_figs c_figs k_figs
  have b_figs := F_figs.binds (ps := ["text"]) fun _ _ _ _ _ _ us hl => match us, hl with | [_], _ => rfl
  have m_figs := PySem.W.mg_of X G a_figs
  have F_isn := fun_mk (st := s_is_name) l_isn c_isn k_isn
  have b_isn := F_isn.binds (ps := ["value"]) fun _ _ _ _ _ _ us hl => match us, hl with | [_], _ => rfl
  have m_isn := PySem.W.mg_of X G a_isn
  have F_need := fun_mk (st := s_need_name) l_need c_need k_need
  have b_need := F_need.binds (ps := ["value"]) fun _ _ _ _ _ _ us hl => match us, hl with | [_], _ => rfl
  have m_need := PySem.W.mg_of X G a_need
  have F_asc := fun_mk (st := s__ascending_names) l_asc c_asc k_asc
  have b_asc := F_asc.binds (ps := ["values"]) fun _ _ _ _ _ _ us hl => match us, hl with | [_], _ => rfl
  have m_asc := PySem.W.mg_of X G a_asc
  have F_gap := fun_mk (st := s__read_gap) l_gap c_gap k_gap
  have b_gap := F_gap.binds (ps := ["word", "at"]) fun _ _ _ _ _ _ us hl => match us, hl with | [_, _], _ => rfl
  have m_gap := PySem.W.mg_of X G a_gap
  have F_pen := fun_mk (st := s__law_pen) l_pen c_pen k_pen
  have b_pen := F_pen.binds (ps := ["_law_script"]) fun _ _ _ _ _ _ us hl => match us, hl with | [_], _ => rfl
  have m_pen := PySem.W.mg_of X G a_pen
  have F_draw := fun_mk (st := s__law_draw) l_draw c_draw k_draw
  have b_draw := F_draw.binds (ps := ["_law_pen_here", "_law_many"]) fun _ _ _ _ _ _ us hl => match us, hl with | [_, _], _ => rfl
  have m_draw := PySem.W.mg_of X G a_draw
  have F_pick := fun_mk (st := s__law_pick) l_pick c_pick k_pick
  have b_pick := F_pick.binds (ps := ["_law_pen_here", "_law_some"]) fun _ _ _ _ _ _ us hl => match us, hl with | [_, _], _ => rfl
  have m_pick := PySem.W.mg_of X G a_pick
  have F_names := fun_mk (st := s__law_names) l_names c_names k_names
  have b_names := F_names.binds (ps := ["_law_pen_here", "_law_many"]) fun _ _ _ _ _ _ us hl => match us, hl with | [_, _], _ => rfl
  have m_names := PySem.W.mg_of X G a_names
  have F_low := fun_mk (st := s__law_lowest) l_low c_low k_low
  have b_low := F_low.binds (ps := ["_law_top", "_law_bottom"]) fun _ _ _ _ _ _ us hl => match us, hl with | [_, _], _ => rfl
  have m_low := PySem.W.mg_of X G a_low
  have F_pair := fun_mk (st := s__law_pair) l_pair c_pair k_pair
  have b_pair := F_pair.binds (ps := ["_law_pen_here"]) fun _ _ _ _ _ _ us hl => match us, hl with | [_], _ => rfl
  have m_pair := PySem.W.mg_of X G a_pair
  have F_number := fun_mk (st := s__law_number) l_number c_number k_number
  have b_number := F_number.binds (ps := ["_law_pen_here", "_law_pair_here"]) fun _ _ _ _ _ _ us hl => match us, hl with | [_, _], _ => rfl
  have m_number := PySem.W.mg_of X G a_number
  have F_word := fun_mk (st := s__law_word) l_word c_word k_word
  have b_word := F_word.binds (ps := ["_law_pair_here"]) fun _ _ _ _ _ _ us hl => match us, hl with | [_], _ => rfl
  have m_word := PySem.W.mg_of X G a_word
  have F_text := fun_mk (st := s__law_text) l_text c_text k_text
  have b_text := F_text.binds (ps := ["_law_plain"]) fun _ _ _ _ _ _ us hl => match us, hl with | [_], _ => rfl
  have m_text := PySem.W.mg_of X G a_text
  have F_lin := fun_mk (st := s__law_is_name) l_lin c_lin k_lin
  have b_lin := F_lin.binds (ps := ["_law_word_here"]) fun _ _ _ _ _ _ us hl => match us, hl with | [_], _ => rfl
  have m_lin := PySem.W.mg_of X G a_lin
  have F_lfig := fun_mk (st := s__law_figures) l_lfig c_lfig k_lfig
  have b_lfig := F_lfig.binds (ps := ["_law_told_text"]) fun _ _ _ _ _ _ us hl => match us, hl with | [_], _ => rfl
  have m_lfig := PySem.W.mg_of X G a_lfig
  have F_lam := fun_mk (st := s__law_amount) l_lam c_lam k_lam
  have b_lam := F_lam.binds (ps := ["_law_word_here"]) fun _ _ _ _ _ _ us hl => match us, hl with | [_], _ => rfl
  have m_lam := PySem.W.mg_of X G a_lam
  have F_due := fun_mk (st := s__law_due) l_due c_due k_due
  have b_due := F_due.binds (ps := ["_law_told_text"]) fun _ _ _ _ _ _ us hl => match us, hl with | [_], _ => rfl
  have m_due := PySem.W.mg_of X G a_due
  have F_heard := fun_mk (st := s__law_heard) l_heard c_heard k_heard
  have b_heard := F_heard.binds (ps := ["_law_told_text"]) fun _ _ _ _ _ _ us hl => match us, hl with | [_], _ => rfl
  have m_heard := PySem.W.mg_of X G a_heard
  have F_bent := fun_mk (st := s__law_bent) l_bent c_bent k_bent
  have b_bent := F_bent.binds (ps := ["_law_pen_here", "_law_told_text"]) fun _ _ _ _ _ _ us hl => match us, hl with | [_, _], _ => rfl
  have m_bent := PySem.W.mg_of X G a_bent
  have F_same := fun_mk (st := s__law_same) l_same c_same k_same
  have b_same := F_same.binds (ps := ["_law_told"]) fun _ _ _ _ _ _ us hl => match us, hl with | [_], _ => rfl
  have m_same := PySem.W.mg_of X G a_same
  have F_law := fun_mk (st := s_law) l_law c_law k_law
  have b_law := F_law.binds (ps := ["_law_script"]) fun _ _ _ _ _ _ us hl => match us, hl with | [_], _ => rfl
  have m_law := PySem.W.mg_of X G a_law
  refine ⟨PySem.W.fnOf "law" "law" (defArgs s_law) (defBody s_law) (defScope s_law) .none kV_law dc_law pm_law an_law cd_law ct_law, fun s v => .of_eq rfl, fun base _ _ => ?_⟩
  have T_ : Txt K mg := ⟨mn_int, mn_len, mn_abs, mn_list, mn_range, mn_isinstance, mn_repr, mn_bool⟩
  have T2_ : Txt2 mg := ⟨mn_str⟩
  have U : AmC K mg A f_I p_of f_of p_num f_num (.type "type") := ⟨m_A, PySem.W.mg_of X G hgcd, cls_A, no_A_top, no_A_bottom, ⟨mk_A, a_I, i_I, kA_A⟩, ha_A, hn, ht, hm_A, tI, tA, ⟨⟨rd_A, gat_A⟩, a_of, ⟨_, r_of⟩, k_of⟩, ⟨⟨rd_A, gat_A⟩, a_num, ⟨_, r_num⟩, k_num⟩⟩
  have cI : CalO l.prog w K mg base "is_int" 1 ["value"] (spIsInt A) (fun _ => True) := ⟨_, _, ok_is_int F_isint T_ U, m_isint, k_isint, b_isint, trivial⟩
  have FI : FnOk l.prog w K mg base CX0 2 f_I _ ["self", "top", "bottom"] (spInit A) := ok_init F_I T_ U cI
  have FO := ok_of (P := l.prog) (w := w) (base := base) F_of T_ U FI b1_I v1_I b2_I
  have f_eq_ := ok_Amount_eq (P := l.prog) (w := w) (base := base) F_eq T_ U cI
  have cEq : CmC l.prog w K mg base A .Eq "int.__eq__" (spCmp A gEq) (spCmp A gEq) := ⟨_, _, _, _, cmpO_eq sub_A a_eq i_eq, f_eq_.mono (by decide), f_eq_.mono (by decide), b_eq, b_eq⟩
  have cSt : UnC l.prog w K mg base A "__str__" (spStr A) := ⟨_, _, a_str, i_str, (ok_Amount_str (P := l.prog) (w := w) (base := base) F_str T_ mn_str ⟨nd1, nd2⟩ U).mono (by decide), b_str⟩
  have cFi : CalO l.prog w K mg base "_is_figures" 1 ["text"] spFigs (fun _ => True) := ⟨_, _, ok_figs F_figs T_ ⟨_, mg_MOST_FIGURES⟩, m_figs, k_figs, b_figs, trivial⟩
  have FRd : FnR l.prog w K mg base (L2N.CX l.prog w) 9 f_rdA (spRead K A BT) := ((ok_readZ F_rdA T_ U FI b1_I v1_I b2_I cFi mn_str cSt (zE_BT base)).raw b_rdA .nil).imp fun vs H Q E h => by rw [List.append_nil]; exact h
  have cRd : ClX.CRead K A (.type "type") := ⟨rd_A, gat_A⟩
  have cMr : ClX.CMet K A (.type "type") "read" p_rdA f_rdA := ⟨a_rdA, ⟨_, r_rdA⟩, fi_rdA⟩
  have ZH : ErrH l.prog w K mg base "BadText" BT ["self", "line", "word"] (spI2 BT "line" "word") := ⟨f_IBT, _, rx_BT, ok_init2H F_IBT ox_BT no_BT_line no_BT_word sc_BadText_init ⟨_, _, _, _, _, _, _, _, rfl⟩, b_IBT⟩
  have exTT := exm_mk eC_BT iBT tC_BT sTT
  have exTS := exm_mk bS iS tS sTS
  have cGap : CalX l.prog w K mg base "_read_gap" 10 ["word", "at"] (spGap A BT) (fun _ => True) := ⟨_, _, ok_gap F_gap T_ U cRd cMr FRd m_BT exTT (zE_BT base) ZH cEq, m_gap, k_gap, b_gap, trivial⟩
  have cN : CalO l.prog w K mg base "is_name" 1 ["value"] spIsName (fun _ => True) := ⟨_, _, ok_is_name F_isn T_ T2_ ⟨_, mg_MOST_LETTERS⟩, m_isn, k_isn, b_isn, trivial⟩
  have cNN : CalO l.prog w K mg base "need_name" 2 ["value"] spNeed0 (fun _ => True) := ⟨_, _, ok_need0 F_need cN, m_need, k_need, b_need, trivial⟩
  have cAs : CalO l.prog w K mg base "_ascending_names" 3 ["values"] spAsc (fun _ => True) := ⟨_, _, ok_asc F_asc T_ T2_ mn_sorted cNN, m_asc, k_asc, b_asc, trivial⟩
  have FG : FnOk l.prog w K mg base CX0 5 f_G0 _ ["self", "values"] (spGInit A C) := ok_ginit F_G0 T_ U FO b_of cAs mn_dict cls_C no_C__told
  have UG : GpC K mg C := ⟨m_C, cls_C, no_C__told, ha_C, hn, ht, hm_C⟩
  have mG : Mk K C f_G0 := ⟨mk_C, a_G0, i_G0, kA_C⟩
  have FGc := ok_gcon (P := l.prog) (w := w) (base := base) F_gc T_ T2_ cls_C no_C__told
  have FGg := ok_gget (P := l.prog) (w := w) (base := base) F_gg T_ T2_ cls_C no_C__told a_gc i_gc FGc b_gc
  have FGs := ok_gstr (P := l.prog) (w := w) (base := base) F_gs T_ T2_ U cls_C no_C__told fmA hm_A cSt
  have FGa := ok_gacc (P := l.prog) (w := w) (base := base) (A := A) F_ga mn_tuple cls_C no_C__told
  have FGe := ok_geq (mc := .none) (P := l.prog) (w := w) (base := base) F_ge T_ T2_ UG a_eq i_eq (f_eq_.mono (by decide)) b_eq
  have e1 : ds1_G0 = [.none] := by
    cases v1_G0 with
    | cons h t => cases t; rw [show _ = Value.none from h]
  subst e1
  have FRdK : FnOk l.prog w K mg base (CX l.prog w) 11 f_rdG _ ["cls", "text"] (spGRead K A C BT) := ok_gread F_rdG T_ T2_ mn_enumerate mG FG b1_G0 v1_G0 b2_G0 cN cGap (zE_BT base)
  have FRdG : FnR l.prog w K mg base (CX l.prog w) 11 f_rdG (spGRead K A C BT) := (FRdK.raw b_rdG .nil).imp fun vs H Q E h => by rw [List.append_nil]; exact h
  have cRdG : ClX.CRead K C (.type "type") := ⟨rd_C, gat_C⟩
  have cMrG : ClX.CMet K C (.type "type") "read" p_rdG f_rdG := ⟨a_rdG, ⟨_, r_rdG⟩, fi_rdG⟩
  have V_ : TxH K mg S BT BI := ⟨m_S, m_BT, m_BI, ex_BT, exTS, kit_self K BT, q_TI, no_BT_line, no_BT_word⟩
  have cAcc : ∃ (p g : Addr) (fd : FuncData), PropOf K C "accounts" p g ∧ FnOk l.prog w K mg base CX0 1 g fd ["self"] (spGAcc A C) ∧ Binds K fd ["self"] [] := ⟨_, _, _, ⟨a_ga, g_ga, t_ga, ⟨_, r_ga⟩⟩, FGa, b_ga⟩
  have kRd : KBn K _ ["cls", "text"] 1 ["text"] (fun us ws => us ++ ws) (fun vs zs => vs ++ zs) := kb_2 (x := "read") (q := "Gaps.read") (st := s_Gaps_read) (p0 := "cls") (p := "text") F_rdG (fun _ _ _ _ _ _ _ _ _ => .of_eq rfl)
  have cPn : CalO l.prog w K mg base "_law_pen" 1 ["_law_script"] (spPen K) (fun _ => True) := ⟨_, _, ok_pen F_pen T_, m_pen, k_pen, b_pen, trivial⟩
  have cD : CalO l.prog w K mg base "_law_draw" 1 ["_law_pen_here", "_law_many"] spDraw (fun _ => True) := ⟨_, _, ok_draw F_draw T_, m_draw, k_draw, b_draw, trivial⟩
  have cP : CalO l.prog w K mg base "_law_pick" 2 ["_law_pen_here", "_law_some"] (spPick K) (fun _ => True) := ⟨_, _, ok_pick F_pick T_ cD, m_pick, k_pick, b_pick, trivial⟩
  have cNm : CalO l.prog w K mg base "_law_names" 3 ["_law_pen_here", "_law_many"] spNames (fun _ => True) := ⟨_, _, ok_names F_names T_ T2_ cD cP, m_names, k_names, b_names, trivial⟩
  have cL : CalO l.prog w K mg base "_law_lowest" 1 ["_law_top", "_law_bottom"] spLow (fun _ => True) := ⟨_, _, ok_lowest F_low T_, m_low, k_low, b_low, trivial⟩
  have cPa : CalO l.prog w K mg base "_law_pair" 3 ["_law_pen_here"] spPair (fun _ => True) := ⟨_, _, ok__law_pair F_pair T_ cL cD cP, m_pair, k_pair, b_pair, trivial⟩
  have cNu : CalO l.prog w K mg base "_law_number" 4 ["_law_pen_here", "_law_pair_here"] (spNumber A) (fun _ => True) := ⟨_, _, ok__law_number F_number T_ cD cP U FI b1_I v1_I b2_I, m_number, k_number, b_number, trivial⟩
  have cWo : CalO l.prog w K mg base "_law_word" 1 ["_law_pair_here"] spTxt (fun _ => True) := ⟨_, _, ok_txt F_word T_ T2_, m_word, k_word, b_word, trivial⟩
  have cTx : CalO l.prog w K mg base "_law_text" 2 ["_law_plain"] spGTx (fun _ => True) := ⟨_, _, ok_text F_text T_ T2_ mn_sorted cWo, m_text, k_text, b_text, trivial⟩
  have cLn : CalO l.prog w K mg base "_law_is_name" 3 ["_law_word_here"] spLName (fun _ => True) := ⟨_, _, ok_lname F_lin T_ T2_, m_lin, k_lin, b_lin, trivial⟩
  have cFg : CalO l.prog w K mg base "_law_figures" 1 ["_law_told_text"] spFg (fun _ => True) := ⟨_, _, ok_fg F_lfig T_ T2_, m_lfig, k_lfig, b_lfig, trivial⟩
  have cAm : CalO l.prog w K mg base "_law_amount" 2 ["_law_word_here"] spLrd (fun _ => True) := ⟨_, _, ok_lrd F_lam T_ T2_ cFg cL cWo, m_lam, k_lam, b_lam, trivial⟩
  have cDu : CalO l.prog w K mg base "_law_due" 4 ["_law_told_text"] spDue (fun _ => True) := ⟨_, _, ok_due F_due T_ T2_ cLn cAm, m_due, k_due, b_due, trivial⟩
  have cHe : CalO l.prog w K mg base "_law_heard" 12 ["_law_told_text"] (spHeard K) (fun _ => True) := ⟨_, _, ok_heard F_heard T_ T2_ U mn_dict UG V_ cRdG cMrG FRdG a_gg i_gg fn_gg FGg b_gg cAcc, m_heard, k_heard, b_heard, trivial⟩
  have cBe : CalO l.prog w K mg base "_law_bent" 3 ["_law_pen_here", "_law_told_text"] spBent (fun _ => True) := ⟨_, _, ok_bent F_bent T_ T2_ cD cP, m_bent, k_bent, b_bent, trivial⟩
  have cSa : CalO l.prog w K mg base "_law_same" 1 ["_law_told"] spSame (fun _ => True) := ⟨_, _, ok_same F_same T_ T2_ mn_sorted mn_dict, m_same, k_same, b_same, trivial⟩
  exact ok_law F_law T_ T2_ U mn_dict UG kGS mG FG b2_G0 a_gs i_gs FGs b_gs (cmpO_eq sub_C a_ge i_ge) FGe b_ge cRdG cMrG FRdK kRd cPn cD cP cNm cPa cNu cTx cHe cBe cSa cDu
theorem sp_law_of (K : PySem.W.Frag) (H : Hp) (a : Addr) (ns : List Int) (hl : ns.length ≤ 63) (ho : Only H) (h : SqL K H a (ns.map V.int)) : spLaw K [.ref a] H (fun v _ => v = .bl true) fun _ _ _ => False := ⟨a, ns, rfl, h, fun _ => rfl⟩
end LW
open HX
open PySem PySem.W PyProof.Rows
set_option maxRecDepth 100000 in
set_option maxHeartbeats 0 in
theorem PySem.Challenge.cw_holeshift_k26_texts_of_gaps_holds : PySem.Challenge.rw_holeshift_k26_texts_of_gaps.Holds := by
  w_on; o_law; k_head; (case hw => w_witness2)
  k_fill
  refine walkG (l := PySem.Challenge.rw_holeshift_k26_texts_of_gaps) (n := 63) (k := 13) (x := "_law_script") (sp := LW.spLaw) rfl (by decide) rfl ⟨rfl, by decide, by decide⟩ (fun w h Y => PySem.W.kIn_of Y) ?F (fun K H a ns hl ho h => LW.sp_law_of K H a ns hl ho h)
  case F =>
    intro w mg fa h KX G hmg
    refine' LW.all_mk KX G hmg ?n_int ?n_len ?n_abs ?n_list ?n_range ?n_isinstance ?n_repr ?n_bool ?n_str ?n_dict ?n_tuple ?n_sorted ?n_enumerate ?hn ?ht ?a_A ?pg_A ?hd_A ?po_A ?sa_A ?mk_A ?kA_A ?ha_A ?hm_A ?sub_A ?rd_A ?gat_A ?no_A_top ?no_A_bottom ?first_A ?hgcd ?tI ?tA ?a_I ?i_I ?l_I ?c_I ?k_I ?lT_I ?a_of ?r_of ?i_of ?l_of ?c_of ?k_of ?a_num ?r_num ?i_num ?l_num ?c_num ?k_num ?g_MOST_FIGURES ?g_MOST_LETTERS ?nd1 ?nd2 ?a_str ?i_str ?l_str ?c_str ?k_str ?a_eq ?i_eq ?l_eq ?c_eq ?k_eq ?a_rdA ?r_rdA ?fi_rdA ?l_rdA ?c_rdA ?k_rdA ?fmA ?a_S ?a_BI ?iS ?tS ?bS ?a_BT ?xL_BT ?sa_BT ?eC_BT ?tC_BT ?kC_BT ?ga_BT ?gg_BT ?hd_BT ?ha_BT ?hn_BT ?ht_BT ?hm_BT ?no_BT_line ?no_BT_word ?a_IBT ?t_IBT ?l_IBT ?c_IBT ?k_IBT ?iBT ?sTS ?sTT ?q_TI ?a_C ?pg_C ?hd_C ?po_C ?sa_C ?mk_C ?kA_C ?ha_C ?hm_C ?sub_C ?rd_C ?gat_C ?no_C__told ?a_G0 ?i_G0 ?l_G0 ?c_G0 ?k_G0 ?lT_G0 ?a_gs ?i_gs ?l_gs ?c_gs ?k_gs ?a_ge ?i_ge ?l_ge ?c_ge ?k_ge ?a_gg ?i_gg ?l_gg ?c_gg ?k_gg ?a_gc ?i_gc ?l_gc ?c_gc ?k_gc ?fn_gg ?a_rdG ?r_rdG ?fi_rdG ?l_rdG ?c_rdG ?k_rdG ?a_ga ?g_ga ?t_ga ?r_ga ?l_ga ?c_ga ?k_ga ?kGS ?a_isint ?l_isint ?c_isint ?k_isint ?a_figs ?l_figs ?c_figs ?k_figs ?a_isn ?l_isn ?c_isn ?k_isn ?a_need ?l_need ?c_need ?k_need ?a_asc ?l_asc ?c_asc ?k_asc ?a_gap ?l_gap ?c_gap ?k_gap ?a_pen ?l_pen ?c_pen ?k_pen ?a_draw ?l_draw ?c_draw ?k_draw ?a_pick ?l_pick ?c_pick ?k_pick ?a_names ?l_names ?c_names ?k_names ?a_low ?l_low ?c_low ?k_low ?a_pair ?l_pair ?c_pair ?k_pair ?a_number ?l_number ?c_number ?k_number ?a_word ?l_word ?c_word ?k_word ?a_text ?l_text ?c_text ?k_text ?a_lin ?l_lin ?c_lin ?k_lin ?a_lfig ?l_lfig ?c_lfig ?k_lfig ?a_lam ?l_lam ?c_lam ?k_lam ?a_due ?l_due ?c_due ?k_due ?a_heard ?l_heard ?c_heard ?k_heard ?a_bent ?l_bent ?c_bent ?k_bent ?a_same ?l_same ?c_same ?k_same ?a_law ?l_law ?c_law ?k_law
    (case n_int => k_is)
    (case n_len => k_is)
    (case n_abs => k_is)
    (case n_list => k_is)
    (case n_range => k_is)
    (case n_isinstance => k_is)
    (case n_repr => k_is)
    (case n_bool => k_is)
    (case n_str => k_is)
    (case n_dict => k_is)
    (case n_tuple => k_is)
    (case n_sorted => k_is)
    (case n_enumerate => k_is)
    (case hn => k_is)
    (case ht => k_is)
    (case a_A => k_is)
    (case pg_A => k_is)
    (case hd_A => k_is)
    (case po_A => k_is)
    (case sa_A => k_is)
    (case mk_A => k_is)
    (case kA_A => k_is)
    (case ha_A => k_is)
    (case hm_A => k_is)
    (case sub_A => k_is)
    (case rd_A => k_is)
    (case gat_A => k_is)
    (case no_A_top => k_is)
    (case no_A_bottom => k_is)
    (case first_A => k_is)
    (case hgcd => k_is)
    (case tI => exact (by kernel_rfl))
    (case tA => exact (by kernel_rfl))
    (case a_I => k_is)
    (case i_I => k_is)
    (case l_I => k_is)
    (case c_I => k_is)
    (case k_I => k_is)
    (case lT_I => k_is)
    (case a_of => k_is)
    (case r_of => k_is)
    (case i_of => k_is)
    (case l_of => k_is)
    (case c_of => k_is)
    (case k_of => k_is)
    (case a_num => k_is)
    (case r_num => k_is)
    (case i_num => k_is)
    (case l_num => k_is)
    (case c_num => k_is)
    (case k_num => k_is)
    (case g_MOST_FIGURES => k_is)
    (case g_MOST_LETTERS => k_is)
    (case nd1 => exact (by kernel_rfl))
    (case nd2 => k_is)
    (case a_str => k_is)
    (case i_str => k_is)
    (case l_str => k_is)
    (case c_str => k_is)
    (case k_str => k_is)
    (case a_eq => k_is)
    (case i_eq => k_is)
    (case l_eq => k_is)
    (case c_eq => k_is)
    (case k_eq => k_is)
    (case a_rdA => k_is)
    (case r_rdA => k_is)
    (case fi_rdA => k_is)
    (case l_rdA => k_is)
    (case c_rdA => k_is)
    (case k_rdA => k_is)
    (case fmA => k_is)
    (case a_S => k_is)
    (case a_BI => k_is)
    (case iS => k_is)
    (case tS => k_is)
    (case bS => k_is)
    (case a_BT => k_is)
    (case xL_BT => k_is)
    (case sa_BT => k_is)
    (case eC_BT => k_is)
    (case tC_BT => k_is)
    (case kC_BT => k_is)
    (case ga_BT => k_is)
    (case gg_BT => k_is)
    (case hd_BT => k_is)
    (case ha_BT => k_is)
    (case hn_BT => k_is)
    (case ht_BT => k_is)
    (case hm_BT => k_is)
    (case no_BT_line => k_is)
    (case no_BT_word => k_is)
    (case a_IBT => k_is)
    (case t_IBT => k_is)
    (case l_IBT => k_is)
    (case c_IBT => k_is)
    (case k_IBT => k_is)
    (case iBT => k_is)
    (case sTS => k_is)
    (case sTT => k_is)
    (case q_TI => exact (by kernel_rfl))
    (case a_C => k_is)
    (case pg_C => k_is)
    (case hd_C => k_is)
    (case po_C => k_is)
    (case sa_C => k_is)
    (case mk_C => k_is)
    (case kA_C => k_is)
    (case ha_C => k_is)
    (case hm_C => k_is)
    (case sub_C => k_is)
    (case rd_C => k_is)
    (case gat_C => k_is)
    (case no_C__told => k_is)
    (case a_G0 => k_is)
    (case i_G0 => k_is)
    (case l_G0 => k_is)
    (case c_G0 => k_is)
    (case k_G0 => k_is)
    (case lT_G0 => k_is)
    (case a_gs => k_is)
    (case i_gs => k_is)
    (case l_gs => k_is)
    (case c_gs => k_is)
    (case k_gs => k_is)
    (case a_ge => k_is)
    (case i_ge => k_is)
    (case l_ge => k_is)
    (case c_ge => k_is)
    (case k_ge => k_is)
    (case a_gg => k_is)
    (case i_gg => k_is)
    (case l_gg => k_is)
    (case c_gg => k_is)
    (case k_gg => k_is)
    (case a_gc => k_is)
    (case i_gc => k_is)
    (case l_gc => k_is)
    (case c_gc => k_is)
    (case k_gc => k_is)
    (case fn_gg => k_is)
    (case a_rdG => k_is)
    (case r_rdG => k_is)
    (case fi_rdG => k_is)
    (case l_rdG => k_is)
    (case c_rdG => k_is)
    (case k_rdG => k_is)
    (case a_ga => k_is)
    (case g_ga => k_is)
    (case t_ga => k_is)
    (case r_ga => k_is)
    (case l_ga => k_is)
    (case c_ga => k_is)
    (case k_ga => k_is)
    (case kGS => exact (by kernel_rfl))
    (case a_isint => k_is)
    (case l_isint => k_is)
    (case c_isint => k_is)
    (case k_isint => k_is)
    (case a_figs => k_is)
    (case l_figs => k_is)
    (case c_figs => k_is)
    (case k_figs => k_is)
    (case a_isn => k_is)
    (case l_isn => k_is)
    (case c_isn => k_is)
    (case k_isn => k_is)
    (case a_need => k_is)
    (case l_need => k_is)
    (case c_need => k_is)
    (case k_need => k_is)
    (case a_asc => k_is)
    (case l_asc => k_is)
    (case c_asc => k_is)
    (case k_asc => k_is)
    (case a_gap => k_is)
    (case l_gap => k_is)
    (case c_gap => k_is)
    (case k_gap => k_is)
    (case a_pen => k_is)
    (case l_pen => k_is)
    (case c_pen => k_is)
    (case k_pen => k_is)
    (case a_draw => k_is)
    (case l_draw => k_is)
    (case c_draw => k_is)
    (case k_draw => k_is)
    (case a_pick => k_is)
    (case l_pick => k_is)
    (case c_pick => k_is)
    (case k_pick => k_is)
    (case a_names => k_is)
    (case l_names => k_is)
    (case c_names => k_is)
    (case k_names => k_is)
    (case a_low => k_is)
    (case l_low => k_is)
    (case c_low => k_is)
    (case k_low => k_is)
    (case a_pair => k_is)
    (case l_pair => k_is)
    (case c_pair => k_is)
    (case k_pair => k_is)
    (case a_number => k_is)
    (case l_number => k_is)
    (case c_number => k_is)
    (case k_number => k_is)
    (case a_word => k_is)
    (case l_word => k_is)
    (case c_word => k_is)
    (case k_word => k_is)
    (case a_text => k_is)
    (case l_text => k_is)
    (case c_text => k_is)
    (case k_text => k_is)
    (case a_lin => k_is)
    (case l_lin => k_is)
    (case c_lin => k_is)
    (case k_lin => k_is)
    (case a_lfig => k_is)
    (case l_lfig => k_is)
    (case c_lfig => k_is)
    (case k_lfig => k_is)
    (case a_lam => k_is)
    (case l_lam => k_is)
    (case c_lam => k_is)
    (case k_lam => k_is)
    (case a_due => k_is)
    (case l_due => k_is)
    (case c_due => k_is)
    (case k_due => k_is)
    (case a_heard => k_is)
    (case l_heard => k_is)
    (case c_heard => k_is)
    (case k_heard => k_is)
    (case a_bent => k_is)
    (case l_bent => k_is)
    (case c_bent => k_is)
    (case k_bent => k_is)
    (case a_same => k_is)
    (case l_same => k_is)
    (case c_same => k_is)
    (case k_same => k_is)
    (case a_law => k_is)
    (case l_law => k_is)
    (case c_law => k_is)
    (case k_law => k_is)
