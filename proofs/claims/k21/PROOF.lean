import PyProof.Rows.All
import Wide.All
import OpenK.AllK
import Wide.FinOn
import HandS.ForMost
import HandS.ForExc
import HandS.ExcInit
import HandS.Wide
import PyProof.ReprRoads
import PyProof.ReprLen
import HandS.ExcField
import HandS.ExcIs
import KE.KExcIs
import HandS.IsInst
import HandS.Defaults
import HandS.AnyAll
import HandS.Walk
import HandS.Text
import HandS.ExcValue
import HandS.Iter
import HandS.ClsMeth
import HandS.MakeKw
import HandS.Gcd
import HandS.Property
import HandS.FStr
import KE.KCallOwn
import HandS.SetFor
import HandS.Strs
import HandS.Star
import HandS.RaiseMore
import HandS.Lambda
import HandS.EndTab
import HandS.MakeKwOnly
import HandS.NestedK
import PySem.Challenge.RW_holeshift_k21_amounts_refused
set_option Elab.async false
set_option linter.all false
set_option maxRecDepth 100000
set_option maxHeartbeats 2000000
namespace HX
open PySem PySem.Spec PyProof.Rows L2

/-- a def's promise where nothing is being shown (no repr runs around it) -/
structure FnG (P : Program) (w : World) (K : PySem.W.Frag) (mg : Str → Option Value) (base : Heap) (CX : CXT) (k : Nat) (f : Addr) (fd : FuncData) (ps : List Str) (sp : Sp) : Prop where
  len : ∀ vs H Q E, sp vs H Q E → vs.length = ps.length
  go : ∀ (A : Around) (out : List Env) (s : Shared) (H : Hp) (ar : Args) (us : List Value) (vs : List V) (Q : VK) (E : XK),
    A.guards = some [] → Room k A → Env0 P w K mg base A out s H → BindsTo s fd ar (ps.zip us) → Vals vs us → sp vs H Q E →
      codeAny (model P w) A (.call (.ref f) ar) (CR CX out P w H s Q E) s

section
variable {P : Program} {w : World} {K : PySem.W.Frag} {mg : Str → Option Value} {base : Heap} {CX : CXT} {k : Nat} {f : Addr} {fd : FuncData} {ps : List Str} {sp : Sp}
theorem FnG.of (F : FnOk P w K mg base CX k f fd ps sp) : FnG P w K mg base CX k f fd ps sp :=
  ⟨F.len, fun A out s H ar us vs Q E _ r e b v h => F.run A out s H ar us vs Q E r e b v h⟩
theorem FnG.mono {j : Nat} (F : FnG P w K mg base CX j f fd ps sp) (h : j ≤ k) : FnG P w K mg base CX k f fd ps sp :=
  ⟨F.len, fun A out s H ar us vs Q E g r => F.go A out s H ar us vs Q E g (r.mono h)⟩

/-- a def by its body -/
theorem fnG_of {nm qual : Str} {prm : Arguments} {body : List Stmt} {sc : Scope} {dV kV doc pm cdv ct oc : Value} {an od : Option Addr} {osl : Array (Option Value)} {N : List Str}
    (lk : K.lookup f = some ⟨oc, od, .func (PySem.W.fnOf nm qual prm body sc dV kV doc pm an cdv ct), osl⟩)
    (hcd : PySem.W.codeIn K cdv qual = true) (S : FnScope N ps sc) (ln : ∀ vs H Q E, sp vs H Q E → vs.length = ps.length)
    (hb : ∀ (A : Around) (out : List Env) (s : Shared) (H : Hp) (vs : List V) (Q : VK) (E : XK), A.guards = some [] →
      Room k (A.deeper (envOfC qual sc s.heap.objs.size f cdv)) → sp vs H Q E →
        ∃ t, PSs (cxOf CX P w K mg base N qual sc f cdv A out s H E) body t ∧ t { nx := fun _ G => Q .non G, rt := Q } (start N vs) H) :
    FnG P w K mg base CX (k + 1) f (PySem.W.fnOf nm qual prm body sc dV kV doc pm an cdv ct) ps sp := by
  refine ⟨ln, fun A out s H ar us vs Q E hgd hr e0 bd rv hsp => ?_⟩
  have n0 := ln _ _ _ _ hsp
  have stay : ∀ b o, base.get? b = some o → s.heap.get? b = some o := fun b o z => (e0.bs b o z).1
  have kin : K.In s.heap := e0.mod.kin.keeps stay
  have lim : s.heap.NoLimit := e0.mod.nolimit.keeps stay
  refine codeAny_call_function hr.depth (kin _ _ lk) rfl S.co S.gen rfl (PySem.W.codeRec_of kin hcd) (bd _ _ _ _ ?_)
  refine wpAny_newFunctionEnv_cells S.kind (fun ⟨x, u⟩ hx => ?_) fun env he s1 ic => ?_
  · rcases S.par x (List.of_mem_zip hx).1 with z | z
    · exact .inl z
    · exact .inr ⟨z, PySem.W.cellsFrom_some _ _ _ (.inl z)⟩
  · subst he
    refine ⟨lim.keeps ic.toInCall.keep, codeAny_func ?_⟩
    obtain ⟨t, pt, go⟩ := hb A out s H vs Q E hgd (hr.deeper _) hsp
    refine wpAny_mono (pt.run [] s1 _ H _ (inv_start S hr.hd e0 n0 rv ic) go) (fun fl s' q => ?_) fun _ _ z => z
    cases fl with
    | ret u =>
      obtain ⟨v, _, G, J, r, z⟩ := q
      exact ⟨v, G, J.os, J.bare, J.base, J.hok, r, z⟩
    | next =>
      obtain ⟨_, G, J, z⟩ := q
      exact ⟨V.non, G, J.os, J.bare, J.base, J.hok, rfl, z⟩
    | brk => exact False.elim (let ⟨_, _, _, z⟩ := q; z)
    | cont => exact False.elim (let ⟨_, _, _, z⟩ := q; z)

theorem fun_okG {x qual : Str} {st : Stmt} {N : List Str} (F : Fun K x qual st f fd) (S : FnScope N ps (defScope st)) (ln : ∀ vs H Q E, sp vs H Q E → vs.length = ps.length)
    (hb : ∀ (cdv : Value) (A : Around) (out : List Env) (s : Shared) (H : Hp) (vs : List V) (Q : VK) (E : XK), A.guards = some [] →
      Room k (A.deeper (envOfC qual (defScope st) s.heap.objs.size f cdv)) → sp vs H Q E →
        ∃ t, PSs (cxOf CX0 P w K mg base N qual (defScope st) f cdv A out s H E).nox (defBody st) t ∧ t { nx := fun _ G => Q .non G, rt := Q } (start N vs) H) :
    FnG P w K mg base CX0 (k + 1) f fd ps sp := by
  obtain ⟨_, _, _, _, _, _, cdv, _, _, rfl, lk, hcd⟩ := F.ex
  refine fnG_of lk hcd S ln fun A out s H vs Q E g hr hs => ?_
  obtain ⟨t, p, q⟩ := hb cdv A out s H vs Q E g hr hs
  exact ⟨t, p.nox, q⟩
end

section
variable {X : Cx} {CX : CXT} {k : Nat} {f : Addr} {fd : FuncData} {ps : List Str} {sp : Sp} {dvs : List V} {ds : List Value} {E : XK} {x : Str} {p pos : Pos} {e : Expr} {es : List Expr} {t : TA}
theorem run_fnG {pins : List (Addr × Obj)} {σ : L2.St} {H : Hp} {s : Shared} {Q : VK} {us : List Value} {vs : List V} (F : FnG X.prog X.w X.K X.mg X.base CX k f fd ps sp) (gd : X.A.guards = some []) (hr : Room k X.A)
    (hb : Binds X.K fd ps ds) (hd : Vals dvs ds) (hx : Passes CX X E) (I : Inv X pins σ H s) (r : Vals vs us) (h : sp (vs ++ dvs) H Q E) :
    wpAny (model X.prog X.w) X.A (call (.ref f) us) (EP X pins σ Q) X.xe s := by
  have rr : Vals (vs ++ dvs) (us ++ ds) := r.append hd
  have n0 : (us ++ ds).length = ps.length := rr.length.symm.trans (F.len _ _ _ _ h)
  have run := F.go X.A X.stack s H ⟨us, []⟩ (us ++ ds) (vs ++ dvs) Q E gd hr I.env0 (hb s us I.kIn n0) rr h
  refine wpAny_call (codeAny_mono run fun r s' q => ?_)
  match r, q with
  | .error e, q => exact hx pins σ H s e s' I q
  | .ok (.ret u), q => exact I.after q
  | .ok .next, q => exact False.elim q
  | .ok .brk, q => exact False.elim q
  | .ok .cont, q => exact False.elim q
theorem pe_callG (F : FnG X.prog X.w X.K X.mg X.base CX k f fd ps sp) (gd : X.A.guards = some []) (hr : Room k X.A) (hg : Gl X x) (hm : X.mg x = some (.ref f)) (hk : PySem.W.keepIn X.K (.ref f) = true)
    (hb : Binds X.K fd ps ds) (hd : Vals dvs ds) (hx : Passes CX X E) (ha : PA X (e :: es) t) (hdb : (x == ("__debug__" : Str)) = false := by decide)
    (he : starEach (e :: es) X.env = (false, eval e X.env) :: starEach es X.env := by rfl) (hpl : (backTo pos (starEach es X.env)).any (·.1) = false := by rfl) :
    PE X (.Call (.Name x p) (e :: es) [] pos) (tCall sp dvs E t) :=
  ⟨fun pins s σ H Q I h => wpAny_Call_Name_kw (ld_glob I hg hm (PySem.W.callWith_K (h₀ := X.base) I.ok.mod.kin hk
    (thn (ha.run pos pins s σ H _ I h) fun us s1 ⟨vs, H1, I1, r, q⟩ => ⟨I1.kIn, run_fnG F gd hr hb hd hx I1 r q⟩) he hpl) hdb)⟩
end
end HX

set_option Elab.async false
set_option linter.all false
set_option maxRecDepth 100000
set_option maxHeartbeats 2000000
namespace HX
open PySem PySem.Spec PyProof.Rows L2

/-- the heap that knows the script alone, locked -/
def scr (a : Addr) (o : Obj) (ns : List Int) : Hp := fun b => if b = a then some (.frz o (.lst (ns.map V.int))) else none

section
variable {P : Program} {w : World} {K : PySem.W.Frag} {mg mb : Str → Option Value} {CX : CXT} {k : Nat} {fa a : Addr} {fd : FuncData} {x : Str} {sp : Sp} {s : Shared} {vs : List Value} {ns : List Int}
theorem law_goG (kin : K.In s.heap) (hn : s.heap.Ns mainGlobals mg) (hb : s.heap.Ns builtinsNs mb) (hbb : ∀ y : Str, y ≠ "__name__" → mb y = bootBuiltins y) (lim : s.heap.NoLimit) (hg : s.gens = #[])
    (H : Hp) (only : Only H) (hok : HOk P w H s.heap) (at1 : ∀ b, H b ≠ none → s.heap.get? b = some { cls := .type "list", data := .seq vs.toArray } ∧ K.lookup b = none)
    (hr : Room k callerA) (F : ∀ base : Heap, K.In base → base.Ns mainGlobals mg → FnG P w K mg base CX k fa fd [x] sp)
    (bind1 : ∀ (s : Shared) (u : Value), BindsTo s fd ⟨[u], []⟩ [(x, u)])
    (hsp : sp [.ref a] H (fun v _ => v = .bl true) fun _ _ _ => False) (hCX : ∀ e s', CX [] H s (fun _ _ _ => False) e s' → False) :
    codeAny (model P w) callerA (.call (.ref fa) ⟨[.ref a], []⟩) (fun r s' => r = .ok (.ret (.bool true)) ∧ OldK s.heap s'.heap ∧ s'.os = s.os ∧ AllBare s'.gens) s := by
  have untr : ∀ b o, s.heap.get? b = some o → (o ≠ { cls := .type "list", data := .seq vs.toArray } ∨ K.lookup b ≠ none) → H b = none := fun b o e d => by
    cases q : H b with
    | none => rfl
    | some u =>
      obtain ⟨z1, z2⟩ := at1 b (by rw [q]; exact fun z => nomatch z)
      rcases d with d | d
      · exact absurd (Option.some.inj (e.symm.trans z1)) d
      · exact absurd z2 d
  have isNs : ∀ {b : Addr} {m : Str → Option Value}, s.heap.Ns b m → (hidT s.heap H).Ns b m := fun {b m} z => by
    obtain ⟨o, es, ep, e, d, r⟩ := z
    refine ⟨o, es, ep, hidT_get e (untr b o e (.inl fun z => ?_)), d, r⟩
    rw [z] at d
    cases d
  have kinB : K.In (hidT s.heap H) := fun b o e => hidT_get (kin b o e) (untr b o (kin b o e) (.inr (by rw [e]; exact fun z => nomatch z)))
  have md : Mod K mg (hidT s.heap H) := ⟨kinB, isNs hn, ⟨mb, isNs hb, hbb⟩, let ⟨m, z1, z2⟩ := lim; ⟨m, isNs z1, z2⟩⟩
  have e0 : Env0 P w K mg (hidT s.heap H) callerA [] s H :=
    ⟨rfl, md, fun _ _ e => of_hidT e, Nat.le_of_eq (hidT_size _ _), trivial, fun b z => absurd (show b ∈ ([] : List Addr) from z) List.not_mem_nil, hok, AllBare.of_eq hg⟩
  have run := (F _ kinB (isNs hn)).go callerA [] s H ⟨[.ref a], []⟩ [.ref a] [.ref a] (fun v _ => v = .bl true) (fun _ _ _ => False) rfl hr e0 (bind1 s (.ref a)) (.cons rfl .nil) hsp
  refine codeAny_mono run fun r s' q => ?_
  match r, q with
  | .error e, q => exact (hCX e s' q).elim
  | .ok .next, q => exact False.elim q
  | .ok .brk, q => exact False.elim q
  | .ok .cont, q => exact False.elim q
  | .ok (.ret u), q =>
    obtain ⟨v, G, os, bare, un, hok', rv, ev⟩ := q
    subst ev
    obtain rfl : u = Value.bool true := rv
    refine ⟨rfl, OldK.of_keep fun b o e => ?_, os, bare⟩
    rcases only b with n | ⟨ob, xs, n⟩
    · exact un.keep b o e n (fun z => absurd (show b ∈ ([] : List Addr) from z) List.not_mem_nil) List.not_mem_nil
    · have y1 := (hok b _ n).1
      have y2 := (hok' b _ (un.frzs b ob _ n)).1
      exact (y2.trans y1.symm).trans e
end

/-- the end of a law whose def keeps an FnG promise -/
theorem walkG {l : PySem.W.OpenLaw} {n k : Nat} {q : Program} {loose : List Str} {XP : (Str → Option Value) → Heap → Prop} {YP : World → Heap → Prop} {d : DefRec} {K : Params → PySem.W.Frag} {sp : PySem.W.Frag → Sp} {x : Str}
    (hm : l.most = some n) (hn : n ≤ sizeLine) (hdf : d.params.defaults = []) (hr : Room k callerA) (hY : ∀ (w : World) (h : Heap), YP w h → (K w.params).In h)
    (F : ∀ (w : World) (mg : Str → Option Value) (fa : Addr) (h : Heap), (K w.params).In h → h.Ns mainGlobals mg → mg d.name = some (.ref fa) →
      ∃ fd : FuncData, (∀ (s : Shared) (u : Value), BindsTo s fd ⟨[u], []⟩ [(x, u)]) ∧
        ∀ base : Heap, (K w.params).In base → base.Ns mainGlobals mg → FnG l.prog w (K w.params) mg base CX0 k fa fd [x] (sp (K w.params)))
    (hsp : ∀ (K : PySem.W.Frag) (H : Hp) (a : Addr) (ns : List Int), ns.length ≤ n → Only H → SqL K H a (ns.map V.int) → sp K [.ref a] H (fun v _ => v = .bl true) fun _ _ _ => False) :
    PySem.W.WalkO q loose XP YP l.row.toRowW d [] (fun f vs => PySem.call f vs) := by
  refine Att.attach_call hm hdf fun w s₀ s mg mb fa o pm cd doc a vs ns G Y ho hd hcd hmg hobj hi hlen hg => ?_
  have kin := hY w _ Y
  obtain ⟨fd, b1, f1⟩ := F w mg fa _ kin G.T.g hmg
  have rv := vals_ints hi
  have lv := hi.length
  cases e : (K w.params).lookup a with
  | some ob =>
    have z := kin a ob e
    rw [hobj] at z
    cases z
    refine law_goG (vs := vs) kin G.T.g G.T.b G.T.builtins G.T.nolimit hg (fun _ => none) (fun _ => .inl rfl) (fun _ _ z => nomatch z) (fun _ z => absurd rfl z) hr f1 b1 ?_ fun _ _ z => z
    refine hsp _ _ a ns hlen (fun _ => .inl rfl) (.inr ⟨_, vs.toArray, _, e, rfl, rfl, rfl, ?_, by simpa using rv⟩)
    rw [List.size_toArray, lv]
    exact Nat.le_trans hlen hn
  | none =>
    have at_ : ∀ b u, scr a { cls := .type "list", data := .seq vs.toArray } ns b = some u → b = a ∧ u = .frz { cls := .type "list", data := .seq vs.toArray } (.lst (ns.map V.int)) := fun b u z => by
      unfold scr at z
      split at z
      · rename_i hb
        exact ⟨hb, (Option.some.inj z).symm⟩
      · cases z
    refine law_goG (vs := vs) kin G.T.g G.T.b G.T.builtins G.T.nolimit hg (scr a { cls := .type "list", data := .seq vs.toArray } ns) (fun b => ?_) (fun b u z => ?_) (fun b z => ?_) hr f1 b1 ?_ fun _ _ z => z
    · cases z : scr a { cls := .type "list", data := .seq vs.toArray } ns b with
      | none => exact .inl rfl
      | some u => exact .inr ⟨_, _, by rw [(at_ b u z).2]⟩
    · obtain ⟨rfl, rfl⟩ := at_ b u z
      exact ⟨hobj, by rw [List.length_map]; exact Nat.le_trans hlen hn, vs, _, rv, hobj⟩
    · cases y : scr a { cls := .type "list", data := .seq vs.toArray } ns b with
      | none => exact absurd y z
      | some u =>
        obtain ⟨rfl, _⟩ := at_ b u y
        exact ⟨hobj, e⟩
    · refine hsp _ _ a ns hlen (fun b => ?_) (.inl (.inr ⟨_, if_pos rfl⟩))
      cases z : scr a { cls := .type "list", data := .seq vs.toArray } ns b with
      | none => exact .inl rfl
      | some u => exact .inr ⟨_, _, by rw [(at_ b u z).2]⟩
end HX

set_option Elab.async false
set_option linter.all false
set_option maxRecDepth 100000
set_option maxHeartbeats 2000000
namespace HX
open PySem PySem.Spec PyProof.Rows L2

/-! ### what a value tells as data: None, bools, ints, texts, lists, tuples, dicts with int and text keys -/
def keyD : Key → PyData
  | .inl i => .int i
  | .inr x => .str x
mutual
inductive Da (H : Hp) : V → PyData → Prop
  | non : Da H .non .none
  | bl (b : Bool) : Da H (.bl b) (.bool b)
  | int (i : Int) : Da H (.int i) (.int i)
  | str (x : Str) : Da H (.str x) (.str x)
  | lst {a : Addr} {xs : List V} {ds : List PyData} : H a = some (.lst xs) → a ≠ sysModules → Das H xs ds → Da H (.ref a) (.list ds)
  | tup {a : Addr} {xs : List V} {ds : List PyData} : H a = some (.tup xs) → Das H xs ds → Da H (.ref a) (.tuple ds)
  | dic {a : Addr} {kvs : List (Key × V)} {ps : List (PyData × PyData)} : H a = some (.dK kvs) → Dks H kvs ps → Da H (.ref a) (.dict ps)
inductive Das (H : Hp) : List V → List PyData → Prop
  | nil : Das H [] []
  | cons {v : V} {vs : List V} {d : PyData} {ds : List PyData} : Da H v d → Das H vs ds → Das H (v :: vs) (d :: ds)
inductive Dks (H : Hp) : List (Key × V) → List (PyData × PyData) → Prop
  | nil : Dks H [] []
  | cons {k : Key} {v : V} {kvs : List (Key × V)} {d : PyData} {ps : List (PyData × PyData)} : Da H v d → Dks H kvs ps → Dks H ((k, v) :: kvs) ((keyD k, d) :: ps)
end
theorem Das.len {H : Hp} : ∀ {vs : List V} {ds : List PyData}, Das H vs ds → vs.length = ds.length
  | _, _, .nil => rfl
  | _, _, .cons _ t => by rw [List.length_cons, List.length_cons, t.len]
theorem Das.get {H : Hp} : ∀ {vs : List V} {ds : List PyData} {i : Nat} {v : V}, Das H vs ds → vs[i]? = some v → ∃ d, ds[i]? = some d ∧ Da H v d
  | _, _, _, _, .nil, e => by simp at e
  | _, _, 0, v, .cons h _, e => by
    simp at e
    subst e
    exact ⟨_, rfl, h⟩
  | _, _, i + 1, v, .cons _ t, e => by
    obtain ⟨d, h1, h2⟩ := t.get (i := i) (v := v) (by simpa using e)
    exact ⟨d, by simpa using h1, h2⟩
theorem Das.app {H : Hp} : ∀ {vs us : List V} {ds es : List PyData}, Das H vs ds → Das H us es → Das H (vs ++ us) (ds ++ es)
  | _, _, _, _, .nil, t => t
  | _, _, _, _, .cons h t, t2 => .cons h (t.app t2)
mutual
theorem Da.mo {H H' : Hp} (m : Same H H') : ∀ {d : PyData} {v : V}, Da H v d → Da H' v d
  | _, _, .non => .non
  | _, _, .bl b => .bl b
  | _, _, .int i => .int i
  | _, _, .str x => .str x
  | _, _, .lst s n t => .lst (m _ _ s) n (Das.mo m t)
  | _, _, .tup s t => .tup (m _ _ s) (Das.mo m t)
  | _, _, .dic s t => .dic (m _ _ s) (Dks.mo m t)
theorem Das.mo {H H' : Hp} (m : Same H H') : ∀ {ds : List PyData} {vs : List V}, Das H vs ds → Das H' vs ds
  | _, _, .nil => .nil
  | _, _, .cons h t => .cons (Da.mo m h) (Das.mo m t)
theorem Dks.mo {H H' : Hp} (m : Same H H') : ∀ {ps : List (PyData × PyData)} {kvs : List (Key × V)}, Dks H kvs ps → Dks H' kvs ps
  | _, _, .nil => .nil
  | _, _, .cons h t => .cons (Da.mo m h) (Dks.mo m t)
end
section
variable {X : Cx} {pins : List (Addr × Obj)} {σ : L2.St} {H : Hp} {s : Shared}
theorem key_reads {h : Heap} {k : Key} {v : Value} (e : keyIs k v = true) : Reads h v (keyD k) [] := by
  rcases keyIs_shape e with ⟨i, t, rfl, rfl⟩ | ⟨x, t, rfl, rfl⟩
  · exact .int i t
  · exact .str x t
mutual
/-- .. as it stands in the heap; of the addresses that are read, none is sys.modules -/
theorem Da.reads (I : Inv X pins σ H s) : ∀ {d : PyData} {v : V} {u : Value}, Da H v d → RelV v u → ∃ as, Reads s.heap u d as ∧ sysModules ∉ as
  | _, _, _, .non, r => by cases r; exact ⟨_, .none, fun z => nomatch z⟩
  | _, _, _, .bl b, r => by cases r; exact ⟨_, .bool b, fun z => nomatch z⟩
  | _, _, _, .int i, r => by obtain ⟨t, rfl⟩ := r; exact ⟨_, .int i t, fun z => nomatch z⟩
  | _, _, _, .str x, r => by obtain ⟨t, rfl⟩ := r; exact ⟨_, .str x t, fun z => nomatch z⟩
  | _, _, _, .lst h nz t, r => by
    cases r
    obtain ⟨its, rv, ⟨o, n, ho, hc, _, hd⟩, _⟩ := I.list (SqL.of h)
    obtain ⟨as, hr, qs⟩ := Das.reads I t rv
    exact ⟨_, .list ho hc hd (by simpa using hr), fun z => (List.mem_cons.mp z).elim (fun e => nz e.symm) qs⟩
  | _, _, _, .tup h t, r => by
    cases r
    obtain ⟨its, rv, ⟨o, ho, hc, n, hd⟩, _⟩ := I.tuple (SqT.of h)
    obtain ⟨as, hr, q⟩ := Das.reads I t rv
    exact ⟨_, .tuple ho hc hd (by simpa using hr), q⟩
  | _, _, _, .dic (a := a) (kvs := kvs) h t, r => by
    cases r
    obtain ⟨_, nsys, vs, kv, o, es, ep, ho, hx, hd, _, hp, _⟩ := (show ObjOk X.prog X.w H s.heap a (.dK kvs) from I.hok a _ h)
    obtain ⟨bs, hr1, hr2, q⟩ := Dks.reads I t kv hp
    refine ⟨_, .dict (as := []) (bs := bs) ho hx.1 hd hr1 hr2, fun hm => ?_⟩
    rcases List.mem_cons.mp hm with e | hm
    · rw [← e] at nsys
      simp at nsys
    · exact q (by simpa using hm)
theorem Das.reads (I : Inv X pins σ H s) : ∀ {ds : List PyData} {vs : List V} {us : List Value}, Das H vs ds → Vals vs us → ∃ as, ReadsAll s.heap us ds as ∧ sysModules ∉ as
  | _, _, _, .nil, r => by cases r; exact ⟨_, .nil, fun z => nomatch z⟩
  | _, _, _, .cons h t, r => by
    cases r with
    | cons r1 r2 =>
      obtain ⟨as, h1, q1⟩ := Da.reads I h r1
      obtain ⟨bs, h2, q2⟩ := Das.reads I t r2
      exact ⟨_, .cons h1 h2, fun hm => (List.mem_append.mp hm).elim q1 q2⟩
theorem Dks.reads (I : Inv X pins σ H s) : ∀ {ps : List (PyData × PyData)} {kvs : List (Key × V)} {vs : List (Key × Value)} {es : List DictEntry}, Dks H kvs ps → KV kvs vs → Pairs (mixKind X.prog X.w) es vs →
    ∃ bs, ReadsAll s.heap (es.map (·.key)) (ps.map (·.1)) [] ∧ ReadsAll s.heap (es.map (·.val)) (ps.map (·.2)) bs ∧ sysModules ∉ bs
  | _, _, _, _, .nil, r, p => by cases r; cases p; exact ⟨_, .nil, .nil, fun z => nomatch z⟩
  | _, _, _, _, .cons h t, r, p => by
    cases r with
    | cons r1 r2 =>
      cases p with
      | cons p1 p2 p3 =>
        obtain ⟨e1, e2⟩ := r1
        obtain ⟨as, h1, q1⟩ := Da.reads I h e2
        obtain ⟨bs, h2, h3, q2⟩ := Dks.reads I t r2 p3
        rw [← e1] at p1
        refine ⟨as ++ bs, .cons (key_reads p1) h2, .cons (by show Reads s.heap (DictEntry.val _) _ _; rw [p2]; exact h1) h3, fun hm => (List.mem_append.mp hm).elim q1 q2⟩
end
/-- data that repr can show: not deep, not long -/
structure OkD (d : PyData) : Prop where
  sh : d.showable = true
  dp : d.depth ≤ 60
  lv : d.leavesShort 1000 = true
  wt : d.weight ≤ 10000
theorem OkD.len {d : PyData} (h : OkD d) : d.shown.length ≤ sizeLine := by
  have e := PyData.shown_le 1000 (by decide) d h.lv
  have w := h.wt
  rw [sizeLine_eq]
  omega
/-- repr of a list, a tuple, a dict -/
def rRepr : List V → Hp → VK → Prop := fun xs H Q => ∃ (a : Addr) (d : PyData), xs = [.ref a] ∧ Da H (.ref a) d ∧ OkD d ∧ Q (.str d.shown) H
theorem call_reprD (gd : X.A.guards = some []) (hu : X.A.units + 64 < cLine) : CallR X (.builtin "repr") rRepr := by
  intro pins s σ H xs us Q I r h
  obtain ⟨a, d, rfl, hd, ok, q⟩ := h
  obtain ⟨u, rfl, ru⟩ := vals1 r
  obtain ⟨as, hr, hsys⟩ := Da.reads I hd ru
  cases ru
  have hz := ok.dp
  exact repr_of_reads' hr ok.sh (fun _ => hsys) gd (by omega) (fun _ _ e => e) (fun h' t tk k => ⟨.str d.shown, H, I.kept k, ⟨_, rfl⟩, q⟩) ok.len
end
end HX

set_option Elab.async false
set_option linter.all false
set_option maxRecDepth 100000
set_option maxHeartbeats 2000000
namespace HX
open PySem PySem.Spec PyProof.Rows L2

/-! ### an exception that was caught, kept as a value: at a, of the class cls, its own dict at d -/
def exT (a : Addr) (cls : Value) (d : Option Addr) : HO := .ext fun h => ∃ oe vs, h.get? a = some oe ∧ Zc cls d oe ∧ oe.data = .fields vs
theorem exT_ok {P : Program} {w : World} {H : Hp} {h : Heap} {a : Addr} {cls : Value} {d : Option Addr} {oe : Obj} {vs : Array Value} (e : h.get? a = some oe) (z : Zc cls d oe) (q : oe.data = .fields vs) : ObjOk P w H h a (exT a cls d) :=
  ⟨⟨oe, vs, e, z, q⟩, ⟨oe, e⟩, fun _ _ ⟨o, us, x1, x2⟩ k => ⟨o, us, k o x1, x2⟩⟩
theorem exT_at {P : Program} {w : World} {H : Hp} {h : Heap} {a : Addr} {cls : Value} {d : Option Addr} (ok : HOk P w H h) (e : H a = some (exT a cls d)) : ∃ oe vs, h.get? a = some oe ∧ Zc cls d oe ∧ oe.data = .fields vs := by
  have x : ObjOk P w H h a (.ext fun h => ∃ oe vs, h.get? a = some oe ∧ Zc cls d oe ∧ oe.data = .fields vs) := ok a _ e
  exact x.1

section
variable {X : Cx} {pins : List (Addr × Obj)} {σ : L2.St} {H : Hp} {sI s' s : Shared} {B : Heap}
/-- back on the ground, the exception tracked -/
theorem landedK {a : Addr} {cls : Value} {d : Option Addr} {oe : Obj} {vs : Array Value} (I : Inv X pins σ H sI) (nb : ∀ b o, sI.heap.get? b = some o → b ∉ frs X.stack → B.get? b = some o) (st : B.StaysIn s'.heap)
    (up : sI.heap.UpToSlots s'.heap) (os : s'.os = sI.os) (ag : AllBare s'.gens) (na : H a = none) (nB : B.get? a = none) (nf : a ∉ frs X.stack) (he : s'.heap.get? a = some oe) (hz : Zc cls d oe) (hd : oe.data = .fields vs) :
    Inv X pins σ (upd H a (exT a cls d)) s' := by
  have nI : ∀ b o, sI.heap.get? b = some o → b ≠ a := fun b o e z => by
    subst z
    rw [nb b o e nf] at nB
    cases nB
  have fr : ∀ b ∈ frs X.stack, ∀ o, sI.heap.get? b = some o → ∃ sl, s'.heap.get? b = some { o with slots := sl } := fun b hb o e => by
    obtain ⟨_, o', e', q⟩ := I.stack.mem hb
    rw [e] at e'
    cases e'
    exact up b o e q
  have hk : HOk X.prog X.w H s'.heap := (I.inGround nb).kept st
  have hok : HOk X.prog X.w (upd H a (exT a cls d)) s'.heap := fun b u e => by
    by_cases hb : b = a
    · subst hb
      rw [upd_same] at e
      cases e
      exact exT_ok he hz hd
    · rw [upd_ne hb] at e
      exact (hk b u e).stay (fun _ _ _ z => z) (fun c z => by rw [upd_ne (ne_of_none z na)]; exact z) fun c xs z => by rw [upd_ne (ne_of_none z na)]; exact z
  have un : Un (frs X.stack) [] H (upd H a (exT a cls d)) sI.heap s'.heap := {
    keep := fun b o e _ hb _ => st b o (nb b o e hb)
    slot := fun b o e _ hb _ => fr b hb o e
    free := fun b o e n _ => by rw [upd_ne (nI b o e)]; exact n
    there := fun b o e _ => by
      by_cases hb : b ∈ frs X.stack
      · obtain ⟨sl, q⟩ := fr b hb o e
        exact ⟨_, q⟩
      · exact ⟨o, st b o (nb b o e hb)⟩
    tups := fun b xs e => by rw [upd_ne (ne_of_none e na)]; exact e
    frzs := fun b o u e => by rw [upd_ne (ne_of_none e na)]; exact e
    tbls := fun b ps e => ⟨#[], by rw [upd_ne (ne_of_none e na), e]; simp⟩ }
  exact I.call' (ch := []) os un hok ag fun _ z => nomatch z
theorem inSuite (I : Inv X pins σ H s) (a : Addr) : Inv (X.suite a (X.pn ++ pins)) [] σ H s :=
  ⟨I.ok.suite _ _, I.os, I.bare, I.base, I.loc, I.cell, I.free, I.freeC, fun p hp => I.pin p (by rw [List.append_nil] at hp; exact hp), I.hok, I.len⟩
theorem outSuite {a : Addr} {pn' : List (Addr × Obj)} (I : Inv (X.suite a (X.pn ++ pins)) pn' σ H s) (ok : X.Ok) : Inv X pins σ H s :=
  ⟨ok, I.os, I.bare, I.base, I.loc, I.cell, I.free, I.freeC, fun p hp => I.pin p (List.mem_append_left _ hp), I.hok, I.len⟩
end

/-- what 'except x as n' wishes of an exception of the body, where the suite keeps it as a value -/
def wKeep (K : PySem.W.Frag) (c : Value) (i : Nat) (ts : TS) (Wout : WX) (D : Ends) : WX := fun cls d σ H =>
  ∃ b, PySem.W.exmOne K cls c = some b ∧
    (b = true → ∀ a, H a = none → ts { nx := fun σ' G => D.nx (σ'.set i none) G, rt := D.rt, bk := fun σ' G => D.bk (σ'.set i none) G, ct := fun σ' G => D.ct (σ'.set i none) G } (σ.set i (some (.ref a))) (upd H a (exT a cls d))) ∧
    (b = false → Wout cls d σ H)

section
variable {X : Cx} {x n : Str} {c : Value} {i : Nat} {body rest : List Stmt} {b₀ : Stmt} {np pos pos' : Pos} {tb : WX → TS} {ts : TS} {Wout : WX}
theorem ps_try_keep (hs : X.stack = X.env :: X.outer) (hf : X.env.frame = some X.env.locals) (hN : X.N.Nodup) (hi : X.N[i]? = some n) (hln : X.env.kindOf n = some .local) (hc : Names X x c) (tk : Takes X Wout)
    (hb : ∀ (W : WX) (pn : List (Addr × Obj)) (xe : Value → Shared → Prop), Takes (X.tr pn xe) W → PassesOwn (model X.prog X.w) X.A X.env xe → PSs (X.tr pn xe) body (tb W))
    (hsu : ∀ (a : Addr) (pn : List (Addr × Obj)), PSs (X.suite a pn) (b₀ :: rest) ts) :
    PS X (.Try body [.ExceptHandler (some (.Name x np)) (some n) (b₀ :: rest) pos'] [] [] pos) (fun D σ H => tb (wKeep X.K c i ts Wout D) D σ H) := by
  refine ⟨fun pins s σ H D I h => ?_⟩
  have ok := I.ok
  have hfr : X.A.frames = some (X.env :: X.outer) := by rw [ok.frames, hs]
  have hloc : Loc X.env.scope n := .inl hln
  refine wpAny_Try_except ?_
  refine wpAny_mono ((hb (wKeep X.K c i ts Wout D) (X.pn ++ pins)
    (fun e s₁ => wpAny (model X.prog X.w) X.A (noteFrame e X.env) (fun _ s₂ => wpAny (model X.prog X.w) X.A (setFlight e none)
      (fun _ s₃ => wpAny (model X.prog X.w) X.A (handleBy e X.env [.ExceptHandler (some (.Name x np)) (some n) (b₀ :: rest) pos']) (SP X pins D) X.xe s₃) X.xe s₂) X.xe s₁)
    (fun u s' xx => ?_) PassesOwn.looking).run [] s σ H D (I.toTry _) h) (fun f s1 q => ?_) (fun _ _ z => z)
  · obtain ⟨a, B, sI, pins', σ', G, cls, d, rfl, J', nb, up, sky, na, os, ag, b, hb1, yes, no⟩ := xx
    have J : Inv X pins σ' G sI := J'.ofTry ok
    have sky2 : Sky B (X.env :: X.outer) a (Zc cls d) X.env.locals s'.heap := by rw [← hs]; exact sky
    show wpAny (model X.prog X.w) X.A (noteFrame (.ref a) X.env) _ _ _
    refine Sky.land Zc.steady hfr hf sky2 fun h3 fl3 up3 => ?_
    obtain ⟨oe3, vs3, he3, hz3, hd3⟩ := fl3.there
    have nfr : a ∉ frs X.stack := by
      rw [hs]
      intro hm
      obtain ⟨_, o, e, q⟩ := fl3.2.2.1.mem hm
      rw [he3] at e
      cases e
      exact q _ hd3
    have J3 := landedK (s' := { s' with heap := h3 }) J nb fl3.1 (up.trans up3) os ag na fl3.2.1 nfr he3 hz3 hd3
    have S3 := inSuite J3 a
    refine wpAny_handleBy_cons (codeAny_handlers_test ?_) (by intro q; cases q)
    have LT : PySem.W.Looks (model X.prog X.w) h3 (typeOf (.ref a)) cls := fun A Q E s k q => wpAny_typeOf_ref (k _ _ he3) (by rw [hz3.1]; exact q)
    have LM := PySem.W.exm_one (M := model X.prog X.w) J3.kIn LT hb1
    have test : ∀ {Q : Value → Shared → Prop} {E : Value → Shared → Prop}, Q c { s' with heap := h3 } → wpAny (model X.prog X.w) (X.A.mark (some (.ref a))) (eval (.Name x np) X.env) Q E { s' with heap := h3 } := fun {Q E} q => by
      obtain ⟨z1, z2, z3 | ⟨z3, z4, z5⟩⟩ := hc
      · exact ld_glob S3 z1 z3 q z2
      · exact ld_blt S3 z1 z3 z4 q z5 z2
    refine test (LM.here ?_)
    cases b with
    | true =>
      refine codeAny_handlers_suite_as ?_
      refine HandSPX.lands_againZ fl3 fun h4 fl4 up4 => ?_
      obtain ⟨oe4, vs4, he4, hz4, hd4⟩ := fl4.there
      have J4 := landedK (s' := { s' with heap := h4 }) J nb fl4.1 ((up.trans up3).trans up4) os ag na fl4.2.1 nfr he4 hz4 hd4
      refine store_ok (X := X.suite a (X.pn ++ pins)) (v := .ref a) (inSuite J4 a) hN hi hloc rfl (fun s5 S5 => ?_) (.inr hln)
      have leave : ∀ {σ6 : L2.St} {G6 : Hp} {s6 : Shared} {Q : Shared → Prop}, Inv (X.suite a (X.pn ++ pins)) [] σ6 G6 s6 → (∀ s7, Inv X pins (σ6.set i none) G6 s7 → Q s7) →
          wpAny (model X.prog X.w) X.A (do bindName X.env n .none; unbindBehindTheSuite X.env n pos') (fun _ s7 => Q s7) X.xe s6 := fun S6 hq => gone_ok (outSuite S6 ok) hN hi hln hq
      refine wpAny_mono ((hsu a (X.pn ++ pins)).run [] s5 _ _ _ S5 (yes rfl a na)) (fun f s6 q => ?_) (fun _ _ z => False.elim z)
      match f, q with
      | .next, ⟨σ6, G6, S6, q6⟩ => exact leave S6 fun s7 J7 => ⟨_, _, J7, q6⟩
      | .brk, ⟨σ6, G6, S6, q6⟩ => exact leave S6 fun s7 J7 => ⟨_, _, J7, q6⟩
      | .cont, ⟨σ6, G6, S6, q6⟩ => exact leave S6 fun s7 J7 => ⟨_, _, J7, q6⟩
      | .ret u, ⟨v6, σ6, G6, S6, r6, q6⟩ => exact leave S6 fun s7 J7 => ⟨_, _, _, J7, r6, q6⟩
    | false =>
      show wpAny _ X.A (handleBy (.ref a) X.env []) _ _ _
      refine wpAny_handleBy_nil ?_
      obtain ⟨k1, k2, k3, oe, vs, T, oT, ts', he, hz, hd, h1, hr⟩ := id fl3
      unfold PySem.passOn
      refine wpAny_bind (wpAny_field he hd h1 ?_)
      rw [if_neg (show ¬ ((Value.ref T == Value.none) = true) from by simp)]
      have fin : wpAny (model X.prog X.w) X.A (setFlight (.ref a) X.env.frame) (fun _ s4 => wpAny (model X.prog X.w) X.A (throw (.ref a) : Sem Flow) (SP X pins D) X.xe s4) X.xe { s' with heap := h3 } := by
        rw [hf]
        refine HandSPX.setFlight_upZ fl3 fun h4 hh4 up4 => wpAny_throw (tk _ _ ?_)
        exact ⟨a, B, sI, pins, σ', G, cls, d, rfl, J, nb, (up.trans up3).trans up4, .inr (.inr (by rw [hs]; exact hh4)), na, os, ag, no rfl⟩
      first
        | exact wpAny_bind (wpAny_pure (wpAny_bind fin))
        | exact wpAny_bind fin
  · match f, q with
    | .next, ⟨σ', G, J', z⟩ => exact wpAny_execs_nil ⟨σ', G, J'.ofTry ok, z⟩
    | .brk, ⟨σ', G, J', z⟩ => exact ⟨σ', G, J'.ofTry ok, z⟩
    | .cont, ⟨σ', G, J', z⟩ => exact ⟨σ', G, J'.ofTry ok, z⟩
    | .ret u, ⟨v, σ', G, J', r, z⟩ => exact ⟨v, σ', G, J'.ofTry ok, r, z⟩
end

/-! ### such a value's class and fields -/
/-- what an own exception class must have -/
structure ExC (K : PySem.W.Frag) (C : Addr) : Prop where
  ga : PySem.W.findIn K (.ref C) "__getattribute__" = some (some (.builtin "BaseException.__getattribute__"))
  gg : PySem.W.findIn K (.ref C) "__getattr__" = some none
  sub : PySem.W.subIn K (.ref C) (.type "BaseException") = some true
  hd : PySem.W.hasDictIn K C = true
  ha : PySem.W.findIn K (.ref C) "__class__" = some (some (.builtin "object.__class__"))
  hn : PySem.W.specialIn K (.builtin "object.__class__") "__get__" = some (some (.builtin "getset_descriptor.__get__"))
  ht : PySem.W.takesIn K (.builtin "object.__class__") = some true
  hm : PySem.W.mroIn K C (.type "object") = some true
theorem instAt_of {h : Heap} {a C : Addr} {oe od : Obj} {vs : Array Value} {d : Addr} (he : h.get? a = some oe) (hz : Zc (.ref C) (some d) oe) (hf : oe.data = .fields vs) (ho : h.get? d = some od) : PySem.W.InstAt h a oe C (some od) := by
  obtain ⟨c1, d1, dt, sl⟩ := oe
  obtain ⟨rfl, rfl⟩ := hz
  dsimp only at hf
  subst hf
  exact ⟨he, rfl, rfl, ho⟩
theorem instAt_of0 {h : Heap} {a C : Addr} {oe : Obj} {vs : Array Value} (he : h.get? a = some oe) (hz : Zc (.ref C) none oe) (hf : oe.data = .fields vs) : PySem.W.InstAt h a oe C none := by
  obtain ⟨c1, d1, dt, sl⟩ := oe
  obtain ⟨rfl, rfl⟩ := hz
  dsimp only at hf
  subst hf
  exact ⟨he, rfl, rfl, trivial⟩
section
variable {X : Cx} {e : Expr} {te : TE} {f : Str} {pos : Pos}
/-- e.f -/
def tExf (K : PySem.W.Frag) (f : Str) (te : TE) : TE := fun σ H Q => te σ H fun x G => ∃ (a C d : Addr) (fs : List (Str × V)) (v : V), x = .ref a ∧ G a = some (exT a (.ref C) (some d)) ∧ G d = some (.xd fs) ∧ ExC K C ∧ PySem.W.findIn K (.ref C) f = some none ∧ fs.lookup f = some v ∧ Q v G
theorem pe_exf (he : PE X e te) (hb : attributeBase e f X.env (eval e X.env) = eval e X.env := by rfl) : PE X (.Attribute e f pos) (tExf X.K f te) := by
  refine ⟨fun pins s σ H Q I h => attr_of hb (thn (he.run pins s σ H _ I h) fun u s1 ⟨x, G, I1, rx, a, C, d, fs, v, ex, ea, ed, T, no, l, q⟩ => ?_)⟩
  subst ex
  obtain rfl : u = Value.ref a := rx
  obtain ⟨oe, vs, z1, z2, z3⟩ := exT_at I1.hok ea
  obtain ⟨mA, hns, hr⟩ := (show ObjOk X.prog X.w G s1.heap d (.xd fs) from I1.hok d _ ed)
  obtain ⟨od, ho, hl⟩ := lookIn_ns hns
  obtain ⟨w', hu, ru⟩ := RelO.some_of (v := v) (o := mA f) (by rw [← l]; exact hr f)
  exact HandSPX.exc_get I1.kIn (instAt_of z1 z2 z3 ho) T.ga T.gg T.sub (PySem.W.findObj_own T.hd no rfl (by rw [hl, hu])) (handed_of ru) ⟨v, G, I1.tok _, ru, q⟩
/-- isinstance(e, c) -/
def rIsX (K : PySem.W.Frag) : List V → Hp → VK → Prop := fun xs H Q => ∃ (a D : Addr) (d : Option Addr) (c : V) (cv : Value) (b : Bool), xs = [.ref a, c] ∧ H a = some (exT a (.ref D) d) ∧ (∀ dd, d = some dd → ∃ fs, H dd = some (.xd fs)) ∧ ExC K D ∧ (∀ u, RelV c u → u = cv) ∧
  PySem.W.kitOne K (.ref D) cv = some b ∧ Q (.bl b) H
theorem call_isX : CallR X (.builtin "isinstance") (rIsX X.K) := by
  intro pins s σ H xs us Q I r h
  obtain ⟨a, D, d, c, cv, b, rfl, ea, ed, T, hc, hk, q⟩ := h
  obtain ⟨u, u2, rfl, r1, r2⟩ := vals2 r
  cases r1
  have e2 := hc _ r2
  subst e2
  obtain ⟨oe, vs, z1, z2, z3⟩ := exT_at I.hok ea
  have hcl : (PySem.W.clsIn X.K D).isSome = true := by
    obtain ⟨cd, z, _⟩ := PySem.W.any_some T.hd
    rw [z]
    rfl
  cases d with
  | none => exact PySem.W.kia_one (PySem.W.kitx_exc hcl T.ga T.gg T.sub T.ha T.hn T.ht T.hm) I.kIn (instAt_of0 z1 z2 z3) hk (fun z => nomatch z) fun tk => ⟨.bl b, H, I.kept (t' := tk) fun _ _ z => z, rfl, q⟩
  | some dd =>
    obtain ⟨fs, ed⟩ := ed dd rfl
    obtain ⟨mA, ⟨od, _, _, ho, _⟩, _⟩ := (show ObjOk X.prog X.w H s.heap dd (.xd fs) from I.hok dd _ ed)
    exact PySem.W.kia_one (PySem.W.kitx_exc hcl T.ga T.gg T.sub T.ha T.hn T.ht T.hm) I.kIn (instAt_of z1 z2 z3 ho) hk (fun z => nomatch z) fun tk => ⟨.bl b, H, I.kept (t' := tk) fun _ _ z => z, rfl, q⟩
end
end HX

set_option Elab.async false
set_option linter.all false
set_option maxRecDepth 100000
set_option maxHeartbeats 2000000
namespace HX
open PySem PySem.Spec PyProof.Rows L2

/-! ### own error classes whose __init__ keeps one field, two fields -/
def spI1 (C : Addr) (f : Str) : Sp := fun vs H Q _ => ∃ (a : Addr) (v : V), vs = [.ref a, v] ∧ H a = some (exo a C none) ∧
  ∀ dx, H dx = none → dx ≠ a → Q .non (upd (upd H dx (exd dx [(f, v)])) a (exo a C (some dx)))
def spI2 (C : Addr) (f g : Str) : Sp := fun vs H Q _ => ∃ (a : Addr) (v u : V), vs = [.ref a, v, u] ∧ H a = some (exo a C none) ∧
  ∀ dx, H dx = none → dx ≠ a → Q .non (upd (upd (upd H dx (exd dx [(f, v)])) a (exo a C (some dx))) dx (exd dx [(g, u), (f, v)]))
/-- what the written part says of such a class -/
structure RxC (K : PySem.W.Frag) (mg : Str → Option Value) (x : Str) (C fI : Addr) : Prop where
  o : OexC K C
  iC : PySem.W.findIn K (.ref C) "__init__" = some (some (.ref fI))
  tI : PySem.W.typeIn K (.ref fI) = some (.type "function")
  gC : mg x = some (.ref C)
section
variable {P : Program} {w : World} {K : PySem.W.Frag} {mg : Str → Option Value} {base : Heap} {C fI : Addr} {fd : FuncData} {qual f g : Str} {st : Stmt}
theorem ok_init1 (F : Fun K "__init__" qual st fI fd) (T : OexC K C) (no : PySem.W.findIn K (.ref C) f = some none) (S : FnScope ["self", f] ["self", f] (defScope st))
    (hb : ∃ p1 p2 p3 p4, defBody st = [.Assign [.Attribute (.Name "self" p1) f p2] (.Name f p3) p4])
    (v0 : Vis (defScope st) "self" := by exact Or.inl rfl) (v1 : Vis (defScope st) f := by exact Or.inl rfl)
    (hd : (f == ("__debug__" : Str)) = false := by decide) (hcd : (f == ("__classdict__" : Str)) = false := by decide) : FnOk P w K mg base CX0 1 fI fd ["self", f] (spI1 C f) := by
  obtain ⟨p1, p2, p3, p4, eb⟩ := hb
  refine F.ok S (fun vs H Q E h => ?_) (fun cdv A outer s H vs Q E hr h => ?_)
  · obtain ⟨a, v, rfl, _⟩ := h
    rfl
  · obtain ⟨a, v, rfl, ha, k⟩ := h
    rw [eb]
    refine ⟨_, pss_one (ps_ost (pe_var (i := 0) rfl v0) (pe_var (i := 1) rfl v1 hd hcd)), ?_⟩
    exact ⟨v, rfl, _, rfl, a, C, rfl, T, no, .inl ⟨ha, fun dx n ne => k dx n ne⟩⟩
theorem ok_init2 (F : Fun K "__init__" qual st fI fd) (T : OexC K C) (no : PySem.W.findIn K (.ref C) f = some none) (no2 : PySem.W.findIn K (.ref C) g = some none) (S : FnScope ["self", f, g] ["self", f, g] (defScope st))
    (hb : ∃ p1 p2 p3 p4 q1 q2 q3 q4, defBody st = [.Assign [.Attribute (.Name "self" p1) f p2] (.Name f p3) p4, .Assign [.Attribute (.Name "self" q1) g q2] (.Name g q3) q4])
    (v0 : Vis (defScope st) "self" := by exact Or.inl rfl) (v1 : Vis (defScope st) f := by exact Or.inl rfl) (v2 : Vis (defScope st) g := by exact Or.inl rfl)
    (hd : (f == ("__debug__" : Str)) = false := by decide) (hcd : (f == ("__classdict__" : Str)) = false := by decide)
    (hd2 : (g == ("__debug__" : Str)) = false := by decide) (hcd2 : (g == ("__classdict__" : Str)) = false := by decide) : FnOk P w K mg base CX0 1 fI fd ["self", f, g] (spI2 C f g) := by
  obtain ⟨p1, p2, p3, p4, q1, q2, q3, q4, eb⟩ := hb
  refine F.ok S (fun vs H Q E h => ?_) (fun cdv A outer s H vs Q E hr h => ?_)
  · obtain ⟨a, v, u, rfl, _⟩ := h
    rfl
  · obtain ⟨a, v, u, rfl, ha, k⟩ := h
    rw [eb]
    refine ⟨_, pss_cons (ps_ost (pe_var (i := 0) rfl v0) (pe_var (i := 1) rfl v1 hd hcd)) (pss_one (ps_ost (pe_var (i := 0) rfl v0) (pe_var (i := 2) rfl v2 hd2 hcd2))), ?_⟩
    refine ⟨v, rfl, _, rfl, a, C, rfl, T, no, .inl ⟨ha, fun dx n ne => ?_⟩⟩
    exact ⟨u, rfl, _, rfl, a, C, rfl, T, no2, .inr ⟨dx, [(f, v)], upd_same, by rw [upd_ne ne, upd_same], by show 1 ≤ 900; decide, k dx n ne⟩⟩
end

theorem lay_gone {H : Hp} {a dx : Addr} {o1 o2 o3 u : HO} (na : H a = none) (ne : dx ≠ a) : upd (del (upd (upd (upd H a o1) dx o2) a o3) a) dx u = upd H dx u := by
  funext b
  by_cases h1 : b = dx
  · rw [h1, upd_same, upd_same]
  · rw [upd_ne h1, upd_ne h1]
    by_cases h2 : b = a
    · rw [h2, del_same, na]
    · rw [del_ne h2, upd_ne h2, upd_ne h1, upd_ne h2]
theorem lay_gone2 {H : Hp} {a dx : Addr} {o1 o2 o3 o4 u : HO} (na : H a = none) (ne : dx ≠ a) : upd (del (upd (upd (upd (upd H a o1) dx o2) a o3) dx o4) a) dx u = upd H dx u := by
  funext b
  by_cases h1 : b = dx
  · rw [h1, upd_same, upd_same]
  · rw [upd_ne h1, upd_ne h1]
    by_cases h2 : b = a
    · rw [h2, del_same, na]
    · rw [del_ne h2, upd_ne h1, upd_ne h2, upd_ne h1, upd_ne h2]

/-- the answer where such an error is made: its own dict d is new and holds the field -/
theorem mk1_ans {H : Hp} {C : Addr} {f : Str} {v : V} {Q : XK} (h : ∀ d, H d = none → Q (.ref C) (some d) (upd H d (.xd [(f, v)]))) :
    [v].length ≤ 1000 ∧ ∀ a, H a = none → spI1 C f (.ref a :: ([v] ++ [])) (upd H a (exo a C none))
      (fun u G => u = .non ∧ ∃ (d : Addr) (fs : List (Str × V)), G a = some (exo a C (some d)) ∧ G d = some (exd d fs) ∧ H d = none ∧ Q (.ref C) (some d) (upd (del G a) d (.xd fs))) (fun _ _ _ => False) := by
  refine ⟨by show 1 ≤ 1000; decide, fun a na => ⟨a, v, rfl, upd_same, fun dx nx ne => ?_⟩⟩
  rw [upd_ne ne] at nx
  exact ⟨rfl, dx, _, upd_same, by rw [upd_ne ne, upd_same], nx, by rw [lay_gone na ne]; exact h dx nx⟩
theorem mk2_ans {H : Hp} {C : Addr} {f g : Str} {v u : V} {Q : XK} (h : ∀ d, H d = none → Q (.ref C) (some d) (upd H d (.xd [(g, u), (f, v)]))) :
    [v, u].length ≤ 1000 ∧ ∀ a, H a = none → spI2 C f g (.ref a :: ([v, u] ++ [])) (upd H a (exo a C none))
      (fun z G => z = .non ∧ ∃ (d : Addr) (fs : List (Str × V)), G a = some (exo a C (some d)) ∧ G d = some (exd d fs) ∧ H d = none ∧ Q (.ref C) (some d) (upd (del G a) d (.xd fs))) (fun _ _ _ => False) := by
  refine ⟨by show 2 ≤ 1000; decide, fun a na => ⟨a, v, u, rfl, upd_same, fun dx nx ne => ?_⟩⟩
  rw [upd_ne ne] at nx
  exact ⟨rfl, dx, _, by rw [upd_ne (Ne.symm ne), upd_same], upd_same, nx, by rw [lay_gone2 na ne]; exact h dx nx⟩
section
variable {X : Cx} {x f g : Str} {C fI : Addr} {fd : FuncData} {k : Nat} {e : Expr} {es : List Expr} {ta : TA} {W : WX} {p pos pos2 : Pos} {ps : List Str} {sp : Sp}
/-- raise C(e, ..) -/
theorem ps_raiseO (hc : X.calm = true) (T : RxC X.K X.mg x C fI) (F : FnOk X.prog X.w X.K X.mg X.base CX0 k fI fd ps sp) (b : Binds X.K fd ps []) (hr : Room (k + 1) X.A) (tk : Takes X W) (he : PA X (e :: es) ta) (hg : Gl X x)
    (hdb : (x == ("__debug__" : Str)) = false := by decide) (hs : starEach (e :: es) X.env = (false, eval e X.env) :: starEach es X.env := by rfl) (hpl : (backTo pos (starEach es X.env)).any (·.1) = false := by rfl) :
    PS X (.Raise (some (.Call (.Name x p) (e :: es) [] pos)) none pos2) (fun _ σ H => tMkO C sp [] ta σ H fun cls d G => W cls d σ G) :=
  ps_raise hc tk (pmk_oex T.o T.iC T.tI F hr b .nil (fun _ _ _ _ _ _ _ z => z.elim) hg T.gC he hdb hs hpl)
end
end HX

set_option Elab.async false
set_option linter.all false
set_option maxRecDepth 100000
set_option maxHeartbeats 2000000
namespace HX
open PySem PySem.Spec PyProof.Rows L2

/-! ### readings that reckon: a name, a test, operators by the values' kinds -/
def cV (i : Nat) : TE := fun σ H Q => match σ[i]? with
  | some (some v) => Q v H
  | _ => False
def cT (te : TE) : TT := fun σ H Q => te σ H fun x G => match x with
  | .bl k => Q k G
  | _ => False
def rI2 (C : Int → Int → Prop) (g : Int → Int → V) : R2 := fun x y H Q => match x, y with
  | .int i, .int j => C i j ∧ Q (g i j) H
  | _, _ => False
/-- one factor below 2 ^ 64, or both together below a million bits -/
def CMulU (i j : Int) : Prop := CMul i j ∨ CMulW i j
def rI1 (g : Int → Int → V) : R2 := fun x y H Q => match x, y with
  | .int i, .int j => Q (g i j) H
  | _, _ => False
def rAdd2 : R2 := fun x y H Q => match x, y with
  | .int i, .int j => Q (.int (i + j)) H
  | .str a, .str b => a.length + b.length ≤ sizeLine ∧ Q (.str (a ++ b)) H
  | _, _ => False
def eqD2 (K : PySem.W.Frag) (a b : Addr) (H : Hp) (Q : Bool → Prop) : Prop := ∃ d e, Dp K H (.ref a) d ∧ Dp K H (.ref b) e ∧ SeqAt.shaped d = true ∧ SeqAt.shaped e = true ∧ Q (PyData.eqv d e)
def rEq2 (K : PySem.W.Frag) (neg : Bool) : R2 := fun x y H Q => match x, y with
  | .int i, .int j => Q (.bl (xor neg (decide (i = j)))) H
  | .str i, .str j => Q (.bl (xor neg (decide (i = j)))) H
  | .bl i, .bl j => Q (.bl (xor neg (decide (i = j)))) H
  | .non, .non => Q (.bl (xor neg true)) H
  | .non, .int _ => Q (.bl neg) H
  | .int _, .non => Q (.bl neg) H
  | .non, .str _ => Q (.bl neg) H
  | .str _, .non => Q (.bl neg) H
  | .int _, .str _ => Q (.bl neg) H
  | .str _, .int _ => Q (.bl neg) H
  | .ref a, .ref b => eqD2 K a b H fun k => Q (.bl (xor neg k)) H
  | _, _ => False
def rOrd2 (g : Int → Int → Bool) (h : Str → Str → Bool) : R2 := fun x y H Q => match x, y with
  | .int i, .int j => Q (.bl (g i j)) H
  | .str i, .str j => Q (.bl (h i j)) H
  | _, _ => False
def rIs2 (neg : Bool) : R2 := fun x y H Q => match y with
  | .non => Q (.bl (xor neg (decide (x = .non)))) H
  | _ => False
/-- t[i]: of lists, tuples, texts, dicts with text keys -/
def rIx2 (K : PySem.W.Frag) : R2 := fun x y H Q => match x, y with
  | .ref p, .int i => ∃ xs v, (SqL K H p xs ∨ SqT K H p xs) ∧ atI xs i = some v ∧ Q v H
  | .str z, .int i => z.length ≤ sizeLine ∧ ∃ c, atI z.cps.toList i = some c ∧ Q (.str ⟨#[c]⟩) H
  | _, _ => False
section
variable {X : Cx} {a b e : Expr} {ta tb te : TE} {pos : Pos} {f : Value → Value → Sem Value}
theorem pc (i : Nat) {x : Str} (hN : X.N[i]? = some x := by rfl) (hv : Vis X.env.scope x := by first | exact Or.inl rfl | exact Or.inr (Or.inl rfl) | exact Or.inr (Or.inr rfl)) (hd : (x == ("__debug__" : Str)) = false := by decide)
    (hcd : (x == ("__classdict__" : Str)) = false := by decide) : PE X (.Name x pos) (cV i) := by
  refine ⟨fun pins s σ H Q I h => ?_⟩
  refine (pe_var hN hv hd hcd).run pins s σ H Q I ?_
  unfold cV at h
  split at h
  · rename_i v e
    exact ⟨v, e, h⟩
  · exact h.elim
theorem opC {C : Int → Int → Prop} {g : Int → Int → V} (h : OpR X f (rI C g)) : OpR X f (rI2 C g) := fun pins s σ H x y v u Q I rx ry q => by
  unfold rI2 at q
  split at q
  · exact h pins s σ H _ _ v u Q I rx ry ⟨_, _, rfl, rfl, q.1, q.2⟩
  · exact q.elim
theorem opC0 {g : Int → Int → V} (h : OpR X f (rI0 g)) : OpR X f (rI1 g) := fun pins s σ H x y v u Q I rx ry q => by
  unfold rI1 at q
  split at q
  · exact h pins s σ H _ _ v u Q I rx ry ⟨_, _, rfl, rfl, q⟩
  · exact q.elim
theorem o_add : OpR X (binaryOp .Add) rAdd2 := fun pins s σ H x y v u Q I rx ry q => by
  unfold rAdd2 at q
  split at q
  · exact op_add pins s σ H _ _ v u Q I rx ry ⟨_, _, rfl, rfl, q⟩
  · exact op_add_str pins s σ H _ _ v u Q I rx ry ⟨_, _, rfl, rfl, q.1, q.2⟩
  · exact q.elim
theorem o_sub : OpR X (binaryOp .Sub) (rI1 fun i j => .int (i - j)) := opC0 op_sub
theorem o_mul : OpR X (binaryOp .Mult) (rI2 CMulU fun i j => .int (i * j)) := fun pins s σ H x y v u Q I rx ry q => by
  unfold rI2 at q
  split at q
  · rcases q.1 with c | c
    · exact op_mul pins s σ H _ _ v u Q I rx ry ⟨_, _, rfl, rfl, c, q.2⟩
    · exact op_mulW pins s σ H _ _ v u Q I rx ry ⟨_, _, rfl, rfl, c, q.2⟩
  · exact q.elim
theorem o_fdiv : OpR X (binaryOp .FloorDiv) (rI2 CDivW fun i j => .int (i / j)) := opC op_fdivW
theorem o_mod : OpR X (binaryOp .Mod) (rI2 (fun _ j => 0 < j) fun i j => .int (i % j)) := opC op_mod
theorem o_pow : OpR X (binaryOp .Pow) (rI2 CPow fun i j => .int (i ^ j.toNat)) := opC op_pow
theorem o_lt : OpR X (compareOp .Lt) (rOrd2 (fun i j => decide (i < j)) fun i j => decide (i.cps.toList < j.cps.toList)) := fun pins s σ H x y v u Q I rx ry q => by
  unfold rOrd2 at q
  split at q
  · exact op_lt pins s σ H _ _ v u Q I rx ry ⟨_, _, rfl, rfl, q⟩
  · exact op_lt_str pins s σ H _ _ v u Q I rx ry ⟨_, _, rfl, rfl, q⟩
  · exact q.elim
theorem o_le : OpR X (compareOp .LtE) (rI1 fun i j => .bl (decide (i ≤ j))) := opC0 op_le
theorem o_gt : OpR X (compareOp .Gt) (rI1 fun i j => .bl (decide (j < i))) := opC0 op_gt
theorem o_ge : OpR X (compareOp .GtE) (rI1 fun i j => .bl (decide (j ≤ i))) := opC0 op_ge
theorem o_is : OpR X (compareOp .Is) (rIs2 false) := fun pins s σ H x y v u Q I rx ry q => by
  unfold rIs2 at q
  split at q
  · exact op_isN pins s σ H _ _ v u Q I rx ry ⟨rfl, by simpa using q⟩
  · exact q.elim
theorem o_isnot : OpR X (compareOp .IsNot) (rIs2 true) := fun pins s σ H x y v u Q I rx ry q => by
  unfold rIs2 at q
  split at q
  · exact op_notN pins s σ H _ _ v u Q I rx ry ⟨rfl, by simpa using q⟩
  · exact q.elim
theorem o_eq (hu : X.A.units + 64 < cLine) : OpR X (compareOp .Eq) (rEq2 X.K false) := fun pins s σ H x y v u Q I rx ry q => by
  unfold rEq2 at q
  split at q
  case h_11 =>
    obtain ⟨d, e, q1, q2, q3, q4, q5⟩ := q
    exact op_eqD hu pins s σ H _ _ v u Q I rx ry ⟨d, e, q1, q2, q3, q4, by simpa using q5⟩
  case h_12 => exact q.elim
  all_goals exact op_eq pins s σ H _ _ v u Q I rx ry ⟨rfl, by simpa [dec_int, dec_bl, dec_str] using q⟩
theorem o_ne (hu : X.A.units + 64 < cLine) : OpR X (compareOp .NotEq) (rEq2 X.K true) := fun pins s σ H x y v u Q I rx ry q => by
  unfold rEq2 at q
  split at q
  case h_11 =>
    obtain ⟨d, e, q1, q2, q3, q4, q5⟩ := q
    exact op_neD hu pins s σ H _ _ v u Q I rx ry ⟨d, e, q1, q2, q3, q4, by simpa using q5⟩
  case h_12 => exact q.elim
  all_goals exact op_ne pins s σ H _ _ v u Q I rx ry ⟨rfl, by simpa [dec_int, dec_bl, dec_str] using q⟩
theorem ix2 : IxR X (rIx2 X.K) := fun ve se pins s σ H x y v u Q I rx ry q hs => by
  unfold rIx2 at q
  split at q
  · obtain ⟨xs, w', z | z, h1, h2⟩ := q
    · exact ix_list ve se pins s σ H _ _ v u Q I rx ry ⟨_, xs, _, w', rfl, rfl, z, h1, h2⟩ hs
    · exact ix_tup ve se pins s σ H _ _ v u Q I rx ry ⟨_, xs, _, w', rfl, rfl, z, h1, h2⟩ hs
  · obtain ⟨h1, c, h2, h3⟩ := q
    exact ix_str ve se pins s σ H _ _ v u Q I rx ry ⟨_, _, c, rfl, rfl, h1, h2, h3⟩ hs
  · exact q.elim
theorem p_ix (ha : PE X a ta) (hb : PE X b tb) (hs : PlainIx b := by exact fun _ _ => rfl) : PE X (.Subscript a b pos) (tOp (rIx2 X.K) ta tb) := pe_ix ix2 ha hb hs
theorem p_cmp {op : CmpOp} {r : R2} (ho : OpR X (compareOp op) r) (ha : PE X a ta) (hb : PE X b tb) (hm : behindInMarks op b = false := by first | exact nomark _ | rfl) : PE X (.Compare a [op] [b] pos) (tOp r ta tb) := pe_cmpR ho ha hb hm
theorem tT_of {te : TE} {σ : L2.St} {H : Hp} {Q : Bool → Hp → Prop} (mono : ∀ {R R' : VK}, (∀ v G, R v G → R' v G) → te σ H R → te σ H R') (h : cT te σ H Q) : tTest te σ H Q :=
  mono (fun v G q => by
    split at q
    · exact ⟨_, rfl, q⟩
    · exact q.elim) h
/-- a value that is True or False as a test -/
theorem t_val (h : PE X e te) (he : ∀ whole, isTrue e X.env whole = (do let v ← whole; standAt e.pos; holding [v] (truthy v)) := by intro _; rfl) : PT X e (cT te) := by
  refine ⟨fun pins s σ H Q I hw => isTrue_plain (thn (h.run pins s σ H _ I hw) fun v s1 ⟨x, G, I1, r1, q1⟩ => ?_) (he _)⟩
  dsimp only at q1
  split at q1
  · cases r1
    exact wpAny_truthy_bool ⟨G, I1, q1⟩
  · exact q1.elim
theorem t_cmp {op : CmpOp} {r : R2} (ho : OpR X (compareOp op) r) (ha : PE X a ta) (hb : PE X b tb) (hm : behindInMarks op b = false := by first | exact nomark _ | rfl) : PT X (.Compare a [op] [b] pos) (cT (tOp r ta tb)) := by
  refine ⟨fun pins s σ H Q I h => wpAny_isTrue_Compare1 (thn (ha.run pins s σ H _ I h) fun v s1 ⟨x, H1, I1, r1, q1⟩ => thn (hb.run pins s1 σ H1 _ I1 q1) fun u s2 ⟨y, H2, I2, r2, q2⟩ =>
    thn (ho pins s2 σ H2 x y v u _ I2 r1 r2 q2) fun c s3 ⟨z, H3, I3, r3, q3⟩ => ?_) hm⟩
  dsimp only at q3
  split at q3
  · cases r3
    exact wpAny_truthy_bool ⟨H3, I3, q3⟩
  · exact q3.elim
/-! ### ways: each under its own answer -/
def cIfS (c : TT) (t u : TS) : TS := fun D σ H => c σ H fun b G => (b = true → t D σ G) ∧ (b = false → u D σ G)
theorem s_if {c : Expr} {p q : List Stmt} {tc : TT} {t u : TS} (hc : PT X c tc) (hp : PSs X p t) (hq : PSs X q u) : PS X (.If c p q pos) (cIfS tc t u) := by
  refine ⟨fun pins s σ H D I h => wpAny_If (thn (hc.run pins s σ H _ I h) fun d s1 ⟨G, I1, z⟩ => ?_)⟩
  cases d with
  | true => exact hp.run pins s1 σ G D I1 (z.1 rfl)
  | false => exact hq.run pins s1 σ G D I1 (z.2 rfl)
def cIfE (t : TT) (ta tb : TE) : TE := fun σ H Q => t σ H fun c G => (c = true → ta σ G Q) ∧ (c = false → tb σ G Q)
theorem e_if {c : Expr} {tc : TT} (hc : PT X c tc) (ha : PE X a ta) (hb : PE X b tb) : PE X (.IfExp c a b pos) (cIfE tc ta tb) := by
  refine ⟨fun pins s σ H Q I h => wpAny_IfExp (thn (hc.run pins s σ H _ I h) fun d s1 ⟨G, I1, z⟩ => ?_)⟩
  cases d with
  | true => exact ha.run pins s1 σ G Q I1 (z.1 rfl)
  | false => exact hb.run pins s1 σ G Q I1 (z.2 rfl)
def cAnd (t u : TT) : TT := fun σ H Q => t σ H fun c G => (c = true → u σ G Q) ∧ (c = false → Q false G)
def cOr (t u : TT) : TT := fun σ H Q => t σ H fun c G => (c = true → Q true G) ∧ (c = false → u σ G Q)
theorem w_and {rest : List Expr} {t u : TT} (ha : PT X a t) (hb : PW X (.BoolOp .And (b :: rest) pos) u) : PW X (.BoolOp .And (a :: b :: rest) pos) (cAnd t u) := by
  refine ⟨fun wh pins s σ H Q I h => isTrue_and (thn (ha.run pins s σ H _ I h) fun c s1 ⟨G, I1, z⟩ => ?_)⟩
  cases c with
  | true => exact hb.run wh pins s1 σ G Q I1 (z.1 rfl)
  | false => exact ⟨G, I1, z.2 rfl⟩
theorem w_or {rest : List Expr} {t u : TT} (ha : PT X a t) (hb : PW X (.BoolOp .Or (b :: rest) pos) u) : PW X (.BoolOp .Or (a :: b :: rest) pos) (cOr t u) := by
  refine ⟨fun wh pins s σ H Q I h => isTrue_or (thn (ha.run pins s σ H _ I h) fun c s1 ⟨G, I1, z⟩ => ?_)⟩
  cases c with
  | true => exact ⟨G, I1, z.1 rfl⟩
  | false => exact hb.run wh pins s1 σ G Q I1 (z.2 rfl)
/-- and, or, not as values, of True and False -/
def cAndV (ta tb : TE) : TE := fun σ H Q => ta σ H fun x G => match x with
  | .bl c => (c = true → tb σ G Q) ∧ (c = false → Q (.bl false) G)
  | _ => False
def cOrV (ta tb : TE) : TE := fun σ H Q => ta σ H fun x G => match x with
  | .bl c => (c = true → Q (.bl true) G) ∧ (c = false → tb σ G Q)
  | _ => False
def cNotV (ta : TE) : TE := fun σ H Q => ta σ H fun x G => match x with
  | .bl c => Q (.bl (!c)) G
  | _ => False
theorem e_and {rest : List Expr} (ha : PE X a ta) (hb : PE X (.BoolOp .And (b :: rest) pos) tb) : PE X (.BoolOp .And (a :: b :: rest) pos) (cAndV ta tb) := by
  refine ⟨fun pins s σ H Q I h => BoolOp_and (thn (ha.run pins s σ H _ I h) fun v s1 ⟨x, G, I1, r1, z⟩ => ?_)⟩
  dsimp only at z
  split at z
  · rename_i c
    cases r1
    refine wpAny_truthy_bool ?_
    cases c with
    | true => exact hb.run pins s1 σ G Q I1 (z.1 rfl)
    | false => exact ⟨.bl false, G, I1, rfl, z.2 rfl⟩
  · exact z.elim
theorem e_or {rest : List Expr} (ha : PE X a ta) (hb : PE X (.BoolOp .Or (b :: rest) pos) tb) : PE X (.BoolOp .Or (a :: b :: rest) pos) (cOrV ta tb) := by
  refine ⟨fun pins s σ H Q I h => BoolOp_or (thn (ha.run pins s σ H _ I h) fun v s1 ⟨x, G, I1, r1, z⟩ => ?_)⟩
  dsimp only at z
  split at z
  · rename_i c
    cases r1
    refine wpAny_truthy_bool ?_
    cases c with
    | false => exact hb.run pins s1 σ G Q I1 (z.2 rfl)
    | true => exact ⟨.bl true, G, I1, rfl, z.1 rfl⟩
  · exact z.elim
theorem e_not (ha : PE X a ta) : PE X (.UnaryOp .Not a pos) (cNotV ta) := by
  refine ⟨fun pins s σ H Q I h => UnaryOp_ (thn (ha.run pins s σ H _ I h) fun v s1 ⟨x, G, I1, r1, z⟩ => ?_)⟩
  dsimp only at z
  split at z
  · cases r1
    exact not_of (wpAny_truthy_bool ⟨.bl _, G, I1, rfl, z⟩)
  · exact z.elim
/-- a op b op' c, as a test, as a value -/
def cChain (r r' : R2) (ta tb tc : TE) : TE := fun σ H Q => ta σ H fun x H1 => tb σ H1 fun y H2 => r x y H2 fun z H3 => match z with
  | .bl k => (k = true → tc σ H3 fun u H4 => r' y u H4 Q) ∧ (k = false → Q (.bl false) H3)
  | _ => False
theorem t_chain {c : Expr} {tc : TE} {op op' : CmpOp} {r r' : R2} (ho : OpR X (compareOp op) r) (ho' : OpR X (compareOp op') r') (ha : PE X a ta) (hb : PE X b tb) (hc : PE X c tc)
    (hm : lastMarks [op, op'] [b, c] = false := by with_unfolding_all rfl) : PT X (.Compare a [op, op'] [b, c] pos) (cT (cChain r r' ta tb tc)) := by
  refine ⟨fun pins s σ H Q I h => isTrue_chain (thn (ha.run pins s σ H _ I h) fun v s1 ⟨x, H1, I1, r1, q1⟩ => test_link (thn (hb.run pins s1 σ H1 _ I1 q1) fun u s2 ⟨y, H2, I2, r2, q2⟩ =>
    thn (ho pins s2 σ H2 x y v u _ I2 r1 r2 q2) fun d s3 ⟨z, H3, I3, r3, q3⟩ => ?_)) hm⟩
  dsimp only at q3
  split at q3
  · rename_i k
    cases r3
    refine wpAny_truthy_bool ?_
    cases k with
    | false => exact ite_ff ⟨H3, I3, q3.2 rfl⟩
    | true =>
      refine ite_tt (test_last (thn (hc.run pins s3 σ H3 _ I3 (q3.1 rfl)) fun w4 s4 ⟨z4, H4, I4, r4, q4⟩ => thn (ho' pins s4 σ H4 y z4 u w4 _ I4 r2 r4 q4) fun d' s5 ⟨z5, H5, I5, r5, q5⟩ => ?_))
      dsimp only at q5
      split at q5
      · cases r5
        exact wpAny_truthy_bool ⟨H5, I5, q5⟩
      · exact q5.elim
  · exact q3.elim
theorem e_chain {c : Expr} {tc : TE} {op op' : CmpOp} {r r' : R2} (ho : OpR X (compareOp op) r) (ho' : OpR X (compareOp op') r') (ha : PE X a ta) (hb : PE X b tb) (hc : PE X c tc)
    (hm : lastMarks [op, op'] [b, c] = false := by with_unfolding_all rfl) : PE X (.Compare a [op, op'] [b, c] pos) (cChain r r' ta tb tc) := by
  refine ⟨fun pins s σ H Q I h => Compare_chain (thn (ha.run pins s σ H _ I h) fun v s1 ⟨x, H1, I1, r1, q1⟩ => chain_link (thn (hb.run pins s1 σ H1 _ I1 q1) fun u s2 ⟨y, H2, I2, r2, q2⟩ =>
    thn (ho pins s2 σ H2 x y v u _ I2 r1 r2 q2) fun d s3 ⟨z, H3, I3, r3, q3⟩ => ?_)) hm⟩
  dsimp only at q3
  split at q3
  · rename_i k
    cases r3
    refine wpAny_truthy_bool ?_
    cases k with
    | false => exact ite_ff ⟨.bl false, H3, I3, rfl, q3.2 rfl⟩
    | true => exact ite_tt (chain_last (thn (hc.run pins s3 σ H3 _ I3 (q3.1 rfl)) fun w4 s4 ⟨z4, H4, I4, r4, q4⟩ => ho' pins s4 σ H4 y z4 u w4 Q I4 r2 r4 q4))
  · exact q3.elim
/-- two statements with a word of one's own between them -/
def cCut (t u : TS) : TS := fun D σ H => ∃ M : L2.St → Hp → Prop, t { D with nx := M } σ H ∧ ∀ σ' G, M σ' G → u D σ' G
theorem s_cut {st : Stmt} {rest : List Stmt} {t u : TS} (h1 : PS X st t) (h2 : PSs X rest u) : PSs X (st :: rest) (cCut t u) := by
  refine ⟨fun pins s σ H D I ⟨M, h, k⟩ => wpAny_execs_cons (thn (h1.run pins s σ H { D with nx := M } I h) fun f s1 q => ?_)⟩
  match f, q with
  | .next, ⟨σ', G, I', q⟩ => exact h2.run pins s1 σ' G D I' (k σ' G q)
  | .ret v, q => exact q
  | .brk, q => exact q
  | .cont, q => exact q
theorem eqs {α : Type} [DecidableEq α] {a : α} {R : Bool → Prop} (h : R true) : R (xor false (decide (a = a))) := by
  rw [decide_eq_true rfl]
  exact h
end
end HX

set_option Elab.async false
set_option linter.all false
set_option maxRecDepth 100000
set_option maxHeartbeats 2000000
namespace HX
open PySem PySem.Spec PyProof.Rows L2

/-! ### the defs of the text, as their callers see them: by the module's name x -/
section
variable (P : Program) (w : World) (K : PySem.W.Frag) (mg : Str → Option Value) (base : Heap)
/-- raises nothing -/
def CalO (x : Str) (k : Nat) (ps : List Str) (sp : Sp) (B : FuncData → Prop) : Prop := ∃ (f : Addr) (fd : FuncData), FnOk P w K mg base CX0 k f fd ps sp ∧ mg x = some (.ref f) ∧ PySem.W.keepIn K (.ref f) = true ∧ Binds K fd ps [] ∧ B fd
/-- raises nothing, where nothing is being shown -/
def CalG (x : Str) (k : Nat) (ps : List Str) (sp : Sp) (B : FuncData → Prop) : Prop := ∃ (f : Addr) (fd : FuncData), FnG P w K mg base CX0 k f fd ps sp ∧ mg x = some (.ref f) ∧ PySem.W.keepIn K (.ref f) = true ∧ Binds K fd ps [] ∧ B fd
/-- may raise -/
def CalX (x : Str) (k : Nat) (ps : List Str) (sp : Sp) (B : FuncData → Prop) : Prop := ∃ (f : Addr) (fd : FuncData), FnOk P w K mg base (CX P w) k f fd ps sp ∧ mg x = some (.ref f) ∧ PySem.W.keepIn K (.ref f) = true ∧ Binds K fd ps [] ∧ B fd
end
section
variable {X : Cx} {k : Nat} {ps : List Str} {sp : Sp} {x : Str} {p pos : Pos} {e : Expr} {es : List Expr} {t tk' : TA} {W : WX} {B : FuncData → Prop} {ks : List Str} {kws : List Keyword} {g : List Value → List Value → List Value} {gV : List V → List V → List V}
theorem pe_cO (C : CalO X.prog X.w X.K X.mg X.base x k ps sp B) (hr : Room k X.A) (ha : PA X (e :: es) t) (hg : Gl X x := by rfl) (hdb : (x == ("__debug__" : Str)) = false := by decide)
    (he : starEach (e :: es) X.env = (false, eval e X.env) :: starEach es X.env := by rfl) (hpl : (backTo pos (starEach es X.env)).any (·.1) = false := by rfl) : PE X (.Call (.Name x p) (e :: es) [] pos) (tCall sp [] E0 t) := by
  obtain ⟨f, fd, F, hm, hk, hb, _⟩ := C
  exact pe_call F hr hg hm hk hb .nil pass0 ha hdb he hpl
theorem pe_cG (C : CalG X.prog X.w X.K X.mg X.base x k ps sp B) (gd : X.A.guards = some []) (hr : Room k X.A) (ha : PA X (e :: es) t) (hg : Gl X x := by rfl) (hdb : (x == ("__debug__" : Str)) = false := by decide)
    (he : starEach (e :: es) X.env = (false, eval e X.env) :: starEach es X.env := by rfl) (hpl : (backTo pos (starEach es X.env)).any (·.1) = false := by rfl) : PE X (.Call (.Name x p) (e :: es) [] pos) (tCall sp [] E0 t) := by
  obtain ⟨f, fd, F, hm, hk, hb, _⟩ := C
  exact pe_callG F gd hr hg hm hk hb .nil pass0 ha hdb he hpl
theorem pe_cX (C : CalX X.prog X.w X.K X.mg X.base x k ps sp B) (hr : Room k X.A) (tk : Takes X W) (ha : PA X (e :: es) t) (hg : Gl X x := by rfl) (hdb : (x == ("__debug__" : Str)) = false := by decide)
    (he : starEach (e :: es) X.env = (false, eval e X.env) :: starEach es X.env := by rfl) (hpl : (backTo pos (starEach es X.env)).any (·.1) = false := by rfl) : PE X (.Call (.Name x p) (e :: es) [] pos) (tCallS sp (WE W) t) := by
  obtain ⟨f, fd, F, hm, hk, hb, _⟩ := C
  exact pe_callS F hr hg hm hk hb (fun σ => passAt tk σ) ha hdb he hpl
end
/-! ### calls by keywords alone -/
section
variable {X : Cx} {k : Nat} {ps : List Str} {sp : Sp} {x : Str} {p pos : Pos} {t : TA} {W : WX} {B : FuncData → Prop} {ks : List Str} {kws : List Keyword} {g : List Value → List Value → List Value} {gV : List V → List V → List V} {CY : CXT} {f : Addr} {fd : FuncData} {E : XK}
theorem run_kw {pins : List (Addr × Obj)} {σ : L2.St} {H : Hp} {s : Shared} {Q : VK} {ws : List Value} {zs : List V} (F : FnOk X.prog X.w X.K X.mg X.base CY k f fd ps sp) (hr : Room k X.A) (hb : KBn X.K fd ps 0 ks g gV)
    (hx : ∀ e s', CY X.stack H s E e s' → X.xe e s') (I : Inv X pins σ H s) (rz : Vals zs ws) (l2 : zs.length = ks.length) (h : sp (gV [] zs) H Q E) : wpAny (model X.prog X.w) X.A (call (.ref f) [] (ks.zip ws)) (EP X pins σ Q) X.xe s := by
  have l3 : ws.length = ks.length := rz.length.symm.trans l2
  have run := F.run X.A X.stack s H ⟨[], ks.zip ws⟩ (g [] ws) (gV [] zs) Q E hr I.env0 (hb.to s [] ws I.kIn rfl l3) (hb.rel .nil rz) h
  refine wpAny_call (codeAny_mono run fun r s' q => ?_)
  match r, q with
  | .error e, q => exact hx e s' q
  | .ok (.ret u), q => exact I.after q
  | .ok .next, q => exact False.elim q
  | .ok .brk, q => exact False.elim q
  | .ok .cont, q => exact False.elim q
/-- f(k = e, ..) -/
def cKw (m : Nat) (sp : Sp) (gV : List V → List V → List V) (E : L2.St → XK) (t : TA) : TE := fun σ H Q => t σ H fun zs G => zs.length = m ∧ sp (gV [] zs) G Q (E σ)
theorem pe_kO (C : CalO X.prog X.w X.K X.mg X.base x k ps sp B) (hB : ∀ fd, B fd → KBn X.K fd ps 0 ks g gV) (hr : Room k X.A) (hkw : PK X kws t) (hg : Gl X x := by rfl)
    (hall : (backToKw pos (keywordEach kws X.env)).all (·.1.isSome) = true := by rfl) (hks : (backToKw pos (keywordEach kws X.env)).filterMap (·.1) = ks := by rfl) (hdb : (x == ("__debug__" : Str)) = false := by decide)
    (hpl : ((backTo pos (starEach [] X.env)).any (·.1) || (backToKw pos (keywordEach kws X.env)).any (·.1.isNone)) = false := by rfl) : PE X (.Call (.Name x p) [] kws pos) (cKw ks.length sp gV (fun _ => E0) t) := by
  obtain ⟨f, fd, F, hm, hk, _, hb⟩ := C
  refine ⟨fun pins s σ H Q I h => wpAny_Call_Name_kw (ld_glob I hg hm ?_ hdb)⟩
  refine PySem.W.callWith_KW0 (h₀ := X.base) I.ok.mod.kin hk hall (thn (hkw.run pos pins s σ H _ I h) fun ws s2 ⟨zs, G, I2, rz, l2, q⟩ => ⟨I2.kIn, ?_⟩) hpl
  rw [hks]
  exact run_kw F hr (hB fd hb) (fun _ _ z => z.elim) I2 rz l2 q
theorem pe_kX (C : CalX X.prog X.w X.K X.mg X.base x k ps sp B) (hB : ∀ fd, B fd → KBn X.K fd ps 0 ks g gV) (hr : Room k X.A) (tk : Takes X W) (hkw : PK X kws t) (hg : Gl X x := by rfl)
    (hall : (backToKw pos (keywordEach kws X.env)).all (·.1.isSome) = true := by rfl) (hks : (backToKw pos (keywordEach kws X.env)).filterMap (·.1) = ks := by rfl) (hdb : (x == ("__debug__" : Str)) = false := by decide)
    (hpl : ((backTo pos (starEach [] X.env)).any (·.1) || (backToKw pos (keywordEach kws X.env)).any (·.1.isNone)) = false := by rfl) : PE X (.Call (.Name x p) [] kws pos) (cKw ks.length sp gV (WE W) t) := by
  obtain ⟨f, fd, F, hm, hk, _, hb⟩ := C
  refine ⟨fun pins s σ H Q I h => wpAny_Call_Name_kw (ld_glob I hg hm ?_ hdb)⟩
  refine PySem.W.callWith_KW0 (h₀ := X.base) I.ok.mod.kin hk hall (thn (hkw.run pos pins s σ H _ I h) fun ws s2 ⟨zs, G, I2, rz, l2, q⟩ => ⟨I2.kIn, ?_⟩) hpl
  rw [hks]
  exact run_kw F hr (hB fd hb) (fun e s' c => passAt tk σ pins G s2 e s' I2 c) I2 rz l2 q
end
/-! ### built-ins by the values' kinds -/
section
variable {X : Cx}
def rInt2 : List V → Hp → VK → Prop := fun xs H Q => match xs with
  | [.int i] => Q (.int i) H
  | [.bl k] => Q (.int (if k then 1 else 0)) H
  | _ => False
theorem c_int : CallR X (.type "int") rInt2 := fun pins s σ H xs us Q I r q => by
  unfold rInt2 at q
  split at q
  · exact call_int1 pins s σ H _ us Q I r (.inl ⟨_, rfl, q⟩)
  · exact call_int1 pins s σ H _ us Q I r (.inr ⟨_, rfl, q⟩)
  · exact q.elim
def rAbs2 : List V → Hp → VK → Prop := fun xs H Q => match xs with
  | [.int i] => Q (.int (if i < 0 then -i else i)) H
  | _ => False
theorem c_abs : CallR X (.builtin "abs") rAbs2 := fun pins s σ H xs us Q I r q => by
  unfold rAbs2 at q
  split at q
  · exact call_abs pins s σ H _ us Q I r ⟨_, rfl, q⟩
  · exact q.elim
def rLen2 (K : PySem.W.Frag) : List V → Hp → VK → Prop := fun xs H Q => match xs with
  | [.str y] => y.length ≤ sizeLine ∧ Q (.int y.length) H
  | [.ref p] => ∃ ys : List V, (SqL K H p ys ∨ SqT K H p ys) ∧ Q (.int ys.length) H
  | _ => False
theorem c_len : CallR X (.builtin "len") (rLen2 X.K) := fun pins s σ H xs us Q I r q => by
  unfold rLen2 at q
  split at q
  · exact call_len pins s σ H _ us Q I r ⟨_, _, rfl, ⟨q.1, rfl⟩, q.2⟩
  · obtain ⟨ys, h | h, q⟩ := q
    · exact call_len pins s σ H _ us Q I r ⟨_, _, rfl, .inl ⟨ys, h, rfl⟩, q⟩
    · exact call_len pins s σ H _ us Q I r ⟨_, _, rfl, .inr ⟨ys, h, rfl⟩, q⟩
  · exact q.elim
/-- isinstance of plain values and own instances, and one class -/
def rIsi2 (K : PySem.W.Frag) : List V → Hp → VK → Prop := fun xs H Q => ∃ (x c : V) (t cv : Value) (b : Bool), xs = [x, c] ∧ TyOf K H x t ∧ (∀ u, RelV c u → u = cv) ∧ PySem.W.kitOne K t cv = some b ∧ Q (.bl b) H
theorem c_isi : CallR X (.builtin "isinstance") (rIsi2 X.K) := fun pins s σ H xs us Q I r q => by
  obtain ⟨x, c, t, cv, b, rfl, ty, hc, hk, q⟩ := q
  obtain ⟨u, u2, rfl, r1, r2⟩ := vals2 r
  have e2 := hc _ r2
  subst e2
  exact isinst_ok I r1 ty hk fun tk => ⟨.bl b, H, I.tok tk, rfl, q⟩
end
end HX

set_option Elab.async false
set_option linter.all false
set_option maxRecDepth 100000
set_option maxHeartbeats 2000000
namespace HX
open PySem PySem.Spec PyProof.Rows L2

/-! ### the pen: its cells at l, how many were begun, what is left of a great one -/
structure Pn (H : Hp) (p l : Addr) (ns : List Int) (c g : Int) : Prop where
  at_ : H p = some (.lst [.ref l, .int c, .int g])
  cel : H l = some (.lst (ns.map V.int))
  ne : l ≠ p
  c0 : 0 ≤ c
  g0 : 0 ≤ g
/-- all but p is as it was -/
def Kp (p : Addr) (H H' : Hp) : Prop := ∀ b o, b ≠ p → H b = some o → H' b = some o
/-- H without p -/
def Hd (p : Addr) (H : Hp) : Hp := fun b => if b = p then none else H b
theorem Hd.at_ {p b : Addr} {H : Hp} {o : HO} (n : b ≠ p) (e : H b = some o) : Hd p H b = some o := by unfold Hd; rw [if_neg n]; exact e
theorem Hd.un {p b : Addr} {H : Hp} {o : HO} (e : Hd p H b = some o) : b ≠ p ∧ H b = some o := by
  unfold Hd at e
  split at e
  · cases e
  · rename_i n
    exact ⟨n, e⟩
theorem Kp.hd {p : Addr} {H H' : Hp} (k : Kp p H H') : Same (Hd p H) (Hd p H') := fun b o e => Hd.at_ (Hd.un e).1 (k b o (Hd.un e).1 (Hd.un e).2)
theorem Hd.sub {p : Addr} {H : Hp} : Same (Hd p H) H := fun _ _ e => (Hd.un e).2
theorem Kp.refl {p : Addr} {H : Hp} : Kp p H H := fun _ _ _ e => e
theorem Kp.trans {p : Addr} {H H1 H2 : Hp} (a : Kp p H H1) (b : Kp p H1 H2) : Kp p H H2 := fun c o n e => b c o n (a c o n e)
theorem Kp.upd {p : Addr} {H H1 : Hp} {o : HO} (a : Kp p H H1) : Kp p H (L2.upd H1 p o) := fun c u n e => by rw [upd_ne n]; exact a c u n e
theorem Kp.new {p q : Addr} {H H1 : Hp} {o : HO} (a : Kp p H H1) (h : H1 q = none) : Kp p H (L2.upd H1 q o) := fun c u n e => by
  have z := a c u n e
  rw [upd_ne (ne_of_none z h)]
  exact z
theorem Kp.same {p : Addr} {H H1 : Hp} (a : Same H H1) : Kp p H H1 := fun c u _ e => a c u e
theorem Same.new {H H1 : Hp} {q : Addr} {o : HO} (a : Same H H1) (h : H1 q = none) : Same H (L2.upd H1 q o) := fun c u e => by
  have z := a c u e
  rw [upd_ne (ne_of_none z h)]
  exact z
theorem Same.mut {H H1 : Hp} {q : Addr} {o : HO} (a : Same H H1) (h : H q = none) : Same H (L2.upd H1 q o) := fun c u e => by
  rw [upd_ne (ne_of_none e h)]
  exact a c u e
theorem Kp.mut {p : Addr} {H H1 : Hp} {q : Addr} {o : HO} (a : Kp p H H1) (h : H q = none) : Kp p H (L2.upd H1 q o) := fun c u n e => by
  rw [upd_ne (ne_of_none e h)]
  exact a c u n e
theorem Kp.seq {K : PySem.W.Frag} {p a : Addr} {H H1 : Hp} {xs : List V} (k : Kp p H H1) (n : a ≠ p) (h : SqL K H a xs) : SqL K H1 a xs := by
  rcases h with (h | ⟨o, h⟩) | h
  · exact .inl (.inl (k _ _ n h))
  · exact .inl (.inr ⟨o, k _ _ n h⟩)
  · exact .inr h
theorem Kp.seqT {K : PySem.W.Frag} {p a : Addr} {H H1 : Hp} {xs : List V} (k : Kp p H H1) (n : a ≠ p) (h : SqT K H a xs) : SqT K H1 a xs := by
  rcases h with (h | ⟨o, h⟩) | h
  · exact .inl (.inl (k _ _ n h))
  · exact .inl (.inr ⟨o, k _ _ n h⟩)
  · exact .inr h
theorem Pn.put {H H1 : Hp} {p l : Addr} {ns : List Int} {c g c' g' : Int} (P : Pn H p l ns c g) (k : Kp p H H1) (hc : 0 ≤ c') (hg : 0 ≤ g') (e : H1 p = some (.lst [.ref l, .int c', .int g'])) : Pn H1 p l ns c' g' :=
  ⟨e, k _ _ P.ne P.cel, P.ne, hc, hg⟩
theorem Pn.same {H H1 : Hp} {p l : Addr} {ns : List Int} {c g : Int} (P : Pn H p l ns c g) (k : Same H H1) : Pn H1 p l ns c g := P.put (.same k) P.c0 P.g0 (k _ _ P.at_)
theorem Pn.new {H : Hp} {p l q : Addr} {ns : List Int} {c g : Int} {o : HO} (P : Pn H p l ns c g) (h : H q = none) : Pn (L2.upd H q o) p l ns c g := P.same (Same.new (Same.refl H) h)
/-- a pen at p, its cells at l, that has been asked c times at most -/
def Pe (H : Hp) (p l : Addr) (c : Int) : Prop := ∃ ns c0 g, Pn H p l ns c0 g ∧ c0 ≤ c
theorem Pe.mono {H : Hp} {p l : Addr} {c c' : Int} (P : Pe H p l c) (h : c ≤ c') : Pe H p l c' := let ⟨ns, c0, g, q, e⟩ := P; ⟨ns, c0, g, q, Int.le_trans e h⟩
theorem Pe.same {H H1 : Hp} {p l : Addr} {c : Int} (P : Pe H p l c) (k : Same H H1) : Pe H1 p l c := let ⟨ns, c0, g, q, e⟩ := P; ⟨ns, c0, g, q.same k, e⟩
theorem Pe.new {H : Hp} {p l q : Addr} {c : Int} {o : HO} (P : Pe H p l c) (h : H q = none) : Pe (L2.upd H q o) p l c := P.same (Same.new (Same.refl H) h)
theorem Pe.atP {H : Hp} {p l : Addr} {c : Int} (P : Pe H p l c) : ∃ o, H p = some o := let ⟨_, _, _, q, _⟩ := P; ⟨_, q.at_⟩
theorem Pe.atL {H : Hp} {p l : Addr} {c : Int} (P : Pe H p l c) : ∃ o, H l = some o := let ⟨_, _, _, q, _⟩ := P; ⟨_, q.cel⟩
theorem Pe.ne {H : Hp} {p l q : Addr} {c : Int} (P : Pe H p l c) (h : H q = none) : q ≠ p := let ⟨_, e⟩ := P.atP; Ne.symm (ne_of_none e h)
theorem Pe.neL {H : Hp} {p l q : Addr} {c : Int} (P : Pe H p l c) (h : H q = none) : q ≠ l := let ⟨_, e⟩ := P.atL; Ne.symm (ne_of_none e h)
theorem Pe.mut {H : Hp} {p l q : Addr} {c : Int} {o : HO} (P : Pe H p l c) (h : q ≠ p) (h2 : q ≠ l) : Pe (L2.upd H q o) p l c := by
  obtain ⟨ns, c0, g, q0, e⟩ := P
  exact ⟨ns, c0, g, ⟨by rw [upd_ne (Ne.symm h)]; exact q0.at_, by rw [upd_ne (Ne.symm h2)]; exact q0.cel, q0.ne, q0.c0, q0.g0⟩, e⟩
/-- an object that the pen isn't: it is no list of a list and two numbers -/
theorem Pe.ne2 {H : Hp} {p l a : Addr} {c : Int} {o : HO} (P : Pe H p l c) (h : H a = some o) (n : ∀ l c g, o ≠ .lst [.ref l, .int c, .int g]) : a ≠ p := by
  obtain ⟨ns, c0, g, q, _⟩ := P
  exact ne_of h q.at_ (n _ _ _)

/-! ### what the draws promise -/
def spPen (K : PySem.W.Frag) : Sp := fun vs H Q _ => ∃ (a : Addr) (ns : List Int), vs = [.ref a] ∧ SqL K H a (ns.map V.int) ∧ ∀ (p l : Addr) (H' : Hp), H p = none → Same H H' → Pe H' p l 0 → Q (.ref p) H'
def spDraw : Sp := fun vs H Q _ => ∃ (p l : Addr) (c many : Int), vs = [.ref p, .int many] ∧ Pe H p l c ∧ 0 < many ∧ many.natAbs < 2 ^ 250 ∧ c < 1000000 ∧
  ∀ (r : Int) (H' : Hp), 0 ≤ r → r < many → Kp p H H' → Pe H' p l (c + 1) → Q (.int r) H'
/-- one of a text's signs, of a list's or a tuple's items -/
def spPick (K : PySem.W.Frag) : Sp := fun vs H Q _ => ∃ (p l : Addr) (c : Int) (x : V), vs = [.ref p, x] ∧ Pe H p l c ∧ c < 1000000 ∧
  ((∃ z : Str, x = .str z ∧ 0 < z.length ∧ z.length ≤ 1000000 ∧ ∀ (ch : Nat) (H' : Hp), ch ∈ z.cps.toList → Kp p H H' → Pe H' p l (c + 1) → Q (.str ⟨#[ch]⟩) H') ∨
    ∃ (a : Addr) (xs : List V), x = .ref a ∧ a ≠ p ∧ (SqL K H a xs ∨ SqT K H a xs) ∧ 0 < xs.length ∧ xs.length ≤ 1000000 ∧ ∀ (v : V) (H' : Hp), v ∈ xs → Kp p H H' → Pe H' p l (c + 1) → Q v H')

theorem mul_lt {a b x y : Int} (h0 : 0 ≤ x) (h1 : x < a) (h2 : 0 ≤ y) (h3 : y < b) : x * y < a * b := by
  have z1 : x * y ≤ x * b := Int.mul_le_mul_of_nonneg_left (by omega) h0
  have z2 : x * b ≤ (a - 1) * b := Int.mul_le_mul_of_nonneg_right (by omega) (by omega)
  have z3 : (a - 1) * b = a * b - b := by rw [Int.sub_mul]; omega
  omega
theorem dp_ints {K : PySem.W.Frag} {H : Hp} : ∀ ns : List Int, DpAll K H (ns.map V.int) (ns.map PyData.int)
  | [] => .nil
  | n :: ns => .cons (.int n) (dp_ints ns)
theorem can_ints : ∀ ns : List Int, PyData.canLayAll0 (ns.map PyData.int) = true
  | [] => rfl
  | n :: ns => by
    rw [List.map_cons, PyData.canLayAll0, PyData.canLay0, can_ints ns]
    rfl
theorem depth_ints : ∀ ns : List Int, PyData.depthAll (ns.map PyData.int) = 0
  | [] => by simp [PyData.depthAll]
  | n :: ns => by
    have := depth_ints ns
    simp [PyData.depthAll, PyData.depth, this]
theorem shaped_ints (ns : List Int) : SeqAt.shaped (.list (ns.map PyData.int)) = true := by
  unfold SeqAt.shaped
  rw [PyData.canLay0, can_ints, PyData.depth, depth_ints]
  rfl
theorem at_mod {ns : List Int} (c : Int) (h : 0 < (ns.length : Int)) : ∃ z, atI (ns.map V.int) (c % ns.length) = some (.int z) := by
  have h0 := Int.emod_nonneg c (b := (ns.length : Int)) (by omega)
  have h1 := Int.emod_lt_of_pos c h
  obtain ⟨j, hj⟩ : ∃ j : Nat, c % ns.length = (j : Int) := ⟨(c % ns.length).toNat, by omega⟩
  have hlt : j < ns.length := by omega
  refine ⟨ns[j], ?_⟩
  rw [hj]
  exact atI_nat (by rw [List.getElem?_map, List.getElem?_eq_getElem hlt]; rfl)
theorem at_in {α : Type} {xs : List α} {r : Int} (h0 : 0 ≤ r) (h1 : r < xs.length) : ∃ v, atI xs r = some v ∧ v ∈ xs := by
  obtain ⟨j, rfl⟩ : ∃ j : Nat, r = (j : Int) := ⟨r.toNat, by omega⟩
  have hlt : j < xs.length := by omega
  exact ⟨xs[j], atI_nat (List.getElem?_eq_getElem hlt), List.getElem_mem hlt⟩
theorem small_bits {n : Nat} (h : n ≤ 1000000) : (n : Int).natAbs < 2 ^ 250 := Nat.lt_of_le_of_lt (show (n : Int).natAbs ≤ 1000000 by omega) (by decide)
theorem cut_ints (ns : List Int) (lo hi : Option Int) : ∃ ms : List Int, cutV (ns.map V.int) lo hi = ms.map V.int := by
  unfold cutV
  exact ⟨_, by rw [← List.map_drop, ← List.map_take]⟩
theorem size_line_big : 1000000 ≤ sizeLine := by rw [sizeLine_eq]; decide
/-! ### letters -/
def abc : List Nat := ("abcdefghijklmnopqrstuvwxyz" : Str).cps.toList
theorem tl_join1 {a : Str} (ha : TL.tl a = []) : ∀ cs : List Nat, (Txt.join a (cs.map fun c => (⟨#[c]⟩ : Str))).cps.toList = cs := fun cs => by
  show TL.tl _ = cs
  rw [TL.join_eq, TL.tl_join, ha]
  induction cs with
  | nil => rfl
  | cons c cs ih =>
    cases cs with
    | nil => rfl
    | cons d cs =>
      rw [List.map_cons, List.map_cons, List.map_cons, List.map_cons, TL.joinL]
      rw [List.map_cons, List.map_cons] at ih
      rw [ih]
      rfl
def spLetters : Sp := fun vs H Q _ => ∃ (p l : Addr) (c n : Int), vs = [.ref p, .int n] ∧ Pe H p l c ∧ 0 ≤ n ∧ n ≤ 1000 ∧ c + n < 1000000 ∧
  ∀ (z : Str) (H' : Hp), (z.length : Int) = n → (∀ ch ∈ z.cps.toList, ch ∈ abc) → Kp p H H' → Pe H' p l (c + n) → Q (.str z) H'
/-! ### a module's constants -/
theorem p_gs {X : Cx} {x z : Str} {pos : Pos} (h : ∃ t, X.mg x = some (.str z t)) (hg : Gl X x := by rfl) (hd : (x == ("__debug__" : Str)) = false := by decide) : PE X (.Name x pos) (tC (.str z)) := by
  obtain ⟨t, h⟩ := h
  exact pe_glob hg h ⟨t, rfl⟩ hd
theorem p_gi {X : Cx} {x : Str} {i : Int} {pos : Pos} (h : ∃ t, X.mg x = some (.int i t)) (hg : Gl X x := by rfl) (hd : (x == ("__debug__" : Str)) = false := by decide) : PE X (.Name x pos) (tC (.int i)) := by
  obtain ⟨t, h⟩ := h
  exact pe_glob hg h ⟨t, rfl⟩ hd
theorem p_gc {X : Cx} {x : Str} {C : Addr} {pos : Pos} (h : X.mg x = some (.ref C)) (hg : Gl X x := by rfl) (hd : (x == ("__debug__" : Str)) = false := by decide) : PE X (.Name x pos) (tC (.ref C)) := pe_glob hg h rfl hd
/-! ### own error classes, as the text that raises them sees them -/
def ErrC (P : Program) (w : World) (K : PySem.W.Frag) (mg : Str → Option Value) (base : Heap) (x : Str) (C : Addr) (ps : List Str) (sp : Sp) : Prop :=
  ∃ (fI : Addr) (fd : FuncData), RxC K mg x C fI ∧ FnOk P w K mg base CX0 1 fI fd ps sp ∧ Binds K fd ps []
theorem ps_rz {X : Cx} {x : Str} {C : Addr} {ps : List Str} {sp : Sp} {e : Expr} {es : List Expr} {ta : TA} {W : WX} {p pos pos2 : Pos} (Z : ErrC X.prog X.w X.K X.mg X.base x C ps sp) (hc : X.calm = true) (hr : Room 2 X.A) (tk : Takes X W) (he : PA X (e :: es) ta)
    (hg : Gl X x := by rfl) (hdb : (x == ("__debug__" : Str)) = false := by decide) (hs : starEach (e :: es) X.env = (false, eval e X.env) :: starEach es X.env := by rfl) (hpl : (backTo pos (starEach es X.env)).any (·.1) = false := by rfl) :
    PS X (.Raise (some (.Call (.Name x p) (e :: es) [] pos)) none pos2) (fun _ σ H => tMkO C sp [] ta σ H fun cls d G => W cls d σ G) := by
  obtain ⟨fI, fd, T, F, b⟩ := Z
  exact ps_raiseO hc T F b hr tk he hg hdb hs hpl
/-! ### names -/
def isStrD : PyData → Bool
  | .str _ => true
  | _ => false
theorem Da.isStr {K : PySem.W.Frag} {H : Hp} {x : V} {d : PyData} (h : Da H x d) : ∃ t, TyOf K H x t ∧ PySem.W.kitOne K t (.type "str") = some (isStrD d) := by
  cases h with
  | non => exact ⟨_, .non, kit_ty (by show kitB _ _ = some false; decide +kernel)⟩
  | bl b => exact ⟨_, .bl b, kit_ty (by show kitB _ _ = some false; decide +kernel)⟩
  | int i => exact ⟨_, .int i, kit_ty (by show kitB _ _ = some false; decide +kernel)⟩
  | str x => exact ⟨_, .str x, kit_ty (by show kitB _ _ = some true; decide +kernel)⟩
  | lst e _ => exact ⟨_, .lst e, kit_ty (by show kitB _ _ = some false; decide +kernel)⟩
  | tup e _ => exact ⟨_, .tup e, kit_ty (by show kitB _ _ = some false; decide +kernel)⟩
  | dic e _ => exact ⟨_, .dK e, kit_ty (by show kitB _ _ = some false; decide +kernel)⟩
def nameS (z : Str) : Bool := decide (1 ≤ z.length) && (decide (z.length ≤ 8) && z.cps.toList.all fun c => decide (c ∈ abc))
def nameD : PyData → Bool
  | .str z => nameS z
  | _ => false
def shortD : PyData → Prop
  | .str z => z.length ≤ 1000000
  | _ => True
def spIsName : Sp := fun vs H Q _ => ∃ (x : V) (d : PyData), vs = [x] ∧ Da H x d ∧ shortD d ∧ ∀ H', Same H H' → Q (.bl (nameD d)) H'
def spNeedName (C : Addr) : Sp := fun vs H Q E => ∃ (x : V) (d : PyData), vs = [x] ∧ Da H x d ∧ shortD d ∧ (nameD d = true → ∀ H', Same H H' → Q .non H') ∧
  (nameD d = false → ∀ H' dd, Same H H' → H dd = none → H' dd = some (.xd [("value", x)]) → E (.ref C) (some dd) H')
theorem isStr_str {d : PyData} (h : isStrD d = true) : ∃ z, d = .str z := by
  cases d <;> first | exact ⟨_, rfl⟩ | cases h
theorem nameD_not {d : PyData} (h : isStrD d = false) : nameD d = false := by
  cases d <;> first | rfl | cases h
theorem abc_lt {c : Nat} (h : c ∈ abc) : c < 200 := by
  have e : (abc.all fun c => decide (c < 200)) = true := by decide +kernel
  exact of_decide_eq_true (List.all_eq_true.mp e c h)
theorem nameS_true {z : Str} (h1 : 1 ≤ z.length) (h2 : z.length ≤ 8) (h3 : ∀ c ∈ z.cps.toList, c ∈ abc) : nameS z = true := by
  unfold nameS
  rw [decide_eq_true h1, decide_eq_true h2]
  simp only [Bool.true_and]
  rw [List.all_eq_true]
  exact fun c hc => decide_eq_true (h3 c hc)
theorem nameS_false {z : Str} (h : z.length = 0 ∨ 8 < z.length ∨ ∃ c ∈ z.cps.toList, c ∉ abc) : nameS z = false := by
  cases e : nameS z with
  | false => rfl
  | true =>
    unfold nameS at e
    simp only [Bool.and_eq_true, decide_eq_true_eq] at e
    obtain ⟨e1, e2, e3⟩ := e
    rcases h with h | h | ⟨c, hc, h⟩
    · omega
    · omega
    · exact absurd (of_decide_eq_true (List.all_eq_true.mp e3 c hc)) h
theorem cutS_sub (z : Str) (lo hi : Option Int) : (cutS z lo hi).length ≤ z.length ∧ ∀ c ∈ (cutS z lo hi).cps.toList, c ∈ z.cps.toList :=
  ⟨cutS_length z lo hi, fun c hc => List.mem_of_mem_drop (List.mem_of_mem_take hc)⟩
/-- a short text of small signs -/
def OkS (z : Str) : Prop := z.length ≤ 200 ∧ ∀ c ∈ z.cps.toList, c < 200
theorem OkS.app {x y : Str} (hx : OkS x) (hy : OkS y) (h : x.length + y.length ≤ 200) : OkS (x ++ y) :=
  ⟨by rw [Str.length_append]; exact h, fun c hc => by
    have e : c ∈ TL.tl x ++ TL.tl y := by rw [← TL.tl_append]; exact hc
    exact (List.mem_append.mp e).elim (hx.2 c) (hy.2 c)⟩
theorem OkS.sub {x y : Str} (hx : OkS x) (h1 : y.length ≤ x.length) (h2 : ∀ c ∈ y.cps.toList, c ∈ x.cps.toList) : OkS y := ⟨Nat.le_trans h1 hx.1, fun c hc => hx.2 c (h2 c hc)⟩
theorem mem_appL {x y : Str} {c : Nat} (h : c ∈ x.cps.toList) : c ∈ (x ++ y).cps.toList := by
  show c ∈ TL.tl (x ++ y)
  rw [TL.tl_append]
  exact List.mem_append_left _ h
theorem mem_appR {x y : Str} {c : Nat} (h : c ∈ y.cps.toList) : c ∈ (x ++ y).cps.toList := by
  show c ∈ TL.tl (x ++ y)
  rw [TL.tl_append]
  exact List.mem_append_right _ h
theorem okS_one {c : Nat} (h : c < 200) : OkS ⟨#[c]⟩ := ⟨by show 1 ≤ 200; decide, fun x hx => by rw [List.mem_singleton.mp hx]; exact h⟩
theorem len_tl (z : Str) : z.length = z.cps.toList.length := by simp [Str.length]
end HX

set_option Elab.async false
set_option linter.all false
set_option maxRecDepth 100000
set_option maxHeartbeats 2000000
namespace PySem
namespace HXK
open Builtin Builtin.ObjectAttr HandSPX

/-! ### an own exception made by keywords alone: C(k = e, ..) -/
section
variable {M : Model} {prog : Program} {w : World} {A : Around} {E : Value → Shared → Prop} {R : Result → Shared → Prop} {h : Heap} {g : Array GenState} {dr : Drawn} {tk : Nat} {os : OsState}
variable {nm q : Str} {C N fI : Addr} {bs bm bB : List Value} {sn : List Str} {sub : List Value} {ab : Bool} {col : Option Bool} {dd : Option Addr} {k0 k1 k2 k3 k5 : Option Value} {B nI iI : String} {kw : List (Str × Value)}
theorem kwx_check (Fx : ExcBaseFacts B nI iI bB) (hT : ∀ X : String, bm.contains (.type X) = bB.contains (.type X)) {Q : Unit → Shared → Prop}
    (hC : h.get? C = some (excClassObj nm q C N bs bm true sn sub ab col dd k0 k1 k2 k3 k5 nI)) (hkw : kw.length ≤ 2) (z : Q () ⟨h, g, dr, tk, os⟩) : wpAny M A (checkBuiltinCall nI ⟨[.ref C], kw⟩) Q E ⟨h, g, dr, tk, os⟩ := by
  have c1 : (Value.ref C :: bm).contains (.type B) = true := by rw [List.contains_cons, hT, Fx.hasB, Bool.or_true]
  have st := Fx.noStar
  simp only [checkBuiltinCall, Fx.newKind, Fx.newSplit, Fx.newRow]
  repeat (first | refine wpAny_loadPart_at hC ?_ | (refine wpAny_isSubtype_exc hC ?_; rw [c1]) | refine wpAny_staticBase_exc hC ?_ | refine wpAny_madeBy_exc hC ?_ | simp only [bne_self_eq_false, Bool.false_eq_true, if_false] | wp_step)
  exact z
theorem kwx_new (Fx : ExcBaseFacts B nI iI bB) (hT : ∀ X : String, bm.contains (.type X) = bB.contains (.type X))
    (hC : h.get? C = some (excClassObj nm q C N bs bm true sn sub ab col dd k0 k1 k2 k3 k5 nI))
    (z : R (.ok (.ret (.ref (h.objs.size + 1)))) ⟨(h.push (PySem.W.kdv_tup [])).push (excO C h.objs.size), g, dr, tk, os⟩) :
    codeAny (model prog w) A (.builtin nI ⟨[.ref C], kw⟩) R ⟨h, g, dr, tk, os⟩ := by
  have ends := Fx.ends
  have c1 : (Value.ref C :: bm).contains (.type B) = true := by rw [List.contains_cons, hT, Fx.hasB, Bool.or_true]
  have c2 : (Value.ref C :: bm).contains (.type "AttributeError") = false := by rw [List.contains_cons, hT, Fx.noAttr]; rfl
  have c3 : (Value.ref C :: bm).contains (.type "NameError") = false := by rw [List.contains_cons, hT, Fx.noName]; rfl
  have hrest : ([] : List Value).length ≤ sizeLine := Nat.zero_le _
  refine codeAny_builtinAt Fx.entry ?_
  unfold Builtin.«BaseException.__new__»
  refine wpAt_bind ?_
  show wpAt _ _ _ (stack >>= _) _ _ _
  refine wpAt_bind (wpAt_stack fun p below => wpAt_of_wpAny ?_)
  wp_walk
  refine wpAt_of_wpAny ?_
  rw [Fx.owner]
  repeat (first | with_reducible refine wpAny_madeHere_exc Fx.canon hC ?_ | with_reducible refine wpAny_loadPart_at hC ?_ | (with_reducible refine wpAny_isSubtype_exc hC ?_; first | rw [c1] | rw [c2] | rw [c3]) | wp_step)
  show R _ _
  rw [Heap.size_push]
  exact z
theorem kwx_type (Fx : ExcBaseFacts B nI iI bB) (hT : ∀ X : String, bm.contains (.type X) = bB.contains (.type X)) {Q : Fin → Shared → Prop} (hl : kw.length ≤ 2)
    (hC : h.get? C = some (excClassObj nm q C N bs bm true sn sub ab col dd k0 k1 k2 k3 k5 nI))
    (i0 : PySem.W.Looks (model prog w) h (typeLookup (.ref C) "__init__") (some (.ref fI))) (b0 : ∀ self, PySem.W.Looks (model prog w) h (bindSpecial (.ref fI) self) (.ref fI, [self]))
    (z : codeAny (model prog w) A (.call (.ref fI) ⟨[.ref (h.objs.size + 1)], kw⟩)
      (fun r s' => match r with | .ok (.ret v) => v = .none ∧ Q (.done (.ret (.ref (h.objs.size + 1)))) s' | .ok _ => False | .error e => E e s')
      ⟨(h.push (PySem.W.kdv_tup [])).push (excO C h.objs.size), g, dr, tk, os⟩) :
    wpAny (model prog w) A (Builtin.«type.__call__» ⟨[.ref C], kw⟩) Q E ⟨h, g, dr, tk, os⟩ := by
  repeat (first | with_reducible refine wpAny_loadPart_at hC ?_ | with_reducible refine wpAny_madeBy_exc hC ?_ | wp_step)
  refine codeAny_call_builtin_code (Code.quiet_builtin _ Fx.quiet) (kwx_check Fx hT hC hl ?_)
  refine kwx_new Fx hT hC ?_
  show wpAny _ _ _ _ _ _
  have old : ∀ b o, h.get? b = some o → ((h.push (PySem.W.kdv_tup [])).push (excO C h.objs.size)).get? b = some o := fun b o e => Heap.get?_push_of_some _ (Heap.get?_push_of_some _ e)
  have hC1 := old _ _ hC
  have hx : ((h.push (PySem.W.kdv_tup [])).push (excO C h.objs.size)).get? (h.objs.size + 1) = some (excO C h.objs.size) := by heap_get
  have own : (Value.ref C :: bm).contains (.ref C) = true := by simp
  have i1 := i0.keeps old
  have b1 := (b0 (.ref (h.objs.size + 1))).keeps old
  unfold isInstance
  repeat (first | with_reducible refine wpAny_loadPart_at hx ?_ | (with_reducible refine wpAny_isSubtype_exc hC1 ?_; rw [own]) | wp_step)
  show wpAny _ _ (typeLookup (.ref C) _) _ _ _
  refine i1.at ?_
  refine wpAny_holding (wpAny_bind (b1.at ?_))
  refine wpAny_bind (wpAny_call (codeAny_mono z fun r s' z => ?_))
  rcases r with e | (v | _ | _ | _) <;> first | exact z | exact z.elim | skip
  obtain ⟨rfl, z⟩ := z
  first
    | exact wpAny_pure (wpAny_pure z)
    | (wp_walk; exact z)
theorem kwx_tc {Q : Unit → Shared → Prop} (hl : kw.length ≤ 2) (hC : h.get? C = some (excClassObj nm q C N bs bm true sn sub ab col dd k0 k1 k2 k3 k5 nI))
    (z : Q () ⟨h, g, dr, tk, os⟩) : wpAny M A (checkBuiltinCall "type.__call__" ⟨[.ref C], kw⟩) Q E ⟨h, g, dr, tk, os⟩ := by
  have f3 := tc_sub
  have ty : (⟨h, g, dr, tk, os⟩ : Shared).TypeIs (.ref C) "type" := ⟨_, hC, rfl⟩
  simp only [checkBuiltinCall, tc_kind, tc_split]
  repeat (any_goals (first | assumption | with_reducible refine wpAny_loadPart_at hC ?_ | with_reducible refine wpAny_onRaise ?_ | with_reducible refine wpAny_map ?_ | wp_step))
theorem kwx_call (Fx : ExcBaseFacts B nI iI bB) (hT : ∀ X : String, bm.contains (.type X) = bB.contains (.type X)) (hl : kw.length ≤ 2)
    (hC : h.get? C = some (excClassObj nm q C N bs bm true sn sub ab col dd k0 k1 k2 k3 k5 nI))
    (i0 : PySem.W.Looks (model prog w) h (typeLookup (.ref C) "__init__") (some (.ref fI))) (b0 : ∀ self, PySem.W.Looks (model prog w) h (bindSpecial (.ref fI) self) (.ref fI, [self]))
    (z : codeAny (model prog w) (A.under (.builtin "type.__call__" ⟨[.ref C], kw⟩)) (.call (.ref fI) ⟨[.ref (h.objs.size + 1)], kw⟩) (PySem.W.InitBack (h.objs.size + 1) R)
      ⟨(h.push (PySem.W.kdv_tup [])).push (excO C h.objs.size), g, dr, tk, os⟩) :
    codeAny (model prog w) A (.call (.ref C) ⟨[], kw⟩) R ⟨h, g, dr, tk, os⟩ := by
  have f1 := tc_lookup
  have f2 := tc_bind (.ref C)
  have ty : (⟨h, g, dr, tk, os⟩ : Shared).TypeIs (.ref C) "type" := ⟨_, hC, rfl⟩
  refine codeAny_of_tree ?_
  show wpAny _ _ (callAny (.ref C) _) _ _ _
  repeat (any_goals (first | assumption | with_reducible refine wpAny_loadPart_at hC ?_ | wp_step))
  refine ⟨rfl, ?_⟩
  refine codeAny_call_builtin_at (Code.quiet_builtin _ (by decide +kernel)) entry_typeCall (kwx_tc hl hC (kwx_type Fx hT hl hC i0 b0 ?_))
  refine codeAny_mono z fun r s' z => ?_
  rcases r with e | (v | _ | _ | _) <;> exact z
end
end HXK
end PySem

set_option Elab.async false
set_option linter.all false
set_option maxRecDepth 100000
set_option maxHeartbeats 2000000
namespace HX
open PySem PySem.Spec PyProof.Rows L2

/-! ### an own exception as a value: at e, of the class at C, its fields fs -/
def Er (H : Hp) (e C : Addr) (fs : List (Str × V)) : Prop := ∃ od : Option Addr, H e = some (exT e (.ref C) od) ∧ ((∃ d, od = some d ∧ H d = some (.xd fs)) ∨ (od = none ∧ fs = []))
theorem Er.mo {H H' : Hp} {e C : Addr} {fs : List (Str × V)} (m : Same H H') : Er H e C fs → Er H' e C fs
  | ⟨od, h, q⟩ => ⟨od, m _ _ h, q.elim (fun ⟨d, a, b⟩ => .inl ⟨d, a, m _ _ b⟩) .inr⟩
section
variable {X : Cx} {x f g : Str} {C fI : Addr} {fd : FuncData} {k : Nat} {e e1 e2 : Expr} {es : List Expr} {te te1 te2 : TE} {ta : TA} {p pos : Pos} {ps : List Str} {sp : Sp}
/-- what the maker's end gives the value's reader -/
def QV (H1 : Hp) (C a : Addr) (Q : VK) : VK := fun v H2 => v = .non ∧ ∃ d fs, H2 a = some (exo a C (some d)) ∧ H2 d = some (exd d fs) ∧ H1 d = none ∧ Q (.ref a) (upd (upd (del H2 a) d (.xd fs)) a (exT a (.ref C) (some d)))
theorem end_xv {pins : List (Addr × Obj)} {σ : L2.St} {H1 H2 : Hp} {Q : VK} {hp hp2 h2 : Heap} {g1 g2 : Array GenState} {d1 d2 : Drawn} {t1 t2 : Nat} {os1 os2 : OsState} {a C d : Addr} {fs : List (Str × V)} (I1 : Inv X pins σ H1 ⟨hp, g1, d1, t1, os1⟩)
    (ha : hp.objs.size ≤ a) (k : ∀ b o, hp.get? b = some o → hp2.get? b = some o) (un : Un (frs X.stack) [] (upd H1 a (exo a C none)) H2 hp2 h2) (hok : HOk X.prog X.w H2 h2) (ho : os2 = os1) (hb : AllBare g2)
    (ea : H2 a = some (exo a C (some d))) (ed : H2 d = some (exd d fs)) (hd1 : H1 d = none) (q : Q (.ref a) (upd (upd (del H2 a) d (.xd fs)) a (exT a (.ref C) (some d)))) : EP X pins σ Q (.ref a) ⟨h2, g2, d2, t2, os2⟩ := by
  obtain ⟨t0, G, J, kG, ge, hoe, na⟩ := mk_end0 (d2 := d2) (t2 := t2) I1 ha k un hok ho hb ea ed hd1
  exact ⟨.ref a, _, J.laidN (t' := t2) kG ge na (exT_ok hoe ⟨rfl, rfl⟩ rfl), rfl, q⟩
theorem pe_xv {R : List V → Hp → VK → Prop} (imp : ∀ vs H1 Q, R vs H1 Q → vs.length ≤ 1000 ∧ ∀ a, H1 a = none → sp (.ref a :: vs) (upd H1 a (exo a C none)) (QV H1 C a Q) fun _ _ _ => False) (T : RxC X.K X.mg x C fI) (Fi : FnOk X.prog X.w X.K X.mg X.base CX0 k fI fd ps sp) (b : Binds X.K fd ps []) (hr : Room (k + 1) X.A) (ha : PA X (e :: es) ta) (hg : Gl X x)
    (hdb : (x == ("__debug__" : Str)) = false := by decide) (hs : starEach (e :: es) X.env = (false, eval e X.env) :: starEach es X.env := by rfl) (hpl : (backTo pos (starEach es X.env)).any (·.1) = false := by rfl) :
    PE X (.Call (.Name x p) (e :: es) [] pos) (fun σ H Q => ta σ H fun vs H1 => R vs H1 Q) := by
  refine ⟨fun pins s σ H Q I h => ?_⟩
  obtain ⟨nm, q, N, bs, bm, sn, sub, ab, col, dd, k0, k1, k2, k3, k5, hC, hbm⟩ := T.o.cls
  refine wpAny_Call_Name_kw (ld_glob I hg T.gC ?_ hdb)
  refine PySem.W.callWith_K (h₀ := X.base) I.ok.mod.kin T.o.kC (thn (ha.run pos pins s σ H _ I h) fun us s1 ⟨vs, H1, I1, r1, qR⟩ => ⟨I1.kIn, ?_⟩) hs hpl
  obtain ⟨hz, q1⟩ := imp _ _ _ qR
  show wpAny _ _ (call (.ref C) us) _ _ _
  obtain ⟨hp, gn, dr, tk, os⟩ := s1
  have z1 : hp.objs.size ≤ hp.objs.size + 1 := Nat.le_succ _
  have hn : H1 (hp.objs.size + 1) = none := I1.hok.fresh z1
  have hq := q1 (hp.objs.size + 1) hn
  have old : ∀ b o, hp.get? b = some o → ((hp.push (PySem.W.kdv_tup us)).push (PySem.HandSPX.excO C hp.objs.size)).get? b = some o := fun b o z => Heap.get?_push_of_some _ (Heap.get?_push_of_some _ z)
  have at_ : ((hp.push (PySem.W.kdv_tup us)).push (PySem.HandSPX.excO C hp.objs.size)).get? (hp.objs.size + 1) = some (PySem.HandSPX.excO C hp.objs.size) := by heap_get
  have I2 : Inv X pins σ (upd H1 (hp.objs.size + 1) (exo (hp.objs.size + 1) C none)) ⟨(hp.push (PySem.W.kdv_tup us)).push (PySem.HandSPX.excO C hp.objs.size), gn, dr, tk, os⟩ :=
    I1.laid (t' := tk) (a := hp.objs.size + 1) (o := exo (hp.objs.size + 1) C none) (h' := (hp.push (PySem.W.kdv_tup us)).push (PySem.HandSPX.excO C hp.objs.size)) old z1 (exo_ok at_)
  have r2 : Vals (V.ref (hp.objs.size + 1) :: vs) (Value.ref (hp.objs.size + 1) :: us) := .cons rfl r1
  have hl : ((Value.ref (hp.objs.size + 1) :: us) ++ []).length = ps.length := by
    rw [List.append_nil, ← r2.length]
    exact Fi.len _ _ _ _ hq
  have hus : us.length ≤ sizeLine := by
    rw [← Paired.length r1, sizeLine_eq]
    omega
  have bd := b (Shared.mk _ gn dr tk os) (Value.ref (hp.objs.size + 1) :: us) I2.kIn hl
  rw [List.append_nil] at bd
  refine wpAny_call (PySem.HandSPX.call_own F.excBase_ValueError (fun Y => PySem.HandSPX.refsVE_contains Y bm hbm) (I1.kIn _ _ hC) (PySem.W.looks_findIn I1.kIn T.iC) (fun self => PySem.W.bind_fn I1.kIn self T.tI) hus
    (codeAny_mono (Fi.run _ X.stack _ _ ⟨Value.ref (hp.objs.size + 1) :: us, []⟩ (Value.ref (hp.objs.size + 1) :: us) _ _ (fun _ _ _ => False) (hr.make C us []) (I2.env0.make C us []) bd r2 hq) fun r s' hq' => ?_))
  match r, hq' with
  | .error er, hq' => exact False.elim hq'
  | .ok .next, hq' => exact False.elim hq'
  | .ok .brk, hq' => exact False.elim hq'
  | .ok .cont, hq' => exact False.elim hq'
  | .ok (.ret u), hq' =>
    obtain ⟨v, H2, os2, bare2, un2, hok2, rv, ev, d, fs, ea, ed, hd1, q2⟩ := hq'
    subst ev
    obtain ⟨h2, g2, d2, t2, os'⟩ := s'
    exact ⟨rv, end_xv I1 z1 old un2 hok2 os2 bare2 ea ed hd1 q2⟩
theorem pe_xk {R : List V → Hp → VK → Prop} {ks : List Str} {kws : List Keyword} {gg : List Value → List Value → List Value} {gV : List V → List V → List V} (imp : ∀ zs H1 Q, R zs H1 Q → zs.length = ks.length ∧ ∀ a, H1 a = none → sp (gV [.ref a] zs) (upd H1 a (exo a C none)) (QV H1 C a Q) fun _ _ _ => False) (T : RxC X.K X.mg x C fI) (Fi : FnOk X.prog X.w X.K X.mg X.base CX0 k fI fd ps sp) (b : KBn X.K fd ps 1 ks gg gV) (hks2 : ks.length ≤ 2) (hr : Room (k + 1) X.A) (hkw : PK X kws ta) (hg : Gl X x)
    (hdb : (x == ("__debug__" : Str)) = false := by decide) (hall : (backToKw pos (keywordEach kws X.env)).all (·.1.isSome) = true := by rfl) (hks : (backToKw pos (keywordEach kws X.env)).filterMap (·.1) = ks := by rfl)
    (hpl : ((backTo pos (starEach [] X.env)).any (·.1) || (backToKw pos (keywordEach kws X.env)).any (·.1.isNone)) = false := by rfl) :
    PE X (.Call (.Name x p) [] kws pos) (fun σ H Q => ta σ H fun zs H1 => R zs H1 Q) := by
  refine ⟨fun pins s σ H Q I h => ?_⟩
  obtain ⟨nm, q, N, bs, bm, sn, sub, ab, col, dd, k0, k1, k2, k3, k5, hC, hbm⟩ := T.o.cls
  refine wpAny_Call_Name_kw (ld_glob I hg T.gC ?_ hdb)
  refine PySem.W.callWith_KW0 (h₀ := X.base) I.ok.mod.kin T.o.kC hall (thn (hkw.run pos pins s σ H _ I h) fun ws s1 ⟨zs, H1, I1, rz, qR⟩ => ⟨I1.kIn, ?_⟩) hpl
  obtain ⟨l1, q1⟩ := imp _ _ _ qR
  rw [hks]
  show wpAny _ _ (call (.ref C) [] (ks.zip ws)) _ _ _
  obtain ⟨hp, gn, dr, tk, os⟩ := s1
  have z1 : hp.objs.size ≤ hp.objs.size + 1 := Nat.le_succ _
  have hn : H1 (hp.objs.size + 1) = none := I1.hok.fresh z1
  have hq := q1 (hp.objs.size + 1) hn
  have old : ∀ b o, hp.get? b = some o → ((hp.push (PySem.W.kdv_tup [])).push (PySem.HandSPX.excO C hp.objs.size)).get? b = some o := fun b o z => Heap.get?_push_of_some _ (Heap.get?_push_of_some _ z)
  have at_ : ((hp.push (PySem.W.kdv_tup [])).push (PySem.HandSPX.excO C hp.objs.size)).get? (hp.objs.size + 1) = some (PySem.HandSPX.excO C hp.objs.size) := by heap_get
  have I2 : Inv X pins σ (upd H1 (hp.objs.size + 1) (exo (hp.objs.size + 1) C none)) ⟨(hp.push (PySem.W.kdv_tup [])).push (PySem.HandSPX.excO C hp.objs.size), gn, dr, tk, os⟩ :=
    I1.laid (t' := tk) (a := hp.objs.size + 1) (o := exo (hp.objs.size + 1) C none) (h' := (hp.push (PySem.W.kdv_tup [])).push (PySem.HandSPX.excO C hp.objs.size)) old z1 (exo_ok at_)
  have lw : ws.length = ks.length := rz.length.symm.trans l1
  have lkw : (ks.zip ws).length ≤ 2 := by
    rw [List.length_zip, lw, Nat.min_self]
    exact hks2
  have bd := b.to (Shared.mk _ gn dr tk os) [Value.ref (hp.objs.size + 1)] ws I2.kIn rfl lw
  have r2 := b.rel (vs := [V.ref (hp.objs.size + 1)]) (us := [Value.ref (hp.objs.size + 1)]) (.cons rfl .nil) rz
  refine wpAny_call (PySem.HXK.kwx_call F.excBase_ValueError (fun Y => PySem.HandSPX.refsVE_contains Y bm hbm) lkw (I1.kIn _ _ hC) (PySem.W.looks_findIn I1.kIn T.iC) (fun self => PySem.W.bind_fn I1.kIn self T.tI)
    (codeAny_mono (Fi.run _ X.stack _ _ ⟨[Value.ref (hp.objs.size + 1)], ks.zip ws⟩ (gg [Value.ref (hp.objs.size + 1)] ws) _ _ (fun _ _ _ => False) (hr.make C [] (ks.zip ws)) (I2.env0.make C [] (ks.zip ws)) bd r2 hq) fun r s' hq' => ?_))
  match r, hq' with
  | .error er, hq' => exact False.elim hq'
  | .ok .next, hq' => exact False.elim hq'
  | .ok .brk, hq' => exact False.elim hq'
  | .ok .cont, hq' => exact False.elim hq'
  | .ok (.ret u), hq' =>
    obtain ⟨v, H2, os2, bare2, un2, hok2, rv, ev, d, fs, ea, ed, hd1, q2⟩ := hq'
    subst ev
    obtain ⟨h2, g2, d2, t2, os'⟩ := s'
    exact ⟨rv, end_xv I1 z1 old un2 hok2 os2 bare2 ea ed hd1 q2⟩
/-- C(), no own __init__, kept -/
def tX0 (C : Addr) : TE := fun _ H Q => ∀ a H', Same H H' → H a = none → Er H' a C [] → Q (.ref a) H'
theorem pe_x0 {bmB : List Value} {B newId initId : String} (Fx : ExcBaseFacts B newId initId bmB) (q : PySem.W.excIn X.K C bmB newId = true) (gC : X.mg x = some (.ref C)) (kC : PySem.W.keepIn X.K (.ref C) = true) (hg : Gl X x) (hdb : (x == ("__debug__" : Str)) = false := by decide) :
    PE X (.Call (.Name x p) [] [] pos) (tX0 C) := by
  refine ⟨fun pins s σ H Q I h => ?_⟩
  refine wpAny_Call_Name_kw (ld_glob I hg gC ?_ hdb)
  refine PySem.W.callWith_KW0 (h₀ := X.base) I.ok.mod.kin kC rfl ?_ rfl
  refine PyProof.Rows.kwAll_nil ⟨I.kIn, ?_⟩
  show wpAny _ _ (call (.ref C) []) _ _ _
  obtain ⟨bm, N, nm, qn, bs, hdct, sn, sub, ab, col, dd, k0, k1, k2, k3, k5, mN, hC, hN, hni, T⟩ := exc_obj I.kIn q
  refine wpAny_call_exc_subT Fx T hC hN hni (fun h' a hm => ?_) (Nat.zero_le _)
  have hn : H a = none := I.hok.gone hm.new
  obtain ⟨t, ht, _, _⟩ := hm.there
  exact ⟨.ref a, upd H a (exT a (.ref C) none), I.laidN hm.keeps hm.new hn (exT_ok ht ⟨rfl, rfl⟩ rfl), rfl, h a _ (Same.new (Same.refl _) hn) hn ⟨none, upd_same, .inr ⟨rfl, rfl⟩⟩⟩
/-! ### .. by their fields -/
def R1 (C : Addr) (f : Str) : List V → Hp → VK → Prop := fun vs H1 Q => ∃ v, vs = [v] ∧ ∀ a H', Same H1 H' → H1 a = none → Er H' a C [(f, v)] → Q (.ref a) H'
def R2 (C : Addr) (f g : Str) : List V → Hp → VK → Prop := fun vs H1 Q => ∃ v u, vs = [v, u] ∧ ∀ a H', Same H1 H' → H1 a = none → Er H' a C [(g, u), (f, v)] → Q (.ref a) H'
def R2s (C : Addr) (f g : Str) : List V → Hp → VK → Prop := fun vs H1 Q => ∃ v u, vs = [u, v] ∧ ∀ a H', Same H1 H' → H1 a = none → Er H' a C [(g, u), (f, v)] → Q (.ref a) H'
def sw {α : Type} : List α → List α
  | [a, b] => [b, a]
  | _ => []
theorem sw_vals {vs : List V} {us : List Value} (r : Vals vs us) : Vals (sw vs) (sw us) := by
  cases r with
  | nil => exact .nil
  | cons r1 r =>
    cases r with
    | nil => exact .nil
    | cons r2 r =>
      cases r with
      | nil => exact .cons r2 (.cons r1 .nil)
      | cons _ _ => exact .nil
theorem same_xv {H1 : Hp} {a d : Addr} {o1 o2 u : HO} {H2 : Hp} (na : H1 a = none) (nd : H1 d = none) (e : ∀ b, b ≠ a → b ≠ d → H2 b = H1 b) : Same H1 (upd (upd (del H2 a) d u) a o2) := fun b o z => by
  have n1 := ne_of_none z na
  have n2 := ne_of_none z nd
  rw [upd_ne n1, upd_ne n2, del_ne n1, e b n1 n2]
  exact z
theorem imp1 {C : Addr} {f : Str} (vs : List V) (H1 : Hp) (Q : VK) (h : R1 C f vs H1 Q) : vs.length ≤ 1000 ∧ ∀ a, H1 a = none → spI1 C f (.ref a :: vs) (upd H1 a (exo a C none)) (QV H1 C a Q) fun _ _ _ => False := by
  obtain ⟨v, rfl, k⟩ := h
  refine ⟨by show 1 ≤ 1000; decide, fun a na => ⟨a, v, rfl, upd_same, fun dx nx ne => ⟨rfl, dx, _, upd_same, by rw [upd_ne ne, upd_same], ?_, k a _ (same_xv (o1 := .own 0) na ?_ fun b n1 n2 => ?_) na ?_⟩⟩⟩
  · rw [upd_ne ne] at nx
    exact nx
  · rw [upd_ne ne] at nx
    exact nx
  · rw [upd_ne n1, upd_ne n2, upd_ne n1]
  · exact ⟨some dx, upd_same, .inl ⟨dx, rfl, by rw [upd_ne ne, upd_same]⟩⟩
theorem imp2 {C : Addr} {f g : Str} (vs : List V) (H1 : Hp) (Q : VK) (h : R2 C f g vs H1 Q) : vs.length ≤ 1000 ∧ ∀ a, H1 a = none → spI2 C f g (.ref a :: vs) (upd H1 a (exo a C none)) (QV H1 C a Q) fun _ _ _ => False := by
  obtain ⟨v, u, rfl, k⟩ := h
  refine ⟨by show 2 ≤ 1000; decide, fun a na => ⟨a, v, u, rfl, upd_same, fun dx nx ne => ⟨rfl, dx, _, by rw [upd_ne (Ne.symm ne), upd_same], upd_same, ?_, k a _ (same_xv (o1 := .own 0) na ?_ fun b n1 n2 => ?_) na ?_⟩⟩⟩
  · rw [upd_ne ne] at nx
    exact nx
  · rw [upd_ne ne] at nx
    exact nx
  · rw [upd_ne n2, upd_ne n1, upd_ne n2, upd_ne n1]
  · exact ⟨some dx, upd_same, .inl ⟨dx, rfl, by rw [upd_ne ne, upd_same]⟩⟩
end
/-- an error class of one field, of two -/
def Er1 (P : Program) (w : World) (K : PySem.W.Frag) (mg : Str → Option Value) (base : Heap) (x : Str) (C : Addr) (f : Str) : Prop :=
  ∃ (fI : Addr) (fd : FuncData), RxC K mg x C fI ∧ FnOk P w K mg base CX0 1 fI fd ["self", f] (spI1 C f) ∧ Binds K fd ["self", f] [] ∧ KBn K fd ["self", f] 1 [f] (fun us ws => us ++ ws) (fun vs zs => vs ++ zs)
def Er2 (P : Program) (w : World) (K : PySem.W.Frag) (mg : Str → Option Value) (base : Heap) (x : Str) (C : Addr) (f g : Str) : Prop :=
  ∃ (fI : Addr) (fd : FuncData), RxC K mg x C fI ∧ FnOk P w K mg base CX0 1 fI fd ["self", f, g] (spI2 C f g) ∧ Binds K fd ["self", f, g] [] ∧ KBn K fd ["self", f, g] 1 [g, f] (fun us ws => us ++ sw ws) (fun vs zs => vs ++ sw zs)
section
variable {X : Cx} {x f g : Str} {C : Addr} {e e2 : Expr} {te te2 : TE} {ta : TA} {kws : List Keyword} {p pos : Pos}
theorem pe_e1 (Z : Er1 X.prog X.w X.K X.mg X.base x C f) (hr : Room 2 X.A) (ha : PA X [e] ta) (hg : Gl X x := by rfl)
    (hdb : (x == ("__debug__" : Str)) = false := by decide) (hs : starEach [e] X.env = (false, eval e X.env) :: starEach [] X.env := by rfl) (hpl : (backTo pos (starEach [] X.env)).any (·.1) = false := by rfl) :
    PE X (.Call (.Name x p) [e] [] pos) (fun σ H Q => ta σ H fun vs H1 => R1 C f vs H1 Q) := by
  obtain ⟨fI, fd, T, Fi, b, _⟩ := Z
  exact pe_xv imp1 T Fi b hr ha hg hdb hs hpl
theorem pe_e2 (Z : Er2 X.prog X.w X.K X.mg X.base x C f g) (hr : Room 2 X.A) (ha : PA X [e, e2] ta) (hg : Gl X x := by rfl)
    (hdb : (x == ("__debug__" : Str)) = false := by decide) (hs : starEach [e, e2] X.env = (false, eval e X.env) :: starEach [e2] X.env := by rfl) (hpl : (backTo pos (starEach [e2] X.env)).any (·.1) = false := by rfl) :
    PE X (.Call (.Name x p) [e, e2] [] pos) (fun σ H Q => ta σ H fun vs H1 => R2 C f g vs H1 Q) := by
  obtain ⟨fI, fd, T, Fi, b, _⟩ := Z
  exact pe_xv imp2 T Fi b hr ha hg hdb hs hpl
theorem pe_e1k (Z : Er1 X.prog X.w X.K X.mg X.base x C f) (hr : Room 2 X.A) (hkw : PK X kws ta) (hg : Gl X x := by rfl)
    (hdb : (x == ("__debug__" : Str)) = false := by decide) (hall : (backToKw pos (keywordEach kws X.env)).all (·.1.isSome) = true := by rfl) (hks : (backToKw pos (keywordEach kws X.env)).filterMap (·.1) = [f] := by rfl)
    (hpl : ((backTo pos (starEach [] X.env)).any (·.1) || (backToKw pos (keywordEach kws X.env)).any (·.1.isNone)) = false := by rfl) :
    PE X (.Call (.Name x p) [] kws pos) (fun σ H Q => ta σ H fun vs H1 => R1 C f vs H1 Q) := by
  obtain ⟨fI, fd, T, Fi, _, b⟩ := Z
  refine pe_xk (fun zs H1 Q h => ?_) T Fi b (by show 1 ≤ 2; decide) hr hkw hg hdb hall hks hpl
  have q := (imp1 zs H1 Q h).2
  obtain ⟨v, rfl, _⟩ := h
  exact ⟨rfl, q⟩
theorem pe_e2k (Z : Er2 X.prog X.w X.K X.mg X.base x C f g) (hr : Room 2 X.A) (hkw : PK X kws ta) (hg : Gl X x := by rfl)
    (hdb : (x == ("__debug__" : Str)) = false := by decide) (hall : (backToKw pos (keywordEach kws X.env)).all (·.1.isSome) = true := by rfl) (hks : (backToKw pos (keywordEach kws X.env)).filterMap (·.1) = [g, f] := by rfl)
    (hpl : ((backTo pos (starEach [] X.env)).any (·.1) || (backToKw pos (keywordEach kws X.env)).any (·.1.isNone)) = false := by rfl) :
    PE X (.Call (.Name x p) [] kws pos) (fun σ H Q => ta σ H fun vs H1 => R2s C f g vs H1 Q) := by
  obtain ⟨fI, fd, T, Fi, _, b⟩ := Z
  refine pe_xk (fun zs H1 Q h => ?_) T Fi b (by show 2 ≤ 2; decide) hr hkw hg hdb hall hks hpl
  obtain ⟨v, u, rfl, q⟩ := h
  exact ⟨rfl, (imp2 [v, u] H1 Q ⟨v, u, rfl, q⟩).2⟩
theorem Er.at_ {G : Hp} {a C : Addr} {fs : List (Str × V)} (h : Er G a C fs) (n : fs ≠ []) : ∃ d, G a = some (exT a (.ref C) (some d)) ∧ G d = some (.xd fs) := by
  obtain ⟨od, e, q⟩ := h
  rcases q with ⟨d, rfl, z⟩ | ⟨_, z⟩
  · exact ⟨d, e, z⟩
  · exact absurd z n
end
end HX

set_option Elab.async false
set_option linter.all false
set_option maxRecDepth 100000
set_option maxHeartbeats 2000000
namespace HX
open PySem PySem.Spec PyProof.Rows L2

/-! ### new lists that are not sys.modules -/
section
variable {X : Cx} {es : List Expr} {t : TA} {pos : Pos}
def tLstS (t : TA) : TE := fun σ H Q => t σ H fun xs G => xs.length ≤ sizeLine ∧ ∀ p, G p = none → p ≠ sysModules → Q (.ref p) (upd G p (.lst xs))
theorem pe_lstS (h : PA X es t) : PE X (.List es pos) (tLstS t) := by
  refine ⟨fun pins s σ H Q I k => wpAny_List_spliced (thn (h.run pos pins s σ H _ I k) fun us s1 ⟨xs, G, J, r, z, q⟩ => ⟨by rw [← r.length]; exact z, ?_⟩)⟩
  have nw : G s1.heap.objs.size = none := J.hok.fresh (Nat.le_refl _)
  exact ⟨.ref s1.heap.objs.size, upd G s1.heap.objs.size (.lst xs), J.laid (t' := s1.toks) (fun b u e => Heap.get?_push_of_some _ e) (Nat.le_refl _) ⟨z, us, 0, r, Heap.get?_push_size _ rfl⟩, rfl, q _ nw (Ne.symm (Nat.ne_of_lt J.big))⟩
def rSlLS (K : PySem.W.Frag) : V → Option Int → Option Int → Hp → VK → Prop := fun x lo hi H Q => ∃ a xs, x = .ref a ∧ SqL K H a xs ∧ ∀ p, H p = none → p ≠ sysModules → Q (.ref p) (upd H p (.lst (cutV xs lo hi)))
theorem sl_listS : SlR X (rSlLS X.K) := by
  intro pins s σ H x v vl vu lo hi sl Q I rx hs pl pu h
  obtain ⟨a, xs, rfl, hx, q⟩ := h
  obtain ⟨T, id, z1, z2, z3⟩ := sl_list pins s σ H (.ref a) v vl vu lo hi sl (fun v G => ∃ p, v = .ref p ∧ G = upd H p (.lst (cutV xs lo hi)) ∧ H p = none) I rx hs pl pu ⟨a, xs, rfl, hx, fun p n => ⟨p, rfl, rfl, n⟩⟩
  cases rx
  obtain ⟨its, r, ht, hz⟩ := I.list hx
  have hlen := r.length
  refine ⟨"list", _, F.slot_list_getitem.lookup, ht.isList.typeIs, wpAny_getItem_list_slice ht.isList hs pl pu .none (by simp) ?_ (by rw [List.size_toArray]; omega)⟩
  rw [slicePick_cut, ← hlen]
  exact ⟨.ref s.heap.objs.size, _, I.laid (t' := s.toks) (o := .lst (cutV xs lo hi)) (fun b ob q => Heap.get?_push_of_some _ q) (Nat.le_refl _)
    ⟨Nat.le_trans (cutV_length xs lo hi) hz, _, 0, (r.drop (HT.sIx xs.length 0 lo)).take (HT.sIx xs.length xs.length hi - HT.sIx xs.length 0 lo), Heap.get?_push_size _ rfl⟩, rfl, q _ (I.hok.fresh (Nat.le_refl _)) (Ne.symm (Nat.ne_of_lt I.big))⟩
end

/-! ### values that are drawn, of any kind -/
/-- data that repr can show in a list, beside another -/
structure OkT (d : PyData) : Prop where
  sh : d.showable = true
  dp : d.depth ≤ 30
  lv : d.leavesShort 1000 = true
  wt : d.weight ≤ 1000
theorem OkT.l1 {d : PyData} (h : OkT d) : OkD (.list [d]) := by
  obtain ⟨h1, h2, h3, h4⟩ := h
  refine ⟨?_, ?_, ?_, ?_⟩
  · simp [PyData.showable, PyData.showableAll, h1]
  · simp [PyData.depth, PyData.depthAll]; omega
  · simp [PyData.leavesShort, PyData.leavesShortAll, h3]
  · simp [PyData.weight, PyData.weightAll]; omega
theorem OkT.l2 {d e : PyData} (h : OkT d) (k : OkT e) : OkD (.list [d, e]) := by
  obtain ⟨h1, h2, h3, h4⟩ := h
  obtain ⟨k1, k2, k3, k4⟩ := k
  refine ⟨?_, ?_, ?_, ?_⟩
  · simp [PyData.showable, PyData.showableAll, h1, k1]
  · simp [PyData.depth, PyData.depthAll]; omega
  · simp [PyData.leavesShort, PyData.leavesShortAll, h3, k3]
  · simp [PyData.weight, PyData.weightAll]; omega
theorem okD_nil : OkD (.list []) := ⟨by decide +kernel, by decide +kernel, by decide +kernel, by decide +kernel⟩
theorem okT_by {d : PyData} (e : (d.showable && decide (d.depth ≤ 30) && d.leavesShort 1000 && decide (d.weight ≤ 1000)) = true) : OkT d := by
  simp only [Bool.and_eq_true, decide_eq_true_eq] at e
  exact ⟨e.1.1.1, e.1.1.2, e.1.2, e.2⟩
theorem kpN {H : Hp} {q b : Addr} {o u : HO} (e : H b = some u) (h : H q = none) : L2.upd H q o b = some u := by rw [upd_ne (ne_of_none e h)]; exact e
theorem kp2 {H : Hp} {q b : Addr} {o o' u : HO} (e : H b = some u) (h : H q = none) : L2.upd (L2.upd H q o) q o' b = some u := by rw [upd_ne (ne_of_none e h)]; exact kpN e h
theorem Same.upN {H G : Hp} {l : Addr} {o : HO} (s : Same H G) (n : H l = none) : Same H (L2.upd G l o) := fun c u e => by rw [upd_ne (ne_of_none e n)]; exact s c u e
/-- isinstance(e, c) of an own exception's value -/
def rIsE (K : PySem.W.Frag) : List V → Hp → VK → Prop := fun xs H Q => ∃ (a D : Addr) (fs : List (Str × V)) (c : V) (cv : Value) (b : Bool), xs = [.ref a, c] ∧ Er H a D fs ∧ ExC K D ∧ (∀ u, RelV c u → u = cv) ∧ PySem.W.kitOne K (.ref D) cv = some b ∧ Q (.bl b) H
theorem call_isE {X : Cx} : CallR X (.builtin "isinstance") (rIsE X.K) := fun pins s σ H xs us Q I r h => by
  obtain ⟨a, D, fs, c, cv, b, rfl, ⟨od, e, q⟩, T, hc, hk, z⟩ := h
  refine call_isX pins s σ H _ us Q I r ⟨a, D, od, c, cv, b, rfl, e, fun dd ed => ?_, T, hc, hk, z⟩
  rcases q with ⟨d, e1, e2⟩ | ⟨e1, _⟩
  · rw [ed] at e1
    cases e1
    exact ⟨_, e2⟩
  · rw [ed] at e1
    cases e1
theorem okT_int {i : Int} (h : i.natAbs < 2 ^ 900) : OkT (.int i) := by
  have hl : i.natAbs.log2 < 900 := by
    by_cases z : i.natAbs = 0
    · rw [z]
      decide
    · exact (Nat.log2_lt z).mpr h
  have e := int_text_length_le (a := i) (k := 900) (by decide) hl
  refine ⟨by show decide (i.natAbs.log2 < 1920) = true; exact decide_eq_true (by omega), by show 0 ≤ 30; decide, ?_, by simp only [PyData.weight]; split <;> omega⟩
  show decide ((PyData.shown (.int i)).length ≤ 1000) = true
  refine decide_eq_true ?_
  show (Str.ofString (toString i)).length ≤ 1000
  rw [PySem.ofString_length]
  omega
end HX

set_option Elab.async false
set_option linter.all false
set_option maxRecDepth 100000
set_option maxHeartbeats 2000000
/-! ### + - * // % of an own instance and an int -/
namespace PySem
namespace HXO
open W Builtin PyProof.Rows
section
variable {prog : Program} {w : World} {A : Around} {E : Value → Shared → Prop} {s : Shared} {K : Frag} {x C f g : Addr} {ox : Obj} {od : Option Obj}
theorem headed {K : Frag} {C : Addr} (h : selfFirst K C = true) : ∃ cd rest, clsIn K C = some cd ∧ cd.mro = .ref C :: rest := by
  obtain ⟨d, e1, e2⟩ := any_some h
  rcases hq : d.mro with _ | ⟨a, l⟩
  · rw [hq] at e2
    cases e2
  · rw [hq, List.head?_cons] at e2
    cases (beq_iff_eq.mp e2)
    exact ⟨d, l, e1, hq⟩
theorem slotPy {M : Model} {h : Heap} {nm : String} (X : K.In h) (hs : findIn K (.ref C) (PySem.dunder nm) = some (some (.ref f))) (hr : findIn K (.ref C) (PySem.dunderR nm) = some (some (.ref g))) : Looks M h (numberSlotInPython (.ref C) nm) true := by
  intro A Q E s k q
  unfold numberSlotInPython
  refine wpAny_bind (looks_findIn X hs A _ E s k ?_)
  refine wpAny_bind (wpAny_pure ?_)
  refine wpAny_bind (looks_findIn X hr A _ E s k ?_)
  refine wpAny_bind (wpAny_pure ?_)
  exact wpAny_pure q
theorem binL {op : Operator} {b : Value} {r : Option Value} {Q : Value → Shared → Prop} (X : K.In s.heap) (I : InstAt s.heap x ox C od) (hb : typeOf b = pure (.type "int")) (hc : selfFirst K C = true)
    (fU : fillsNumberSlot (.type "int") op.info.2 = pure true) (rU : typeLookup (.type "int") (PySem.dunderR op.info.2) = pure r) (hsub : isSubtype (.type "int") (.ref C) = pure false)
    (hs : findIn K (.ref C) (PySem.dunder op.info.2) = some (some (.ref f))) (hr : findIn K (.ref C) (PySem.dunderR op.info.2) = some (some (.ref g))) (hf : isFn K (.ref f) = true)
    (h : wpAny (model prog w) A (call (.ref f) [.ref x, b]) (W.CmpBack Q) E s) : wpAny (model prog w) A (binaryOp op (.ref x) b) Q E s := by
  obtain ⟨cd, rest, hcd, hm⟩ := headed hc
  rcases hi : op.info with ⟨sg, nm⟩
  rw [hi] at fU rU hs hr
  dsimp only at fU rU hs hr
  simp only [binaryOp, hi]
  refine wpAny_holding (wpAny_bind ?_)
  simp only [binaryOp1]
  refine wpAny_bind (I.type.here (wpAny_bind (wpAny_of_eq hb (wpAny_bind ((fills_K X hcd hm hs).here ?_)))))
  have ne : (Value.ref C == Value.type "int") = false := by simp
  simp only [ne, Bool.false_eq_true, if_false]
  refine wpAny_bind (wpAny_of_eq fU ?_)
  simp only [Bool.and_self, if_true]
  refine wpAny_bind (wpAny_of_eq hsub ?_)
  simp only [Bool.false_eq_true, if_false, Bool.not_false, Bool.and_self, if_true]
  refine wpAny_bind ((slotPy X hs hr).here ?_)
  have hpy : numberSlotInPython (.type "int") nm = pure false := rfl
  simp only [if_true, hpy, pure_bind, Bool.not_false, rU]
  refine wpAny_bind (m := tryMethod (Value.ref x) _ b) ?_
  unfold tryMethod
  refine wpAny_bind (special_fn X I hs (beq_iff_eq.mp hf) (wpAny_mono h (fun v s2 hv => ?_) fun _ _ z => z))
  cases v <;> first | exact hv.elim | exact (wpAny_pure (wpAny_pure (wpAny_pure hv)))
theorem binE {op : Operator} {y : Addr} {oy : Obj} {oe : Option Obj} {Q : Value → Shared → Prop} (X : K.In s.heap) (I : InstAt s.heap x ox C od) (J : InstAt s.heap y oy C oe) (hc : selfFirst K C = true)
    (hs : findIn K (.ref C) (PySem.dunder op.info.2) = some (some (.ref f)))
    (hf : isFn K (.ref f) = true)
    (h : wpAny (model prog w) A (call (.ref f) [.ref x, .ref y]) (W.CmpBack Q) E s) : wpAny (model prog w) A (binaryOp op (.ref x) (.ref y)) Q E s := by
  obtain ⟨cd, rest, hcd, hm⟩ := headed hc
  rcases hi : op.info with ⟨sg, nm⟩
  rw [hi] at hs
  dsimp only at hs
  simp only [binaryOp, hi]
  refine wpAny_holding (wpAny_bind ?_)
  simp only [binaryOp1]
  refine wpAny_bind (I.type.here (wpAny_bind (J.type.here (wpAny_bind ((fills_K X hcd hm hs).here ?_)))))
  simp only [beq_self_eq_true, if_true, pure_bind, Bool.and_false, Bool.false_eq_true, if_false, Bool.false_and]
  refine wpAny_bind (m := tryMethod (.ref x) _ (.ref y)) ?_
  unfold tryMethod
  refine wpAny_bind (special_fn X I hs (beq_iff_eq.mp hf) (wpAny_mono h (fun v s2 hv => ?_) fun _ _ z => z))
  cases v <;> first | exact hv.elim | exact (wpAny_pure (wpAny_pure (wpAny_pure hv)))
theorem fillsI {M : Model} {h : Heap} {nm : String} {ad : Bool} {cd : ClassData} {rest : List Value} (X : K.In h) (hc : clsIn K C = some cd) (hm : cd.mro = .ref C :: rest) (hs : findIn K (.ref C) (PySem.dunderI nm) = some (some (.ref f))) : Looks M h (fillsInplaceSlot (.ref C) nm ad) true := by
  intro A Q E s k q
  unfold fillsInplaceSlot
  refine wpAny_bind ((looks_clsIn X hc).andThen (f := fun d => pure d.mro) .now A _ E s k ?_)
  rw [hm, List.anyM_cons]
  refine wpAny_bind ?_
  refine wpAny_bind (looks_findIn X hs A _ E s k ?_)
  dsimp only
  rw [if_pos (show (!ownNameWrapper (.ref f) (PySem.dunderI nm)) = true from rfl)]
  refine wpAny_pure ?_
  rw [if_pos rfl]
  exact wpAny_pure q
theorem binI {op : Operator} {b : Value} {Q : Value → Shared → Prop} (X : K.In s.heap) (I : InstAt s.heap x ox C od) (hc : selfFirst K C = true)
    (hs : findIn K (.ref C) (PySem.dunderI op.info.2) = some (some (.ref f))) (hf : isFn K (.ref f) = true)
    (h : wpAny (model prog w) A (call (.ref f) [.ref x, b]) (W.CmpBack Q) E s) : wpAny (model prog w) A (inplaceOp op (.ref x) b) Q E s := by
  obtain ⟨cd, rest, hcd, hm⟩ := headed hc
  unfold inplaceOp
  refine wpAny_holding ?_
  dsimp only
  refine wpAny_bind (I.type.here (wpAny_bind ((fillsI X hcd hm hs).here ?_)))
  show wpAny _ _ (if true = true then _ else _) _ _ _
  rw [if_pos rfl]
  refine wpAny_bind (m := tryMethod (Value.ref x) _ b) ?_
  unfold tryMethod
  refine wpAny_bind (special_fn X I hs (beq_iff_eq.mp hf) (wpAny_mono h (fun v s2 hv => ?_) fun _ _ z => z))
  cases v <;> first | exact hv.elim | exact wpAny_pure (wpAny_bind (wpAny_rule (wpAny_pure hv)))
theorem unN {Q : Value → Shared → Prop} (X : K.In s.heap) (I : InstAt s.heap x ox C od) (hs : findIn K (.ref C) "__neg__" = some (some (.ref f))) (hf : isFn K (.ref f) = true)
    (h : wpAny (model prog w) A (call (.ref f) [.ref x]) Q E s) : wpAny (model prog w) A (unaryOp .USub (.ref x)) Q E s := by
  unfold unaryOp
  refine wpAny_holding ?_
  dsimp only
  rw [if_neg (by decide)]
  exact wpAny_bind (special_fn X I hs (beq_iff_eq.mp hf) (wpAny_mono h (fun v s' hv => wpAny_pure hv) fun _ _ e => e))
theorem unA {Q : Value → Shared → Prop} (X : K.In s.heap) (I : InstAt s.heap x ox C od) (hs : findIn K (.ref C) "__abs__" = some (some (.ref f))) (hf : isFn K (.ref f) = true)
    (h : wpAny (model prog w) A.in1 (call (.ref f) [.ref x]) Q E s) : wpAny (model prog w) A (call (.builtin "abs") [.ref x]) Q E s := by
  refine Calls.call_function_entry kind_abs plain_abs entry_abs (args_abs _) ?_
  unfold Builtin.«abs»
  refine wpAny_bind (m := oneArg "abs" _) (wpAny_pure ?_)
  refine wpAny_bind (special_fn X I hs (beq_iff_eq.mp hf) (wpAny_mono h (fun v s' hv => ?_) fun _ _ e => e))
  exact wpAny_pure ⟨v, rfl, hv⟩
/-- v o x, v an int: the int's own method refuses, x's reflected one is called -/
theorem binR {op : Operator} {a : Value} {idl : String} {Q : Value → Shared → Prop} (X : K.In s.heap) (I : InstAt s.heap x ox C od) (ta : typeOf a = pure (.type "int")) (ha : s.TypeIs a "int") (hc : selfFirst K C = true)
    (fU : fillsNumberSlot (.type "int") op.info.2 = pure true) (hsub : subIn K (.ref C) (.type "int") = some false) (hl : Slot "int" (PySem.dunder op.info.2) idl)
    (hN : ∀ Q : Value → Shared → Prop, Q .notImplemented s → wpAny (model prog w) A (call (.builtin idl) [a, .ref x]) Q E s)
    (hs : findIn K (.ref C) (PySem.dunder op.info.2) = some (some (.ref f))) (hr : findIn K (.ref C) (PySem.dunderR op.info.2) = some (some (.ref g))) (hg : isFn K (.ref g) = true)
    (h : wpAny (model prog w) A (call (.ref g) [.ref x, a]) (W.CmpBack Q) E s) : wpAny (model prog w) A (binaryOp op a (.ref x)) Q E s := by
  obtain ⟨cd, rest, hcd, hm⟩ := headed hc
  rcases hi : op.info with ⟨sg, nm⟩
  rw [hi] at fU hl hs hr
  dsimp only at fU hl hs hr
  simp only [binaryOp, hi]
  refine wpAny_holding (wpAny_bind ?_)
  simp only [binaryOp1]
  refine wpAny_bind (wpAny_of_eq ta (wpAny_bind (I.type.here (wpAny_bind (wpAny_of_eq fU ?_)))))
  have ne : (Value.type "int" == Value.ref C) = false := by simp
  simp only [ne, Bool.false_eq_true, if_false]
  refine wpAny_bind ((fills_K X hcd hm hs).here ?_)
  simp only [Bool.and_self, if_true]
  refine wpAny_bind ((looks_subIn X hsub).here ?_)
  have hpy : numberSlotInPython (.type "int") nm = pure false := rfl
  simp only [Bool.false_eq_true, if_false, Bool.not_false, Bool.and_self, if_true, hpy, pure_bind]
  refine wpAny_bind (m := tryMethod a _ (.ref x)) ?_
  unfold tryMethod
  refine wpAny_bind (wpAny_callSpecial?_slot ha hl (hN _ ?_))
  refine wpAny_pure ?_
  refine wpAny_bind (wpAny_bind (special_fn X I hr (beq_iff_eq.mp hg) (wpAny_mono h (fun v s' hv => ?_) fun _ _ e => e)))
  cases v <;> first | exact hv.elim | exact wpAny_pure (wpAny_bind (wpAny_rule (wpAny_pure (wpAny_pure hv))))
theorem ni_add {i : Int} {t : Tok} {dx : Addr} {Q : Value → Shared → Prop} (hx : s.heap.get? x = some (instObj C dx)) (h : Q .notImplemented s) : wpAny (model prog w) A (call (.builtin "int.__add__") [.int i t, .ref x]) Q E s := by
  refine wpAny_call (codeAny_call_builtin F.slot_int_add.plain F.entry_int_add (F.slot_int_add.check _ _ _ _ _ _ _ _ (typeIs_int s i t) (F.args_int_add_2 _ _) ?_))
  unfold Builtin.«int.__add__»
  refine (by (repeat (first | with_reducible refine wpAny_loadPart_at hx ?_ | with_reducible refine wpAny_load hx ?_ | wp_step)); exact h)
theorem ni_sub {i : Int} {t : Tok} {dx : Addr} {Q : Value → Shared → Prop} (hx : s.heap.get? x = some (instObj C dx)) (h : Q .notImplemented s) : wpAny (model prog w) A (call (.builtin "int.__sub__") [.int i t, .ref x]) Q E s := by
  refine wpAny_call (codeAny_call_builtin F.slot_int_sub.plain F.entry_int_sub (F.slot_int_sub.check _ _ _ _ _ _ _ _ (typeIs_int s i t) (F.args_int_sub_2 _ _) ?_))
  unfold Builtin.«int.__sub__»
  refine (by (repeat (first | with_reducible refine wpAny_loadPart_at hx ?_ | with_reducible refine wpAny_load hx ?_ | wp_step)); exact h)
theorem ni_mul {i : Int} {t : Tok} {dx : Addr} {Q : Value → Shared → Prop} (hx : s.heap.get? x = some (instObj C dx)) (h : Q .notImplemented s) : wpAny (model prog w) A (call (.builtin "int.__mul__") [.int i t, .ref x]) Q E s := by
  refine wpAny_call (codeAny_call_builtin F.slot_int_mul.plain F.entry_int_mul (F.slot_int_mul.check _ _ _ _ _ _ _ _ (typeIs_int s i t) (F.args_int_mul_2 _ _) ?_))
  unfold Builtin.«int.__mul__»
  refine (by (repeat (first | with_reducible refine wpAny_loadPart_at hx ?_ | with_reducible refine wpAny_load hx ?_ | wp_step)); exact h)
theorem ni_floordiv {i : Int} {t : Tok} {dx : Addr} {Q : Value → Shared → Prop} (hx : s.heap.get? x = some (instObj C dx)) (h : Q .notImplemented s) : wpAny (model prog w) A (call (.builtin "int.__floordiv__") [.int i t, .ref x]) Q E s := by
  refine wpAny_call (codeAny_call_builtin F.slot_int_floordiv.plain F.entry_int_floordiv (F.slot_int_floordiv.check _ _ _ _ _ _ _ _ (typeIs_int s i t) (F.args_int_floordiv_2 _ _) ?_))
  unfold Builtin.«int.__floordiv__»
  refine (by (repeat (first | with_reducible refine wpAny_loadPart_at hx ?_ | with_reducible refine wpAny_load hx ?_ | wp_step)); exact h)
theorem ni_mod {i : Int} {t : Tok} {dx : Addr} {Q : Value → Shared → Prop} (hx : s.heap.get? x = some (instObj C dx)) (h : Q .notImplemented s) : wpAny (model prog w) A (call (.builtin "int.__mod__") [.int i t, .ref x]) Q E s := by
  refine wpAny_call (codeAny_call_builtin F.slot_int_mod.plain F.entry_int_mod (F.slot_int_mod.check _ _ _ _ _ _ _ _ (typeIs_int s i t) (F.args_int_mod_2 _ _) ?_))
  unfold Builtin.«int.__mod__»
  refine (by (repeat (first | with_reducible refine wpAny_loadPart_at hx ?_ | with_reducible refine wpAny_load hx ?_ | wp_step)); exact h)
end
theorem int_not (C : Addr) : isSubtype (.type "int") (.ref C) = pure false := by rfl
/-- what an int's operator does beside an own instance -/
structure IntOp (op : Operator) (idl : String) : Prop where
  fU : fillsNumberSlot (.type "int") op.info.2 = pure true
  rU : ∃ r, typeLookup (.type "int") (PySem.dunderR op.info.2) = pure r
  sl : Slot "int" (PySem.dunder op.info.2) idl
  ni : ∀ {prog : Program} {w : World} {A : Around} {E : Value → Shared → Prop} {s : Shared} {x C dx : Addr} {i : Int} {t : Tok} {Q : Value → Shared → Prop}, s.heap.get? x = some (instObj C dx) → Q .notImplemented s → wpAny (model prog w) A (call (.builtin idl) [.int i t, .ref x]) Q E s
theorem io_add : IntOp .Add "int.__add__" := ⟨F.fills_int_add, ⟨_, F.slot_int_radd.lookup⟩, F.slot_int_add, ni_add⟩
theorem io_sub : IntOp .Sub "int.__sub__" := ⟨F.fills_int_sub, ⟨_, F.slot_int_rsub.lookup⟩, F.slot_int_sub, ni_sub⟩
theorem io_mul : IntOp .Mult "int.__mul__" := ⟨F.fills_int_mul, ⟨_, F.slot_int_rmul.lookup⟩, F.slot_int_mul, ni_mul⟩
theorem io_fdiv : IntOp .FloorDiv "int.__floordiv__" := ⟨F.fills_int_floordiv, ⟨_, F.slot_int_rfloordiv.lookup⟩, F.slot_int_floordiv, ni_floordiv⟩
theorem io_mod : IntOp .Mod "int.__mod__" := ⟨F.fills_int_mod, ⟨_, F.slot_int_rmod.lookup⟩, F.slot_int_mod, ni_mod⟩
/-- a class with both methods of an operator -/
structure OwnOp (K : Frag) (C : Addr) (op : Operator) (f g : Addr) : Prop where
  first : selfFirst K C = true
  sub : subIn K (.ref C) (.type "int") = some false
  hs : findIn K (.ref C) (PySem.dunder op.info.2) = some (some (.ref f))
  hr : findIn K (.ref C) (PySem.dunderR op.info.2) = some (some (.ref g))
  hf : isFn K (.ref f) = true
  hg : isFn K (.ref g) = true
end HXO
end PySem
namespace HX
open PySem PySem.Spec PyProof.Rows L2
/-- an instance of the class at C is tracked at a -/
def IsI (C : Addr) (H : Hp) (a : Addr) : Prop := ∃ dx fs, H a = some (.ins C dx fs)
/-- x o y of own instances and ints -/
def rOw (C : Addr) (r0 : L2.R2) (spF spG : Sp) (E : XK) : L2.R2 := fun x y H Q => match x, y with
  | .ref a, .ref b => IsI C H a ∧ IsI C H b ∧ spF [.ref a, .ref b] H Q E
  | .ref a, .int j => IsI C H a ∧ spF [.ref a, .int j] H Q E
  | .int i, .ref b => IsI C H b ∧ spG [.ref b, .int i] H Q E
  | .int i, .int j => r0 (.int i) (.int j) H Q
  | _, _ => False
section
variable {X : Cx} {pins : List (Addr × Obj)} {σ : L2.St} {H : Hp} {s : Shared} {a C : Addr}
theorem inst_at (I : Inv X pins σ H s) (h : IsI C H a) : ∃ dx od, PySem.W.InstAt s.heap a (PySem.W.instObj C dx) C (some od) ∧ s.heap.get? a = some (PySem.W.instObj C dx) := by
  obtain ⟨dx, fs, e⟩ := h
  obtain ⟨_, _, ne, ho, mA, ns, _, _⟩ := (show ObjOk X.prog X.w H s.heap a (.ins C dx fs) from I.hok a _ e)
  obtain ⟨od, z, _⟩ := (ObjM.mk ho ns ne).look
  exact ⟨dx, od, z, ho⟩
theorem ep_own {Q : VK} {u : Value} {s' : Shared} (h : EP X pins σ Q u s') : PySem.W.CmpBack (EP X pins σ Q) u s' := by
  obtain ⟨v, G, J, r, q⟩ := id h
  cases u <;> first | exact h | (cases v <;> first | exact r.elim | (obtain ⟨_, r⟩ := r; cases r) | cases r)
/-- the operator, where both methods keep a promise -/
theorem op_ow {op : Operator} {idl : String} {r0 : L2.R2} {f g : Addr} {ff fg : FuncData} {pf pg : List Str} {spF spG : Sp} {CY : CXT} {k : Nat} {E : XK} (io : PySem.HXO.IntOp op idl) (h0 : OpR X (binaryOp op) r0) (O : PySem.HXO.OwnOp X.K C op f g)
    (Ff : FnOk X.prog X.w X.K X.mg X.base CY k f ff pf spF) (Fg : FnOk X.prog X.w X.K X.mg X.base CY k g fg pg spG) (bf : Binds X.K ff pf []) (bg : Binds X.K fg pg []) (hr : Room k X.A) (hx : Passes CY X E) : OpR X (binaryOp op) (rOw C r0 spF spG E) := by
  intro pins s σ H x y v u Q I rx ry q
  unfold rOw at q
  split at q
  · obtain ⟨i1, i2, q⟩ := q
    cases rx
    cases ry
    obtain ⟨dx, od, J, ho⟩ := inst_at I i1
    obtain ⟨dy, od2, J2, ho2⟩ := inst_at I i2
    rename_i a b
    have rv : Vals [V.ref a, V.ref b] [Value.ref a, Value.ref b] := .cons rfl (.cons rfl .nil)
    exact PySem.HXO.binE I.kIn J J2 O.first O.hs O.hf (wpAny_mono (run_fn Ff hr bf .nil hx I rv (by rw [List.append_nil]; exact q)) (fun u s' h => ep_own h) fun _ _ z => z)
  · obtain ⟨i1, q⟩ := q
    cases rx
    obtain ⟨t, rfl⟩ := (show ∃ t, u = Value.int _ t from ry)
    obtain ⟨dx, od, J, ho⟩ := inst_at I i1
    obtain ⟨r, rU⟩ := io.rU
    rename_i a j
    have rv : Vals [V.ref a, V.int j] [Value.ref a, Value.int j t] := .cons rfl (.cons ⟨t, rfl⟩ .nil)
    refine PySem.HXO.binL I.kIn J rfl O.first io.fU rU (PySem.HXO.int_not C) O.hs O.hr O.hf (wpAny_mono (run_fn Ff hr bf .nil hx I rv (by rw [List.append_nil]; exact q)) (fun u s' h => ep_own h) fun _ _ z => z)
  · obtain ⟨i1, q⟩ := q
    cases ry
    obtain ⟨t, rfl⟩ := (show ∃ t, v = Value.int _ t from rx)
    obtain ⟨dx, od, J, ho⟩ := inst_at I i1
    rename_i j a
    have rv : Vals [V.ref a, V.int j] [Value.ref a, Value.int j t] := .cons rfl (.cons ⟨t, rfl⟩ .nil)
    refine PySem.HXO.binR I.kIn J rfl (typeIs_int s _ t) O.first io.fU O.sub io.sl (fun Q z => io.ni ho z) O.hs O.hr O.hg (wpAny_mono (run_fn Fg hr bg .nil hx I rv (by rw [List.append_nil]; exact q)) (fun u s' h => ep_own h) fun _ _ z => z)
  · exact h0 pins s σ H _ _ v u Q I rx ry q
  · exact q.elim
/-- x o= y, by an own method -/
def rIo (C : Addr) (sp : Sp) (E : XK) : TIp := fun x y H Q => ∃ a, x = .ref a ∧ IsI C H a ∧ sp [.ref a, y] H Q E
theorem ip_ow {op : Operator} {f : Addr} {fd : FuncData} {ps : List Str} {sp : Sp} {CY : CXT} {k : Nat} {E : XK} (first : PySem.W.selfFirst X.K C = true) (hs : PySem.W.findIn X.K (.ref C) (PySem.dunderI op.info.2) = some (some (.ref f))) (hf : PySem.W.isFn X.K (.ref f) = true)
    (Fi : FnOk X.prog X.w X.K X.mg X.base CY k f fd ps sp) (b : Binds X.K fd ps []) (hr : Room k X.A) (hx : Passes CY X E) : PIp X op (rIo C sp E) := by
  intro pins s σ H x y v u Q I rx ry q
  obtain ⟨a, rfl, i1, q⟩ := q
  cases rx
  obtain ⟨dx, od, J, ho⟩ := inst_at I i1
  have rv : Vals [V.ref a, y] [Value.ref a, u] := .cons rfl (.cons ry .nil)
  exact PySem.HXO.binI I.kIn J first hs hf (wpAny_mono (run_fn Fi hr b .nil hx I rv (by rw [List.append_nil]; exact q)) (fun u s' h => ep_own h) fun _ _ z => z)
/-- -x, of an own instance or an int -/
def rNg (C : Addr) (sp : Sp) (E : XK) : V → Hp → VK → Prop := fun x H Q => match x with
  | .ref a => IsI C H a ∧ sp [.ref a] H Q E
  | .int i => Q (.int (-i)) H
  | _ => False
theorem un_ow {f : Addr} {fd : FuncData} {ps : List Str} {sp : Sp} {CY : CXT} {k : Nat} {E : XK} (hs : PySem.W.findIn X.K (.ref C) "__neg__" = some (some (.ref f))) (hf : PySem.W.isFn X.K (.ref f) = true)
    (Fi : FnOk X.prog X.w X.K X.mg X.base CY k f fd ps sp) (b : Binds X.K fd ps []) (hr : Room k X.A) (hx : Passes CY X E) : UnR X (unaryOp .USub) (rNg C sp E) := by
  intro pins s σ H x v Q I rx q
  unfold rNg at q
  split at q
  · obtain ⟨i1, q⟩ := q
    cases rx
    obtain ⟨dx, od, J, ho⟩ := inst_at I i1
    rename_i a
    have rv : Vals [V.ref a] [Value.ref a] := .cons rfl .nil
    exact PySem.HXO.unN I.kIn J hs hf (run_fn Fi hr b .nil hx I rv (by rw [List.append_nil]; exact q))
  · exact un_neg pins s σ H _ v Q I rx ⟨_, rfl, q⟩
  · exact q.elim
end
end HX

set_option Elab.async false
set_option linter.all false
set_option maxRecDepth 100000
set_option maxHeartbeats 2000000
namespace HX
open PySem PySem.Spec PyProof.Rows L2

/-! ### C.m(..), m a static method: its record at p, its def at g -/
structure SMet (K : PySem.W.Frag) (C : Addr) (mc : Value) (m : Str) (p g : Addr) : Prop where
  rd : ClX.CRead K C mc
  at_ : PySem.W.findCls K (.ref C) mc m = some (.get (.builtin "staticmethod.__get__") (.ref p) .none (.ref C))
  rc : ∃ rest, PySem.W.recIn K p "staticmethod" = some (.ref g :: rest)
  kp : PySem.W.keepIn K (.ref g) = true
def tSM (C : Addr) (sp : Sp) (E : XK) (ta : TE) (t : TA) : TE := fun σ H Q => ta σ H fun x H1 => x = .ref C ∧ t σ H1 fun vs H2 => sp vs H2 Q E
def tSMK (C : Addr) (m : Nat) (sp : Sp) (gV : List V → List V → List V) (E : XK) (ta : TE) (t : TA) : TE := fun σ H Q => ta σ H fun x H1 => x = .ref C ∧ t σ H1 fun zs H2 => zs.length = m ∧ sp (gV [] zs) H2 Q E
section
variable {X : Cx} {CY : CXT} {k : Nat} {C p g : Addr} {mc : Value} {sp : Sp} {E : XK} {o e : Expr} {es : List Expr} {m : Str} {pos apos : Pos} {ta : TE} {t : TA} {pl : Sem Bool} {fd : FuncData} {ps : List Str} {pins : List (Addr × Obj)} {σ : L2.St} {H : Hp} {s : Shared} {A : Around}
theorem getm_sm {Ex : Value → Shared → Prop} {Q : Value × List Value → Shared → Prop} (I : Inv X pins σ H s) (c : SMet X.K C mc m p g) (h : ∀ s', Inv X pins σ H s' → Q (.ref g, []) s') : wpAny (model X.prog X.w) A (getMethod (.ref C) m pl) Q Ex s := by
  obtain ⟨rest, hp⟩ := c.rc
  refine PySem.W.method_cls I.kIn c.rd.ga (PySem.W.cls_bind I.kIn c.rd.rd c.at_ ?_)
  exact wpAny_call (PySem.W.sm_get (s := { s with toks := s.toks + 1 }) I.kIn hp (PySem.W.handed_on rfl (h _ (I.tok _))))
theorem pe_sm (he : PE X o ta) (c : SMet X.K C mc m p g) (Fm : FnOk X.prog X.w X.K X.mg X.base CY k g fd ps sp) (b : Binds X.K fd ps []) (hr : Room k X.A) (hx : Passes CY X E) (ha : PA X (e :: es) t)
    (hst : starEach (e :: es) X.env = (false, eval e X.env) :: starEach es X.env := by rfl) (hpl : (backTo pos (starEach es X.env)).any (·.1) = false := by rfl)
    (ht : eval (.Call (.Attribute o m apos) (e :: es) [] pos) X.env = (do
      let v ← eval o X.env
      standAt apos.atName
      let (f, first) ← holding [v] (getMethod v m pl)
      callWith pos f first (backTo pos (starEach (e :: es) X.env)) (backToKw pos (keywordEach [] X.env))) := by rfl) : PE X (.Call (.Attribute o m apos) (e :: es) [] pos) (tSM C sp E ta t) := by
  refine ⟨fun pins s σ H Q I h => PySem.W.methodCall_KW (pl := pl) (thn (he.run pins s σ H _ I h) fun u s1 ⟨x, H1, I1, rx, ex, q⟩ => ?_) ht⟩
  subst ex
  obtain rfl : u = Value.ref C := rx
  refine getm_sm I1 c fun s2 I2 => ?_
  refine PySem.W.callWith_K (h₀ := X.base) I2.ok.mod.kin c.kp (thn (ha.run pos pins s2 σ H1 _ I2 q) fun us s3 ⟨vs, H2, I3, rv, q2⟩ => ⟨I3.kIn, ?_⟩) hst hpl
  exact run_fn Fm hr b .nil hx I3 rv (by rw [List.append_nil]; exact q2)
theorem pe_smk {ks : List Str} {kws : List Keyword} {gg : List Value → List Value → List Value} {gV : List V → List V → List V} (he : PE X o ta) (c : SMet X.K C mc m p g) (Fm : FnOk X.prog X.w X.K X.mg X.base CY k g fd ps sp) (b : KBn X.K fd ps 0 ks gg gV) (hr : Room k X.A) (hx : Passes CY X E) (hkw : PK X kws t)
    (hall : (backToKw pos (keywordEach kws X.env)).all (·.1.isSome) = true := by rfl) (hks : (backToKw pos (keywordEach kws X.env)).filterMap (·.1) = ks := by rfl)
    (hpl : ((backTo pos (starEach [] X.env)).any (·.1) || (backToKw pos (keywordEach kws X.env)).any (·.1.isNone)) = false := by rfl)
    (ht : eval (.Call (.Attribute o m apos) [] kws pos) X.env = (do
      let v ← eval o X.env
      standAt apos.atName
      let (f, first) ← holding [v] (getMethod v m pl)
      callWith pos f first (backTo pos (starEach [] X.env)) (backToKw pos (keywordEach kws X.env))) := by rfl) : PE X (.Call (.Attribute o m apos) [] kws pos) (tSMK C ks.length sp gV E ta t) := by
  refine ⟨fun pins s σ H Q I h => PySem.W.methodCall_KW (pl := pl) (thn (he.run pins s σ H _ I h) fun u s1 ⟨x, H1, I1, rx, ex, q⟩ => ?_) ht⟩
  subst ex
  obtain rfl : u = Value.ref C := rx
  refine getm_sm I1 c fun s2 I2 => ?_
  refine PySem.W.callWith_KW0 (h₀ := X.base) I2.ok.mod.kin c.kp hall (thn (hkw.run pos pins s2 σ H1 _ I2 q) fun ws s3 ⟨zs, H2, I3, rz, l2, q2⟩ => ⟨I3.kIn, ?_⟩) hpl
  rw [hks]
  exact run_kw Fm hr b (fun e s' z => hx _ _ _ _ _ _ I3 z) I3 rz l2 q2
/-- abs(x) of an own instance, an int -/
def rAb (C : Addr) (sp : Sp) (E : XK) : List V → Hp → VK → Prop := fun xs H Q => match xs with
  | [.ref a] => IsI C H a ∧ sp [.ref a] H Q E
  | [.int i] => Q (.int (if i < 0 then -i else i)) H
  | _ => False
theorem call_ab {f : Addr} (hs : PySem.W.findIn X.K (.ref C) "__abs__" = some (some (.ref f))) (hf : PySem.W.isFn X.K (.ref f) = true) (Fi : FnOk X.prog X.w X.K X.mg X.base CY k f fd ps sp) (b : Binds X.K fd ps []) (hr : Room (k + 1) X.A) (hx : Passes CY X E) :
    CallR X (.builtin "abs") (rAb C sp E) := by
  intro pins s σ H xs us Q I r q
  unfold rAb at q
  split at q
  · obtain ⟨i1, q⟩ := q
    obtain ⟨u, rfl, ru⟩ := vals1 r
    cases ru
    obtain ⟨dx, od, J, ho⟩ := inst_at I i1
    rename_i a
    have rv : Vals [V.ref a] [Value.ref a] := .cons rfl .nil
    have hl : ([Value.ref a] ++ []).length = ps.length := by
      rw [List.append_nil, ← rv.length]
      exact Fi.len _ _ _ _ q
    have bd := b s [Value.ref a] I.kIn hl
    rw [List.append_nil] at bd
    refine PySem.HXO.unA I.kIn J hs hf (wpAny_call (codeAny_mono (Fi.run X.A.in1 X.stack s H ⟨[Value.ref a], []⟩ [Value.ref a] [V.ref a] Q E hr.in1 I.env0.in1 bd rv q) fun z s' hq => ?_))
    match z, hq with
    | .error e, hq => exact hx pins σ H s e s' I hq
    | .ok (.ret u), hq => exact I.after hq
    | .ok .next, hq => exact False.elim hq
    | .ok .brk, hq => exact False.elim hq
    | .ok .cont, hq => exact False.elim hq
  · exact call_abs pins s σ H _ us Q I r ⟨_, rfl, q⟩
  · exact q.elim
/-- what is never come to -/
theorem ps_dead {st : Stmt} : PS X st fun _ _ _ => False := ⟨fun _ _ _ _ _ _ h => h.elim⟩
theorem pe_dead : PE X e fun _ _ _ => False := ⟨fun _ _ _ _ _ _ h => h.elim⟩
end
end HX

set_option Elab.async false
set_option linter.all false
set_option maxRecDepth 100000
set_option maxHeartbeats 2000000
namespace HX
open PySem PySem.Spec PyProof.Rows L2

/-! ### the lowest terms of p / q -/
def gcdZ (p q : Int) : Int := ((Nat.gcd p.natAbs q.natAbs : Nat) : Int)
def sgZ (q : Int) : Int := if q < 0 then -1 else 1
def nT (p q : Int) : Int := (sgZ q * p) / gcdZ p q
def nB (p q : Int) : Int := (sgZ q * q) / gcdZ p q
/-- t / b stands in lowest terms -/
def Low (t b : Int) : Prop := 0 < b ∧ Nat.gcd t.natAbs b.natAbs = 1
theorem gcdZ_pos {p q : Int} (h : q ≠ 0) : 0 < gcdZ p q := by
  have : 0 < Nat.gcd p.natAbs q.natAbs := Nat.gcd_pos_of_pos_right _ (by omega)
  unfold gcdZ
  omega
theorem gcdZ_p (p q : Int) : gcdZ p q ∣ p := Int.ofNat_dvd_left.mpr (Nat.gcd_dvd_left _ _)
theorem gcdZ_q (p q : Int) : gcdZ p q ∣ q := Int.ofNat_dvd_left.mpr (Nat.gcd_dvd_right _ _)
theorem sgZ_sq (q : Int) : sgZ q = 1 ∨ sgZ q = -1 := by
  unfold sgZ
  split
  · exact .inr rfl
  · exact .inl rfl
theorem nT_mul {p q : Int} : gcdZ p q * nT p q = sgZ q * p := Int.mul_ediv_cancel' (Int.dvd_trans (gcdZ_p p q) (Int.dvd_mul_left _ _))
theorem nB_mul {p q : Int} : gcdZ p q * nB p q = sgZ q * q := Int.mul_ediv_cancel' (Int.dvd_trans (gcdZ_q p q) (Int.dvd_mul_left _ _))
theorem sgZ_abs {q : Int} : sgZ q * q = (q.natAbs : Int) := by
  unfold sgZ
  split <;> omega
theorem nB_pos {p q : Int} (h : q ≠ 0) : 0 < nB p q := by
  have g := gcdZ_pos (p := p) h
  have e := nB_mul (p := p) (q := q)
  rw [sgZ_abs] at e
  rcases Int.lt_or_le 0 (nB p q) with z | z
  · exact z
  · have := Int.mul_nonpos_of_nonneg_of_nonpos (Int.le_of_lt g) z
    omega
theorem cross {p q : Int} (h : q ≠ 0) : nT p q * q = p * nB p q := by
  have g := gcdZ_pos (p := p) h
  have e1 := nT_mul (p := p) (q := q)
  have e2 := nB_mul (p := p) (q := q)
  have s : sgZ q ≠ 0 := by rcases sgZ_sq q with z | z <;> rw [z] <;> decide
  refine Int.eq_of_mul_eq_mul_left (Int.ne_of_gt g) ?_
  calc gcdZ p q * (nT p q * q) = (gcdZ p q * nT p q) * q := by rw [Int.mul_assoc]
    _ = sgZ q * p * q := by rw [e1]
    _ = p * (sgZ q * q) := by rw [Int.mul_comm (sgZ q) p, Int.mul_assoc]
    _ = p * (gcdZ p q * nB p q) := by rw [e2]
    _ = gcdZ p q * (p * nB p q) := by rw [Int.mul_left_comm]
theorem low_n {p q : Int} (h : q ≠ 0) : Low (nT p q) (nB p q) := by
  refine ⟨nB_pos h, ?_⟩
  have g := gcdZ_pos (p := p) h
  have e1 := congrArg Int.natAbs (nT_mul (p := p) (q := q))
  have e2 := congrArg Int.natAbs (nB_mul (p := p) (q := q))
  have sg : (sgZ q).natAbs = 1 := by rcases sgZ_sq q with z | z <;> rw [z] <;> rfl
  rw [Int.natAbs_mul, Int.natAbs_mul, sg, Nat.one_mul] at e1 e2
  have gg : (gcdZ p q).natAbs = Nat.gcd p.natAbs q.natAbs := rfl
  rw [gg] at e1 e2
  have e3 := Nat.gcd_mul_left (Nat.gcd p.natAbs q.natAbs) (nT p q).natAbs (nB p q).natAbs
  rw [e1, e2] at e3
  have g2 : 0 < Nat.gcd p.natAbs q.natAbs := Nat.gcd_pos_of_pos_right _ (by omega)
  exact Nat.eq_of_mul_eq_mul_left g2 (by rw [Nat.mul_one]; exact e3.symm)
/-- two fractions in lowest terms that are equal are the same -/
theorem low_unique {t b t' b' : Int} (h : Low t b) (h' : Low t' b') (e : t * b' = t' * b) : t = t' ∧ b = b' := by
  obtain ⟨p, g⟩ := h
  obtain ⟨p', g'⟩ := h'
  have e' := congrArg Int.natAbs e
  rw [Int.natAbs_mul, Int.natAbs_mul] at e'
  have d1 : b.natAbs ∣ b'.natAbs := by
    have : b.natAbs ∣ t.natAbs * b'.natAbs := ⟨t'.natAbs, by rw [e', Nat.mul_comm]⟩
    exact (Nat.Coprime.dvd_of_dvd_mul_left (Nat.Coprime.symm g) this)
  have d2 : b'.natAbs ∣ b.natAbs := by
    have : b'.natAbs ∣ t'.natAbs * b.natAbs := ⟨t.natAbs, by rw [← e', Nat.mul_comm]⟩
    exact (Nat.Coprime.dvd_of_dvd_mul_left (Nat.Coprime.symm g') this)
  have eb : b = b' := by
    have := Nat.dvd_antisymm d1 d2
    omega
  subst eb
  exact ⟨Int.eq_of_mul_eq_mul_right (by omega) e, rfl⟩
theorem n_unique {p q t b : Int} (hq : q ≠ 0) (h : Low t b) (e : t * q = p * b) : nT p q = t ∧ nB p q = b := by
  refine low_unique (low_n hq) h ?_
  have c := cross (p := p) hq
  refine Int.eq_of_mul_eq_mul_left hq ?_
  calc q * (nT p q * b) = (nT p q * q) * b := by rw [← Int.mul_assoc, Int.mul_comm q]
    _ = p * nB p q * b := by rw [c]
    _ = (p * b) * nB p q := by rw [Int.mul_right_comm]
    _ = t * q * nB p q := by rw [e]
    _ = q * (t * nB p q) := by rw [Int.mul_comm t q, Int.mul_assoc]
theorem low_int (i : Int) : Low i 1 := ⟨by decide, by simp⟩
theorem low_neg {t b : Int} (h : Low t b) : Low (-t) b := ⟨h.1, by rw [Int.natAbs_neg]; exact h.2⟩
theorem low_abs {t b : Int} (h : Low t b) : Low (if t < 0 then -t else t) b := by split; exact low_neg h; exact h
theorem n_self {t b : Int} (h : Low t b) : nT t b = t ∧ nB t b = b := n_unique (by have := h.1; omega) h rfl
theorem nT_le {p q : Int} (h : q ≠ 0) : (nT p q).natAbs ≤ p.natAbs := by
  have e1 := congrArg Int.natAbs (nT_mul (p := p) (q := q))
  have sg : (sgZ q).natAbs = 1 := by rcases sgZ_sq q with z | z <;> rw [z] <;> rfl
  rw [Int.natAbs_mul, Int.natAbs_mul, sg, Nat.one_mul] at e1
  have g := gcdZ_pos (p := p) h
  have : 1 ≤ (gcdZ p q).natAbs := by omega
  calc (nT p q).natAbs = 1 * (nT p q).natAbs := (Nat.one_mul _).symm
    _ ≤ (gcdZ p q).natAbs * (nT p q).natAbs := Nat.mul_le_mul_right _ this
    _ = p.natAbs := e1
theorem nB_le {p q : Int} (h : q ≠ 0) : (nB p q).natAbs ≤ q.natAbs := by
  have e1 := congrArg Int.natAbs (nB_mul (p := p) (q := q))
  have sg : (sgZ q).natAbs = 1 := by rcases sgZ_sq q with z | z <;> rw [z] <;> rfl
  rw [Int.natAbs_mul, Int.natAbs_mul, sg, Nat.one_mul] at e1
  have g := gcdZ_pos (p := p) h
  have : 1 ≤ (gcdZ p q).natAbs := by omega
  calc (nB p q).natAbs = 1 * (nB p q).natAbs := (Nat.one_mul _).symm
    _ ≤ (gcdZ p q).natAbs * (nB p q).natAbs := Nat.mul_le_mul_right _ this
    _ = q.natAbs := e1
/-- the divisor of the program: the gcd with the sign of q -/
theorem fdiv_sg {p q z : Int} (h : q ≠ 0) (d : gcdZ p q ∣ z) : z.fdiv (if q < 0 then -(gcdZ p q) else gcdZ p q) = (sgZ q * z) / gcdZ p q := by
  have g := gcdZ_pos (p := p) h
  obtain ⟨k, rfl⟩ := d
  unfold sgZ
  split
  · have e : gcdZ p q * k = -(gcdZ p q) * -k := (Int.neg_mul_neg _ _).symm
    have e2 : -1 * (gcdZ p q * k) = gcdZ p q * -k := by rw [Int.neg_one_mul, Int.mul_neg]
    rw [e2, Int.mul_ediv_cancel_left _ (Int.ne_of_gt g), e, Int.mul_fdiv_cancel_left _ (by omega)]
  · rw [Int.one_mul, Int.fdiv_eq_ediv_of_nonneg _ (Int.le_of_lt g)]
/-- floor division of a fraction in lowest terms is that of p by q -/
theorem floor_n {p q : Int} (h : q ≠ 0) : nT p q / nB p q = p.fdiv q := by
  have g := gcdZ_pos (p := p) h
  have e1 := nT_mul (p := p) (q := q)
  have e2 := nB_mul (p := p) (q := q)
  have b := nB_pos (p := p) h
  have z : (gcdZ p q * nT p q) / (gcdZ p q * nB p q) = nT p q / nB p q := Int.mul_ediv_mul_of_pos _ _ g
  have pos : 0 ≤ sgZ q * q := by rw [sgZ_abs]; omega
  rw [← z, e1, e2, ← Int.fdiv_eq_ediv_of_nonneg _ pos]
  rcases sgZ_sq q with s | s
  · rw [s, Int.one_mul, Int.one_mul]
  · rw [s, Int.neg_one_mul, Int.neg_one_mul, Int.neg_fdiv_neg]
end HX

set_option Elab.async false
set_option linter.all false
set_option maxRecDepth 100000
set_option maxHeartbeats 2000000
namespace HX
open PySem PySem.Spec PyProof.Rows L2

/-! ### one side alone -/
def rOwL (C : Addr) (sp : Sp) (E : XK) : L2.R2 := fun x y H Q => match x, y with
  | .ref a, .ref b => IsI C H a ∧ IsI C H b ∧ sp [.ref a, .ref b] H Q E
  | .ref a, .int j => IsI C H a ∧ sp [.ref a, .int j] H Q E
  | _, _ => False
def rOwR (C : Addr) (r0 : L2.R2) (sp : Sp) (E : XK) : L2.R2 := fun x y H Q => match x, y with
  | .int i, .ref b => IsI C H b ∧ sp [.ref b, .int i] H Q E
  | .int i, .int j => r0 (.int i) (.int j) H Q
  | _, _ => False
section
variable {X : Cx} {C f g : Addr} {fd : FuncData} {ps : List Str} {sp : Sp} {CY : CXT} {k : Nat} {E : XK} {op : Operator} {idl : String} {r0 : L2.R2}
theorem op_owL (io : PySem.HXO.IntOp op idl) (O : PySem.HXO.OwnOp X.K C op f g) (Ff : FnOk X.prog X.w X.K X.mg X.base CY k f fd ps sp) (bf : Binds X.K fd ps []) (hr : Room k X.A) (hx : Passes CY X E) : OpR X (binaryOp op) (rOwL C sp E) := by
  intro pins s σ H x y v u Q I rx ry q
  unfold rOwL at q
  split at q
  · obtain ⟨i1, i2, q⟩ := q
    cases rx
    cases ry
    obtain ⟨dx, od, J, ho⟩ := inst_at I i1
    obtain ⟨dy, od2, J2, ho2⟩ := inst_at I i2
    rename_i a b
    have rv : Vals [V.ref a, V.ref b] [Value.ref a, Value.ref b] := .cons rfl (.cons rfl .nil)
    exact PySem.HXO.binE I.kIn J J2 O.first O.hs O.hf (wpAny_mono (run_fn Ff hr bf .nil hx I rv (by rw [List.append_nil]; exact q)) (fun u s' h => ep_own h) fun _ _ z => z)
  · obtain ⟨i1, q⟩ := q
    cases rx
    obtain ⟨t, rfl⟩ := (show ∃ t, u = Value.int _ t from ry)
    obtain ⟨dx, od, J, ho⟩ := inst_at I i1
    obtain ⟨r, rU⟩ := io.rU
    rename_i a j
    have rv : Vals [V.ref a, V.int j] [Value.ref a, Value.int j t] := .cons rfl (.cons ⟨t, rfl⟩ .nil)
    exact PySem.HXO.binL I.kIn J rfl O.first io.fU rU (PySem.HXO.int_not C) O.hs O.hr O.hf (wpAny_mono (run_fn Ff hr bf .nil hx I rv (by rw [List.append_nil]; exact q)) (fun u s' h => ep_own h) fun _ _ z => z)
  · exact q.elim
theorem op_owR (io : PySem.HXO.IntOp op idl) (h0 : OpR X (binaryOp op) r0) (O : PySem.HXO.OwnOp X.K C op f g) (Fg : FnOk X.prog X.w X.K X.mg X.base CY k g fd ps sp) (bg : Binds X.K fd ps []) (hr : Room k X.A) (hx : Passes CY X E) : OpR X (binaryOp op) (rOwR C r0 sp E) := by
  intro pins s σ H x y v u Q I rx ry q
  unfold rOwR at q
  split at q
  · obtain ⟨i1, q⟩ := q
    cases ry
    obtain ⟨t, rfl⟩ := (show ∃ t, v = Value.int _ t from rx)
    obtain ⟨dx, od, J, ho⟩ := inst_at I i1
    rename_i j a
    have rv : Vals [V.ref a, V.int j] [Value.ref a, Value.int j t] := .cons rfl (.cons ⟨t, rfl⟩ .nil)
    exact PySem.HXO.binR I.kIn J rfl (typeIs_int s _ t) O.first io.fU O.sub io.sl (fun Q z => io.ni ho z) O.hs O.hr O.hg (wpAny_mono (run_fn Fg hr bg .nil hx I rv (by rw [List.append_nil]; exact q)) (fun u s' h => ep_own h) fun _ _ z => z)
  · exact h0 pins s σ H _ _ v u Q I rx ry q
  · exact q.elim
/-- // by any int but 0, below 2 ^ 9000 -/
def CDivZ (_ j : Int) : Prop := j ≠ 0 ∧ j.natAbs.log2 < 9000
theorem o_fdivZ : OpR X (binaryOp .FloorDiv) (rI2 CDivZ fun i j => .int (i.fdiv j)) := opC (opI fun _ _ _ _ _ _ _ hc q => floordiv_int hc.1 q (.inl (PyProof.noPylong_of_log2 hc.2)))
theorem o_mulW : OpR X (binaryOp .Mult) (rI2 CMulW fun i j => .int (i * j)) := opC op_mulW
end

/-! ### amounts: top t, bottom b -/
def afs (t b : Int) : List (Str × V) := [("top", .int t), ("bottom", .int b)]
def Am (A : Addr) (H : Hp) (a : Addr) (t b : Int) : Prop := ∃ dx, H a = some (.ins A dx (afs t b))
/-- an amount or an int -/
def Nu (A : Addr) (H : Hp) (v : V) (t b : Int) : Prop := (∃ a, v = .ref a ∧ Am A H a t b) ∨ (v = .int t ∧ b = 1)
/-- fewer than n bits -/
def Sm (n : Nat) (i : Int) : Prop := i.natAbs < 2 ^ n
theorem Am.mo {A : Addr} {H G : Hp} {a : Addr} {t b : Int} (s : Same H G) : Am A H a t b → Am A G a t b := fun ⟨dx, e⟩ => ⟨dx, s _ _ e⟩
theorem Nu.mo {A : Addr} {H G : Hp} {v : V} {t b : Int} (s : Same H G) : Nu A H v t b → Nu A G v t b := fun h => h.elim (fun ⟨a, e, z⟩ => .inl ⟨a, e, z.mo s⟩) .inr
theorem Am.isI {A : Addr} {H : Hp} {a : Addr} {t b : Int} (h : Am A H a t b) : IsI A H a := let ⟨dx, e⟩ := h; ⟨dx, _, e⟩
/-- a new amount is the answer -/
def QA (A : Addr) (H : Hp) (Q : VK) (t b : Int) : Prop := ∀ r G, H r = none → Same H G → Am A G r t b → Q (.ref r) G
theorem QA.mo {A : Addr} {H G : Hp} {Q : VK} {t b : Int} (s : Same H G) (h : QA A H Q t b) : QA A G Q t b := fun r G' n s' a => h r G' (s.free n) (s.trans s') a
theorem Sm.mono {m n : Nat} {i : Int} (h : Sm m i) (le : m ≤ n) : Sm n i := Nat.lt_of_lt_of_le h (Nat.pow_le_pow_right (by decide) le)
theorem Sm.mul {m n : Nat} {i j : Int} (h : Sm m i) (k : Sm n j) : Sm (m + n) (i * j) := wide_lt h k
theorem Sm.add {n : Nat} {i j : Int} (h : Sm n i) (k : Sm n j) : Sm (n + 1) (i + j) := by
  unfold Sm at *
  rw [Nat.pow_succ]
  omega
theorem Sm.neg {n : Nat} {i : Int} (h : Sm n i) : Sm n (-i) := by
  unfold Sm at *
  rw [Int.natAbs_neg]
  exact h
theorem Sm.cMul {m n : Nat} {i j : Int} (h : Sm m i) (k : Sm n j) (hm : 0 < m := by decide) (hn : 0 < n := by decide) (le : m + n ≤ 1000000 := by decide) : CMulW i j := wide_mul h k hm hn le
theorem Sm.cDiv {n : Nat} {i j : Int} (h : Sm n j) (z : j ≠ 0) (hn : 0 < n := by decide) (le : n ≤ 9000 := by decide) : CDivZ i j := ⟨z, Nat.lt_of_lt_of_le (PySem.Flt.log2_lt_of hn h) le⟩
theorem Sm.nT {n : Nat} {p q : Int} (h : Sm n p) (z : q ≠ 0) : Sm n (nT p q) := Nat.lt_of_le_of_lt (nT_le z) h
theorem Sm.nB {n : Nat} {p q : Int} (h : Sm n q) (z : q ≠ 0) : Sm n (nB p q) := Nat.lt_of_le_of_lt (nB_le z) h
theorem sm_one : Sm 1 1 := by unfold Sm; decide

/-! ### what the parts of Amount promise -/
def spIsInt (A : Addr) : Sp := fun vs H Q _ => ∃ v, vs = [v] ∧ (((∃ i, v = .int i) ∧ Q (.bl true) H) ∨ ∃ a, v = .ref a ∧ IsI A H a ∧ Q (.bl false) H)
def spInit (A : Addr) : Sp := fun vs H Q _ => ∃ (x dx : Addr) (p q : Int), vs = [.ref x, .int p, .int q] ∧ H x = some (.ins A dx []) ∧ q ≠ 0 ∧ Sm 900 p ∧ Sm 900 q ∧
  ∀ G, (∀ b o, b ≠ x → H b = some o → G b = some o) → G x = some (.ins A dx (afs (nT p q) (nB p q))) → Q .non G
def spIsNum (A : Addr) : Sp := fun vs H Q _ => ∃ v t b, vs = [v] ∧ Nu A H v t b ∧ Q (.bl true) H
def spOf (A : Addr) : Sp := fun vs H Q _ => ∃ v t b, vs = [v] ∧ Nu A H v t b ∧ Sm 900 t ∧ ∀ r G, Same H G → Am A G r t b → Q (.ref r) G
/-- self and a number: a new amount -/
def spBin (A : Addr) (n : Nat) (p q : Int → Int → Int → Int → Int) : Sp := fun vs H Q _ => ∃ (a : Addr) (v : V) (t b c d : Int), vs = [.ref a, v] ∧ Am A H a t b ∧ Nu A H v c d ∧ Low t b ∧ Low c d ∧ Sm n t ∧ Sm n b ∧ Sm n c ∧ Sm n d ∧ q t b c d ≠ 0 ∧ QA A H Q (nT (p t b c d) (q t b c d)) (nB (p t b c d) (q t b c d))
theorem mkA {A : Addr} {H : Hp} {Q : VK} {E : XK} {p q : Int} (z : q ≠ 0) (sp : Sm 900 p) (sq : Sm 900 q) (k : QA A H Q (nT p q) (nB p q)) : ∀ x dx, H x = none → H dx = none → dx ≠ x →
    spInit A (.ref x :: [.int p, .int q]) (upd (upd H dx (.own x)) x (.ins A dx [])) (fun v H2 => v = .non ∧ Q (.ref x) H2) E := fun x dx nx nd ne =>
  ⟨x, dx, p, q, rfl, upd_same, z, sp, sq, fun G kp gx => ⟨rfl, k x G nx (fun b o e => kp b o (ne_of_none e nx) (by rw [upd_ne (ne_of_none e nx), upd_ne (ne_of_none e nd)]; exact e)) ⟨dx, gx⟩⟩⟩
end HX

set_option Elab.async false
set_option linter.all false
set_option maxRecDepth 100000
set_option maxHeartbeats 2000000
/-! ### comparisons of own instances -/
namespace PySem
namespace HXC
open W Builtin PyProof.Rows
section
variable {prog : Program} {w : World} {A : Around} {E : Value → Shared → Prop} {s : Shared} {K : Frag} {x C f : Addr} {ox : Obj} {od : Option Obj}
theorem try_own {b : Value} {name : Str} {Q : Value → Shared → Prop} (X : K.In s.heap) (I : InstAt s.heap x ox C od) (hs : findIn K (.ref C) name = some (some (.ref f))) (hf : isFn K (.ref f) = true)
    (h : wpAny (model prog w) A (call (.ref f) [.ref x, b]) (W.CmpBack Q) E s) : wpAny (model prog w) A (tryCompare (.ref x) name b) (fun r s2 => ∃ v, r = some v ∧ Q v s2) E s := by
  unfold tryCompare
  refine wpAny_bind (ifBound_K X I hs hf (wpAny_mono h (fun v s2 hv => ?_) fun _ _ z => z))
  cases v <;> first | exact hv.elim | exact (wpAny_pure ⟨_, rfl, hv⟩)
/-- x o b, b of a built-in type -/
theorem cmL {op : CmpOp} {b : Value} {T : String} {Q : Value → Shared → Prop} (hu : A.units < cLine) (X : K.In s.heap) (I : InstAt s.heap x ox C od) (hb : s.TypeIs b T) (hsub : isSubtype (.type T) (.ref C) = pure false)
    (hs : findIn K (.ref C) (cmpInfo op).2.1 = some (some (.ref f))) (hf : isFn K (.ref f) = true)
    (h : wpAny (model prog w) A (call (.ref f) [.ref x, b]) (W.CmpBack Q) E s) : wpAny (model prog w) A (richCompare op (.ref x) b) Q E s := by
  have one := try_own X I hs hf h
  unfold richCompare
  simp only [oneThing_ref]
  refine wpAny_holding (wpAny_bind (wpAny_cRoomFor hu ?_))
  refine wpAny_bind (I.type.here (wpAny_bind (wpAny_typeOf hb ?_)))
  have ne : (Value.ref C != Value.type T) = true := by simp
  rw [if_pos ne]
  refine wpAny_bind (wpAny_of_eq hsub ?_)
  simp only [Bool.false_eq_true, if_false]
  refine wpAny_bind (wpAny_mono one (fun r s2 z => ?_) fun _ _ z => z)
  obtain ⟨v, rfl, hq⟩ := z
  exact (wpAny_pure hq)
/-- x o y of one class -/
theorem cmE {op : CmpOp} {y : Addr} {oy : Obj} {oe : Option Obj} {Q : Value → Shared → Prop} (hu : A.units < cLine) (X : K.In s.heap) (I : InstAt s.heap x ox C od) (J : InstAt s.heap y oy C oe)
    (hs : findIn K (.ref C) (cmpInfo op).2.1 = some (some (.ref f))) (hf : isFn K (.ref f) = true)
    (h : wpAny (model prog w) A (call (.ref f) [.ref x, .ref y]) (W.CmpBack Q) E s) : wpAny (model prog w) A (richCompare op (.ref x) (.ref y)) Q E s := by
  have one := try_own X I hs hf h
  unfold richCompare
  simp only [oneThing_ref]
  refine wpAny_holding (wpAny_bind (wpAny_cRoomFor hu ?_))
  refine wpAny_bind (I.type.here (wpAny_bind (J.type.here ?_)))
  have ne : (Value.ref C != Value.ref C) = false := by simp
  rw [if_neg (by rw [ne]; decide)]
  refine wpAny_bind (wpAny_pure ?_)
  simp only [Bool.false_eq_true, if_false]
  refine wpAny_bind (wpAny_mono one (fun r s2 z => ?_) fun _ _ z => z)
  obtain ⟨v, rfl, hq⟩ := z
  exact (wpAny_pure hq)
/-- v o x, v an int -/
theorem cmR {op : CmpOp} {i : Int} {t : Tok} {idl : String} {Q : Value → Shared → Prop} (hu : A.units < cLine) (X : K.In s.heap) (I : InstAt s.heap x ox C od) (hsub : subIn K (.ref C) (.type "int") = some false) (sl : Slot "int" (cmpInfo op).2.1 idl)
    (hN : ∀ Q : Value → Shared → Prop, Q .notImplemented s → wpAny (model prog w) A (call (.builtin idl) [.int i t, .ref x]) Q E s)
    (hs : findIn K (.ref C) (cmpInfo op).2.2 = some (some (.ref f))) (hf : isFn K (.ref f) = true)
    (h : wpAny (model prog w) A (call (.ref f) [.ref x, .int i t]) (W.CmpBack Q) E s) : wpAny (model prog w) A (richCompare op (.int i t) (.ref x)) Q E s := by
  have one := try_own X I hs hf h
  have hO : oneThing? op (.int i t) (.ref x) = none := by rfl
  unfold richCompare
  simp only [hO]
  refine wpAny_holding (wpAny_bind (wpAny_cRoomFor hu ?_))
  refine wpAny_bind (wpAny_of_eq (show typeOf (.int i t) = pure (.type "int") from rfl) (wpAny_bind (I.type.here ?_)))
  have ne : (Value.type "int" != Value.ref C) = true := by simp
  rw [if_pos ne]
  refine wpAny_bind ((looks_subIn X hsub).here ?_)
  simp only [Bool.false_eq_true, if_false, Bool.not_false, if_true]
  refine wpAny_bind (m := tryCompare (.int i t) _ (.ref x)) ?_
  unfold tryCompare
  refine wpAny_bind (wpAny_callSpecialIfBound?_slot (typeIs_int s i t) sl (hN _ ?_))
  refine (wpAny_pure ?_)
  refine wpAny_bind (wpAny_mono one (fun r s2 z => ?_) fun _ _ z => z)
  obtain ⟨v, rfl, hq⟩ := z
  exact (wpAny_pure hq)
theorem nc_lt {i : Int} {t : Tok} {dx : Addr} {Q : Value → Shared → Prop} (hx : s.heap.get? x = some (instObj C dx)) (h : Q .notImplemented s) : wpAny (model prog w) A (call (.builtin "int.__lt__") [.int i t, .ref x]) Q E s := by
  refine wpAny_call (codeAny_call_builtin F.slot_int_lt.plain F.entry_int_lt (F.slot_int_lt.check _ _ _ _ _ _ _ _ (typeIs_int s i t) (F.args_int_lt_2 _ _) ?_))
  unfold Builtin.«int.__lt__»
  refine (by (repeat (first | with_reducible refine wpAny_loadPart_at hx ?_ | with_reducible refine wpAny_load hx ?_ | wp_step)); exact h)
theorem nc_le {i : Int} {t : Tok} {dx : Addr} {Q : Value → Shared → Prop} (hx : s.heap.get? x = some (instObj C dx)) (h : Q .notImplemented s) : wpAny (model prog w) A (call (.builtin "int.__le__") [.int i t, .ref x]) Q E s := by
  refine wpAny_call (codeAny_call_builtin F.slot_int_le.plain F.entry_int_le (F.slot_int_le.check _ _ _ _ _ _ _ _ (typeIs_int s i t) (F.args_int_le_2 _ _) ?_))
  unfold Builtin.«int.__le__»
  refine (by (repeat (first | with_reducible refine wpAny_loadPart_at hx ?_ | with_reducible refine wpAny_load hx ?_ | wp_step)); exact h)
theorem nc_gt {i : Int} {t : Tok} {dx : Addr} {Q : Value → Shared → Prop} (hx : s.heap.get? x = some (instObj C dx)) (h : Q .notImplemented s) : wpAny (model prog w) A (call (.builtin "int.__gt__") [.int i t, .ref x]) Q E s := by
  refine wpAny_call (codeAny_call_builtin F.slot_int_gt.plain F.entry_int_gt (F.slot_int_gt.check _ _ _ _ _ _ _ _ (typeIs_int s i t) (F.args_int_gt_2 _ _) ?_))
  unfold Builtin.«int.__gt__»
  refine (by (repeat (first | with_reducible refine wpAny_loadPart_at hx ?_ | with_reducible refine wpAny_load hx ?_ | wp_step)); exact h)
theorem nc_ge {i : Int} {t : Tok} {dx : Addr} {Q : Value → Shared → Prop} (hx : s.heap.get? x = some (instObj C dx)) (h : Q .notImplemented s) : wpAny (model prog w) A (call (.builtin "int.__ge__") [.int i t, .ref x]) Q E s := by
  refine wpAny_call (codeAny_call_builtin F.slot_int_ge.plain F.entry_int_ge (F.slot_int_ge.check _ _ _ _ _ _ _ _ (typeIs_int s i t) (F.args_int_ge_2 _ _) ?_))
  unfold Builtin.«int.__ge__»
  refine (by (repeat (first | with_reducible refine wpAny_loadPart_at hx ?_ | with_reducible refine wpAny_load hx ?_ | wp_step)); exact h)
theorem nc_eq {i : Int} {t : Tok} {dx : Addr} {Q : Value → Shared → Prop} (hx : s.heap.get? x = some (instObj C dx)) (h : Q .notImplemented s) : wpAny (model prog w) A (call (.builtin "int.__eq__") [.int i t, .ref x]) Q E s := by
  refine wpAny_call (codeAny_call_builtin F.slot_int_eq.plain F.entry_int_eq (F.slot_int_eq.check _ _ _ _ _ _ _ _ (typeIs_int s i t) (F.args_int_eq_2 _ _) ?_))
  unfold Builtin.«int.__eq__»
  refine (by (repeat (first | with_reducible refine wpAny_loadPart_at hx ?_ | with_reducible refine wpAny_load hx ?_ | wp_step)); exact h)
end
end HXC
end PySem
namespace HX
open PySem PySem.Spec PyProof.Rows L2
/-- a class's methods of a comparison: f of o, g of its mirror -/
structure CmpO (K : PySem.W.Frag) (C : Addr) (op : CmpOp) (f g : Addr) (idl : String) : Prop where
  sub : PySem.W.subIn K (.ref C) (.type "int") = some false
  hs : PySem.W.findIn K (.ref C) (cmpInfo op).2.1 = some (some (.ref f))
  hr : PySem.W.findIn K (.ref C) (cmpInfo op).2.2 = some (some (.ref g))
  hf : PySem.W.isFn K (.ref f) = true
  hg : PySem.W.isFn K (.ref g) = true
  rich : ∀ a b, compareOp op a b = richCompare op a b
  sl : Slot "int" (cmpInfo op).2.1 idl
  ni : ∀ {prog : Program} {w : World} {A : Around} {E : Value → Shared → Prop} {s : Shared} {x C dx : Addr} {i : Int} {t : Tok} {Q : Value → Shared → Prop}, s.heap.get? x = some (PySem.W.instObj C dx) → Q .notImplemented s → wpAny (model prog w) A (call (.builtin idl) [.int i t, .ref x]) Q E s
theorem op_cm {X : Cx} {C f g : Addr} {op : CmpOp} {idl : String} {r0 : L2.R2} {ff fg : FuncData} {pf pg : List Str} {spF spG : Sp} {CY : CXT} {k : Nat} {E : XK} (h0 : OpR X (compareOp op) r0) (O : CmpO X.K C op f g idl)
    (Ff : FnOk X.prog X.w X.K X.mg X.base CY k f ff pf spF) (Fg : FnOk X.prog X.w X.K X.mg X.base CY k g fg pg spG) (bf : Binds X.K ff pf []) (bg : Binds X.K fg pg []) (hr : Room k X.A) (hx : Passes CY X E) : OpR X (compareOp op) (rOw C r0 spF spG E) := by
  intro pins s σ H x y v u Q I rx ry q
  have hu := hr.units0
  unfold rOw at q
  split at q
  · obtain ⟨i1, i2, q⟩ := q
    cases rx
    cases ry
    obtain ⟨dx, od, J, ho⟩ := inst_at I i1
    obtain ⟨dy, od2, J2, ho2⟩ := inst_at I i2
    rename_i a b
    have rv : Vals [V.ref a, V.ref b] [Value.ref a, Value.ref b] := .cons rfl (.cons rfl .nil)
    rw [O.rich]
    exact PySem.HXC.cmE hu I.kIn J J2 O.hs O.hf (wpAny_mono (run_fn Ff hr bf .nil hx I rv (by rw [List.append_nil]; exact q)) (fun u s2 h => ep_own h) fun _ _ z => z)
  · obtain ⟨i1, q⟩ := q
    cases rx
    obtain ⟨t, rfl⟩ := (show ∃ t, u = Value.int _ t from ry)
    obtain ⟨dx, od, J, ho⟩ := inst_at I i1
    rename_i a j
    have rv : Vals [V.ref a, V.int j] [Value.ref a, Value.int j t] := .cons rfl (.cons ⟨t, rfl⟩ .nil)
    rw [O.rich]
    exact PySem.HXC.cmL hu I.kIn J (typeIs_int s _ t) (PySem.HXO.int_not C) O.hs O.hf (wpAny_mono (run_fn Ff hr bf .nil hx I rv (by rw [List.append_nil]; exact q)) (fun u s2 h => ep_own h) fun _ _ z => z)
  · obtain ⟨i1, q⟩ := q
    cases ry
    obtain ⟨t, rfl⟩ := (show ∃ t, v = Value.int _ t from rx)
    obtain ⟨dx, od, J, ho⟩ := inst_at I i1
    rename_i j a
    have rv : Vals [V.ref a, V.int j] [Value.ref a, Value.int j t] := .cons rfl (.cons ⟨t, rfl⟩ .nil)
    rw [O.rich]
    exact PySem.HXC.cmR hu I.kIn J O.sub O.sl (fun Q z => O.ni ho z) O.hr O.hg (wpAny_mono (run_fn Fg hr bg .nil hx I rv (by rw [List.append_nil]; exact q)) (fun u s2 h => ep_own h) fun _ _ z => z)
  · exact h0 pins s σ H _ _ v u Q I rx ry q
  · exact q.elim
theorem cmpO_lt {K : PySem.W.Frag} {C f g : Addr} (sub : PySem.W.subIn K (.ref C) (.type "int") = some false) (hs : PySem.W.findIn K (.ref C) "__lt__" = some (some (.ref f))) (hr : PySem.W.findIn K (.ref C) "__gt__" = some (some (.ref g))) (hf : PySem.W.isFn K (.ref f) = true) (hg : PySem.W.isFn K (.ref g) = true) : CmpO K C .Lt f g "int.__lt__" := ⟨sub, hs, hr, hf, hg, fun _ _ => rfl, F.slot_int_lt, PySem.HXC.nc_lt⟩
theorem cmpO_le {K : PySem.W.Frag} {C f g : Addr} (sub : PySem.W.subIn K (.ref C) (.type "int") = some false) (hs : PySem.W.findIn K (.ref C) "__le__" = some (some (.ref f))) (hr : PySem.W.findIn K (.ref C) "__ge__" = some (some (.ref g))) (hf : PySem.W.isFn K (.ref f) = true) (hg : PySem.W.isFn K (.ref g) = true) : CmpO K C .LtE f g "int.__le__" := ⟨sub, hs, hr, hf, hg, fun _ _ => rfl, F.slot_int_le, PySem.HXC.nc_le⟩
theorem cmpO_gt {K : PySem.W.Frag} {C f g : Addr} (sub : PySem.W.subIn K (.ref C) (.type "int") = some false) (hs : PySem.W.findIn K (.ref C) "__gt__" = some (some (.ref f))) (hr : PySem.W.findIn K (.ref C) "__lt__" = some (some (.ref g))) (hf : PySem.W.isFn K (.ref f) = true) (hg : PySem.W.isFn K (.ref g) = true) : CmpO K C .Gt f g "int.__gt__" := ⟨sub, hs, hr, hf, hg, fun _ _ => rfl, F.slot_int_gt, PySem.HXC.nc_gt⟩
theorem cmpO_ge {K : PySem.W.Frag} {C f g : Addr} (sub : PySem.W.subIn K (.ref C) (.type "int") = some false) (hs : PySem.W.findIn K (.ref C) "__ge__" = some (some (.ref f))) (hr : PySem.W.findIn K (.ref C) "__le__" = some (some (.ref g))) (hf : PySem.W.isFn K (.ref f) = true) (hg : PySem.W.isFn K (.ref g) = true) : CmpO K C .GtE f g "int.__ge__" := ⟨sub, hs, hr, hf, hg, fun _ _ => rfl, F.slot_int_ge, PySem.HXC.nc_ge⟩
theorem cmpO_eq {K : PySem.W.Frag} {C f : Addr} (sub : PySem.W.subIn K (.ref C) (.type "int") = some false) (hs : PySem.W.findIn K (.ref C) "__eq__" = some (some (.ref f))) (hf : PySem.W.isFn K (.ref f) = true) : CmpO K C .Eq f f "int.__eq__" := ⟨sub, hs, hs, hf, hf, fun _ _ => rfl, F.slot_int_eq, PySem.HXC.nc_eq⟩
end HX

set_option Elab.async false
set_option linter.all false
set_option maxRecDepth 100000
set_option maxHeartbeats 2000000
/-! ### != of own instances without a method of their own for it, their text, their truth -/
namespace PySem
namespace HXN
open W Builtin PyProof.Rows
section
variable {prog : Program} {w : World} {A : Around} {E : Value → Shared → Prop} {s : Shared} {K : Frag} {x C f : Addr} {ox : Obj} {od : Option Obj}
theorem bound_ne {M : Model} {args : List Value} {Q : Option Value → Shared → Prop} (X : K.In s.heap) (I : InstAt s.heap x ox C od) (hn : findIn K (.ref C) "__ne__" = some (some (.builtin "object.__ne__")))
    (z : wpAny M A (call (.builtin "object.__ne__") (.ref x :: args)) (fun v => Q (some v)) E s) : wpAny M A (callSpecialIfBound? (.ref x) "__ne__" args) Q E s := by
  simp only [callSpecialIfBound?, bindSpecialIfBound?]
  refine wpAny_holding (wpAny_bind (wpAny_bind (wpAny_bind (I.type.here ((looks_findIn X hn).here ?_)))))
  refine wpAny_bind (wpAny_askSetting (wpAny_ite ?_))
  have after : wpAny M A (call (.builtin "object.__ne__") ([.ref x] ++ args) >>= fun v => pure (some v)) Q E s := wpAny_bind (wpAny_mono z (fun v s1 q => wpAny_pure q) fun _ _ q => q)
  split
  · exact wpAny_bind (wpAny_of_eq (PySem.F.cmp_object.ne.bind _) (wpAny_pure (by exact after)))
  · exact wpAny_tryCatch (wpAny_bind (wpAny_of_eq (PySem.F.cmp_object.ne.bind _) (wpAny_pure (by exact after))))
theorem ne_does {b : Value} {Q : Fin → Shared → Prop} (hu : A.units < cLine) (X : K.In s.heap) (I : InstAt s.heap x ox C od) (hs : findIn K (.ref C) "__eq__" = some (some (.ref f))) (hf : isFn K (.ref f) = true)
    (z : wpAny (model prog w) A (call (.ref f) [.ref x, b]) (fun v s1 => ∃ c, v = .bool c ∧ Q (.done (.ret (.bool (!c)))) s1) E s) : wpAny (model prog w) A (Builtin.«object.__ne__» ⟨[.ref x, b], []⟩) Q E s := by
  unfold Builtin.«object.__ne__»
  repeat (first
    | with_reducible refine wpAny_cRoomFor hu ?_
    | (refine wpAny_bind (m := callSpecialIfBound? (.ref x) (Str.ofString "__eq__") [b]) (ifBound_K X I hs hf (wpAny_mono z (fun r s1 q => by
          obtain ⟨c, rfl, q⟩ := q
          repeat (first | exact q | exact wpAny_pure q | exact wpAny_truthy_bool q | (refine wpAny_bind (m := truthy (.bool _)) (wpAny_truthy_bool ?_)) | wp_step)) fun _ _ q => q)))
    | wp_step)
theorem try_ne {b : Value} {Q : Value → Shared → Prop} (hu : A.in1.units < cLine) (X : K.In s.heap) (I : InstAt s.heap x ox C od) (hm : mroIn K C (.type "object") = some true) (hn : findIn K (.ref C) "__ne__" = some (some (.builtin "object.__ne__")))
    (hs : findIn K (.ref C) "__eq__" = some (some (.ref f))) (hf : isFn K (.ref f) = true)
    (z : wpAny (model prog w) A.in1 (call (.ref f) [.ref x, b]) (fun v s1 => ∃ c, v = .bool c ∧ Q (.bool (!c)) s1) E s) : wpAny (model prog w) A (tryCompare (.ref x) "__ne__" b) (fun r s1 => ∃ v, r = some v ∧ Q v s1) E s := by
  unfold tryCompare
  refine wpAny_bind (bound_ne X I hn (wpAny_call (codeAny_call_builtin PySem.F.cmp_object.ne.plain PySem.F.cmpEntry_ne (check_slot PySem.F.cmpKind_ne PySem.F.cmpSplit_ne (I.type.andThen (looks_mroIn X hm)) (PySem.F.cmpArgs_ne _ _)
    (ne_does (A := A.in1) hu X I hs hf (wpAny_mono z (fun v s1 q => ?_) fun _ _ q => q))))))
  obtain ⟨c, rfl, q⟩ := q
  exact ⟨c, rfl, wpAny_pure ⟨_, rfl, q⟩⟩
/-- x o b, by what the first method says -/
theorem oL {op : CmpOp} {b : Value} {T : String} {Q : Value → Shared → Prop} (hu : A.units < cLine) (I : InstAt s.heap x ox C od) (hb : s.TypeIs b T) (hsub : isSubtype (.type T) (.ref C) = pure false)
    (one : wpAny (model prog w) A (tryCompare (.ref x) (cmpInfo op).2.1 b) (fun r s2 => ∃ v, r = some v ∧ Q v s2) E s) : wpAny (model prog w) A (richCompare op (.ref x) b) Q E s := by
  unfold richCompare
  simp only [oneThing_ref]
  refine wpAny_holding (wpAny_bind (wpAny_cRoomFor hu ?_))
  refine wpAny_bind (I.type.here (wpAny_bind (wpAny_typeOf hb ?_)))
  have ne : (Value.ref C != Value.type T) = true := by simp
  rw [if_pos ne]
  refine wpAny_bind (wpAny_of_eq hsub ?_)
  simp only [Bool.false_eq_true, if_false]
  refine wpAny_bind (wpAny_mono one (fun r s2 z => ?_) fun _ _ z => z)
  obtain ⟨v, rfl, hq⟩ := z
  exact (wpAny_pure hq)
theorem oE {op : CmpOp} {y : Addr} {oy : Obj} {oe : Option Obj} {Q : Value → Shared → Prop} (hu : A.units < cLine) (I : InstAt s.heap x ox C od) (J : InstAt s.heap y oy C oe)
    (one : wpAny (model prog w) A (tryCompare (.ref x) (cmpInfo op).2.1 (.ref y)) (fun r s2 => ∃ v, r = some v ∧ Q v s2) E s) : wpAny (model prog w) A (richCompare op (.ref x) (.ref y)) Q E s := by
  unfold richCompare
  simp only [oneThing_ref]
  refine wpAny_holding (wpAny_bind (wpAny_cRoomFor hu ?_))
  refine wpAny_bind (I.type.here (wpAny_bind (J.type.here ?_)))
  have ne : (Value.ref C != Value.ref C) = false := by simp
  rw [if_neg (by rw [ne]; decide)]
  refine wpAny_bind (wpAny_pure ?_)
  simp only [Bool.false_eq_true, if_false]
  refine wpAny_bind (wpAny_mono one (fun r s2 z => ?_) fun _ _ z => z)
  obtain ⟨v, rfl, hq⟩ := z
  exact (wpAny_pure hq)
theorem oR {op : CmpOp} {i : Int} {t : Tok} {idl : String} {Q : Value → Shared → Prop} (hu : A.units < cLine) (X : K.In s.heap) (I : InstAt s.heap x ox C od) (hsub : subIn K (.ref C) (.type "int") = some false) (sl : Slot "int" (cmpInfo op).2.1 idl)
    (hN : ∀ Q : Value → Shared → Prop, Q .notImplemented s → wpAny (model prog w) A (call (.builtin idl) [.int i t, .ref x]) Q E s)
    (one : wpAny (model prog w) A (tryCompare (.ref x) (cmpInfo op).2.2 (.int i t)) (fun r s2 => ∃ v, r = some v ∧ Q v s2) E s) : wpAny (model prog w) A (richCompare op (.int i t) (.ref x)) Q E s := by
  have hO : oneThing? op (.int i t) (.ref x) = none := by rfl
  unfold richCompare
  simp only [hO]
  refine wpAny_holding (wpAny_bind (wpAny_cRoomFor hu ?_))
  refine wpAny_bind (wpAny_of_eq (show typeOf (.int i t) = pure (.type "int") from rfl) (wpAny_bind (I.type.here ?_)))
  have ne : (Value.type "int" != Value.ref C) = true := by simp
  rw [if_pos ne]
  refine wpAny_bind ((looks_subIn X hsub).here ?_)
  simp only [Bool.false_eq_true, if_false, Bool.not_false, if_true]
  refine wpAny_bind (m := tryCompare (.int i t) _ (.ref x)) ?_
  unfold tryCompare
  refine wpAny_bind (wpAny_callSpecialIfBound?_slot (typeIs_int s i t) sl (hN _ ?_))
  refine (wpAny_pure ?_)
  refine wpAny_bind (wpAny_mono one (fun r s2 z => ?_) fun _ _ z => z)
  obtain ⟨v, rfl, hq⟩ := z
  exact (wpAny_pure hq)
theorem nc_ne {i : Int} {t : Tok} {dx : Addr} {Q : Value → Shared → Prop} (hx : s.heap.get? x = some (instObj C dx)) (h : Q .notImplemented s) : wpAny (model prog w) A (call (.builtin "int.__ne__") [.int i t, .ref x]) Q E s := by
  refine wpAny_call (codeAny_call_builtin F.slot_int_ne.plain F.entry_int_ne (F.slot_int_ne.check _ _ _ _ _ _ _ _ (typeIs_int s i t) (F.args_int_ne_2 _ _) ?_))
  unfold Builtin.«int.__ne__»
  refine (by (repeat (first | with_reducible refine wpAny_loadPart_at hx ?_ | with_reducible refine wpAny_load hx ?_ | wp_step)); exact h)
/-- bool(x) -/
theorem truth_own {M : Model} {Q : Bool → Shared → Prop} (X : K.In s.heap) (I : InstAt s.heap x ox C od) (hs : findIn K (.ref C) "__bool__" = some (some (.ref f))) (hf : isFn K (.ref f) = true)
    (z : wpAny M A (call (.ref f) [.ref x]) (W.BoolBack Q) E s) : wpAny M A (truthy (.ref x)) Q E s := by
  unfold truthy
  refine wpAny_bind (m := callSpecial? (.ref x) (Str.ofString "__bool__")) (special_fn X I hs (beq_iff_eq.mp hf) (wpAny_mono z (fun r s1 q => ?_) fun _ _ q => q))
  cases r <;> first | exact q.elim | skip
  exact wpAny_pure q
theorem bool_own {Q : Value → Shared → Prop} (X : K.In s.heap) (I : InstAt s.heap x ox C od) (hs : findIn K (.ref C) "__bool__" = some (some (.ref f))) (hf : isFn K (.ref f) = true)
    (z : wpAny (model prog w) A.in1.in1 (call (.ref f) [.ref x]) (W.BoolBack fun c s1 => Q (.bool c) s1) E s) : wpAny (model prog w) A (call (.type "bool") [.ref x]) Q E s := by
  refine callType_codes (T := "bool") (Bi := Builtin.«object.__init__») (Q₁ := fun r s₁ => ∃ c, r = .bool c ∧ Q r s₁) PySem.F.called_bool (PySem.F.typeCall_bool_1 _) PySem.F.entry_object_init ?_ ?_
  · refine codeAny_of_tree ?_
    show wpAny _ A.in1.in1 (do checkBuiltinCall "bool.__new__" ⟨[.type "bool", .ref x], []⟩; again (.builtin "bool.__new__" ⟨[.type "bool", .ref x], []⟩)) _ _ s
    refine wpAny_bind (wpAny_of_eq (PySem.F.newCall_bool_1 _) (wpAny_pure ⟨plainId_quiet (by decide +kernel) _, codeAny_builtin PySem.F.entry_bool_new ?_⟩))
    rw [Around.under_plainId (by decide +kernel) _]
    have f1 := PySem.F.conv_sub_bool
    have z2 := truth_own (Q := fun c s1 => Q (.bool c) s1) X I hs hf z
    repeat (any_goals (first | assumption | (refine wpAny_bind (m := truthy (.ref x)) (wpAny_mono z2 (fun c s1 q => ?_) fun _ _ q => q)) | wp_step))
    all_goals first | exact ⟨_, rfl, q⟩ | exact ⟨_, rfl, ‹_›⟩ | skip
  · rintro obj s₁ ⟨c, rfl, hq⟩
    exact ⟨rfl, PySem.F.args_object_init_2 _ _, object_init_meets PySem.F.called_bool.init.lookup PySem.F.called_bool.made (by decide) prog w A.in1 _ s₁ ⟨rfl, rfl, hq⟩⟩
end
end HXN
end PySem
namespace HX
open PySem PySem.Spec PyProof.Rows L2
section
variable {X : Cx} {C f : Addr} {fd : FuncData} {ps : List Str} {sp : Sp} {CY : CXT} {k : Nat} {E : XK}
/-- a def called from within a built-in of the model -/
theorem run_at {A' : Around} {pins : List (Addr × Obj)} {σ : L2.St} {H : Hp} {s : Shared} {Q : VK} {us : List Value} {vs : List V} (Fi : FnOk X.prog X.w X.K X.mg X.base CY k f fd ps sp) (b : Binds X.K fd ps []) (hr : Room k A') (e0 : Env0 X.prog X.w X.K X.mg X.base A' X.stack s H)
    (hx : Passes CY X E) (I : Inv X pins σ H s) (r : Vals vs us) (h : sp vs H Q E) : wpAny (model X.prog X.w) A' (call (.ref f) us) (EP X pins σ Q) X.xe s := by
  have hl : (us ++ []).length = ps.length := by
    rw [List.append_nil, ← r.length]
    exact Fi.len _ _ _ _ h
  have bd := b s us I.kIn hl
  rw [List.append_nil] at bd
  refine wpAny_call (codeAny_mono (Fi.run A' X.stack s H ⟨us, []⟩ us vs Q E hr e0 bd r h) fun z s' hq => ?_)
  match z, hq with
  | .error e, hq => exact hx pins σ H s e s' I hq
  | .ok (.ret u), hq => exact I.after hq
  | .ok .next, hq => exact False.elim hq
  | .ok .brk, hq => exact False.elim hq
  | .ok .cont, hq => exact False.elim hq
/-- x != y of own instances and ints, by == -/
structure RNw (C : Addr) (r0 : L2.R2) (sp : Sp) (E : XK) (x y : V) (H : Hp) (Q : VK) : Prop where
  go : rOw C (fun x y H _ => r0 x y H Q) sp sp E x y H fun v G => ∃ c, v = .bl c ∧ Q (.bl (!c)) G
def rNw (C : Addr) (r0 : L2.R2) (sp : Sp) (E : XK) : L2.R2 := fun x y H Q => RNw C r0 sp E x y H Q
theorem ep_not {pins : List (Addr × Obj)} {σ : L2.St} {Q : VK} {u : Value} {s' : Shared} (h : EP X pins σ (fun v G => ∃ c, v = .bl c ∧ Q (.bl (!c)) G) u s') : ∃ c, u = .bool c ∧ EP X pins σ Q (.bool (!c)) s' := by
  obtain ⟨v, G, J, r, c, rfl, q⟩ := h
  exact ⟨c, r, .bl (!c), G, J, rfl, q⟩
theorem op_new {r0 : L2.R2} (h0 : OpR X (compareOp .NotEq) r0) (hsub : PySem.W.subIn X.K (.ref C) (.type "int") = some false) (hm : PySem.W.mroIn X.K C (.type "object") = some true) (hn : PySem.W.findIn X.K (.ref C) "__ne__" = some (some (.builtin "object.__ne__")))
    (hs : PySem.W.findIn X.K (.ref C) "__eq__" = some (some (.ref f))) (hf : PySem.W.isFn X.K (.ref f) = true) (Fi : FnOk X.prog X.w X.K X.mg X.base CY k f fd ps sp) (b : Binds X.K fd ps []) (hr : Room (k + 1) X.A) (hx : Passes CY X E) : OpR X (compareOp .NotEq) (rNw C r0 sp E) := by
  intro pins s σ H x y v u Q I rx ry q
  have hu := hr.units0
  have hu1 := (hr.in1).units0
  have rich : ∀ a b, compareOp .NotEq a b = richCompare .NotEq a b := fun _ _ => rfl
  replace q := q.go
  unfold rOw at q
  split at q
  · obtain ⟨i1, i2, q⟩ := q
    cases rx
    cases ry
    obtain ⟨dx, od, J, ho⟩ := inst_at I i1
    obtain ⟨dy, od2, J2, ho2⟩ := inst_at I i2
    rename_i a b'
    have rv : Vals [V.ref a, V.ref b'] [Value.ref a, Value.ref b'] := .cons rfl (.cons rfl .nil)
    rw [rich]
    exact PySem.HXN.oE hu J J2 (PySem.HXN.try_ne hu1 I.kIn J hm hn hs hf (wpAny_mono (run_at Fi b hr.in1 I.env0.in1 hx I rv q) (fun u s2 h => ep_not h) fun _ _ z => z))
  · obtain ⟨i1, q⟩ := q
    cases rx
    obtain ⟨t, rfl⟩ := (show ∃ t, u = Value.int _ t from ry)
    obtain ⟨dx, od, J, ho⟩ := inst_at I i1
    rename_i a j
    have rv : Vals [V.ref a, V.int j] [Value.ref a, Value.int j t] := .cons rfl (.cons ⟨t, rfl⟩ .nil)
    rw [rich]
    exact PySem.HXN.oL hu J (typeIs_int s _ t) (PySem.HXO.int_not C) (PySem.HXN.try_ne hu1 I.kIn J hm hn hs hf (wpAny_mono (run_at Fi b hr.in1 I.env0.in1 hx I rv q) (fun u s2 h => ep_not h) fun _ _ z => z))
  · obtain ⟨i1, q⟩ := q
    cases ry
    obtain ⟨t, rfl⟩ := (show ∃ t, v = Value.int _ t from rx)
    obtain ⟨dx, od, J, ho⟩ := inst_at I i1
    rename_i j a
    have rv : Vals [V.ref a, V.int j] [Value.ref a, Value.int j t] := .cons rfl (.cons ⟨t, rfl⟩ .nil)
    rw [rich]
    exact PySem.HXN.oR hu I.kIn J hsub PySem.F.slot_int_ne (fun Q z => PySem.HXN.nc_ne ho z) (PySem.HXN.try_ne hu1 I.kIn J hm hn hs hf (wpAny_mono (run_at Fi b hr.in1 I.env0.in1 hx I rv q) (fun u s2 h => ep_not h) fun _ _ z => z))
  · exact h0 pins s σ H _ _ v u Q I rx ry q
  · exact q.elim
/-- the type of a plain value in the model's words -/
theorem typeIs_of {K : PySem.W.Frag} {pins : List (Addr × Obj)} {σ : L2.St} {H : Hp} {s : Shared} {y : V} {v : Value} {T : String} (I : Inv X pins σ H s) (r : RelV y v) (ty : TyOf K H y (.type T)) : s.TypeIs v T := by
  cases ty with
  | non => cases (show v = Value.none from r); exact rfl
  | bl b => cases (show v = Value.bool b from r); exact rfl
  | int i => obtain ⟨t, rfl⟩ := (show ∃ t, v = Value.int i t from r); exact typeIs_int s i t
  | str z => obtain ⟨t, rfl⟩ := (show ∃ t, v = Value.str z t from r); exact typeIs_str s z t
  | flt z => obtain ⟨t, rfl⟩ := (show ∃ t, v = Value.float z t from r); exact rfl
  | @lst a xs e =>
    cases (show v = Value.ref a from r)
    obtain ⟨_, _, n, _, h1⟩ := (show ObjOk X.prog X.w H s.heap a (.lst xs) from I.hok a _ e)
    exact ⟨_, h1, rfl⟩
  | @frz a ob xs e =>
    cases (show v = Value.ref a from r)
    obtain ⟨_, _, _, n, _, h1⟩ := (show ObjOk X.prog X.w H s.heap a (.frz ob (.lst xs)) from I.hok a _ e)
    exact ⟨_, h1, rfl⟩
  | @tup a xs e =>
    cases (show v = Value.ref a from r)
    obtain ⟨_, _, _, p⟩ := (show ObjOk X.prog X.w H s.heap a (.tup xs) from I.hok a _ e)
    obtain ⟨o, h1, h2, _⟩ := p
    exact ⟨o, h1, h2⟩
  | @dK a kvs e =>
    cases (show v = Value.ref a from r)
    obtain ⟨_, _, vs, _, p⟩ := (show ObjOk X.prog X.w H s.heap a (.dK kvs) from I.hok a _ e)
    obtain ⟨o, es, ep, h1, h2, _⟩ := p
    exact ⟨o, h1, h2.1⟩
  | @dT a kvs e =>
    cases (show v = Value.ref a from r)
    obtain ⟨_, _, xs, _, o, es, ep, h1, h2, _⟩ := (show ObjOk X.prog X.w H s.heap a (.dT kvs) from I.hok a _ e)
    exact ⟨o, h1, h2.1⟩
/-- x == y, y a plain value -/
def rEqO (K : PySem.W.Frag) (C : Addr) (sp : Sp) (E : XK) : L2.R2 := fun x y H Q => ∃ (a : Addr) (T : String), x = .ref a ∧ IsI C H a ∧ TyOf K H y (.type T) ∧ isSubtype (.type T) (.ref C) = pure false ∧ sp [.ref a, y] H Q E
theorem op_eqO (hs : PySem.W.findIn X.K (.ref C) "__eq__" = some (some (.ref f))) (hf : PySem.W.isFn X.K (.ref f) = true) (Fi : FnOk X.prog X.w X.K X.mg X.base CY k f fd ps sp) (b : Binds X.K fd ps []) (hr : Room k X.A) (hx : Passes CY X E) :
    OpR X (compareOp .Eq) (rEqO X.K C sp E) := by
  intro pins s σ H x y v u Q I rx ry q
  obtain ⟨a, T, rfl, i1, ty, hT, q⟩ := q
  cases rx
  obtain ⟨dx, od, J, ho⟩ := inst_at I i1
  rw [show compareOp .Eq (Value.ref a) u = richCompare .Eq (Value.ref a) u from rfl]
  exact PySem.HXC.cmL hr.units0 I.kIn J (typeIs_of I ry ty) hT hs hf (wpAny_mono (run_fn Fi hr b .nil hx I (show Vals [V.ref a, y] [Value.ref a, u] from .cons rfl (.cons ry .nil)) (by rw [List.append_nil]; exact q)) (fun u s2 h => ep_own h) fun _ _ z => z)
/-- str(x) of an own instance, an int -/
def rStrO (C : Addr) (sp : Sp) (E : XK) : List V → Hp → VK → Prop := fun xs H Q => match xs with
  | [.ref a] => IsI C H a ∧ sp [.ref a] H (fun v G => ∃ z, v = .str z ∧ Q v G) E
  | [.int i] => i.natAbs.log2 < 1920 ∧ Q (.str (toString i)) H
  | _ => False
theorem call_strO (hs : PySem.W.findIn X.K (.ref C) "__str__" = some (some (.ref f))) (hf : PySem.W.isFn X.K (.ref f) = true) (Fi : FnOk X.prog X.w X.K X.mg X.base CY k f fd ps sp) (b : Binds X.K fd ps []) (hr : Room (k + 2) X.A) (hx : Passes CY X E) :
    CallR X (.type "str") (rStrO C sp E) := by
  intro pins s σ H xs us Q I r q
  unfold rStrO at q
  split at q
  · obtain ⟨i1, q⟩ := q
    obtain ⟨u, rfl, ru⟩ := vals1 r
    cases ru
    obtain ⟨dx, od, J, ho⟩ := inst_at I i1
    rename_i a
    refine PySem.W.kso_call hr.in1.in1.units0 I.kIn J hs hf (wpAny_mono (run_at Fi b hr.in1.in1 I.env0.in1.in1 hx I (show Vals [V.ref a] [Value.ref a] from .cons rfl .nil) q) (fun u s2 h => ?_) fun _ _ z => z)
    obtain ⟨v, G, J2, rv, z, rfl, qz⟩ := h
    obtain ⟨t, rfl⟩ := (show ∃ t, u = Value.str z t from rv)
    exact ⟨.str z, G, J2, ⟨t, rfl⟩, qz⟩
  · exact call_str_int pins s σ H _ us Q I r ⟨_, rfl, q.1, q.2⟩
  · exact q.elim
/-- bool(x) of an own instance -/
def rBoolO (C : Addr) (sp : Sp) (E : XK) : List V → Hp → VK → Prop := fun xs H Q => ∃ a, xs = [.ref a] ∧ IsI C H a ∧ sp [.ref a] H (fun v G => ∃ c, v = .bl c ∧ Q v G) E
theorem call_boolO (hs : PySem.W.findIn X.K (.ref C) "__bool__" = some (some (.ref f))) (hf : PySem.W.isFn X.K (.ref f) = true) (Fi : FnOk X.prog X.w X.K X.mg X.base CY k f fd ps sp) (b : Binds X.K fd ps []) (hr : Room (k + 2) X.A) (hx : Passes CY X E) :
    CallR X (.type "bool") (rBoolO C sp E) := by
  intro pins s σ H xs us Q I r q
  obtain ⟨a, rfl, i1, q⟩ := q
  obtain ⟨u, rfl, ru⟩ := vals1 r
  cases ru
  obtain ⟨dx, od, J, ho⟩ := inst_at I i1
  refine PySem.HXN.bool_own I.kIn J hs hf (wpAny_mono (run_at Fi b hr.in1.in1 I.env0.in1.in1 hx I (show Vals [V.ref a] [Value.ref a] from .cons rfl .nil) q) (fun u s2 h => ?_) fun _ _ z => z)
  obtain ⟨v, G, J2, rv, c, rfl, qz⟩ := h
  cases (show u = Value.bool c from rv)
  exact ⟨.bl c, G, J2, rfl, qz⟩
/-- not x of an own instance -/
def rNotO (C : Addr) (sp : Sp) (E : XK) (te : TE) : TE := fun σ H Q => te σ H fun x G => ∃ a, x = .ref a ∧ IsI C G a ∧ sp [.ref a] G (fun v G2 => ∃ c, v = .bl c ∧ Q (.bl (!c)) G2) E
theorem e_notO {e : Expr} {ta : TE} {pos : Pos} (hs : PySem.W.findIn X.K (.ref C) "__bool__" = some (some (.ref f))) (hf : PySem.W.isFn X.K (.ref f) = true) (Fi : FnOk X.prog X.w X.K X.mg X.base CY k f fd ps sp) (b : Binds X.K fd ps []) (hr : Room k X.A) (hx : Passes CY X E) (ha : PE X e ta) :
    PE X (.UnaryOp .Not e pos) (rNotO C sp E ta) := by
  refine ⟨fun pins s σ H Q I h => UnaryOp_ (thn (ha.run pins s σ H _ I h) fun v s1 ⟨x, G, I1, r1, a, ex, i1, z⟩ => ?_)⟩
  subst ex
  cases r1
  obtain ⟨dx, od, J, ho⟩ := inst_at I1 i1
  refine not_of (PySem.HXN.truth_own I1.kIn J hs hf (wpAny_mono (run_fn Fi hr b .nil hx I1 (show Vals [V.ref a] [Value.ref a] from .cons rfl .nil) (by rw [List.append_nil]; exact z)) (fun u s2 h => ?_) fun _ _ z => z))
  obtain ⟨v, G2, J2, rv, c, rfl, qz⟩ := h
  cases (show u = Value.bool c from rv)
  exact ⟨.bl (!c), G2, J2, rfl, qz⟩
end
/-- the built-in types are below no own class -/
theorem sub_non (C : Addr) : isSubtype (.type "NoneType") (.ref C) = pure false := by rfl
theorem sub_bl (C : Addr) : isSubtype (.type "bool") (.ref C) = pure false := by rfl
theorem sub_str (C : Addr) : isSubtype (.type "str") (.ref C) = pure false := by rfl
theorem sub_lst (C : Addr) : isSubtype (.type "list") (.ref C) = pure false := by rfl
theorem sub_tup (C : Addr) : isSubtype (.type "tuple") (.ref C) = pure false := by rfl
theorem sub_dic (C : Addr) : isSubtype (.type "dict") (.ref C) = pure false := by rfl
end HX

set_option Elab.async false
set_option linter.all false
set_option maxRecDepth 100000
set_option maxHeartbeats 4000000
namespace HX
open PySem PySem.Spec PyProof.Rows L2
/-! ### set(l) of a list of ints, as a set that sorted takes -/
/-- the set's object as it is made -/
abbrev frSet (w : World) : Obj := { cls := .type "set", dict := none, data := .set #[] 0 (.fresh 0 0 (!w.params.followText "set-order")) }
/-- what the filling leaves -/
def Filled (w : World) (E : Value → Shared → Prop) (s : Shared) (ns : List Int) : Value → Shared → Prop := fun r s2 => r = .none ∧ ∃ (h2 : Heap) (tk c : Nat), s2 = { s with heap := h2, toks := tk } ∧ SetR w h2 s.heap.objs.size (fun j => decide (j ∈ ns)) c ∧ c ≤ ns.length ∧ ∀ b o, s.heap.get? b = some o → h2.get? b = some o
section
variable {P : Program} {w : World} {A : Around} {E : Value → Shared → Prop} {s : Shared}
theorem fill_list {l : Addr} {items : Array Value} (ns : List Int) (hh : A.handled = none) (hl : s.heap.IsList l items) (hit : IntsAre items.toList ns) (hz : items.size = ns.length) (hb : ns.length + 1 < scanBound) :
    codeAny (model P w) A (.call (.builtin "set.__init__") ⟨[.ref s.heap.objs.size, .ref l], []⟩) (wants (Filled w E s ns) E) { s with heap := s.heap.push (frSet w) } := by
  have hS : (s.heap.push (frSet w)).get? s.heap.objs.size = some (frSet w) := Heap.get?_push_size _ rfl
  have hT : Shared.TypeIs { s with heap := s.heap.push (frSet w) } (.ref s.heap.objs.size) "set" := ⟨_, hS, rfl⟩
  refine codeAny_call_builtin F.called_set.init.plain F.entry_set_init (check_set_init_1 hT ?_)
  obtain ⟨⟨oc, od, dt, sl⟩, hol, hcl, nl, hdl⟩ := hl
  simp only at hcl hdl
  subst hcl hdl
  have hol2 : (s.heap.push (frSet w)).get? l = some { cls := .type "list", dict := od, data := .seq items nl, slots := sl } := Heap.get?_push_of_some _ hol
  have x1 := F.sub_list_set
  have x2 := F.sub_list_frozenset
  have x3 : (Value.type "list" == Value.type "dict") = false := by decide
  have hl1 : (s.heap.push (frSet w)).IsList l items := ⟨_, hol2, rfl, nl, rfl⟩
  unfold Builtin.«set.__init__» noKeywords Builtin.Frozenset.updateFrom
  generalize hPI : pyIter = PI
  wp_walk
  subst hPI
  refine wpAny_pyIter_list hl1 (wpAny_bind (wpAny_runValue ?_))
  have lt := Heap.lt_size hol
  have sz : (s.heap.push (frSet w)).objs.size = s.heap.objs.size + 1 := Heap.size_push ..
  have nI : l ≠ (s.heap.push (frSet w)).objs.size := by rw [sz]; exact Nat.ne_of_lt (Nat.lt_succ_of_lt lt)
  have nS : s.heap.objs.size ∉ [(s.heap.push (frSet w)).objs.size, l] := by
    rw [sz]
    simp only [List.mem_cons, List.not_mem_nil, or_false, not_or]
    exact ⟨Nat.ne_of_lt (Nat.lt_succ_self _), Nat.ne_of_gt lt⟩
  have at_ : ∀ (i : Nat) (v : Value), items[i]? = some v → ∃ k t, ns[i]? = some k ∧ v = .int k t := fun i v hv => by
    have hi : i < ns.length := by rw [← hz]; exact (Array.getElem?_eq_some_iff.mp hv).1
    obtain ⟨t, e⟩ := PyProof.Rows.IntsAre.int_at hit i v (by rw [Array.getElem?_toList]; exact hv)
    refine ⟨ns[i], t, List.getElem?_eq_getElem hi, ?_⟩
    rw [e, List.getD_eq_getElem?_getD, List.getElem?_eq_getElem hi]
    rfl
  refine set_update_ints ((Walks.list (by simp [hh]) _ l nI items).toS) s.heap.objs.size nS ns hz hb at_ (items.size - 0) 0 _ (by omega) (Nat.zero_le _) ⟨⟨_, Heap.get?_push_size _ rfl, rfl, rfl⟩, hl1.push _⟩ ⟨0, Nat.le_refl 0, setR_new_at (Heap.get?_push_of_some _ hS)⟩ fun s2 c mv hc hR => ?_
  obtain ⟨h2, g2, d2, tk, os2⟩ := s2
  obtain rfl : g2 = s.gens := mv.gens
  obtain rfl : d2 = s.drawn := mv.drawn
  obtain rfl : os2 = s.os := mv.os
  show wpAny _ _ _ _ _ _
  refine wpAny_pure ?_
  show wpAny _ _ (ret Value.none) _ _ _
  refine wpAny_pure ⟨rfl, h2, tk, c, rfl, hR, by rw [← hz]; exact hc, fun b o e => ?_⟩
  have hb0 := Heap.lt_size e
  refine mv.heap b o ?_ (Heap.get?_push_of_some _ (Heap.get?_push_of_some _ e))
  rw [sz]
  simp only [List.mem_cons, List.not_mem_nil, or_false, not_or]
  exact ⟨Nat.ne_of_lt hb0, Nat.ne_of_lt (Nat.lt_succ_of_lt hb0)⟩
theorem set_listI {l : Addr} {items : Array Value} (ns : List Int) {Q : Value → Shared → Prop} (hh : A.handled = none) (hl : s.heap.IsList l items) (hit : IntsAre items.toList ns) (hb : ns.length + 1 < scanBound)
    (h : ∀ (h2 : Heap) (tk c : Nat), SetR w h2 s.heap.objs.size (fun j => decide (j ∈ ns)) c → c ≤ ns.length → (∀ b o, s.heap.get? b = some o → h2.get? b = some o) → Q (.ref s.heap.objs.size) { s with heap := h2, toks := tk }) :
    wpAny (model P w) A (call (.type "set") [.ref l]) Q E s := by
  have hz : items.size = ns.length := by
    have q := IntsAre.length hit
    rw [Array.length_toList] at q
    exact q
  obtain ⟨c, tl, y1⟩ := F.called_set.mro
  have y2 := F.called_set.made
  have y3 := F.called_set.sub
  refine wpAny_call (codeAny_of_tree ?_)
  show wpAny _ _ (callAny (.type "set") _) _ _ _
  refine wpAny_pure ⟨Code.quiet_builtin _ (by decide +kernel), codeAny_builtin F.entry_type_call ?_⟩
  rw [Around.under_plain (weight_type_call_type "set" [.ref l] []) rfl]
  have y4 := F.called_set.notType
  have y5 := F.called_set.canCreate
  have y6 := F.typeCall_set_1 (.ref l)
  repeat (any_goals (first | assumption | wp_step))
  refine codeAny_mono (code_set_led1 (.ref l) (E := E) (Q₁ := fun obj s1 => obj = .ref s.heap.objs.size ∧ s1 = { s with heap := s.heap.push (frSet w) }) ⟨rfl, rfl⟩) fun r s1 hr => ?_
  match r, hr with
  | .error e, hr => exact hr
  | .ok .next, hr => exact hr.elim
  | .ok .brk, hr => exact hr.elim
  | .ok .cont, hr => exact hr.elim
  | .ok (.ret obj), hr =>
    obtain ⟨rfl, rfl⟩ := hr
    have hT : Shared.TypeIs { s with heap := s.heap.push (frSet w) } (.ref s.heap.objs.size) "set" := ⟨_, Heap.get?_push_size _ rfl, rfl⟩
    have y7 := F.called_set.init.lookup
    have y8 := F.called_set.init.bind (.ref s.heap.objs.size)
    repeat (any_goals (first | assumption | wp_step))
    refine codeAny_mono (fill_list (E := E) ns (by simpa using hh) hl hit hz hb) fun r2 s2 hr2 => ?_
    match r2, hr2 with
    | .error e, hr2 => exact hr2
    | .ok .next, hr2 => exact hr2.elim
    | .ok .brk, hr2 => exact hr2.elim
    | .ok .cont, hr2 => exact hr2.elim
    | .ok (.ret v), hr2 =>
      obtain ⟨rfl, h2, tk, c2, rfl, z1, z2, z3⟩ := hr2
      repeat (any_goals (first | assumption | wp_step))
      exact h _ _ _ z1 z2 z3
end
/-- set(l) -/
def rSetL (K : PySem.W.Frag) (w : World) : List V → Hp → VK → Prop := fun xs H Q => ∃ (l : Addr) (ns : List Int), xs = [.ref l] ∧ SqL K H l (ns.map V.int) ∧ ns.length ≤ 60 ∧ ∀ (p : Addr) (c : Nat), c ≤ ns.length → H p = none → Q (.ref p) (upd H p (SetO w p (fun j => decide (j ∈ ns)) c))
theorem cr_setL {X : Cx} (hc : X.calm = true) : CallR X (.type "set") (rSetL X.K X.w) := by
  intro pins s σ H xs us Q I r h
  obtain ⟨l, ns, rfl, hq, hl, q⟩ := h
  obtain rfl := Vals.ref1 r
  obtain ⟨its, rv, pl, hz⟩ := I.list hq
  refine set_listI ns (I.ok.hd hc) pl.isList (by simpa using ints_of_vals rv) (by unfold scanBound; omega) fun h2 tk c hR hcn k => ?_
  have nw : H s.heap.objs.size = none := I.hok.fresh (Nat.le_refl _)
  exact ⟨.ref s.heap.objs.size, _, I.laid (t' := tk) k (Nat.le_refl _) (setO_new hR), rfl, q _ c hcn nw⟩
/-- sorted lists of ints without doubles are told by their members -/
theorem sorted_one : ∀ {l m : List Int}, l.Pairwise (· < ·) → m.Pairwise (· < ·) → (∀ k, k ∈ l ↔ k ∈ m) → l = m
  | [], [], _, _, _ => rfl
  | [], b :: m, _, _, h => absurd ((h b).mpr (.head _)) List.not_mem_nil
  | a :: l, [], _, _, h => absurd ((h a).mp (.head _)) List.not_mem_nil
  | a :: l, b :: m, h1, h2, h => by
    obtain ⟨h1a, h1b⟩ := List.pairwise_cons.mp h1
    obtain ⟨h2a, h2b⟩ := List.pairwise_cons.mp h2
    have e : a = b := by
      rcases List.mem_cons.mp ((h a).mp (.head _)) with e | e
      · exact e
      · rcases List.mem_cons.mp ((h b).mpr (.head _)) with e' | e'
        · exact e'.symm
        · have x1 := h1a b e'
          have x2 := h2a a e
          omega
    subst e
    rw [sorted_one h1b h2b fun k => ⟨fun hk => ?_, fun hk => ?_⟩]
    · rcases List.mem_cons.mp ((h k).mp (.tail _ hk)) with e | e
      · have := h1a k hk
        omega
      · exact e
    · rcases List.mem_cons.mp ((h k).mpr (.tail _ hk)) with e | e
      · have := h2a k hk
        omega
      · exact e
end HX

set_option Elab.async false
set_option linter.all false
set_option maxRecDepth 100000
set_option maxHeartbeats 4000000
namespace HX
open PySem PySem.Spec PyProof.Rows L2
section
variable {X : Cx}
/-- C() is raised, C an own class of errors without an own __init__ -/
theorem pmk_c0 {C : Addr} {bmB : List Value} {B newId initId : String} {x : Str} {p pos : Pos} (Fx : ExcBaseFacts B newId initId bmB) (q : PySem.W.excIn X.K C bmB newId = true) (gC : X.mg x = some (.ref C)) (kC : PySem.W.keepIn X.K (.ref C) = true) (r : Raises X (.ref C)) (hg : Gl X x)
    (hdb : (x == ("__debug__" : Str)) = false := by decide) : PMk X (.Call (.Name x p) [] [] pos) (fun _ H Q => Q (.ref C) none H) := fun pins s σ H Q I h => by
  refine wpAny_Call_Name_kw (ld_glob I hg gC ?_ hdb)
  refine PySem.W.callWith_KW0 (h₀ := X.base) I.ok.mod.kin kC rfl ?_ rfl
  refine PyProof.Rows.kwAll_nil ⟨I.kIn, ?_⟩
  show wpAny _ _ (call (.ref C) []) _ _ _
  obtain ⟨bm, N, nm, qn, bs, hdct, sn, sub, ab, col, dd, k0, k1, k2, k3, k5, mN, hC, hN, hni, T⟩ := exc_obj I.kIn q
  refine wpAny_call_exc_subT Fx T hC hN hni (fun h' a hm => ?_) (Nat.zero_le _)
  exact mk_of I hm r h (I.hok.gone hm.new)
end
/-- all but the pen's list and the tables of code stays -/
def Kt (p : Addr) (H G : Hp) : Prop := ∀ b o, b ≠ p → H b = some o → (∀ ps, o ≠ .tbl ps) → G b = some o
theorem Kt.refl {p : Addr} {H : Hp} : Kt p H H := fun _ _ _ e _ => e
theorem Kt.trans {p : Addr} {H G J : Hp} (a : Kt p H G) (b : Kt p G J) : Kt p H J := fun c o n e t => b c o n (a c o n e t) t
theorem Kt.kp {p : Addr} {H G : Hp} (k : Kp p H G) : Kt p H G := fun c o n e _ => k c o n e
theorem Kt.same {p : Addr} {H G : Hp} (k : Same H G) : Kt p H G := fun c o _ e _ => k c o e
theorem Kt.extN {p : Addr} {H G : Hp} (k : LamX.ExtN H G) : Kt p H G := fun c o _ e t => k c o e t
theorem Pe.extN {H G : Hp} {p l : Addr} {c : Int} (P : Pe H p l c) (k : LamX.ExtN H G) : Pe G p l c :=
  let ⟨ns, c0, g, q, e⟩ := P
  ⟨ns, c0, g, ⟨k _ _ q.at_ (fun _ z => by cases z), k _ _ q.cel (fun _ z => by cases z), q.ne, q.c0, q.g0⟩, e⟩
theorem Tabs.kp {T : List (Addr × Str)} {H G : Hp} {p : Addr} {o : HO} (t : LamX.Tabs T H) (hp : H p = some o) (nt : ∀ ps, o ≠ .tbl ps) (nc : ∀ q, o ≠ LamX.CodeO p q) (k : Kp p H G) : LamX.Tabs T G := fun x hx => by
  obtain ⟨ps, h1, h2, h3⟩ := t x hx
  refine ⟨ps, k _ _ (fun z => by rw [z, hp] at h1; exact nt _ (Option.some.inj h1)) h1, h2, fun pos cv hc => ?_⟩
  obtain ⟨c, e1, e2⟩ := h3 pos cv hc
  exact ⟨c, e1, k _ _ (fun z => by rw [z] at e2; rw [hp] at e2; exact nc _ (Option.some.inj e2)) e2⟩
end HX

set_option Elab.async false
set_option linter.all false
set_option maxRecDepth 100000
set_option maxHeartbeats 4000000
namespace LW
open PySem PySem.Spec PyProof.Rows L2 HX
def top (i : Nat) : Stmt := PySem.Challenge.pw_holeshift_k21_amounts_refused.main.body.getD i (.Pass ⟨0, 0, 0, 0⟩)

abbrev s__wall : Stmt := top 1
abbrev n__wall : List Str := ["k"]
theorem sc__wall : FnScope n__wall ["k"] (defScope s__wall) := ⟨rfl, rfl, rfl, by decide +kernel, rfl, by decide +kernel, by decide +kernel⟩

abbrev s_BadAmount_init : Stmt := inClass (top 7) 0
abbrev n_BadAmount_init : List Str := ["self", "value"]
theorem sc_BadAmount_init : FnScope n_BadAmount_init ["self", "value"] (defScope s_BadAmount_init) := ⟨rfl, rfl, rfl, by decide +kernel, rfl, by decide +kernel, by decide +kernel⟩

abbrev s_BadGaps_init : Stmt := inClass (top 8) 0
abbrev n_BadGaps_init : List Str := ["self", "value"]
theorem sc_BadGaps_init : FnScope n_BadGaps_init ["self", "value"] (defScope s_BadGaps_init) := ⟨rfl, rfl, rfl, by decide +kernel, rfl, by decide +kernel, by decide +kernel⟩

abbrev s_BadText_init : Stmt := inClass (top 9) 0
abbrev n_BadText_init : List Str := ["self", "line", "word"]
theorem sc_BadText_init : FnScope n_BadText_init ["self", "line", "word"] (defScope s_BadText_init) := ⟨rfl, rfl, rfl, by decide +kernel, rfl, by decide +kernel, by decide +kernel⟩

abbrev s_is_int : Stmt := top 13
abbrev n_is_int : List Str := ["value"]
theorem sc_is_int : FnScope n_is_int ["value"] (defScope s_is_int) := ⟨rfl, rfl, rfl, by decide +kernel, rfl, by decide +kernel, by decide +kernel⟩

abbrev s__is_figures : Stmt := top 14
abbrev n__is_figures : List Str := ["text"]
theorem sc__is_figures : FnScope n__is_figures ["text"] (defScope s__is_figures) := ⟨rfl, rfl, rfl, by decide +kernel, rfl, by decide +kernel, by decide +kernel⟩

abbrev s_Amount_init : Stmt := inClass (top 15) 0
abbrev n_Amount_init : List Str := ["self", "top", "bottom", "shared"]
theorem sc_Amount_init : FnScope n_Amount_init ["self", "top", "bottom"] (defScope s_Amount_init) := ⟨rfl, rfl, rfl, by decide +kernel, rfl, by decide +kernel, by decide +kernel⟩

abbrev s_Amount_is_number : Stmt := inClass (top 15) 1
abbrev n_Amount_is_number : List Str := ["value"]
theorem sc_Amount_is_number : FnScope n_Amount_is_number ["value"] (defScope s_Amount_is_number) := ⟨rfl, rfl, rfl, by decide +kernel, rfl, by decide +kernel, by decide +kernel⟩

abbrev s_Amount_of : Stmt := inClass (top 15) 2
abbrev n_Amount_of : List Str := ["number"]
theorem sc_Amount_of : FnScope n_Amount_of ["number"] (defScope s_Amount_of) := ⟨rfl, rfl, rfl, by decide +kernel, rfl, by decide +kernel, by decide +kernel⟩

abbrev s_Amount_total : Stmt := inClass (top 15) 3
abbrev n_Amount_total : List Str := ["numbers"]
theorem sc_Amount_total : FnScope n_Amount_total ["numbers"] (defScope s_Amount_total) := ⟨rfl, rfl, rfl, by decide +kernel, rfl, by decide +kernel, by decide +kernel⟩

abbrev s_Amount_read : Stmt := inClass (top 15) 4
abbrev n_Amount_read : List Str := ["cls", "text", "above", "stroke", "below", "amount"]
theorem sc_Amount_read : FnScope n_Amount_read ["cls", "text"] (defScope s_Amount_read) := ⟨rfl, rfl, rfl, by decide +kernel, rfl, by decide +kernel, by decide +kernel⟩

abbrev s_Amount_str : Stmt := inClass (top 15) 5
abbrev n_Amount_str : List Str := ["self"]
theorem sc_Amount_str : FnScope n_Amount_str ["self"] (defScope s_Amount_str) := ⟨rfl, rfl, rfl, by decide +kernel, rfl, by decide +kernel, by decide +kernel⟩

abbrev s_Amount_is_whole : Stmt := inClass (top 15) 6
abbrev n_Amount_is_whole : List Str := ["self"]
theorem sc_Amount_is_whole : FnScope n_Amount_is_whole ["self"] (defScope s_Amount_is_whole) := ⟨rfl, rfl, rfl, by decide +kernel, rfl, by decide +kernel, by decide +kernel⟩

abbrev s_Amount_over : Stmt := inClass (top 15) 7
abbrev n_Amount_over : List Str := ["self", "number", "divisor"]
theorem sc_Amount_over : FnScope n_Amount_over ["self", "number"] (defScope s_Amount_over) := ⟨rfl, rfl, rfl, by decide +kernel, rfl, by decide +kernel, by decide +kernel⟩

abbrev s_Amount_add : Stmt := inClass (top 15) 8
abbrev n_Amount_add : List Str := ["self", "other"]
theorem sc_Amount_add : FnScope n_Amount_add ["self", "other"] (defScope s_Amount_add) := ⟨rfl, rfl, rfl, by decide +kernel, rfl, by decide +kernel, by decide +kernel⟩

abbrev s_Amount_radd : Stmt := inClass (top 15) 9
abbrev n_Amount_radd : List Str := ["self", "other"]
theorem sc_Amount_radd : FnScope n_Amount_radd ["self", "other"] (defScope s_Amount_radd) := ⟨rfl, rfl, rfl, by decide +kernel, rfl, by decide +kernel, by decide +kernel⟩

abbrev s_Amount_iadd : Stmt := inClass (top 15) 10
abbrev n_Amount_iadd : List Str := ["self", "other"]
theorem sc_Amount_iadd : FnScope n_Amount_iadd ["self", "other"] (defScope s_Amount_iadd) := ⟨rfl, rfl, rfl, by decide +kernel, rfl, by decide +kernel, by decide +kernel⟩

abbrev s_Amount_sub : Stmt := inClass (top 15) 11
abbrev n_Amount_sub : List Str := ["self", "other"]
theorem sc_Amount_sub : FnScope n_Amount_sub ["self", "other"] (defScope s_Amount_sub) := ⟨rfl, rfl, rfl, by decide +kernel, rfl, by decide +kernel, by decide +kernel⟩

abbrev s_Amount_rsub : Stmt := inClass (top 15) 12
abbrev n_Amount_rsub : List Str := ["self", "other"]
theorem sc_Amount_rsub : FnScope n_Amount_rsub ["self", "other"] (defScope s_Amount_rsub) := ⟨rfl, rfl, rfl, by decide +kernel, rfl, by decide +kernel, by decide +kernel⟩

abbrev s_Amount_isub : Stmt := inClass (top 15) 13
abbrev n_Amount_isub : List Str := ["self", "other"]
theorem sc_Amount_isub : FnScope n_Amount_isub ["self", "other"] (defScope s_Amount_isub) := ⟨rfl, rfl, rfl, by decide +kernel, rfl, by decide +kernel, by decide +kernel⟩

abbrev s_Amount_mul : Stmt := inClass (top 15) 14
abbrev n_Amount_mul : List Str := ["self", "other"]
theorem sc_Amount_mul : FnScope n_Amount_mul ["self", "other"] (defScope s_Amount_mul) := ⟨rfl, rfl, rfl, by decide +kernel, rfl, by decide +kernel, by decide +kernel⟩

abbrev s_Amount_rmul : Stmt := inClass (top 15) 15
abbrev n_Amount_rmul : List Str := ["self", "other"]
theorem sc_Amount_rmul : FnScope n_Amount_rmul ["self", "other"] (defScope s_Amount_rmul) := ⟨rfl, rfl, rfl, by decide +kernel, rfl, by decide +kernel, by decide +kernel⟩

abbrev s_Amount_imul : Stmt := inClass (top 15) 16
abbrev n_Amount_imul : List Str := ["self", "other"]
theorem sc_Amount_imul : FnScope n_Amount_imul ["self", "other"] (defScope s_Amount_imul) := ⟨rfl, rfl, rfl, by decide +kernel, rfl, by decide +kernel, by decide +kernel⟩

abbrev s_Amount_floordiv : Stmt := inClass (top 15) 17
abbrev n_Amount_floordiv : List Str := ["self", "other", "quotient"]
theorem sc_Amount_floordiv : FnScope n_Amount_floordiv ["self", "other"] (defScope s_Amount_floordiv) := ⟨rfl, rfl, rfl, by decide +kernel, rfl, by decide +kernel, by decide +kernel⟩

abbrev s_Amount_rfloordiv : Stmt := inClass (top 15) 18
abbrev n_Amount_rfloordiv : List Str := ["self", "other"]
theorem sc_Amount_rfloordiv : FnScope n_Amount_rfloordiv ["self", "other"] (defScope s_Amount_rfloordiv) := ⟨rfl, rfl, rfl, by decide +kernel, rfl, by decide +kernel, by decide +kernel⟩

abbrev s_Amount_ifloordiv : Stmt := inClass (top 15) 19
abbrev n_Amount_ifloordiv : List Str := ["self", "other"]
theorem sc_Amount_ifloordiv : FnScope n_Amount_ifloordiv ["self", "other"] (defScope s_Amount_ifloordiv) := ⟨rfl, rfl, rfl, by decide +kernel, rfl, by decide +kernel, by decide +kernel⟩

abbrev s_Amount_mod : Stmt := inClass (top 15) 20
abbrev n_Amount_mod : List Str := ["self", "other"]
theorem sc_Amount_mod : FnScope n_Amount_mod ["self", "other"] (defScope s_Amount_mod) := ⟨rfl, rfl, rfl, by decide +kernel, rfl, by decide +kernel, by decide +kernel⟩

abbrev s_Amount_rmod : Stmt := inClass (top 15) 21
abbrev n_Amount_rmod : List Str := ["self", "other"]
theorem sc_Amount_rmod : FnScope n_Amount_rmod ["self", "other"] (defScope s_Amount_rmod) := ⟨rfl, rfl, rfl, by decide +kernel, rfl, by decide +kernel, by decide +kernel⟩

abbrev s_Amount_imod : Stmt := inClass (top 15) 22
abbrev n_Amount_imod : List Str := ["self", "other"]
theorem sc_Amount_imod : FnScope n_Amount_imod ["self", "other"] (defScope s_Amount_imod) := ⟨rfl, rfl, rfl, by decide +kernel, rfl, by decide +kernel, by decide +kernel⟩

abbrev s_Amount_neg : Stmt := inClass (top 15) 23
abbrev n_Amount_neg : List Str := ["self"]
theorem sc_Amount_neg : FnScope n_Amount_neg ["self"] (defScope s_Amount_neg) := ⟨rfl, rfl, rfl, by decide +kernel, rfl, by decide +kernel, by decide +kernel⟩

abbrev s_Amount_abs : Stmt := inClass (top 15) 24
abbrev n_Amount_abs : List Str := ["self"]
theorem sc_Amount_abs : FnScope n_Amount_abs ["self"] (defScope s_Amount_abs) := ⟨rfl, rfl, rfl, by decide +kernel, rfl, by decide +kernel, by decide +kernel⟩

abbrev s_Amount_bool : Stmt := inClass (top 15) 25
abbrev n_Amount_bool : List Str := ["self"]
theorem sc_Amount_bool : FnScope n_Amount_bool ["self"] (defScope s_Amount_bool) := ⟨rfl, rfl, rfl, by decide +kernel, rfl, by decide +kernel, by decide +kernel⟩

abbrev s_Amount_eq : Stmt := inClass (top 15) 26
abbrev n_Amount_eq : List Str := ["self", "other"]
theorem sc_Amount_eq : FnScope n_Amount_eq ["self", "other"] (defScope s_Amount_eq) := ⟨rfl, rfl, rfl, by decide +kernel, rfl, by decide +kernel, by decide +kernel⟩

abbrev s_Amount_lt : Stmt := inClass (top 15) 27
abbrev n_Amount_lt : List Str := ["self", "other", "number"]
theorem sc_Amount_lt : FnScope n_Amount_lt ["self", "other"] (defScope s_Amount_lt) := ⟨rfl, rfl, rfl, by decide +kernel, rfl, by decide +kernel, by decide +kernel⟩

abbrev s_Amount_le : Stmt := inClass (top 15) 28
abbrev n_Amount_le : List Str := ["self", "other", "number"]
theorem sc_Amount_le : FnScope n_Amount_le ["self", "other"] (defScope s_Amount_le) := ⟨rfl, rfl, rfl, by decide +kernel, rfl, by decide +kernel, by decide +kernel⟩

abbrev s_Amount_gt : Stmt := inClass (top 15) 29
abbrev n_Amount_gt : List Str := ["self", "other", "number"]
theorem sc_Amount_gt : FnScope n_Amount_gt ["self", "other"] (defScope s_Amount_gt) := ⟨rfl, rfl, rfl, by decide +kernel, rfl, by decide +kernel, by decide +kernel⟩

abbrev s_Amount_ge : Stmt := inClass (top 15) 30
abbrev n_Amount_ge : List Str := ["self", "other", "number"]
theorem sc_Amount_ge : FnScope n_Amount_ge ["self", "other"] (defScope s_Amount_ge) := ⟨rfl, rfl, rfl, by decide +kernel, rfl, by decide +kernel, by decide +kernel⟩

abbrev s__law_pen : Stmt := top 17
abbrev n__law_pen : List Str := ["_law_script"]
theorem sc__law_pen : FnScope n__law_pen ["_law_script"] (defScope s__law_pen) := ⟨rfl, rfl, rfl, by decide +kernel, rfl, by decide +kernel, by decide +kernel⟩

abbrev s__law_draw : Stmt := top 18
abbrev n__law_draw : List Str := ["_law_pen_here", "_law_many", "_law_digit", "_law_at", "_law_cell", "_law_great", "_law_mixed"]
theorem sc__law_draw : FnScope n__law_draw ["_law_pen_here", "_law_many"] (defScope s__law_draw) := ⟨rfl, rfl, rfl, by decide +kernel, rfl, by decide +kernel, by decide +kernel⟩

abbrev s__law_pick : Stmt := top 19
abbrev n__law_pick : List Str := ["_law_pen_here", "_law_some"]
theorem sc__law_pick : FnScope n__law_pick ["_law_pen_here", "_law_some"] (defScope s__law_pick) := ⟨rfl, rfl, rfl, by decide +kernel, rfl, by decide +kernel, by decide +kernel⟩

abbrev s__law_heard : Stmt := top 20
abbrev n__law_heard : List Str := ["_law_call", "_law_caught", "_law_found", "error"]
theorem sc__law_heard : FnScope n__law_heard ["_law_call"] (defScope s__law_heard) := ⟨rfl, rfl, rfl, by decide +kernel, rfl, by decide +kernel, by decide +kernel⟩

abbrev s__law_same : Stmt := top 21
abbrev n__law_same : List Str := ["_law_heard_here", "_law_due"]
theorem sc__law_same : FnScope n__law_same ["_law_heard_here", "_law_due"] (defScope s__law_same) := ⟨rfl, rfl, rfl, by decide +kernel, rfl, by decide +kernel, by decide +kernel⟩

abbrev s__law_in_place : Stmt := top 22
abbrev n__law_in_place : List Str := ["_law_amount", "_law_sign", "_law_other", "_law_held"]
theorem sc__law_in_place : FnScope n__law_in_place ["_law_amount", "_law_sign", "_law_other"] (defScope s__law_in_place) := ⟨rfl, rfl, rfl, by decide +kernel, rfl, by decide +kernel, by decide +kernel⟩

abbrev s_law : Stmt := top 23
abbrev n_law : List Str := ["_law_script", "_law_turn", "_law_before", "_law_heard_here", "_law_due", "_law_also", "_law_kept", "_law_odd", "_law_pen_here", "_law_upper", "_law_zero", "_law_one"]
theorem sc_law : FnScope n_law ["_law_script"] (defScope s_law) := ⟨rfl, rfl, rfl, by decide +kernel, rfl, by decide +kernel, by decide +kernel⟩

/-- what the module's names are -/
structure Txt (K : PySem.W.Frag) (mg : Str → Option Value) : Prop where
  b_int : mg "int" = none
  b_len : mg "len" = none
  b_abs : mg "abs" = none
  b_list : mg "list" = none
  b_range : mg "range" = none
  b_isinstance : mg "isinstance" = none
  b_repr : mg "repr" = none
  b_bool : mg "bool" = none
/-- .. the class Amount -/
structure AmC (K : PySem.W.Frag) (mg : Str → Option Value) (A fI pO gO pN gN : Addr) (mc : Value) : Prop where
  g_Amount : mg "Amount" = some (.ref A)
  gcd : mg "gcd" = some (.builtin "math.gcd")
  cls : Cls K A
  nT : NoAttr K A "top"
  nB : NoAttr K A "bottom"
  mkr : Mk K A fI
  ha : PySem.W.findIn K (.ref A) "__class__" = some (some (.builtin "object.__class__"))
  hn : PySem.W.specialIn K (.builtin "object.__class__") "__get__" = some (some (.builtin "getset_descriptor.__get__"))
  ht : PySem.W.takesIn K (.builtin "object.__class__") = some true
  hm : PySem.W.mroIn K A (.type "object") = some true
  kI : PySem.W.kitOne K (.ref A) (.type "int") = some false
  kA : PySem.W.kitOne K (.type "int") (.ref A) = some false
  sO : SMet K A mc "of" pO gO
  sN : SMet K A mc "is_number" pN gN

section
variable {P : Program} {w : World} {K : PySem.W.Frag} {mg : Str → Option Value} {base : Heap}

theorem funD_ok {x qual : Str} {prm : Arguments} {body : List Stmt} {scope : Scope} {dvs : List V} {kws : List (Str × V)} {f : Addr} {fd : FuncData} {N ps : List Str} {k : Nat} {sp : Sp} (F : FunD K x qual prm body scope dvs kws f fd) (S : FnScope N ps scope) (ln : ∀ vs H Q E, sp vs H Q E → vs.length = ps.length)
    (hb : ∀ (cdv : Value) (A : Around) (outer : List Env) (s : Shared) (H : Hp) (vs : List V) (Q : VK) (E : XK), Room k (A.deeper (envOfC qual scope s.heap.objs.size f cdv)) → sp vs H Q E →
      ∃ t, PSs (cxOf CX0 P w K mg base N qual scope f cdv A outer s H E).nox body t ∧ t { nx := fun _ H' => Q .non H', rt := Q } (start N vs) H) : FnOk P w K mg base CX0 (k + 1) f fd ps sp := by
  refine F.ok S ln fun cdv A outer s H vs Q E hr hsp => ?_
  obtain ⟨t, h, q⟩ := hb cdv A outer s H vs Q E hr hsp
  exact ⟨t, h.nox, q⟩

theorem kit_self (K : PySem.W.Frag) (C : Addr) : PySem.W.kitOne K (.ref C) (.ref C) = some true := by
  unfold PySem.W.kitOne
  rw [if_pos (by simp)]

theorem ok_is_int {A fI pO gO pN gN f : Addr} {mc : Value} {fd : FuncData} (F : Fun K "is_int" "is_int" s_is_int f fd) (T : Txt K mg) (U : AmC K mg A fI pO gO pN gN mc) : FnOk P w K mg base CX0 1 f fd ["value"] (spIsInt A) := by
  refine F.ok sc_is_int (fun vs H Q E h => ?_) (fun cdv A' outer s H vs Q E hr h => ?_)
  · obtain ⟨v, rfl, _⟩ := h
    rfl
  · obtain ⟨v, rfl, k⟩ := h
    refine ⟨_, (pss_one (ps_ret (e_and (pe_callB c_isi (by rfl) T.b_isinstance (by decide +kernel) (pa_cons (pc 0) (pa_cons (pe_bltn (v := .ty "int") (u := .type "int") (by rfl) T.b_int (by decide +kernel) rfl) pa_nil))) (pe_one (e_not (pe_callB c_isi (by rfl) T.b_isinstance (by decide +kernel) (pa_cons (pc 0) (pa_cons (pe_bltn (v := .ty "bool") (u := .type "bool") (by rfl) T.b_bool (by decide +kernel) rfl) pa_nil)))))))), ?_⟩
    rcases k with ⟨⟨i, rfl⟩, k⟩ | ⟨a, rfl, ⟨dx, fs, e⟩, k⟩
    · exact ⟨_, _, _, _, true, rfl, .int i, (fun u r => r), rfl, ⟨fun _ => ⟨_, _, _, _, false, rfl, .int i, (fun u r => r), rfl, k⟩, fun h => absurd h (by decide)⟩⟩
    · exact ⟨_, _, _, _, false, rfl, .ins e U.cls U.ha U.hn U.ht U.hm, (fun u r => r), U.kI, ⟨fun h => absurd h (by decide), fun _ => k⟩⟩

theorem ok_init {A fI pO gO pN gN f : Addr} {mc : Value} {fd : FuncData} (F : FunD K "__init__" "Amount.__init__" (defArgs s_Amount_init) (defBody s_Amount_init) (defScope s_Amount_init) [.int 1] [] f fd) (T : Txt K mg) (U : AmC K mg A fI pO gO pN gN mc) (cI : CalO P w K mg base "is_int" 1 ["value"] (spIsInt A) (fun _ => True)) : FnOk P w K mg base CX0 2 f fd ["self", "top", "bottom"] (spInit A) := by
  refine funD_ok F sc_Amount_init (fun vs H Q E h => ?_) (fun cdv A' outer s H vs Q E hr h => ?_)
  · obtain ⟨x, dx, p, q, rfl, _⟩ := h
    rfl
  · obtain ⟨x, dx, p, q, rfl, hx, qz, sp, sq, k⟩ := h
    refine ⟨_, (pss_cons (s_if (pt_not (t_val (pe_cO cI (hr.mono (by decide)) (pa_cons (pc 1) pa_nil)))) (pss_one ps_dead) pss_nil)
    (pss_cons (s_if (pt_not (t_val (pe_cO cI (hr.mono (by decide)) (pa_cons (pc 2) pa_nil)))) (pss_one ps_dead) pss_nil)
    (pss_cons (s_if (t_cmp (o_eq hr.units) (pc 2) pe_int) (pss_one ps_dead) pss_nil)
    (pss_cons (ps_set (i := 3) sc_Amount_init.nd rfl (Or.inl rfl) (e_if (t_cmp o_gt (pc 2) pe_int) (pe_callBfun cr_gcd rfl U.gcd (pa_cons (pc 1) (pa_cons (pc 2) pa_nil))) (pe_un un_neg (pe_callBfun cr_gcd rfl U.gcd (pa_cons (pc 1) (pa_cons (pc 2) pa_nil))))))
    (pss_cons (ps_fld (pc 0) (pe_op o_fdivZ (pc 1) (pc 3)) (by rfl))
    (pss_one (ps_fld (pc 0) (pe_op o_fdivZ (pc 2) (pc 3)) (by rfl)))))))), ?_⟩
    have g0 := gcdZ_pos (p := p) qz
    have gS : Sm 900 (gcdZ p q) := by
      have z : Nat.gcd p.natAbs q.natAbs ≤ q.natAbs := Nat.gcd_le_right _ (by omega)
      exact Nat.lt_of_le_of_lt z sq
    refine ⟨_, rfl, .inl ⟨⟨p, rfl⟩, ⟨fun h => absurd h (by decide), fun _ => ⟨_, rfl, .inl ⟨⟨q, rfl⟩, ⟨fun h => absurd h (by decide), fun _ => ⟨fun h => absurd h (by simp [qz]), fun _ => ⟨fun c => ⟨p, q, rfl, ?_⟩, fun c => ⟨p, q, rfl, _, rfl, ?_⟩⟩⟩⟩⟩⟩⟩⟩⟩
    · have c := of_decide_eq_true c
      have e1 := fdiv_sg qz (gcdZ_p p q)
      have e2 := fdiv_sg qz (gcdZ_q p q)
      rw [if_neg (by omega)] at e1 e2
      refine ⟨gS.cDiv (by omega), x, A, dx, _, rfl, hx, U.cls, U.nT, by decide, gS.cDiv (by omega), x, A, dx, _, rfl, upd_same, U.cls, U.nB, by show 1 < 1000; decide, k _ (fun b o n e => by rw [upd_ne n, upd_ne n]; exact e) ?_⟩
      rw [upd_same]
      show some (HO.ins A dx [("top", V.int (p.fdiv (gcdZ p q))), ("bottom", V.int (q.fdiv (gcdZ p q)))]) = _
      rw [e1, e2]
      rfl
    · have c := of_decide_eq_false c
      have e1 := fdiv_sg qz (gcdZ_p p q)
      have e2 := fdiv_sg qz (gcdZ_q p q)
      rw [if_pos (by omega)] at e1 e2
      refine ⟨(gS.neg).cDiv (by omega), x, A, dx, _, rfl, hx, U.cls, U.nT, by decide, (gS.neg).cDiv (by omega), x, A, dx, _, rfl, upd_same, U.cls, U.nB, by show 1 < 1000; decide, k _ (fun b o n e => by rw [upd_ne n, upd_ne n]; exact e) ?_⟩
      rw [upd_same]
      show some (HO.ins A dx [("top", V.int (p.fdiv (-gcdZ p q))), ("bottom", V.int (q.fdiv (-gcdZ p q)))]) = _
      rw [e1, e2]
      rfl

theorem ok_is_number {A fI pO gO pN gN f : Addr} {mc : Value} {fd : FuncData} (F : Fun K "is_number" "Amount.is_number" s_Amount_is_number f fd) (T : Txt K mg) (U : AmC K mg A fI pO gO pN gN mc) (cI : CalO P w K mg base "is_int" 1 ["value"] (spIsInt A) (fun _ => True)) : FnOk P w K mg base CX0 2 f fd ["value"] (spIsNum A) := by
  refine F.ok sc_Amount_is_number (fun vs H Q E h => ?_) (fun cdv A' outer s H vs Q E hr h => ?_)
  · obtain ⟨v, t, b, rfl, _⟩ := h
    rfl
  · obtain ⟨v, t, b, rfl, n, k⟩ := h
    refine ⟨_, (pss_one (ps_ret (e_or (pe_cO cI (hr.mono (by decide)) (pa_cons (pc 0) pa_nil)) (pe_one (pe_callB c_isi (by rfl) T.b_isinstance (by decide +kernel) (pa_cons (pc 0) (pa_cons (p_gc U.g_Amount) pa_nil))))))), ?_⟩
    rcases n with ⟨a, rfl, dx, e⟩ | ⟨rfl, rfl⟩
    · exact ⟨_, rfl, .inr ⟨a, rfl, ⟨dx, _, e⟩, ⟨fun h => absurd h (by decide), fun _ => ⟨_, _, _, _, true, rfl, .ins e U.cls U.ha U.hn U.ht U.hm, (fun u r => r), kit_self K A, k⟩⟩⟩⟩
    · exact ⟨_, rfl, .inl ⟨⟨t, rfl⟩, ⟨fun _ => k, fun h => absurd h (by decide)⟩⟩⟩

theorem ok_of {A fI pO gO pN gN f : Addr} {mc : Value} {fd : FuncData} (F : Fun K "of" "Amount.of" s_Amount_of f fd) (T : Txt K mg) (U : AmC K mg A fI pO gO pN gN mc) {fdI : FuncData} (FI : FnOk P w K mg base CX0 2 fI fdI ["self", "top", "bottom"] (spInit A)) {ds : List Value} (bI1 : Binds K fdI ["self", "top", "bottom"] ds) (vI1 : Vals [V.int 1] ds) (bI2 : Binds K fdI ["self", "top", "bottom"] []) : FnOk P w K mg base CX0 4 f fd ["number"] (spOf A) := by
  refine F.ok sc_Amount_of (fun vs H Q E h => ?_) (fun cdv A' outer s H vs Q E hr h => ?_)
  · obtain ⟨v, t, b, rfl, _⟩ := h
    rfl
  · obtain ⟨v, t, b, rfl, n, st, k⟩ := h
    refine ⟨_, (pss_cons (s_if (t_val (pe_callB c_isi (by rfl) T.b_isinstance (by decide +kernel) (pa_cons (pc 0) (pa_cons (p_gc U.g_Amount) pa_nil)))) (pss_one (ps_ret (pc 0))) pss_nil)
    (pss_one (ps_ret (pe_make U.mkr FI (hr.mono (by decide)) rfl U.g_Amount bI1 vI1 pass0 (pa_cons (pc 0) pa_nil))))), ?_⟩
    rcases n with ⟨a, rfl, dx, e⟩ | ⟨rfl, rfl⟩
    · exact ⟨_, _, _, _, true, rfl, .ins e U.cls U.ha U.hn U.ht U.hm, (fun u r => r), kit_self K A, ⟨fun _ => k a H (Same.refl _) ⟨dx, e⟩, fun h => absurd h (by decide)⟩⟩
    · refine ⟨_, _, _, _, false, rfl, .int t, (fun u r => r), U.kA, ⟨fun h => absurd h (by decide), fun _ => ?_⟩⟩
      have e := n_self (low_int t)
      refine mkA (p := t) (q := 1) (by decide) st (sm_one.mono (by decide)) fun r G n s a => ?_
      rw [e.1, e.2] at a
      exact k r G s a

def pAdd (t b c d : Int) : Int := t * d + c * b
def qBD (_ b _ d : Int) : Int := b * d
def pSub (t b c d : Int) : Int := t * d + -c * b
def pRsub (t b c d : Int) : Int := -t * d + c * b
def pMul (t _ c _ : Int) : Int := t * c
def pOver (t _ _ d : Int) : Int := t * d
def qBC (_ b c _ : Int) : Int := b * c
def spNeg (A : Addr) (g : Int → Int) : Sp := fun vs H Q _ => ∃ (a : Addr) (t b : Int), vs = [.ref a] ∧ Am A H a t b ∧ Low t b ∧ Sm 800 t ∧ Sm 800 b ∧ QA A H Q (g t) b
def absI (i : Int) : Int := if i < 0 then -i else i
/-- // : an int -/
def spFl (A : Addr) (p q : Int → Int → Int → Int → Int) : Sp := fun vs H Q _ => ∃ (a : Addr) (v : V) (t b c d : Int), vs = [.ref a, v] ∧ Am A H a t b ∧ Nu A H v c d ∧ Low t b ∧ Low c d ∧ Sm 400 t ∧ Sm 400 b ∧ Sm 400 c ∧ Sm 400 d ∧ q t b c d ≠ 0 ∧ ∀ G, Same H G → Q (.int ((p t b c d).fdiv (q t b c d))) G

theorem ok_Amount_over {A fI pO gO pN gN f : Addr} {mc : Value} {fd : FuncData} (F : Fun K "over" "Amount.over" s_Amount_over f fd) (T : Txt K mg) (U : AmC K mg A fI pO gO pN gN mc) {fdI : FuncData} (FI : FnOk P w K mg base CX0 2 fI fdI ["self", "top", "bottom"] (spInit A)) {ds : List Value} (bI1 : Binds K fdI ["self", "top", "bottom"] ds) (vI1 : Vals [V.int 1] ds) (bI2 : Binds K fdI ["self", "top", "bottom"] []) {fdO fdN : FuncData} (FO : FnOk P w K mg base CX0 4 gO fdO ["number"] (spOf A)) (bO : Binds K fdO ["number"] []) (FN : FnOk P w K mg base CX0 2 gN fdN ["value"] (spIsNum A)) (bN : Binds K fdN ["value"] []) : FnOk P w K mg base CX0 5 f fd ["self", "number"] (spBin A 400 pOver qBC) := by
  refine F.ok sc_Amount_over (fun vs H Q E h => ?_) (fun cdv A' outer s H vs Q E hr h => ?_)
  · obtain ⟨a, v, t, b, c, d, rfl, _⟩ := h
    rfl
  · obtain ⟨a, v, t, b, c, d, rfl, am, n, lo, lo2, St, Sb, Sc, Sd, qz, k⟩ := h
    refine ⟨_, (pss_cons (ps_set (i := 2) sc_Amount_over.nd rfl (Or.inl rfl) (pe_sm (p_gc U.g_Amount) U.sO FO bO (hr.mono (by decide)) pass0 (pa_cons (pc 1) pa_nil)))
    (pss_one (ps_ret (pe_make U.mkr FI (hr.mono (by decide)) rfl U.g_Amount bI2 .nil pass0 (pa_cons (pe_op o_mulW (pe_fld (pc 0) rfl) (pe_fld (pc 2) rfl)) (pa_cons (pe_op o_mulW (pe_fld (pc 0) rfl) (pe_fld (pc 2) rfl)) pa_nil)))))), ?_⟩
    refine ⟨rfl, v, c, d, rfl, n, Sc.mono (by decide), fun r G s a2 => ?_⟩
    obtain ⟨dx, e⟩ := am.mo s
    obtain ⟨dr, er⟩ := a2
    exact ⟨a, A, _, _, _, rfl, e, U.cls, U.nT, rfl, r, A, _, _, _, rfl, er, U.cls, U.nB, rfl, St.cMul Sd, a, A, _, _, _, rfl, e, U.cls, U.nB, rfl, r, A, _, _, _, rfl, er, U.cls, U.nT, rfl, Sb.cMul Sc, mkA qz ((St.mul Sd).mono (by decide)) ((Sb.mul Sc).mono (by decide)) (k.mo s)⟩

theorem ok_Amount_add {A fI pO gO pN gN f : Addr} {mc : Value} {fd : FuncData} (F : Fun K "__add__" "Amount.__add__" s_Amount_add f fd) (T : Txt K mg) (U : AmC K mg A fI pO gO pN gN mc) {fdI : FuncData} (FI : FnOk P w K mg base CX0 2 fI fdI ["self", "top", "bottom"] (spInit A)) {ds : List Value} (bI1 : Binds K fdI ["self", "top", "bottom"] ds) (vI1 : Vals [V.int 1] ds) (bI2 : Binds K fdI ["self", "top", "bottom"] []) (cI : CalO P w K mg base "is_int" 1 ["value"] (spIsInt A) (fun _ => True)) : FnOk P w K mg base CX0 5 f fd ["self", "other"] (spBin A 400 pAdd qBD) := by
  refine F.ok sc_Amount_add (fun vs H Q E h => ?_) (fun cdv A' outer s H vs Q E hr h => ?_)
  · obtain ⟨a, v, t, b, c, d, rfl, _⟩ := h
    rfl
  · obtain ⟨a, v, t, b, c, d, rfl, am, n, lo, lo2, St, Sb, Sc, Sd, qz, k⟩ := h
    refine ⟨_, (pss_cons (s_if (t_val (pe_callB c_isi (by rfl) T.b_isinstance (by decide +kernel) (pa_cons (pc 1) (pa_cons (p_gc U.g_Amount) pa_nil)))) (pss_one (ps_ret (pe_make U.mkr FI (hr.mono (by decide)) rfl U.g_Amount bI2 .nil pass0 (pa_cons (pe_op o_add (pe_op o_mulW (pe_fld (pc 0) rfl) (pe_fld (pc 1) rfl)) (pe_op o_mulW (pe_fld (pc 1) rfl) (pe_fld (pc 0) rfl))) (pa_cons (pe_op o_mulW (pe_fld (pc 0) rfl) (pe_fld (pc 1) rfl)) pa_nil))))) pss_nil)
    (pss_cons (s_if (pt_not (t_val (pe_cO cI (hr.mono (by decide)) (pa_cons (pc 1) pa_nil)))) (pss_one ps_dead) pss_nil)
    (pss_one (ps_ret (pe_make U.mkr FI (hr.mono (by decide)) rfl U.g_Amount bI2 .nil pass0 (pa_cons (pe_op o_add (pe_fld (pc 0) rfl) (pe_op o_mulW (pc 1) (pe_fld (pc 0) rfl))) (pa_cons (pe_fld (pc 0) rfl) pa_nil))))))), ?_⟩
    rcases n with ⟨y, rfl, an⟩ | ⟨rfl, rfl⟩
    · obtain ⟨dx, e⟩ := id am
      obtain ⟨dr, er⟩ := id an
      exact ⟨_, _, _, _, true, rfl, .ins er U.cls U.ha U.hn U.ht U.hm, (fun u r => r), kit_self K A, ⟨fun _ => ⟨a, A, _, _, _, rfl, e, U.cls, U.nT, rfl, y, A, _, _, _, rfl, er, U.cls, U.nB, rfl, St.cMul Sd, y, A, _, _, _, rfl, er, U.cls, U.nT, rfl, a, A, _, _, _, rfl, e, U.cls, U.nB, rfl, Sc.cMul Sb, a, A, _, _, _, rfl, e, U.cls, U.nB, rfl, y, A, _, _, _, rfl, er, U.cls, U.nB, rfl, Sb.cMul Sd, mkA qz (((St.mul Sd).add (Sc.mul Sb)).mono (by decide)) ((Sb.mul Sd).mono (by decide)) k⟩, fun h => absurd h (by decide)⟩⟩
    · obtain ⟨dx, e⟩ := id am
      have bz : b ≠ 0 := by have := lo.1; omega
      refine ⟨_, _, _, _, false, rfl, .int c, (fun u r => r), U.kA, ⟨fun h => absurd h (by decide), fun _ => ⟨_, rfl, .inl ⟨⟨c, rfl⟩, ⟨fun h => absurd h (by decide), fun _ => ⟨a, A, _, _, _, rfl, e, U.cls, U.nT, rfl, a, A, _, _, _, rfl, e, U.cls, U.nB, rfl, Sc.cMul Sb, a, A, _, _, _, rfl, e, U.cls, U.nB, rfl, mkA (p := t + c * b) (q := b) bz ((((St.mono (by decide : 400 ≤ 800)).add (Sc.mul Sb))).mono (by decide)) (Sb.mono (by decide)) ?_⟩⟩⟩⟩⟩⟩
      simpa [pAdd, qBD] using k

theorem ok_Amount_mul {A fI pO gO pN gN f : Addr} {mc : Value} {fd : FuncData} (F : Fun K "__mul__" "Amount.__mul__" s_Amount_mul f fd) (T : Txt K mg) (U : AmC K mg A fI pO gO pN gN mc) {fdI : FuncData} (FI : FnOk P w K mg base CX0 2 fI fdI ["self", "top", "bottom"] (spInit A)) {ds : List Value} (bI1 : Binds K fdI ["self", "top", "bottom"] ds) (vI1 : Vals [V.int 1] ds) (bI2 : Binds K fdI ["self", "top", "bottom"] []) (cI : CalO P w K mg base "is_int" 1 ["value"] (spIsInt A) (fun _ => True)) : FnOk P w K mg base CX0 5 f fd ["self", "other"] (spBin A 400 pMul qBD) := by
  refine F.ok sc_Amount_mul (fun vs H Q E h => ?_) (fun cdv A' outer s H vs Q E hr h => ?_)
  · obtain ⟨a, v, t, b, c, d, rfl, _⟩ := h
    rfl
  · obtain ⟨a, v, t, b, c, d, rfl, am, n, lo, lo2, St, Sb, Sc, Sd, qz, k⟩ := h
    refine ⟨_, (pss_cons (s_if (t_val (pe_callB c_isi (by rfl) T.b_isinstance (by decide +kernel) (pa_cons (pc 1) (pa_cons (p_gc U.g_Amount) pa_nil)))) (pss_one (ps_ret (pe_make U.mkr FI (hr.mono (by decide)) rfl U.g_Amount bI2 .nil pass0 (pa_cons (pe_op o_mulW (pe_fld (pc 0) rfl) (pe_fld (pc 1) rfl)) (pa_cons (pe_op o_mulW (pe_fld (pc 0) rfl) (pe_fld (pc 1) rfl)) pa_nil))))) pss_nil)
    (pss_cons (s_if (pt_not (t_val (pe_cO cI (hr.mono (by decide)) (pa_cons (pc 1) pa_nil)))) (pss_one ps_dead) pss_nil)
    (pss_one (ps_ret (pe_make U.mkr FI (hr.mono (by decide)) rfl U.g_Amount bI2 .nil pass0 (pa_cons (pe_op o_mulW (pe_fld (pc 0) rfl) (pc 1)) (pa_cons (pe_fld (pc 0) rfl) pa_nil))))))), ?_⟩
    rcases n with ⟨y, rfl, an⟩ | ⟨rfl, rfl⟩
    · obtain ⟨dx, e⟩ := id am
      obtain ⟨dr, er⟩ := id an
      exact ⟨_, _, _, _, true, rfl, .ins er U.cls U.ha U.hn U.ht U.hm, (fun u r => r), kit_self K A, ⟨fun _ => ⟨a, A, _, _, _, rfl, e, U.cls, U.nT, rfl, y, A, _, _, _, rfl, er, U.cls, U.nT, rfl, St.cMul Sc, a, A, _, _, _, rfl, e, U.cls, U.nB, rfl, y, A, _, _, _, rfl, er, U.cls, U.nB, rfl, Sb.cMul Sd, mkA qz ((St.mul Sc).mono (by decide)) ((Sb.mul Sd).mono (by decide)) k⟩, fun h => absurd h (by decide)⟩⟩
    · obtain ⟨dx, e⟩ := id am
      have bz : b ≠ 0 := by have := lo.1; omega
      refine ⟨_, _, _, _, false, rfl, .int c, (fun u r => r), U.kA, ⟨fun h => absurd h (by decide), fun _ => ⟨_, rfl, .inl ⟨⟨c, rfl⟩, ⟨fun h => absurd h (by decide), fun _ => ⟨a, A, _, _, _, rfl, e, U.cls, U.nT, rfl, St.cMul Sc, a, A, _, _, _, rfl, e, U.cls, U.nB, rfl, mkA (p := t * c) (q := b) bz ((St.mul Sc).mono (by decide)) (Sb.mono (by decide)) ?_⟩⟩⟩⟩⟩⟩
      simpa [pMul, qBD] using k

theorem ok_Amount_neg {A fI pO gO pN gN f : Addr} {mc : Value} {fd : FuncData} (F : Fun K "__neg__" "Amount.__neg__" s_Amount_neg f fd) (T : Txt K mg) (U : AmC K mg A fI pO gO pN gN mc) {fdI : FuncData} (FI : FnOk P w K mg base CX0 2 fI fdI ["self", "top", "bottom"] (spInit A)) {ds : List Value} (bI1 : Binds K fdI ["self", "top", "bottom"] ds) (vI1 : Vals [V.int 1] ds) (bI2 : Binds K fdI ["self", "top", "bottom"] []) : FnOk P w K mg base CX0 4 f fd ["self"] (spNeg A Neg.neg) := by
  refine F.ok sc_Amount_neg (fun vs H Q E h => ?_) (fun cdv A' outer s H vs Q E hr h => ?_)
  · obtain ⟨a, t, b, rfl, _⟩ := h
    rfl
  · obtain ⟨a, t, b, rfl, ⟨dx, e⟩, lo, St, Sb, k⟩ := h
    refine ⟨_, (pss_one (ps_ret (pe_make U.mkr FI (hr.mono (by decide)) rfl U.g_Amount bI2 .nil pass0 (pa_cons (pe_un un_neg (pe_fld (pc 0) rfl)) (pa_cons (pe_fld (pc 0) rfl) pa_nil))))), ?_⟩
    refine ⟨a, A, _, _, _, rfl, e, U.cls, U.nT, rfl, _, rfl, a, A, _, _, _, rfl, e, U.cls, U.nB, rfl, mkA (p := Neg.neg t) (by have := lo.1; omega) ((St.neg).mono (by decide)) (Sb.mono (by decide)) fun r G n s am => ?_⟩
    have z := n_self (show Low (Neg.neg t) b from low_neg lo)
    rw [z.1, z.2] at am
    exact k r G n s am

theorem sm_abs {n : Nat} {i : Int} (h : Sm n i) : Sm n (absI i) := by
  unfold absI
  split
  · exact h.neg
  · exact h
theorem ok_Amount_abs {A fI pO gO pN gN f : Addr} {mc : Value} {fd : FuncData} (F : Fun K "__abs__" "Amount.__abs__" s_Amount_abs f fd) (T : Txt K mg) (U : AmC K mg A fI pO gO pN gN mc) {fdI : FuncData} (FI : FnOk P w K mg base CX0 2 fI fdI ["self", "top", "bottom"] (spInit A)) {ds : List Value} (bI1 : Binds K fdI ["self", "top", "bottom"] ds) (vI1 : Vals [V.int 1] ds) (bI2 : Binds K fdI ["self", "top", "bottom"] []) : FnOk P w K mg base CX0 4 f fd ["self"] (spNeg A absI) := by
  refine F.ok sc_Amount_abs (fun vs H Q E h => ?_) (fun cdv A' outer s H vs Q E hr h => ?_)
  · obtain ⟨a, t, b, rfl, _⟩ := h
    rfl
  · obtain ⟨a, t, b, rfl, ⟨dx, e⟩, lo, St, Sb, k⟩ := h
    refine ⟨_, (pss_one (ps_ret (pe_make U.mkr FI (hr.mono (by decide)) rfl U.g_Amount bI2 .nil pass0 (pa_cons (pe_callB c_abs (by rfl) T.b_abs (by decide +kernel) (pa_cons (pe_fld (pc 0) rfl) pa_nil)) (pa_cons (pe_fld (pc 0) rfl) pa_nil))))), ?_⟩
    refine ⟨a, A, _, _, _, rfl, e, U.cls, U.nT, rfl, a, A, _, _, _, rfl, e, U.cls, U.nB, rfl, mkA (p := absI t) (by have := lo.1; omega) ((sm_abs St).mono (by decide)) (Sb.mono (by decide)) fun r G n s am => ?_⟩
    have z := n_self (show Low (absI t) b from low_abs lo)
    rw [z.1, z.2] at am
    exact k r G n s am

theorem ok_Amount_radd {A fI pO gO pN gN f : Addr} {mc : Value} {fd : FuncData} (F : Fun K "__radd__" "Amount.__radd__" s_Amount_radd f fd) (T : Txt K mg) (U : AmC K mg A fI pO gO pN gN mc) {fdO fdN : FuncData} (FO : FnOk P w K mg base CX0 4 gO fdO ["number"] (spOf A)) (bO : Binds K fdO ["number"] []) (FN : FnOk P w K mg base CX0 2 gN fdN ["value"] (spIsNum A)) (bN : Binds K fdN ["value"] []) {gX : Addr} {fAdd : Addr} {fdAdd : FuncData} (FAdd : FnOk P w K mg base CX0 5 fAdd fdAdd ["self", "other"] (spBin A 400 pAdd qBD)) (bAdd : Binds K fdAdd ["self", "other"] []) (Oadd : PySem.HXO.OwnOp K A .Add fAdd gX) : FnOk P w K mg base CX0 6 f fd ["self", "other"] (spBin A 400 pAdd qBD) := by
  refine F.ok sc_Amount_radd (fun vs H Q E h => ?_) (fun cdv A' outer s H vs Q E hr h => ?_)
  · obtain ⟨a, v, t, b, c, d, rfl, _⟩ := h
    rfl
  · obtain ⟨a, v, t, b, c, d, rfl, am, n, lo, lo2, St, Sb, Sc, Sd, qz, k⟩ := h
    refine ⟨_, (pss_one (ps_ret (pe_op (op_owL PySem.HXO.io_add Oadd FAdd bAdd (hr.mono (by decide)) pass0) (pc 0) (pc 1)))), ?_⟩
    rcases n with ⟨y, rfl, an⟩ | ⟨rfl, rfl⟩
    · exact ⟨am.isI, an.isI, a, _, t, b, c, d, rfl, am, .inl ⟨y, rfl, an⟩, lo, lo2, St, Sb, Sc, Sd, qz, k⟩
    · exact ⟨am.isI, a, _, t, b, c, 1, rfl, am, .inr ⟨rfl, rfl⟩, lo, lo2, St, Sb, Sc, Sd, qz, k⟩

theorem ok_Amount_iadd {A fI pO gO pN gN f : Addr} {mc : Value} {fd : FuncData} (F : Fun K "__iadd__" "Amount.__iadd__" s_Amount_iadd f fd) (T : Txt K mg) (U : AmC K mg A fI pO gO pN gN mc) {fdO fdN : FuncData} (FO : FnOk P w K mg base CX0 4 gO fdO ["number"] (spOf A)) (bO : Binds K fdO ["number"] []) (FN : FnOk P w K mg base CX0 2 gN fdN ["value"] (spIsNum A)) (bN : Binds K fdN ["value"] []) {gX : Addr} {fAdd : Addr} {fdAdd : FuncData} (FAdd : FnOk P w K mg base CX0 5 fAdd fdAdd ["self", "other"] (spBin A 400 pAdd qBD)) (bAdd : Binds K fdAdd ["self", "other"] []) (Oadd : PySem.HXO.OwnOp K A .Add fAdd gX) : FnOk P w K mg base CX0 6 f fd ["self", "other"] (spBin A 400 pAdd qBD) := by
  refine F.ok sc_Amount_iadd (fun vs H Q E h => ?_) (fun cdv A' outer s H vs Q E hr h => ?_)
  · obtain ⟨a, v, t, b, c, d, rfl, _⟩ := h
    rfl
  · obtain ⟨a, v, t, b, c, d, rfl, am, n, lo, lo2, St, Sb, Sc, Sd, qz, k⟩ := h
    refine ⟨_, (pss_one (ps_ret (pe_op (op_owL PySem.HXO.io_add Oadd FAdd bAdd (hr.mono (by decide)) pass0) (pc 0) (pc 1)))), ?_⟩
    rcases n with ⟨y, rfl, an⟩ | ⟨rfl, rfl⟩
    · exact ⟨am.isI, an.isI, a, _, t, b, c, d, rfl, am, .inl ⟨y, rfl, an⟩, lo, lo2, St, Sb, Sc, Sd, qz, k⟩
    · exact ⟨am.isI, a, _, t, b, c, 1, rfl, am, .inr ⟨rfl, rfl⟩, lo, lo2, St, Sb, Sc, Sd, qz, k⟩

theorem ok_Amount_rmul {A fI pO gO pN gN f : Addr} {mc : Value} {fd : FuncData} (F : Fun K "__rmul__" "Amount.__rmul__" s_Amount_rmul f fd) (T : Txt K mg) (U : AmC K mg A fI pO gO pN gN mc) {fdO fdN : FuncData} (FO : FnOk P w K mg base CX0 4 gO fdO ["number"] (spOf A)) (bO : Binds K fdO ["number"] []) (FN : FnOk P w K mg base CX0 2 gN fdN ["value"] (spIsNum A)) (bN : Binds K fdN ["value"] []) {gX : Addr} {fMul : Addr} {fdMul : FuncData} (FMul : FnOk P w K mg base CX0 5 fMul fdMul ["self", "other"] (spBin A 400 pMul qBD)) (bMul : Binds K fdMul ["self", "other"] []) (Omul : PySem.HXO.OwnOp K A .Mult fMul gX) : FnOk P w K mg base CX0 6 f fd ["self", "other"] (spBin A 400 pMul qBD) := by
  refine F.ok sc_Amount_rmul (fun vs H Q E h => ?_) (fun cdv A' outer s H vs Q E hr h => ?_)
  · obtain ⟨a, v, t, b, c, d, rfl, _⟩ := h
    rfl
  · obtain ⟨a, v, t, b, c, d, rfl, am, n, lo, lo2, St, Sb, Sc, Sd, qz, k⟩ := h
    refine ⟨_, (pss_one (ps_ret (pe_op (op_owL PySem.HXO.io_mul Omul FMul bMul (hr.mono (by decide)) pass0) (pc 0) (pc 1)))), ?_⟩
    rcases n with ⟨y, rfl, an⟩ | ⟨rfl, rfl⟩
    · exact ⟨am.isI, an.isI, a, _, t, b, c, d, rfl, am, .inl ⟨y, rfl, an⟩, lo, lo2, St, Sb, Sc, Sd, qz, k⟩
    · exact ⟨am.isI, a, _, t, b, c, 1, rfl, am, .inr ⟨rfl, rfl⟩, lo, lo2, St, Sb, Sc, Sd, qz, k⟩

theorem ok_Amount_imul {A fI pO gO pN gN f : Addr} {mc : Value} {fd : FuncData} (F : Fun K "__imul__" "Amount.__imul__" s_Amount_imul f fd) (T : Txt K mg) (U : AmC K mg A fI pO gO pN gN mc) {fdO fdN : FuncData} (FO : FnOk P w K mg base CX0 4 gO fdO ["number"] (spOf A)) (bO : Binds K fdO ["number"] []) (FN : FnOk P w K mg base CX0 2 gN fdN ["value"] (spIsNum A)) (bN : Binds K fdN ["value"] []) {gX : Addr} {fMul : Addr} {fdMul : FuncData} (FMul : FnOk P w K mg base CX0 5 fMul fdMul ["self", "other"] (spBin A 400 pMul qBD)) (bMul : Binds K fdMul ["self", "other"] []) (Omul : PySem.HXO.OwnOp K A .Mult fMul gX) : FnOk P w K mg base CX0 6 f fd ["self", "other"] (spBin A 400 pMul qBD) := by
  refine F.ok sc_Amount_imul (fun vs H Q E h => ?_) (fun cdv A' outer s H vs Q E hr h => ?_)
  · obtain ⟨a, v, t, b, c, d, rfl, _⟩ := h
    rfl
  · obtain ⟨a, v, t, b, c, d, rfl, am, n, lo, lo2, St, Sb, Sc, Sd, qz, k⟩ := h
    refine ⟨_, (pss_one (ps_ret (pe_op (op_owL PySem.HXO.io_mul Omul FMul bMul (hr.mono (by decide)) pass0) (pc 0) (pc 1)))), ?_⟩
    rcases n with ⟨y, rfl, an⟩ | ⟨rfl, rfl⟩
    · exact ⟨am.isI, an.isI, a, _, t, b, c, d, rfl, am, .inl ⟨y, rfl, an⟩, lo, lo2, St, Sb, Sc, Sd, qz, k⟩
    · exact ⟨am.isI, a, _, t, b, c, 1, rfl, am, .inr ⟨rfl, rfl⟩, lo, lo2, St, Sb, Sc, Sd, qz, k⟩

theorem ok_Amount_sub {A fI pO gO pN gN f : Addr} {mc : Value} {fd : FuncData} (F : Fun K "__sub__" "Amount.__sub__" s_Amount_sub f fd) (T : Txt K mg) (U : AmC K mg A fI pO gO pN gN mc) {fdO fdN : FuncData} (FO : FnOk P w K mg base CX0 4 gO fdO ["number"] (spOf A)) (bO : Binds K fdO ["number"] []) (FN : FnOk P w K mg base CX0 2 gN fdN ["value"] (spIsNum A)) (bN : Binds K fdN ["value"] []) {gX : Addr} {fAdd : Addr} {fdAdd : FuncData} (FAdd : FnOk P w K mg base CX0 5 fAdd fdAdd ["self", "other"] (spBin A 400 pAdd qBD)) (bAdd : Binds K fdAdd ["self", "other"] []) (Oadd : PySem.HXO.OwnOp K A .Add fAdd gX) {fNeg : Addr} {fdNeg : FuncData} (FNeg : FnOk P w K mg base CX0 4 fNeg fdNeg ["self"] (spNeg A Neg.neg)) (bNeg : Binds K fdNeg ["self"] []) (hNeg : PySem.W.findIn K (.ref A) "__neg__" = some (some (.ref fNeg))) (iNeg : PySem.W.isFn K (.ref fNeg) = true) : FnOk P w K mg base CX0 6 f fd ["self", "other"] (spBin A 400 pSub qBD) := by
  refine F.ok sc_Amount_sub (fun vs H Q E h => ?_) (fun cdv A' outer s H vs Q E hr h => ?_)
  · obtain ⟨a, v, t, b, c, d, rfl, _⟩ := h
    rfl
  · obtain ⟨a, v, t, b, c, d, rfl, am, n, lo, lo2, St, Sb, Sc, Sd, qz, k⟩ := h
    refine ⟨_, (pss_cons (s_if (pt_not (t_val (pe_sm (p_gc U.g_Amount) U.sN FN bN (hr.mono (by decide)) pass0 (pa_cons (pc 1) pa_nil)))) (pss_one ps_dead) pss_nil)
    (pss_one (ps_ret (pe_op (op_owL PySem.HXO.io_add Oadd FAdd bAdd (hr.mono (by decide)) pass0) (pc 0) (pe_un (un_ow hNeg iNeg FNeg bNeg (hr.mono (by decide)) pass0) (pc 1)))))), ?_⟩
    refine ⟨rfl, v, c, d, rfl, n, ⟨fun h => absurd h (by decide), fun _ => ?_⟩⟩
    rcases n with ⟨y, rfl, an⟩ | ⟨rfl, rfl⟩
    · refine ⟨an.isI, y, c, d, rfl, an, lo2, Sc.mono (by decide), Sd.mono (by decide), fun r G n s ar => ?_⟩
      exact ⟨(am.mo s).isI, ar.isI, a, _, t, b, -c, d, rfl, am.mo s, .inl ⟨r, rfl, ar⟩, lo, low_neg lo2, St, Sb, Sc.neg, Sd, qz, k.mo s⟩
    · exact ⟨am.isI, a, _, t, b, -c, 1, rfl, am, .inr ⟨rfl, rfl⟩, lo, low_int _, St, Sb, Sc.neg, Sd, qz, k⟩

theorem ok_Amount_rsub {A fI pO gO pN gN f : Addr} {mc : Value} {fd : FuncData} (F : Fun K "__rsub__" "Amount.__rsub__" s_Amount_rsub f fd) (T : Txt K mg) (U : AmC K mg A fI pO gO pN gN mc) {fdO fdN : FuncData} (FO : FnOk P w K mg base CX0 4 gO fdO ["number"] (spOf A)) (bO : Binds K fdO ["number"] []) (FN : FnOk P w K mg base CX0 2 gN fdN ["value"] (spIsNum A)) (bN : Binds K fdN ["value"] []) {gX : Addr} {fAdd : Addr} {fdAdd : FuncData} (FAdd : FnOk P w K mg base CX0 5 fAdd fdAdd ["self", "other"] (spBin A 400 pAdd qBD)) (bAdd : Binds K fdAdd ["self", "other"] []) (Oadd : PySem.HXO.OwnOp K A .Add fAdd gX) {fNeg : Addr} {fdNeg : FuncData} (FNeg : FnOk P w K mg base CX0 4 fNeg fdNeg ["self"] (spNeg A Neg.neg)) (bNeg : Binds K fdNeg ["self"] []) (hNeg : PySem.W.findIn K (.ref A) "__neg__" = some (some (.ref fNeg))) (iNeg : PySem.W.isFn K (.ref fNeg) = true) : FnOk P w K mg base CX0 6 f fd ["self", "other"] (spBin A 400 pRsub qBD) := by
  refine F.ok sc_Amount_rsub (fun vs H Q E h => ?_) (fun cdv A' outer s H vs Q E hr h => ?_)
  · obtain ⟨a, v, t, b, c, d, rfl, _⟩ := h
    rfl
  · obtain ⟨a, v, t, b, c, d, rfl, am, n, lo, lo2, St, Sb, Sc, Sd, qz, k⟩ := h
    refine ⟨_, (pss_one (ps_ret (pe_op (op_owL PySem.HXO.io_add Oadd FAdd bAdd (hr.mono (by decide)) pass0) (pe_un (un_ow hNeg iNeg FNeg bNeg (hr.mono (by decide)) pass0) (pc 0)) (pc 1)))), ?_⟩
    refine ⟨am.isI, a, t, b, rfl, am, lo, St.mono (by decide), Sb.mono (by decide), fun r G n' s ar => ?_⟩
    rcases n.mo s with ⟨y, rfl, an⟩ | ⟨rfl, rfl⟩
    · exact ⟨ar.isI, an.isI, r, _, -t, b, c, d, rfl, ar, .inl ⟨y, rfl, an⟩, low_neg lo, lo2, St.neg, Sb, Sc, Sd, qz, k.mo s⟩
    · exact ⟨ar.isI, r, _, -t, b, c, 1, rfl, ar, .inr ⟨rfl, rfl⟩, low_neg lo, lo2, St.neg, Sb, Sc, Sd, qz, k.mo s⟩

theorem ok_Amount_isub {A fI pO gO pN gN f : Addr} {mc : Value} {fd : FuncData} (F : Fun K "__isub__" "Amount.__isub__" s_Amount_isub f fd) (T : Txt K mg) (U : AmC K mg A fI pO gO pN gN mc) {fdO fdN : FuncData} (FO : FnOk P w K mg base CX0 4 gO fdO ["number"] (spOf A)) (bO : Binds K fdO ["number"] []) (FN : FnOk P w K mg base CX0 2 gN fdN ["value"] (spIsNum A)) (bN : Binds K fdN ["value"] []) {gX : Addr} {fSub : Addr} {fdSub : FuncData} (FSub : FnOk P w K mg base CX0 6 fSub fdSub ["self", "other"] (spBin A 400 pSub qBD)) (bSub : Binds K fdSub ["self", "other"] []) (Osub : PySem.HXO.OwnOp K A .Sub fSub gX) : FnOk P w K mg base CX0 7 f fd ["self", "other"] (spBin A 400 pSub qBD) := by
  refine F.ok sc_Amount_isub (fun vs H Q E h => ?_) (fun cdv A' outer s H vs Q E hr h => ?_)
  · obtain ⟨a, v, t, b, c, d, rfl, _⟩ := h
    rfl
  · obtain ⟨a, v, t, b, c, d, rfl, am, n, lo, lo2, St, Sb, Sc, Sd, qz, k⟩ := h
    refine ⟨_, (pss_one (ps_ret (pe_op (op_owL PySem.HXO.io_sub Osub FSub bSub (hr.mono (by decide)) pass0) (pc 0) (pc 1)))), ?_⟩
    rcases n with ⟨y, rfl, an⟩ | ⟨rfl, rfl⟩
    · exact ⟨am.isI, an.isI, a, _, t, b, c, d, rfl, am, .inl ⟨y, rfl, an⟩, lo, lo2, St, Sb, Sc, Sd, qz, k⟩
    · exact ⟨am.isI, a, _, t, b, c, 1, rfl, am, .inr ⟨rfl, rfl⟩, lo, lo2, St, Sb, Sc, Sd, qz, k⟩

theorem ok_Amount_floordiv {A fI pO gO pN gN f : Addr} {mc : Value} {fd : FuncData} (F : Fun K "__floordiv__" "Amount.__floordiv__" s_Amount_floordiv f fd) (T : Txt K mg) (U : AmC K mg A fI pO gO pN gN mc) {fdO fdN : FuncData} (FO : FnOk P w K mg base CX0 4 gO fdO ["number"] (spOf A)) (bO : Binds K fdO ["number"] []) (FN : FnOk P w K mg base CX0 2 gN fdN ["value"] (spIsNum A)) (bN : Binds K fdN ["value"] []) {fOver : Addr} {fdOver : FuncData} (FOver : FnOk P w K mg base CX0 5 fOver fdOver ["self", "number"] (spBin A 400 pOver qBC)) (bOver : Binds K fdOver ["self", "number"] []) (mOver : Meth K A "over" fOver) : FnOk P w K mg base CX0 6 f fd ["self", "other"] (spFl A pOver qBC) := by
  refine F.ok sc_Amount_floordiv (fun vs H Q E h => ?_) (fun cdv A' outer s H vs Q E hr h => ?_)
  · obtain ⟨a, v, t, b, c, d, rfl, _⟩ := h
    rfl
  · obtain ⟨a, v, t, b, c, d, rfl, am, n, lo, lo2, St, Sb, Sc, Sd, qz, k⟩ := h
    refine ⟨_, (pss_cons (s_if (pt_not (t_val (pe_sm (p_gc U.g_Amount) U.sN FN bN (hr.mono (by decide)) pass0 (pa_cons (pc 1) pa_nil)))) (pss_one ps_dead) pss_nil)
    (pss_cons (ps_set (i := 2) sc_Amount_floordiv.nd rfl (Or.inl rfl) (pe_meth (pc 0) U.cls mOver FOver (hr.mono (by decide)) bOver .nil pass0 (pa_cons (pc 1) pa_nil)))
    (pss_one (ps_ret (pe_op o_fdivZ (pe_fld (pc 2) rfl) (pe_fld (pc 2) rfl)))))), ?_⟩
    refine ⟨rfl, v, c, d, rfl, n, ⟨fun h => absurd h (by decide), fun _ => ?_⟩⟩
    obtain ⟨dx, e⟩ := id am
    refine ⟨a, dx, _, rfl, e, rfl, a, v, t, b, c, d, rfl, am, n, lo, lo2, St, Sb, Sc, Sd, qz, fun r G n' s ar => ?_⟩
    obtain ⟨dr, er⟩ := ar
    have z : (nT (pOver t b c d) (qBC t b c d)).fdiv (nB (pOver t b c d) (qBC t b c d)) = (pOver t b c d).fdiv (qBC t b c d) := by
      rw [Int.fdiv_eq_ediv_of_nonneg _ (Int.le_of_lt (nB_pos qz)), floor_n qz]
    refine ⟨r, A, _, _, _, rfl, er, U.cls, U.nT, rfl, r, A, _, _, _, rfl, er, U.cls, U.nB, rfl, (((Sb.mul Sc).nB (p := pOver t b c d) qz : Sm 800 _)).cDiv (Int.ne_of_gt (nB_pos qz)), ?_⟩
    show Q (.int ((nT (pOver t b c d) (qBC t b c d)).fdiv (nB (pOver t b c d) (qBC t b c d)))) G
    rw [z]
    exact k G s

def isIntD : PyData → Bool
  | .int _ => true
  | _ => false
theorem da_kinds {K : PySem.W.Frag} {H : Hp} {x : V} {d : PyData} (h : Da H x d) : ∃ t b1 b2, TyOf K H x t ∧ PySem.W.kitOne K t (.type "int") = some b1 ∧ PySem.W.kitOne K t (.type "bool") = some b2 ∧ (b1 && !b2) = isIntD d := by
  cases h with
  | non => exact ⟨_, false, false, .non, kit_ty (by show kitB _ _ = some false; decide +kernel), kit_ty (by show kitB _ _ = some false; decide +kernel), rfl⟩
  | bl b => exact ⟨_, true, true, .bl b, kit_ty (by show kitB _ _ = some true; decide +kernel), kit_ty (by show kitB _ _ = some true; decide +kernel), rfl⟩
  | int i => exact ⟨_, true, false, .int i, kit_ty (by show kitB _ _ = some true; decide +kernel), kit_ty (by show kitB _ _ = some false; decide +kernel), rfl⟩
  | str x => exact ⟨_, false, false, .str x, kit_ty (by show kitB _ _ = some false; decide +kernel), kit_ty (by show kitB _ _ = some false; decide +kernel), rfl⟩
  | lst e _ => exact ⟨_, false, false, .lst e, kit_ty (by show kitB _ _ = some false; decide +kernel), kit_ty (by show kitB _ _ = some false; decide +kernel), rfl⟩
  | tup e _ => exact ⟨_, false, false, .tup e, kit_ty (by show kitB _ _ = some false; decide +kernel), kit_ty (by show kitB _ _ = some false; decide +kernel), rfl⟩
  | dic e _ => exact ⟨_, false, false, .dK e, kit_ty (by show kitB _ _ = some false; decide +kernel), kit_ty (by show kitB _ _ = some false; decide +kernel), rfl⟩

def spIsIntD : Sp := fun vs H Q _ => ∃ x d, vs = [x] ∧ Da H x d ∧ Q (.bl (isIntD d)) H

theorem ok_is_intD {f : Addr} {fd : FuncData} (F : Fun K "is_int" "is_int" s_is_int f fd) (T : Txt K mg) : FnOk P w K mg base CX0 1 f fd ["value"] spIsIntD := by
  refine F.ok sc_is_int (fun vs H Q E h => ?_) (fun cdv A' outer s H vs Q E hr h => ?_)
  · obtain ⟨x, d, rfl, _⟩ := h
    rfl
  · obtain ⟨x, d, rfl, hd, k⟩ := h
    obtain ⟨t, b1, b2, ty, k1, k2, e⟩ := da_kinds (K := K) hd
    refine ⟨_, (pss_one (ps_ret (e_and (pe_callB c_isi (by rfl) T.b_isinstance (by decide +kernel) (pa_cons (pc 0) (pa_cons (pe_bltn (v := .ty "int") (u := .type "int") (by rfl) T.b_int (by decide +kernel) rfl) pa_nil))) (pe_one (e_not (pe_callB c_isi (by rfl) T.b_isinstance (by decide +kernel) (pa_cons (pc 0) (pa_cons (pe_bltn (v := .ty "bool") (u := .type "bool") (by rfl) T.b_bool (by decide +kernel) rfl) pa_nil)))))))), ?_⟩
    rw [← e] at k
    refine ⟨x, _, t, _, b1, rfl, ty, (fun u r => r), k1, ⟨fun e => ?_, fun e => ?_⟩⟩
    · subst e
      exact ⟨x, _, t, _, b2, rfl, ty, (fun u r => r), k2, k⟩
    · subst e
      exact k

end
end LW
set_option Elab.async false
set_option linter.all false
set_option maxRecDepth 100000
set_option maxHeartbeats 4000000
namespace LW
open PySem PySem.Spec PyProof.Rows L2 HX
section
variable {P : Program} {w : World} {K : PySem.W.Frag} {mg : Str → Option Value} {base : Heap}

/-- the errors, as the text sees them: C BadAmount, N NoDivisor -/
structure TxN (K : PySem.W.Frag) (mg : Str → Option Value) (N : Addr) : Prop where
  g_NoDivisor : mg "NoDivisor" = some (.ref N)
  q : PySem.W.excIn K N [.type "ValueError", .type "Exception", .type "BaseException", .type "object"] "ValueError.__new__" = true
  kC : PySem.W.keepIn K (.ref N) = true
  sub : PySem.W.subIn K (.ref N) (.type "BaseException") = some true
  ty : PySem.W.typeIn K (.ref N) = some (.type "type")
/-- a bad part is told -/
def RzA (C : Addr) (H : Hp) (E : XK) (v : V) : Prop := ∀ G dd, Same H G → H dd = none → G dd = some (.xd [("value", v)]) → E (.ref C) (some dd) G
def RzN (N : Addr) (H : Hp) (E : XK) : Prop := ∀ G, Same H G → E (.ref N) none G
theorem RzA.mo {C : Addr} {H G : Hp} {E : XK} {v : V} (s : Same H G) (h : RzA C H E v) : RzA C G E v := fun J dd s2 n e => h J dd (s.trans s2) (s.free n) e
theorem RzN.mo {N : Addr} {H G : Hp} {E : XK} (s : Same H G) (h : RzN N H E) : RzN N G E := fun J s2 => h J (s.trans s2)
def spInitR (C N : Addr) : Sp := fun vs H Q E => ∃ (x : Addr) (v1 v2 : V) (d1 d2 : PyData), vs = [.ref x, v1, v2] ∧ Da H v1 d1 ∧ Da H v2 d2 ∧ ((isIntD d1 = false ∧ RzA C H E v1) ∨ (isIntD d1 = true ∧ isIntD d2 = false ∧ RzA C H E v2) ∨ (isIntD d1 = true ∧ d2 = .int 0 ∧ RzN N H E))

theorem ok_initR {A C N : Addr} {fI pO gO pN gN f : Addr} {mc : Value} {fd : FuncData} (F : FunD K "__init__" "Amount.__init__" (defArgs s_Amount_init) (defBody s_Amount_init) (defScope s_Amount_init) [.int 1] [] f fd) (T : Txt K mg) (U : AmC K mg A fI pO gO pN gN mc) (cI : CalO P w K mg base "is_int" 1 ["value"] spIsIntD (fun _ => True)) (Z : ErrC P w K mg base "BadAmount" C ["self", "value"] (spI1 C "value")) (N_ : TxN K mg N) : FnOk P w K mg base (CX P w) 4 f fd ["self", "top", "bottom"] (spInitR C N) := by
  refine F.ok sc_Amount_init (fun vs H Q E h => ?_) (fun cdv A' outer s H vs Q E hr h => ?_)
  · obtain ⟨x, v1, v2, d1, d2, rfl, _⟩ := h
    rfl
  · obtain ⟨x, v1, v2, d1, d2, rfl, h1, h2, hc⟩ := h
    refine ⟨_, (pss_cons (s_if (pt_not (t_val (pe_cO cI (hr.mono (by decide)) (pa_cons (pc 1) pa_nil)))) (pss_one (ps_rz Z rfl (hr.mono (by decide)) (takes_of rfl rfl rfl rfl) (pa_cons (pc 1) pa_nil))) pss_nil)
    (pss_cons (s_if (pt_not (t_val (pe_cO cI (hr.mono (by decide)) (pa_cons (pc 2) pa_nil)))) (pss_one (ps_rz Z rfl (hr.mono (by decide)) (takes_of rfl rfl rfl rfl) (pa_cons (pc 2) pa_nil))) pss_nil)
    (pss_cons (s_if (t_cmp (o_eq hr.units) (pc 2) pe_int) (pss_one (ps_raise rfl (takes_of rfl rfl rfl rfl) (pmk_c0 PySem.F.excBase_ValueError N_.q N_.g_NoDivisor N_.kC (raises_own N_.sub N_.ty) rfl))) pss_nil)
    (pss_cons (ps_set (i := 3) sc_Amount_init.nd rfl (Or.inl rfl) (e_if (t_cmp o_gt (pc 2) pe_int) (pe_callBfun cr_gcd rfl U.gcd (pa_cons (pc 1) (pa_cons (pc 2) pa_nil))) (pe_un un_neg (pe_callBfun cr_gcd rfl U.gcd (pa_cons (pc 1) (pa_cons (pc 2) pa_nil))))))
    (pss_cons (ps_fld (pc 0) (pe_op o_fdivZ (pc 1) (pc 3)) (by rfl))
    (pss_one (ps_fld (pc 0) (pe_op o_fdivZ (pc 2) (pc 3)) (by rfl)))))))), ?_⟩
    refine ⟨_, d1, rfl, h1, ⟨fun e => ?_, fun e => ⟨_, d2, rfl, h2, ⟨fun e2 => ?_, fun e2 => ?_⟩⟩⟩⟩
    · have e : isIntD d1 = false := by simpa using e
      have z : RzA C H E v1 := by
        rcases hc with ⟨_, z⟩ | ⟨y, _, _⟩ | ⟨y, _, _⟩
        · exact z
        · rw [e] at y; cases y
        · rw [e] at y; cases y
      exact mk1_ans (Q := fun cls dd G => E cls dd G) fun dd nd => z _ dd (Same.new (Same.refl _) nd) nd upd_same
    · have e : isIntD d1 = true := by simpa using e
      have e2 : isIntD d2 = false := by simpa using e2
      have z : RzA C H E v2 := by
        rcases hc with ⟨y, _⟩ | ⟨_, _, z⟩ | ⟨_, y, _⟩
        · rw [e] at y; cases y
        · exact z
        · rw [y] at e2; cases e2
      exact mk1_ans (Q := fun cls dd G => E cls dd G) fun dd nd => z _ dd (Same.new (Same.refl _) nd) nd upd_same
    · have e : isIntD d1 = true := by simpa using e
      have e2 : isIntD d2 = true := by simpa using e2
      rcases hc with ⟨y, _⟩ | ⟨_, y, _⟩ | ⟨_, rfl, z⟩
      · rw [e] at y; cases y
      · rw [e2] at y; cases y
      · cases h2
        exact ⟨fun _ => z H (Same.refl H), fun h => absurd h (by decide)⟩

/-- none of the built-in kinds is an Amount -/
structure FarA (K : PySem.W.Frag) (A : Addr) : Prop where
  non : PySem.W.kitOne K (.type "NoneType") (.ref A) = some false
  bl : PySem.W.kitOne K (.type "bool") (.ref A) = some false
  int : PySem.W.kitOne K (.type "int") (.ref A) = some false
  str : PySem.W.kitOne K (.type "str") (.ref A) = some false
  lst : PySem.W.kitOne K (.type "list") (.ref A) = some false
  tup : PySem.W.kitOne K (.type "tuple") (.ref A) = some false
  dic : PySem.W.kitOne K (.type "dict") (.ref A) = some false
theorem da_far {K : PySem.W.Frag} {A : Addr} (U : FarA K A) {H : Hp} {x : V} {d : PyData} (h : Da H x d) : ∃ t, TyOf K H x t ∧ PySem.W.kitOne K t (.ref A) = some false := by
  cases h with
  | non => exact ⟨_, .non, U.non⟩
  | bl b => exact ⟨_, .bl b, U.bl⟩
  | int i => exact ⟨_, .int i, U.int⟩
  | str x => exact ⟨_, .str x, U.str⟩
  | lst e _ => exact ⟨_, .lst e, U.lst⟩
  | tup e _ => exact ⟨_, .tup e, U.tup⟩
  | dic e _ => exact ⟨_, .dK e, U.dic⟩
/-- making an Amount that is refused -/
theorem mkRz {A C N : Addr} {H : Hp} {v1 v2 : V} {d1 d2 : PyData} {Q : VK} {E : XK} (h1 : Da H v1 d1) (h2 : Da H v2 d2) (hc : (isIntD d1 = false ∧ RzA C H E v1) ∨ (isIntD d1 = true ∧ isIntD d2 = false ∧ RzA C H E v2) ∨ (isIntD d1 = true ∧ d2 = .int 0 ∧ RzN N H E)) :
    ∀ x dx, H x = none → H dx = none → dx ≠ x → spInitR C N [.ref x, v1, v2] (upd (upd H dx (.own x)) x (.ins A dx [])) Q E := fun x dx nx nd ne => by
  have s0 : Same H (upd (upd H dx (.own x)) x (.ins A dx [])) := Same.upN (Same.new (Same.refl H) nd) nx
  refine ⟨x, v1, v2, d1, d2, rfl, h1.mo s0, h2.mo s0, ?_⟩
  rcases hc with ⟨a, b⟩ | ⟨a, b, c⟩ | ⟨a, b, c⟩
  · exact .inl ⟨a, b.mo s0⟩
  · exact .inr (.inl ⟨a, b, c.mo s0⟩)
  · exact .inr (.inr ⟨a, b, c.mo s0⟩)
theorem sm_z {n : Nat} : Sm n 0 := Nat.two_pow_pos n
def spOfR (C : Addr) : Sp := fun vs H Q E => ∃ (v : V) (d : PyData), vs = [v] ∧ Da H v d ∧ isIntD d = false ∧ RzA C H E v
/-- a number is divided by 0 -/
def spZ (A N : Addr) : Sp := fun vs H Q E => ∃ (a : Addr) (v : V) (t b d : Int), vs = [.ref a, v] ∧ Am A H a t b ∧ Nu A H v 0 d ∧ Low 0 d ∧ Sm 400 t ∧ Sm 400 b ∧ Sm 400 d ∧ RzN N H E
/-- 0 divides an int -/
def spZr (A N : Addr) : Sp := fun vs H Q E => ∃ (a : Addr) (c d : Int), vs = [.ref a, .int c] ∧ Am A H a 0 d ∧ Low 0 d ∧ Sm 400 c ∧ Sm 400 d ∧ RzN N H E

theorem ok_ofR {A fI pO gO pN gN f : Addr} {mc : Value} {fd : FuncData} (F : Fun K "of" "Amount.of" s_Amount_of f fd) (T : Txt K mg) (U : AmC K mg A fI pO gO pN gN mc) (UF : FarA K A) {fdI : FuncData} {C N : Addr} (FI : FnOk P w K mg base (CX P w) 4 fI fdI ["self", "top", "bottom"] (spInitR C N)) {ds : List Value} (bI1 : Binds K fdI ["self", "top", "bottom"] ds) (vI1 : Vals [V.int 1] ds) (bI2 : Binds K fdI ["self", "top", "bottom"] []) : FnOk P w K mg base (CX P w) 6 f fd ["number"] (spOfR C) := by
  refine F.okX sc_Amount_of (fun vs H Q E h => ?_) (fun cdv A' outer s H vs Q E hr h => ?_)
  · obtain ⟨v, d, rfl, _⟩ := h
    rfl
  · obtain ⟨v, d, rfl, hd, hi, kb⟩ := h
    refine ⟨_, (pss_cons (s_if (t_val (pe_callB c_isi (by rfl) T.b_isinstance (by decide +kernel) (pa_cons (pc 0) (pa_cons (p_gc U.g_Amount) pa_nil)))) (pss_one (ps_ret (pc 0))) pss_nil)
    (pss_one (ps_ret (pe_make U.mkr FI (hr.mono (by decide)) rfl U.g_Amount bI1 vI1 (passes_call (takes_of rfl rfl rfl rfl) (fun _ _ _ _ z => z)) (pa_cons (pc 0) pa_nil))))), ?_⟩
    obtain ⟨t, ty, kt⟩ := da_far UF hd
    exact ⟨_, _, t, _, false, rfl, ty, (fun u r => r), kt, ⟨fun h => absurd h (by decide), fun _ => mkRz (N := N) (Q := fun _ _ => False) hd (.int 1) (.inl ⟨hi, kb⟩)⟩⟩

theorem ok_overR {A fI pO gO pN gN f : Addr} {mc : Value} {fd : FuncData} (F : Fun K "over" "Amount.over" s_Amount_over f fd) (T : Txt K mg) (U : AmC K mg A fI pO gO pN gN mc) {fdI : FuncData} {C N : Addr} (FI : FnOk P w K mg base (CX P w) 4 fI fdI ["self", "top", "bottom"] (spInitR C N)) {ds : List Value} (bI1 : Binds K fdI ["self", "top", "bottom"] ds) (vI1 : Vals [V.int 1] ds) (bI2 : Binds K fdI ["self", "top", "bottom"] []) {fdO fdN : FuncData} (FO : FnOk P w K mg base CX0 4 gO fdO ["number"] (spOf A)) (bO : Binds K fdO ["number"] []) (FN : FnOk P w K mg base CX0 2 gN fdN ["value"] (spIsNum A)) (bN : Binds K fdN ["value"] []) : FnOk P w K mg base (CX P w) 6 f fd ["self", "number"] (spZ A N) := by
  refine F.okX sc_Amount_over (fun vs H Q E h => ?_) (fun cdv A' outer s H vs Q E hr h => ?_)
  · obtain ⟨a, v, t, b, d, rfl, _⟩ := h
    rfl
  · obtain ⟨a, v, t, b, d, rfl, am, n, lo2, St, Sb, Sd, k⟩ := h
    refine ⟨_, (pss_cons (ps_set (i := 2) sc_Amount_over.nd rfl (Or.inl rfl) (pe_sm (p_gc U.g_Amount) U.sO FO bO (hr.mono (by decide)) pass0 (pa_cons (pc 1) pa_nil)))
    (pss_one (ps_ret (pe_make U.mkr FI (hr.mono (by decide)) rfl U.g_Amount bI2 .nil (passes_call (takes_of rfl rfl rfl rfl) (fun _ _ _ _ z => z)) (pa_cons (pe_op o_mulW (pe_fld (pc 0) rfl) (pe_fld (pc 2) rfl)) (pa_cons (pe_op o_mulW (pe_fld (pc 0) rfl) (pe_fld (pc 2) rfl)) pa_nil)))))), ?_⟩
    refine ⟨rfl, v, 0, d, rfl, n, sm_z, fun r G s a2 => ?_⟩
    obtain ⟨dx, e⟩ := am.mo s
    obtain ⟨dr, er⟩ := a2
    refine ⟨a, A, _, _, _, rfl, e, U.cls, U.nT, rfl, r, A, _, _, _, rfl, er, U.cls, U.nB, rfl, St.cMul Sd, a, A, _, _, _, rfl, e, U.cls, U.nB, rfl, r, A, _, _, _, rfl, er, U.cls, U.nT, rfl, Sb.cMul (sm_z : Sm 400 0), ?_⟩
    exact mkRz (C := C) (Q := fun _ _ => False) (.int _) (.int _) (.inr (.inr ⟨rfl, congrArg PyData.int (Int.mul_zero b), k.mo s⟩))

theorem ok_floR {N : Addr} {A fI pO gO pN gN f : Addr} {mc : Value} {fd : FuncData} (F : Fun K "__floordiv__" "Amount.__floordiv__" s_Amount_floordiv f fd) (T : Txt K mg) (U : AmC K mg A fI pO gO pN gN mc) {fdO fdN : FuncData} (FO : FnOk P w K mg base CX0 4 gO fdO ["number"] (spOf A)) (bO : Binds K fdO ["number"] []) (FN : FnOk P w K mg base CX0 2 gN fdN ["value"] (spIsNum A)) (bN : Binds K fdN ["value"] []) {fOver : Addr} {fdOver : FuncData} (FOver : FnOk P w K mg base (CX P w) 6 fOver fdOver ["self", "number"] (spZ A N)) (bOver : Binds K fdOver ["self", "number"] []) (mOver : Meth K A "over" fOver) : FnOk P w K mg base (CX P w) 8 f fd ["self", "other"] (spZ A N) := by
  refine F.okX sc_Amount_floordiv (fun vs H Q E h => ?_) (fun cdv A' outer s H vs Q E hr h => ?_)
  · obtain ⟨a, v, t, b, d, rfl, _⟩ := h
    rfl
  · obtain ⟨a, v, t, b, d, rfl, am, n, lo2, St, Sb, Sd, k⟩ := h
    refine ⟨_, (pss_cons (s_if (pt_not (t_val (pe_sm (p_gc U.g_Amount) U.sN FN bN (hr.mono (by decide)) pass0 (pa_cons (pc 1) pa_nil)))) (pss_one ps_dead) pss_nil)
    (pss_cons (ps_set (i := 2) sc_Amount_floordiv.nd rfl (Or.inl rfl) (pe_meth (pc 0) U.cls mOver FOver (hr.mono (by decide)) bOver .nil (passes_call (takes_of rfl rfl rfl rfl) (fun _ _ _ _ z => z)) (pa_cons (pc 1) pa_nil)))
    (pss_one (ps_ret (pe_op o_fdivZ (pe_fld (pc 2) rfl) (pe_fld (pc 2) rfl)))))), ?_⟩
    refine ⟨rfl, v, 0, d, rfl, n, ⟨fun h => absurd h (by decide), fun _ => ?_⟩⟩
    obtain ⟨dx, e⟩ := id am
    exact ⟨a, dx, _, rfl, e, rfl, a, v, t, b, d, rfl, am, n, lo2, St, Sb, Sd, k⟩

theorem ok_rfloR {N : Addr} {A fI pO gO pN gN f : Addr} {mc : Value} {fd : FuncData} (F : Fun K "__rfloordiv__" "Amount.__rfloordiv__" s_Amount_rfloordiv f fd) (T : Txt K mg) (U : AmC K mg A fI pO gO pN gN mc) {fdO fdN : FuncData} (FO : FnOk P w K mg base CX0 4 gO fdO ["number"] (spOf A)) (bO : Binds K fdO ["number"] []) (FN : FnOk P w K mg base CX0 2 gN fdN ["value"] (spIsNum A)) (bN : Binds K fdN ["value"] []) {gX : Addr} {fFlo : Addr} {fdFlo : FuncData} (FFlo : FnOk P w K mg base (CX P w) 8 fFlo fdFlo ["self", "other"] (spZ A N)) (bFlo : Binds K fdFlo ["self", "other"] []) (Ofdiv : PySem.HXO.OwnOp K A .FloorDiv fFlo gX) : FnOk P w K mg base (CX P w) 9 f fd ["self", "other"] (spZr A N) := by
  refine F.okX sc_Amount_rfloordiv (fun vs H Q E h => ?_) (fun cdv A' outer s H vs Q E hr h => ?_)
  · obtain ⟨a, c, d, rfl, _⟩ := h
    rfl
  · obtain ⟨a, c, d, rfl, am, lo2, Sc, Sd, k⟩ := h
    refine ⟨_, (pss_cons (s_if (pt_not (t_val (pe_sm (p_gc U.g_Amount) U.sN FN bN (hr.mono (by decide)) pass0 (pa_cons (pc 1) pa_nil)))) (pss_one ps_dead) pss_nil)
    (pss_one (ps_ret (pe_op (op_owL PySem.HXO.io_fdiv Ofdiv FFlo bFlo (hr.mono (by decide)) (passes_call (takes_of rfl rfl rfl rfl) (fun _ _ _ _ z => z))) (pe_sm (p_gc U.g_Amount) U.sO FO bO (hr.mono (by decide)) pass0 (pa_cons (pc 1) pa_nil)) (pc 0))))), ?_⟩
    refine ⟨rfl, .int c, c, 1, rfl, .inr ⟨rfl, rfl⟩, ⟨fun h => absurd h (by decide), fun _ => ⟨rfl, .int c, c, 1, rfl, .inr ⟨rfl, rfl⟩, Sc.mono (by decide), fun r G s ar => ?_⟩⟩⟩
    exact ⟨ar.isI, (am.mo s).isI, r, _, c, 1, d, rfl, ar, .inl ⟨a, rfl, am.mo s⟩, lo2, Sc, sm_one.mono (by decide), Sd, k.mo s⟩

theorem ok_ifloR {N : Addr} {A fI pO gO pN gN f : Addr} {mc : Value} {fd : FuncData} (F : Fun K "__ifloordiv__" "Amount.__ifloordiv__" s_Amount_ifloordiv f fd) (T : Txt K mg) (U : AmC K mg A fI pO gO pN gN mc) {gX : Addr} {fFlo : Addr} {fdFlo : FuncData} (FFlo : FnOk P w K mg base (CX P w) 8 fFlo fdFlo ["self", "other"] (spZ A N)) (bFlo : Binds K fdFlo ["self", "other"] []) (Ofdiv : PySem.HXO.OwnOp K A .FloorDiv fFlo gX) : FnOk P w K mg base (CX P w) 9 f fd ["self", "other"] (spZ A N) := by
  refine F.okX sc_Amount_ifloordiv (fun vs H Q E h => ?_) (fun cdv A' outer s H vs Q E hr h => ?_)
  · obtain ⟨a, v, t, b, d, rfl, _⟩ := h
    rfl
  · obtain ⟨a, v, t, b, d, rfl, am, n, lo2, St, Sb, Sd, k⟩ := h
    refine ⟨_, (pss_one (ps_ret (pe_op (op_owL PySem.HXO.io_fdiv Ofdiv FFlo bFlo (hr.mono (by decide)) (passes_call (takes_of rfl rfl rfl rfl) (fun _ _ _ _ z => z))) (pc 0) (pc 1)))), ?_⟩
    rcases n with ⟨y, rfl, an⟩ | ⟨rfl, rfl⟩
    · exact ⟨am.isI, an.isI, a, _, t, b, d, rfl, am, .inl ⟨y, rfl, an⟩, lo2, St, Sb, Sd, k⟩
    · exact ⟨am.isI, a, _, t, b, 1, rfl, am, .inr ⟨rfl, rfl⟩, lo2, St, Sb, Sd, k⟩

theorem ok_modR {N : Addr} {A fI pO gO pN gN f : Addr} {mc : Value} {fd : FuncData} (F : Fun K "__mod__" "Amount.__mod__" s_Amount_mod f fd) (T : Txt K mg) (U : AmC K mg A fI pO gO pN gN mc) {gX : Addr} {fFlo : Addr} {fdFlo : FuncData} (FFlo : FnOk P w K mg base (CX P w) 8 fFlo fdFlo ["self", "other"] (spZ A N)) (bFlo : Binds K fdFlo ["self", "other"] []) (Ofdiv : PySem.HXO.OwnOp K A .FloorDiv fFlo gX) {gY : Addr} {fRm : Addr} {fdRm : FuncData} (FRm : FnOk P w K mg base CX0 6 fRm fdRm ["self", "other"] (spBin A 400 pMul qBD)) (bRm : Binds K fdRm ["self", "other"] []) (Omul : PySem.HXO.OwnOp K A .Mult gY fRm) {gV : Addr} {fSub : Addr} {fdSub : FuncData} (FSub : FnOk P w K mg base CX0 6 fSub fdSub ["self", "other"] (spBin A 400 pSub qBD)) (bSub : Binds K fdSub ["self", "other"] []) (Osub : PySem.HXO.OwnOp K A .Sub fSub gV) : FnOk P w K mg base (CX P w) 9 f fd ["self", "other"] (spZ A N) := by
  refine F.okX sc_Amount_mod (fun vs H Q E h => ?_) (fun cdv A' outer s H vs Q E hr h => ?_)
  · obtain ⟨a, v, t, b, d, rfl, _⟩ := h
    rfl
  · obtain ⟨a, v, t, b, d, rfl, am, n, lo2, St, Sb, Sd, k⟩ := h
    refine ⟨_, (pss_one (ps_ret (pe_op (op_owL PySem.HXO.io_sub Osub FSub bSub (hr.mono (by decide)) pass0) (pc 0) (pe_op (op_owR PySem.HXO.io_mul o_mulW Omul FRm bRm (hr.mono (by decide)) pass0) (pe_op (op_owL PySem.HXO.io_fdiv Ofdiv FFlo bFlo (hr.mono (by decide)) (passes_call (takes_of rfl rfl rfl rfl) (fun _ _ _ _ z => z))) (pc 0) (pc 1)) (pc 1))))), ?_⟩
    rcases n with ⟨y, rfl, an⟩ | ⟨rfl, rfl⟩
    · exact ⟨am.isI, an.isI, a, _, t, b, d, rfl, am, .inl ⟨y, rfl, an⟩, lo2, St, Sb, Sd, k⟩
    · exact ⟨am.isI, a, _, t, b, 1, rfl, am, .inr ⟨rfl, rfl⟩, lo2, St, Sb, Sd, k⟩

theorem ok_rmodR {N : Addr} {A fI pO gO pN gN f : Addr} {mc : Value} {fd : FuncData} (F : Fun K "__rmod__" "Amount.__rmod__" s_Amount_rmod f fd) (T : Txt K mg) (U : AmC K mg A fI pO gO pN gN mc) {gX : Addr} {fRfl : Addr} {fdRfl : FuncData} (FRfl : FnOk P w K mg base (CX P w) 9 fRfl fdRfl ["self", "other"] (spZr A N)) (bRfl : Binds K fdRfl ["self", "other"] []) (Ofdiv : PySem.HXO.OwnOp K A .FloorDiv gX fRfl) {gY : Addr} {fRm : Addr} {fdRm : FuncData} (FRm : FnOk P w K mg base CX0 6 fRm fdRm ["self", "other"] (spBin A 400 pMul qBD)) (bRm : Binds K fdRm ["self", "other"] []) (Omul : PySem.HXO.OwnOp K A .Mult gY fRm) {gV : Addr} {fRs : Addr} {fdRs : FuncData} (FRs : FnOk P w K mg base CX0 6 fRs fdRs ["self", "other"] (spBin A 400 pRsub qBD)) (bRs : Binds K fdRs ["self", "other"] []) (Osub : PySem.HXO.OwnOp K A .Sub gV fRs) : FnOk P w K mg base (CX P w) 10 f fd ["self", "other"] (spZr A N) := by
  refine F.okX sc_Amount_rmod (fun vs H Q E h => ?_) (fun cdv A' outer s H vs Q E hr h => ?_)
  · obtain ⟨a, c, d, rfl, _⟩ := h
    rfl
  · obtain ⟨a, c, d, rfl, am, lo2, Sc, Sd, k⟩ := h
    refine ⟨_, (pss_one (ps_ret (pe_op (op_owR PySem.HXO.io_sub o_sub Osub FRs bRs (hr.mono (by decide)) pass0) (pc 1) (pe_op (op_owR PySem.HXO.io_mul o_mulW Omul FRm bRm (hr.mono (by decide)) pass0) (pe_op (op_owR PySem.HXO.io_fdiv o_fdivZ Ofdiv FRfl bRfl (hr.mono (by decide)) (passes_call (takes_of rfl rfl rfl rfl) (fun _ _ _ _ z => z))) (pc 1) (pc 0)) (pc 0))))), ?_⟩
    exact ⟨am.isI, a, c, d, rfl, am, lo2, Sc, Sd, k⟩

end
end LW
set_option Elab.async false
set_option linter.all false
set_option maxRecDepth 100000
set_option maxHeartbeats 4000000
namespace HX
open PySem PySem.Spec PyProof.Rows L2
section
variable {X : Cx}
/-- errors are caught in a state of the def's own length -/
theorem takes_len {W : WX} (t : Takes X W) : Takes X (fun c d σ H => σ.length = X.N.length → W c d σ H) := fun u s' h => by
  obtain ⟨a, B, sI, pins, σ, H, cls, d, e, I, r1, r2, r3, r4, r5, r6, w⟩ := h
  exact t u s' ⟨a, B, sI, pins, σ, H, cls, d, e, I, r1, r2, r3, r4, r5, r6, w I.len⟩
/-- isinstance(e, (A, B, ..)) of a kept error -/
def rIsXT (K : PySem.W.Frag) : List V → Hp → VK → Prop := fun xs H Q => ∃ (a D tp : Addr) (d : Option Addr) (cs : List V) (us : List Value) (b : Bool), xs = [.ref a, .ref tp] ∧ H a = some (exT a (.ref D) d) ∧ (∀ dd, d = some dd → ∃ fs, H dd = some (.xd fs)) ∧ ExC K D ∧ H tp = some (.tup cs) ∧ (∀ ws, Vals cs ws → ws = us) ∧
  PySem.W.kitAny K (.ref D) us = some b ∧ Q (.bl b) H
theorem call_isXT : CallR X (.builtin "isinstance") (rIsXT X.K) := by
  intro pins s σ H xs us Q I r h
  obtain ⟨a, D, tp, d, cs, us', b, rfl, ea, ed, T, et, hu, hk, q⟩ := h
  obtain ⟨u, u2, rfl, r1, r2⟩ := vals2 r
  cases r1
  cases r2
  obtain ⟨its, rv, ⟨o, ho, hc, n, hd⟩, _⟩ := I.tuple (SqT.of et)
  have e2 := hu _ rv
  subst e2
  obtain ⟨oe, vs, z1, z2, z3⟩ := exT_at I.hok ea
  have hcl : (PySem.W.clsIn X.K D).isSome = true := by
    obtain ⟨cd, z, _⟩ := PySem.W.any_some T.hd
    rw [z]
    rfl
  obtain ⟨oc, odd, odt, osl⟩ := o
  dsimp only at hc hd
  subst hc
  subst hd
  cases d with
  | none => exact PySem.W.kia_tup (PySem.W.kitx_exc hcl T.ga T.gg T.sub T.ha T.hn T.ht T.hm) I.kIn (instAt_of0 z1 z2 z3) ho hk (fun z => nomatch z) fun tk => ⟨.bl b, H, I.kept (t' := tk) fun _ _ z => z, rfl, q⟩
  | some dd =>
    obtain ⟨fs, ed⟩ := ed dd rfl
    obtain ⟨mA, ⟨od, _, _, ho2, _⟩, _⟩ := (show ObjOk X.prog X.w H s.heap dd (.xd fs) from I.hok dd _ ed)
    exact PySem.W.kia_tup (PySem.W.kitx_exc hcl T.ga T.gg T.sub T.ha T.hn T.ht T.hm) I.kIn (instAt_of z1 z2 z3 ho2) ho hk (fun z => nomatch z) fun tk => ⟨.bl b, H, I.kept (t' := tk) fun _ _ z => z, rfl, q⟩
theorem vals_refs {cs : List Addr} {ws : List Value} (r : Vals (cs.map V.ref) ws) : ws = cs.map Value.ref := by
  induction cs generalizing ws with
  | nil => cases r; rfl
  | cons c cs ih =>
    cases r with
    | cons r1 r2 =>
      rw [ih r2]
      cases r1
      rfl
end
end HX

set_option Elab.async false
set_option linter.all false
set_option maxRecDepth 100000
set_option maxHeartbeats 4000000
namespace LW
open PySem PySem.Spec PyProof.Rows L2 HX
section
variable {P : Program} {w : World} {K : PySem.W.Frag} {mg : Str → Option Value} {base : Heap}

/-- the classes of errors, as heard sees them: S ShiftError, C BadAmount, N NoDivisor -/
structure TxH (K : PySem.W.Frag) (mg : Str → Option Value) (S C N BG BT RF BI NA : Addr) : Prop where
  g_ShiftError : mg "ShiftError" = some (.ref S)
  g_BadAmount : mg "BadAmount" = some (.ref C)
  g_NoDivisor : mg "NoDivisor" = some (.ref N)
  g_BadGaps : mg "BadGaps" = some (.ref BG)
  g_BadText : mg "BadText" = some (.ref BT)
  g_Refused : mg "Refused" = some (.ref RF)
  g_BadInput : mg "BadInput" = some (.ref BI)
  g_NoAnswer : mg "NoAnswer" = some (.ref NA)
  b_ValueError : mg "ValueError" = none
  exC : ExC K C
  exN : ExC K N
  mC : PySem.W.exmOne K (.ref C) (.ref S) = some true
  mN : PySem.W.exmOne K (.ref N) (.ref S) = some true
  vC : PySem.W.kitOne K (.ref C) (.type "ValueError") = some true
  vN : PySem.W.kitOne K (.ref N) (.type "ValueError") = some true
  oC : PySem.W.kitAny K (.ref C) [.ref BG, .ref BT, .ref RF] = some false
  oN : PySem.W.kitAny K (.ref N) [.ref BG, .ref BT, .ref RF] = some false
  cC : PySem.W.kitOne K (.ref C) (.ref C) = some true
  cN : PySem.W.kitOne K (.ref N) (.ref C) = some false
  iC : PySem.W.kitOne K (.ref C) (.ref BI) = some true
  iN : PySem.W.kitOne K (.ref N) (.ref BI) = some false
  aC : PySem.W.kitAny K (.ref C) [.ref NA, .ref N] = some false
  aN : PySem.W.kitOne K (.ref N) (.ref NA) = some true
  nN : PySem.W.kitOne K (.ref N) (.ref N) = some true
  no : PySem.W.findIn K (.ref C) "value" = some none
/-- what heard makes of a call that is refused -/
def TTh (C N : Addr) : (XK → Hp → VK → Prop) → Hp → VK → Prop := fun tl H Q =>
  (∃ v, (∀ Ech Qv, RzA C H Ech v → tl Ech H Qv) ∧ ∀ q G, H q = none → Same H G → G q = some (.tup [.str "amount", v, .bl true, .bl false]) → Q (.ref q) G) ∨
  ((∀ Ech Qv, RzN N H Ech → tl Ech H Qv) ∧ ∀ q G, H q = none → Same H G → G q = some (.tup [.str "divisor", .bl true, .bl false]) → Q (.ref q) G) ∨
  ∃ (p l : Addr) (k : Int), (∀ Ech Qv, (∀ G, Kp p H G → Pe G p l k → Ech (.ref N) none G) → tl Ech H Qv) ∧ ∀ q G, H q = none → q ≠ p → Kp p H G → Pe G p l k → G q = some (.tup [.str "divisor", .bl true, .bl false]) → Q (.ref q) G
theorem Kp.free2 {p q : Addr} {H G : Hp} (k : Kp p H G) (n : q ≠ p) (h : G q = none) : H q = none := by
  cases e : H q with
  | none => rfl
  | some o =>
    rw [k _ _ n e] at h
    cases h

theorem heard_gives {X : Cx} {S C N BG BT RF BI NA g : Addr} {cdg : Value} {qn : Str} (T : Txt X.K X.mg) (V_ : TxH X.K X.mg S C N BG BT RF BI NA) : LamX.GivesTo X n__law_heard "_law_heard" (defScope s__law_heard) g cdg (defBody s__law_heard) "_law_call" qn (TTh C N) := by
  intro f c' s H Q tl act hc h
  refine ⟨_, (pss_cons (ps_set (i := 1) sc__law_heard.nd rfl (Or.inl rfl) pe_non)
    (pss_cons (ps_set (i := 2) sc__law_heard.nd rfl (Or.inl rfl) pe_non)
    (pss_cons (ps_try_keep (i := 3) (Wout := fun _ _ _ _ => False) rfl rfl sc__law_heard.nd rfl rfl ⟨rfl, by decide, Or.inl V_.g_ShiftError⟩ LamX.takes0
      (fun W pn xe tk _ => pss_one (ps_set (i := 2) sc__law_heard.nd rfl (Or.inl rfl) (act (fun c d σ H => σ.length = 4 → W c d σ H) pn xe (fun cls d G => ∀ σ' : L2.St, σ'.length = 4 → W cls d σ' G) _ _ (takes_len tk) (fun _ _ σ' _ h => h σ')))) (fun a pn => (pss_one (ps_set (i := 1) sc__law_heard.nd rfl (Or.inl rfl) (pc 3)))))
    (pss_cons (s_if (t_cmp o_is (pc 1) pe_non) (pss_one (ps_ret (pe_lstS (pa_cons (pc 2) pa_nil)))) pss_nil)
    (pss_cons (s_if (PW.pt (w_or (pt_not (t_val (pe_callB call_isX (by rfl) T.b_isinstance (by decide +kernel) (pa_cons (pc 1) (pa_cons (pe_bltn (v := .ty "ValueError") (u := .type "ValueError") (by rfl) V_.b_ValueError (by decide +kernel) rfl) pa_nil))))) (pw_or1 (t_val (pe_callB call_isXT (by rfl) T.b_isinstance (by decide +kernel) (pa_cons (pc 1) (pa_cons (pe_tup (pa_cons (p_gc V_.g_BadGaps) (pa_cons (p_gc V_.g_BadText) (pa_cons (p_gc V_.g_Refused) pa_nil)))) pa_nil))))))) (pss_one (ps_ret (pe_tup (pa_cons pe_str pa_nil)))) pss_nil)
    (pss_cons (s_if (t_val (pe_callB call_isX (by rfl) T.b_isinstance (by decide +kernel) (pa_cons (pc 1) (pa_cons (p_gc V_.g_BadAmount) pa_nil)))) (pss_one (ps_ret (pe_tup (pa_cons pe_str (pa_cons (pe_exf (pc 1)) (pa_cons (pe_callB call_isX (by rfl) T.b_isinstance (by decide +kernel) (pa_cons (pc 1) (pa_cons (p_gc V_.g_BadInput) pa_nil))) (pa_cons (pe_callB call_isXT (by rfl) T.b_isinstance (by decide +kernel) (pa_cons (pc 1) (pa_cons (pe_tup (pa_cons (p_gc V_.g_NoAnswer) (pa_cons (p_gc V_.g_NoDivisor) pa_nil))) pa_nil))) pa_nil))))))) pss_nil)
    (pss_cons (s_if (pt_not (t_val (pe_callB call_isX (by rfl) T.b_isinstance (by decide +kernel) (pa_cons (pc 1) (pa_cons (p_gc V_.g_NoDivisor) pa_nil))))) (pss_one (ps_ret (pe_tup (pa_cons pe_str pa_nil)))) pss_nil)
    (pss_one (ps_ret (pe_tup (pa_cons pe_str (pa_cons (pe_callB call_isX (by rfl) T.b_isinstance (by decide +kernel) (pa_cons (pc 1) (pa_cons (p_gc V_.g_NoAnswer) pa_nil))) (pa_cons (pe_callB call_isX (by rfl) T.b_isinstance (by decide +kernel) (pa_cons (pc 1) (pa_cons (p_gc V_.g_BadInput) pa_nil))) pa_nil))))))))))))), ?_⟩
  rcases h with ⟨v, h1, h2⟩ | ⟨h1, h2⟩ | ⟨p, l, k0, h1, h2⟩
  · refine ⟨rfl, hc, h1 _ _ fun G dd sG nd ed σ' hl => ?_⟩
    obtain ⟨x0, x1, x2, x3, rfl⟩ : ∃ x0 x1 x2 x3, σ' = [x0, x1, x2, x3] := by
      match σ', hl with
      | [a, b, c, d], _ => exact ⟨a, b, c, d, rfl⟩
    refine ⟨true, V_.mC, fun _ e na => ?_, fun z => Bool.noConfusion z⟩
    have s3 := Same.new (o := exT e (.ref C) (some dd)) sG na
    have e1 : upd G e (exT e (.ref C) (some dd)) e = some (exT e (.ref C) (some dd)) := upd_same
    have e2 := kpN (o := exT e (.ref C) (some dd)) ed na
    generalize upd G e (exT e (.ref C) (some dd)) = G3 at s3 e1 e2 ⊢
    refine ⟨fun h => by simp at h, fun _ => ?_⟩
    refine ⟨e, C, some dd, _, .type "ValueError", true, rfl, e1, fun _ z => ⟨_, by cases z; exact e2⟩, V_.exC, (fun u r => r), V_.vC, ⟨fun h => absurd h (by decide), fun _ => ?_⟩⟩
    refine ⟨by show 3 ≤ sizeLine; decide, fun tp ntp => ?_⟩
    have s4 := Same.new (o := .tup [.ref BG, .ref BT, .ref RF]) s3 ntp
    refine ⟨e, C, tp, some dd, _, _, false, rfl, kpN e1 ntp, fun _ z => ⟨_, by cases z; exact kpN e2 ntp⟩, V_.exC, upd_same, (fun ws r => vals_refs (cs := [BG, BT, RF]) r), V_.oC, ⟨fun h => absurd h (by decide), fun _ => ?_⟩⟩
    refine ⟨e, C, some dd, _, _, true, rfl, kpN e1 ntp, fun _ z => ⟨_, by cases z; exact kpN e2 ntp⟩, V_.exC, (fun u r => r), V_.cC, ⟨fun _ => ?_, fun h => Bool.noConfusion h⟩⟩
    refine ⟨e, C, dd, _, v, rfl, kpN e1 ntp, kpN e2 ntp, V_.exC, V_.no, rfl, e, C, some dd, _, _, true, rfl, kpN e1 ntp, fun _ z => ⟨_, by cases z; exact kpN e2 ntp⟩, V_.exC, (fun u r => r), V_.iC, ?_⟩
    refine ⟨by show 2 ≤ sizeLine; decide, fun t2 n2 => ?_⟩
    have s5 := Same.new (o := .tup [.ref NA, .ref N]) s4 n2
    exact ⟨e, C, t2, some dd, _, _, false, rfl, kpN (kpN e1 ntp) n2, fun _ z => ⟨_, by cases z; exact kpN (kpN e2 ntp) n2⟩, V_.exC, upd_same, (fun ws r => vals_refs (cs := [NA, N]) r), V_.aC, by show 4 ≤ sizeLine; decide, fun q nq => h2 q _ (s5.free nq) (Same.new s5 nq) upd_same⟩
  · refine ⟨rfl, hc, h1 _ _ fun G sG σ' hl => ?_⟩
    obtain ⟨x0, x1, x2, x3, rfl⟩ : ∃ x0 x1 x2 x3, σ' = [x0, x1, x2, x3] := by
      match σ', hl with
      | [a, b, c, d], _ => exact ⟨a, b, c, d, rfl⟩
    refine ⟨true, V_.mN, fun _ e na => ?_, fun z => Bool.noConfusion z⟩
    have s3 := Same.new (o := exT e (.ref N) none) sG na
    have e1 : upd G e (exT e (.ref N) none) e = some (exT e (.ref N) none) := upd_same
    generalize upd G e (exT e (.ref N) none) = G3 at s3 e1 ⊢
    refine ⟨fun h => by simp at h, fun _ => ?_⟩
    refine ⟨e, N, none, _, .type "ValueError", true, rfl, e1, (fun _ z => nomatch z), V_.exN, (fun u r => r), V_.vN, ⟨fun h => absurd h (by decide), fun _ => ?_⟩⟩
    refine ⟨by show 3 ≤ sizeLine; decide, fun tp ntp => ?_⟩
    have s4 := Same.new (o := .tup [.ref BG, .ref BT, .ref RF]) s3 ntp
    refine ⟨e, N, tp, none, _, _, false, rfl, kpN e1 ntp, (fun _ z => nomatch z), V_.exN, upd_same, (fun ws r => vals_refs (cs := [BG, BT, RF]) r), V_.oN, ⟨fun h => absurd h (by decide), fun _ => ?_⟩⟩
    refine ⟨e, N, none, _, _, false, rfl, kpN e1 ntp, (fun _ z => nomatch z), V_.exN, (fun u r => r), V_.cN, ⟨fun h => Bool.noConfusion h, fun _ => ?_⟩⟩
    refine ⟨e, N, none, _, _, true, rfl, kpN e1 ntp, (fun _ z => nomatch z), V_.exN, (fun u r => r), V_.nN, ⟨fun h => absurd h (by decide), fun _ => ?_⟩⟩
    refine ⟨e, N, none, _, _, true, rfl, kpN e1 ntp, (fun _ z => nomatch z), V_.exN, (fun u r => r), V_.aN, e, N, none, _, _, false, rfl, kpN e1 ntp, (fun _ z => nomatch z), V_.exN, (fun u r => r), V_.iN, ?_⟩
    exact ⟨by show 3 ≤ sizeLine; decide, fun q nq => h2 q _ (s4.free nq) (Same.new s4 nq) upd_same⟩
  · refine ⟨rfl, hc, h1 _ _ fun G sG PG σ' hl => ?_⟩
    obtain ⟨x0, x1, x2, x3, rfl⟩ : ∃ x0 x1 x2 x3, σ' = [x0, x1, x2, x3] := by
      match σ', hl with
      | [a, b, c, d], _ => exact ⟨a, b, c, d, rfl⟩
    refine ⟨true, V_.mN, fun _ e na => ?_, fun z => Bool.noConfusion z⟩
    have s3 : Kp p H (upd G e (exT e (.ref N) none)) := sG.new na
    have P3 := PG.new (o := exT e (.ref N) none) na
    have e1 : upd G e (exT e (.ref N) none) e = some (exT e (.ref N) none) := upd_same
    generalize upd G e (exT e (.ref N) none) = G3 at s3 e1 P3 ⊢
    refine ⟨fun h => by simp at h, fun _ => ?_⟩
    refine ⟨e, N, none, _, .type "ValueError", true, rfl, e1, (fun _ z => nomatch z), V_.exN, (fun u r => r), V_.vN, ⟨fun h => absurd h (by decide), fun _ => ?_⟩⟩
    refine ⟨by show 3 ≤ sizeLine; decide, fun tp ntp => ?_⟩
    have s4 : Kp p H (upd G3 tp (.tup [.ref BG, .ref BT, .ref RF])) := s3.new ntp
    have P4 := P3.new (o := .tup [.ref BG, .ref BT, .ref RF]) ntp
    refine ⟨e, N, tp, none, _, _, false, rfl, kpN e1 ntp, (fun _ z => nomatch z), V_.exN, upd_same, (fun ws r => vals_refs (cs := [BG, BT, RF]) r), V_.oN, ⟨fun h => absurd h (by decide), fun _ => ?_⟩⟩
    refine ⟨e, N, none, _, _, false, rfl, kpN e1 ntp, (fun _ z => nomatch z), V_.exN, (fun u r => r), V_.cN, ⟨fun h => Bool.noConfusion h, fun _ => ?_⟩⟩
    refine ⟨e, N, none, _, _, true, rfl, kpN e1 ntp, (fun _ z => nomatch z), V_.exN, (fun u r => r), V_.nN, ⟨fun h => absurd h (by decide), fun _ => ?_⟩⟩
    refine ⟨e, N, none, _, _, true, rfl, kpN e1 ntp, (fun _ z => nomatch z), V_.exN, (fun u r => r), V_.aN, e, N, none, _, _, false, rfl, kpN e1 ntp, (fun _ z => nomatch z), V_.exN, (fun u r => r), V_.iN, ?_⟩
    exact ⟨by show 3 ≤ sizeLine; decide, fun q nq => h2 q _ (Kp.free2 s4 (P4.ne nq) nq) (P4.ne nq) (s4.new nq) (P4.new nq) upd_same⟩

end
end LW
set_option Elab.async false
set_option linter.all false
set_option maxRecDepth 100000
set_option maxHeartbeats 2000000
namespace HX
open PySem PySem.Spec PyProof.Rows L2

/-! ### repr of a list: the list itself may stand anywhere, what is in it not at sys.modules -/
theorem shows_list {P : Program} {w : World} {hp : Heap} {b : Addr} {ob : Obj} {its : Array Value} {k : Nat} {ds : List PyData} {as : List Addr} (g1 : hp.get? b = some ob) (g2 : ob.cls = .type "list") (g3 : ob.data = .seq its k) (g4 : ReadsAll hp its.toList ds as)
    (sh : (PyData.list ds).showable = true) (ns : sysModules ∉ as) (sz : (PyData.list ds).shown.length ≤ sizeLine) : ShowsBy P w hp b (.list ds) "list" "list.__repr__" := by
  have sz2 : (listText (PyData.shownAll ds)).length ≤ sizeLine := by simpa only [PyData.shown] using sz
  have sh2 : PyData.showableAll ds = true := by simpa [PyData.showable] using sh
  obtain ⟨cs, c1, c2⟩ := ReprAllK.of_readsAll (prog := P) (w := w) g4 sh2 (fun _ => ns) (fun t ht => Nat.le_trans (listText_mem_le ht) sz2)
  have out : b ∉ cs := not_mem_of_deeper (Reads.list g1 g2 g3 g4) (by simp only [PyData.depth]; omega) c1
  exact {
    slotRepr := F.slot_list_repr.toG
    slotStr := F.slot_list_str
    slotFmt := F.slot_list_format
    typeIs := fun s kp => ⟨ob, kp _ _ g1, g2⟩
    call := fun A E s Q hg hu kp hQ => by
      simp only [PyData.depth] at hu
      simp only [PyData.shown] at hQ
      obtain ⟨li⟩ := its
      cases li with
      | cons y r => exact call_list_reprK g1 g2 g3 out (by simpa using c2.length_eq) (fun i z e => c2.item i z (by simpa using e)) hg (fun z _ => Clear.nil z) hu kp hQ sz2
      | nil =>
        have g5 : ReadsAll hp [] ds as := g4
        cases g5
        simp only [PyData.shownAll, listText_nil] at hQ
        exact call_list_repr_empty ⟨ob, kp _ _ g1, g2⟩ (kp _ _ g1) g3 (hQ s.heap _ _ fun _ _ e => e) }
/-- repr of a list of data, at any address -/
def rReprL : List V → Hp → VK → Prop := fun xs H Q => ∃ (a : Addr) (vs : List V) (ds : List PyData), xs = [.ref a] ∧ H a = some (.lst vs) ∧ Das H vs ds ∧ OkD (.list ds) ∧ Q (.str (PyData.list ds).shown) H
theorem call_reprL {X : Cx} (gd : X.A.guards = some []) (hu : X.A.units + 64 < cLine) : CallR X (.builtin "repr") rReprL := by
  intro pins s σ H xs us Q I r h
  obtain ⟨a, vs, ds, rfl, ha, hd, ok, q⟩ := h
  obtain ⟨u, rfl, ru⟩ := vals1 r
  cases ru
  obtain ⟨its, rv, ⟨o, n, ho, hc, _, hda⟩, _⟩ := I.list (SqL.of ha)
  obtain ⟨as, hr, ns⟩ := Das.reads I hd rv
  have S := shows_list (P := X.prog) (w := X.w) ho hc hda (by simpa using hr) ok.sh ns ok.len
  have dp := ok.dp
  exact call_repr_slot (by omega) (S.typeIs s fun _ _ e => e) S.slotRepr (S.call X.A.in1 X.xe s _ gd (by show X.A.units + 1 + (PyData.list ds).depth < cLine; omega) (fun _ _ e => e) fun h' t tk k => ⟨_, _, rfl, .str (PyData.list ds).shown, H, I.kept k, ⟨_, rfl⟩, q⟩)
end HX

set_option Elab.async false
set_option linter.all false
set_option maxRecDepth 100000
set_option maxHeartbeats 4000000
namespace LW
open PySem PySem.Spec PyProof.Rows L2 HX
section
variable {P : Program} {w : World} {K : PySem.W.Frag} {mg : Str → Option Value} {base : Heap}

def spInpR (A N : Addr) : Sp := fun vs H Q E => ∃ (a : Addr) (z : Str) (v : V) (t b d : Int), vs = [.ref a, .str z, v] ∧ Am A H a t b ∧ Nu A H v 0 d ∧ Low 0 d ∧ Sm 400 t ∧ Sm 400 b ∧ Sm 400 d ∧ RzN N H E
theorem eq_str {K : PySem.W.Frag} {a b : Str} {H : Hp} {Q : VK} (h : Q (.bl (decide (a = b))) H) : rEq2 K false (.str a) (.str b) H Q := by
  show Q (.bl (xor false (decide (a = b)))) H
  rw [Bool.false_xor]
  exact h
def spSame : Sp := fun vs H Q _ => ∃ (a b : Addr) (xs ys : List V) (ds es : List PyData), vs = [.ref a, .ref b] ∧ H a = some (.lst xs) ∧ Das H xs ds ∧ H b = some (.lst ys) ∧ Das H ys es ∧ OkD (.list ds) ∧ OkD (.list es) ∧ Q (.bl (decide ((PyData.list ds).shown = (PyData.list es).shown))) H

theorem ok_inpR {N : Addr} {A fI pO gO pN gN f : Addr} {mc : Value} {fd : FuncData} (F : Fun K "_law_in_place" "_law_in_place" s__law_in_place f fd) (T : Txt K mg) (U : AmC K mg A fI pO gO pN gN mc) {fOver : Addr} {fdOver : FuncData} (FOver : FnOk P w K mg base (CX P w) 6 fOver fdOver ["self", "number"] (spZ A N)) (bOver : Binds K fdOver ["self", "number"] []) (mOver : Meth K A "over" fOver) (first : PySem.W.selfFirst K A = true) {fIf : Addr} {fdIf : FuncData} (FIf : FnOk P w K mg base (CX P w) 9 fIf fdIf ["self", "other"] (spZ A N)) (bIf : Binds K fdIf ["self", "other"] []) (hIf : PySem.W.findIn K (.ref A) (PySem.dunderI (Operator.info .FloorDiv).2) = some (some (.ref fIf))) (iIf : PySem.W.isFn K (.ref fIf) = true) {gM : Addr} {fMod : Addr} {fdMod : FuncData} (FMod : FnOk P w K mg base (CX P w) 9 fMod fdMod ["self", "other"] (spZ A N)) (bMod : Binds K fdMod ["self", "other"] []) (Omod : PySem.HXO.OwnOp K A .Mod fMod gM) : FnOk P w K mg base (CX P w) 10 f fd ["_law_amount", "_law_sign", "_law_other"] (spInpR A N) := by
  refine F.okX sc__law_in_place (fun vs H Q E h => ?_) (fun cdv A' outer s H vs Q E hr h => ?_)
  · obtain ⟨a, z, v, t, b, d, rfl, _⟩ := h
    rfl
  · obtain ⟨a, z, v, t, b, d, rfl, am, n, lo2, St, Sb, Sd, k⟩ := h
    refine ⟨_, (pss_cons (ps_set (i := 3) sc__law_in_place.nd rfl (Or.inl rfl) (pc 0))
    (pss_cons (s_if (t_cmp (o_eq hr.units) (pc 1) pe_str) (pss_one (ps_aug (i := 3) sc__law_in_place.nd rfl (Or.inl rfl) (pc 2) (ip_ow first hIf iIf FIf bIf (hr.mono (by decide)) (passes_call (takes_of rfl rfl rfl rfl) (fun _ _ _ _ z => z))))) (pss_one (ps_set (i := 3) sc__law_in_place.nd rfl (Or.inl rfl) (e_if (t_cmp (o_eq hr.units) (pc 1) pe_str) (pe_meth (pc 3) U.cls mOver FOver (hr.mono (by decide)) bOver .nil (passes_call (takes_of rfl rfl rfl rfl) (fun _ _ _ _ z => z)) (pa_cons (pc 2) pa_nil)) (pe_op (op_owL PySem.HXO.io_mod Omod FMod bMod (hr.mono (by decide)) (passes_call (takes_of rfl rfl rfl rfl) (fun _ _ _ _ z => z))) (pc 3) (pc 2))))))
    (pss_one (ps_ret (pc 3))))), ?_⟩
    obtain ⟨dx, e⟩ := id am
    refine ⟨fun _ => ?_, fun _ => ⟨fun _ => ?_, fun _ => ?_⟩⟩
    · exact ⟨_, rfl, a, rfl, am.isI, a, v, t, b, d, rfl, am, n, lo2, St, Sb, Sd, k⟩
    · exact ⟨a, dx, _, rfl, e, rfl, a, v, t, b, d, rfl, am, n, lo2, St, Sb, Sd, k⟩
    · rcases n with ⟨y, rfl, an⟩ | ⟨rfl, rfl⟩
      · exact ⟨am.isI, an.isI, a, _, t, b, d, rfl, am, .inl ⟨y, rfl, an⟩, lo2, St, Sb, Sd, k⟩
      · exact ⟨am.isI, a, _, t, b, 1, rfl, am, .inr ⟨rfl, rfl⟩, lo2, St, Sb, Sd, k⟩

theorem ok_same {f : Addr} {fd : FuncData} (F : Fun K "_law_same" "_law_same" s__law_same f fd) (T : Txt K mg) : FnG P w K mg base CX0 1 f fd ["_law_heard_here", "_law_due"] spSame := by
  refine fun_okG F sc__law_same (fun vs H Q E h => ?_) (fun cdv A' outer s H vs Q E gd hr h => ?_)
  · obtain ⟨a, b, xs, ys, ds, es, rfl, _⟩ := h
    rfl
  · obtain ⟨a, b, xs, ys, ds, es, rfl, h1, d1, h2, d2, o1, o2, k⟩ := h
    refine ⟨_, (pss_one (ps_ret (p_cmp (o_eq hr.units) (pe_callB (call_reprL gd hr.units) (by rfl) T.b_repr (by decide +kernel) (pa_cons (pc 0) pa_nil)) (pe_callB (call_reprL gd hr.units) (by rfl) T.b_repr (by decide +kernel) (pa_cons (pc 1) pa_nil))))), ?_⟩
    exact ⟨a, xs, ds, rfl, h1, d1, o1, b, ys, es, rfl, h2, d2, o2, eq_str k⟩

/-- heard, as it is called with a lambda -/
def HeC (K : PySem.W.Frag) (mg : Str → Option Value) : Prop := ∃ (g : Addr) (fd : FuncData), Fun K "_law_heard" "_law_heard" s__law_heard g fd ∧ mg "_law_heard" = some (.ref g) ∧ PySem.W.keepIn K (.ref g) = true ∧ Binds K fd ["_law_call"] []
theorem pe_hl {X : Cx} {S C N BG BT RF BI NA c Pt : Addr} {qL : Str} {params : Arguments} {body : Expr} {scope : Scope} {t : XK → TE} {p lpos pos : Pos} (HC : HeC X.K X.mg) (T : Txt X.K X.mg) (V_ : TxH X.K X.mg S C N BG BT RF BI NA) (TB : LamX.TabB X.base X.mg c Pt) (hcode : X.env.code = .ref c) (hq : X.env.qual ++ "<lambda>" = qL) (hr : Room 14 X.A) (L : LamX.LamS X.env.scope scope)
    (hdef : defaultsOf params X.env = ([], [])) (hbind : ∀ (q : Str) (cl : List (Str × Addr)) (pm cv ctv : Value), bindArgs (PySem.W.kla_fn "<lambda>" q params body scope cl pm cv ctv) ⟨[], []⟩ = pure [])
    (hbody : ∀ (A : Around) (outer : List Env) (s : Shared) (H : Hp) (E : XK) (f c' : Addr), Room 12 (A.deeper (LamX.lamEnv X scope s.heap.objs.size f c')) → PE (LamX.lamCx X A outer s H E scope f c') body (t E)) (hg : Gl X "_law_heard") :
    PE X (.Call (.Name "_law_heard" p) [.Lambda params body scope lpos] [] pos) (LamX.tLam [(Pt, qL)] (TTh C N) t) := by
  obtain ⟨g, fd, F, hm, hk, hb⟩ := HC
  obtain ⟨oc, od, kV, doc, pm, an, cdv, ct, osl, rfl, lk, hcd⟩ := F.ex
  subst hq
  exact LamX.pe_lamcall hg hm hk lk hcd hb sc__law_heard rfl (Or.inl rfl) (heard_gives T V_) TB hcode (List.mem_singleton.mpr rfl) (fun p hp e => by rw [List.mem_singleton.mp hp]) hr L hdef hbind hbody

end
end LW
set_option Elab.async false
set_option linter.all false
set_option maxRecDepth 100000
set_option maxHeartbeats 4000000
namespace HX
open PySem PySem.Spec PyProof.Rows L2
/-- a heap without the pen's list, one more list, and the tables of code -/
def noTab : Option HO → Option HO
  | some (.tbl _) => none
  | x => x
def Hz (p q : Addr) (H : Hp) : Hp := fun b => if b = p ∨ b = q then none else noTab (H b)
/-- all but these stays -/
def Kz (p q : Addr) (H G : Hp) : Prop := ∀ b o, b ≠ p → b ≠ q → H b = some o → (∀ ps, o ≠ .tbl ps) → G b = some o
theorem noTab_some {x : Option HO} {o : HO} (h : noTab x = some o) : x = some o ∧ ∀ ps, o ≠ .tbl ps := by
  unfold noTab at h
  split at h
  · cases h
  · rename_i hn
    exact ⟨h, fun ps z => hn ps (by rw [← z]; exact h)⟩
theorem Hz.un {p q b : Addr} {H : Hp} {o : HO} (h : Hz p q H b = some o) : b ≠ p ∧ b ≠ q ∧ H b = some o ∧ ∀ ps, o ≠ .tbl ps := by
  unfold Hz at h
  split at h
  · cases h
  · rename_i hn
    obtain ⟨h1, h2⟩ := noTab_some h
    exact ⟨fun z => hn (.inl z), fun z => hn (.inr z), h1, h2⟩
theorem Hz.at_ {p q b : Addr} {H : Hp} {o : HO} (h1 : b ≠ p) (h2 : b ≠ q) (h : H b = some o) (ht : ∀ ps, o ≠ .tbl ps) : Hz p q H b = some o := by
  unfold Hz
  rw [if_neg (fun z => z.elim h1 h2), h]
  unfold noTab
  split
  · rename_i ps hp
    exact absurd (Option.some.inj hp) (ht ps)
  · rfl
theorem Hz.sub {p q : Addr} {H : Hp} : Same (Hz p q H) H := fun b o h => (Hz.un h).2.2.1
theorem Kz.hz {p q : Addr} {H G : Hp} (k : Kz p q H G) : Same (Hz p q H) (Hz p q G) := fun b o h =>
  let ⟨h1, h2, h3, h4⟩ := Hz.un h
  Hz.at_ h1 h2 (k b o h1 h2 h3 h4) h4
theorem Hz.turn {p q q' : Addr} {H : Hp} (n : H q' = none) : Same (Hz p q H) (Hz p q' H) := fun b o h =>
  let ⟨h1, _, h3, h4⟩ := Hz.un h
  Hz.at_ h1 (ne_of_none h3 n) h3 h4
theorem Kz.kp {p q : Addr} {H G : Hp} (k : Kp p H G) : Kz p q H G := fun b o n _ e _ => k b o n e
theorem Kz.same {p q : Addr} {H G : Hp} (k : Same H G) : Kz p q H G := fun b o _ _ e _ => k b o e
theorem Kz.extN {p q : Addr} {H G : Hp} (k : LamX.ExtN H G) : Kz p q H G := fun b o _ _ e t => k b o e t
theorem Kz.upd {p q : Addr} {H : Hp} {o : HO} : Kz p q H (L2.upd H q o) := fun b u _ n e _ => by rw [upd_ne n]; exact e
theorem Kz.new {p q r : Addr} {H : Hp} {o : HO} (n : H r = none) : Kz p q H (L2.upd H r o) := fun b u _ _ e _ => by rw [upd_ne (ne_of_none e n)]; exact e
theorem Kz.trans {p q : Addr} {H G J : Hp} (a : Kz p q H G) (b : Kz p q G J) : Kz p q H J := fun c o h1 h2 e t => b c o h1 h2 (a c o h1 h2 e t) t
theorem Kz.refl {p q : Addr} {H : Hp} : Kz p q H H := fun _ _ _ _ e _ => e
theorem Tabs.kz {T : List (Addr × Str)} {H G : Hp} {p l : Addr} {c : Int} (t : LamX.Tabs T H) (P : Pe H p l c) (k : Kp p H G) : LamX.Tabs T G := by
  obtain ⟨ns, c0, g, q, _⟩ := P
  exact Tabs.kp t q.at_ (fun _ z => by cases z) (fun _ z => by unfold LamX.CodeO at z; cases z) k
theorem Tabs.put {T : List (Addr × Str)} {H : Hp} {q : Addr} {xs : List V} {o : HO} (t : LamX.Tabs T H) (h : H q = some (.lst xs)) : LamX.Tabs T (L2.upd H q o) := fun x hx => by
  obtain ⟨ps, h1, h2, h3⟩ := t x hx
  refine ⟨ps, by rw [upd_ne (fun z => by rw [z, h] at h1; cases h1)]; exact h1, h2, fun pos cv hc => ?_⟩
  obtain ⟨c, e1, e2⟩ := h3 pos cv hc
  exact ⟨c, e1, by rw [upd_ne (fun z => by rw [z, h] at e2; unfold LamX.CodeO at e2; cases e2)]; exact e2⟩
/-- data that repr can show, by a look -/
theorem okD_by {d : PyData} (e : (d.showable && decide (d.depth ≤ 60) && d.leavesShort 1000 && decide (d.weight ≤ 10000)) = true) : OkD d := by
  simp only [Bool.and_eq_true, decide_eq_true_eq] at e
  exact ⟨e.1.1.1, e.1.1.2, e.1.2, e.2⟩
end HX

set_option Elab.async false
set_option linter.all false
set_option maxRecDepth 100000
set_option maxHeartbeats 4000000
namespace LW
open PySem PySem.Spec PyProof.Rows L2 HX
section
variable {P : Program} {w : World} {K : PySem.W.Frag} {mg : Str → Option Value} {base : Heap}

theorem ok_pen {f : Addr} {fd : FuncData} (F : Fun K "_law_pen" "_law_pen" s__law_pen f fd) (T : Txt K mg) : FnOk P w K mg base CX0 1 f fd ["_law_script"] (spPen K) := by
  refine F.ok sc__law_pen (fun vs H Q E h => ?_) (fun cdv A outer s H vs Q E hr h => ?_)
  · obtain ⟨a, ns, rfl, _⟩ := h
    rfl
  · obtain ⟨a, ns, rfl, hs, k⟩ := h
    refine ⟨_, (pss_one (ps_ret (pe_lst (pa_cons (pe_callTy call_list_of (by rfl) T.b_list (by decide +kernel) (pa_cons (pe_slice sl_list (pc 0) po_none (po_some pe_int)) pa_nil)) (pa_cons pe_int (pa_cons pe_int pa_nil)))))), ?_⟩
    refine ⟨_, rfl, a, _, rfl, hs, fun q1 n1 => ⟨q1, _, rfl, .inl (SqL.of upd_same), fun q2 n2 => ⟨by show 3 ≤ sizeLine; decide, fun p n3 => ?_⟩⟩⟩
    obtain ⟨ms, hm⟩ := cut_ints ns none (some 63)
    have s1 : Same H (upd H q1 (.lst (cutV (ns.map V.int) none (some 63)))) := Same.new (Same.refl H) n1
    have s2 := Same.new (o := .lst (cutV (ns.map V.int) none (some 63))) s1 n2
    have s3 := Same.new (o := .lst [.ref q2, .int 0, .int 0]) s2 n3
    refine k p q2 _ (s2.free n3) s3 ⟨ms, 0, 0, ⟨upd_same, ?_, ne_of_none upd_same n3, by decide, by decide⟩, by decide⟩
    rw [upd_ne (ne_of_none upd_same n3), upd_same, hm]

theorem ok_draw {f : Addr} {fd : FuncData} (F : Fun K "_law_draw" "_law_draw" s__law_draw f fd) (T : Txt K mg) : FnOk P w K mg base CX0 1 f fd ["_law_pen_here", "_law_many"] spDraw := by
  refine F.ok sc__law_draw (fun vs H Q E h => ?_) (fun cdv A outer s H vs Q E hr h => ?_)
  · obtain ⟨p, l, c, many, rfl, _⟩ := h
    rfl
  · obtain ⟨p, l, cM, many, rfl, ⟨ns, c, g, Pp, cle⟩, hm, hz, hcM, k⟩ := h
    have hc : c < 1000000 := by omega
    obtain ⟨hp, hl, ne, c0, g0⟩ := id Pp
    refine ⟨_, (pss_cons (s_if (t_cmp o_gt (p_ix (pc 0) pe_int) pe_int) (pss_cons (ps_set (i := 2) sc__law_draw.nd rfl (Or.inl rfl) (pe_op o_mod (pe_callTy c_int (by rfl) T.b_int (by decide +kernel) (pa_cons (p_ix (pc 0) pe_int) pa_nil)) (pc 1)))
    (pss_cons (ps_asg (pe_op o_fdiv (pe_callTy c_int (by rfl) T.b_int (by decide +kernel) (pa_cons (p_ix (pc 0) pe_int) pa_nil)) (pc 1)) (pg_sub (pc 0) pe_int set_list))
    (pss_one (ps_ret (pc 2))))) pss_nil)
    (pss_cons (ps_set (i := 3) sc__law_draw.nd rfl (Or.inl rfl) (p_ix (pc 0) pe_int))
    (s_cut (ps_asg (pe_op o_add (pc 3) pe_int) (pg_sub (pc 0) pe_int set_list))
    (pss_cons (ps_set (i := 4) sc__law_draw.nd rfl (Or.inl rfl) (pe_op o_add (pe_op o_mul pe_int (pc 3)) pe_int))
    (s_cut (s_if (t_cmp (o_ne hr.units) (p_ix (pc 0) pe_int) (pe_lst pa_nil)) (pss_one (ps_set (i := 4) sc__law_draw.nd rfl (Or.inl rfl) (p_ix (p_ix (pc 0) pe_int) (pe_op o_mod (pe_callTy c_int (by rfl) T.b_int (by decide +kernel) (pa_cons (pc 3) pa_nil)) (pe_callB c_len (by rfl) T.b_len (by decide +kernel) (pa_cons (p_ix (pc 0) pe_int) pa_nil)))))) pss_nil)
    (s_cut (s_if (PW.pt (w_and (t_cmp o_lt (pc 3) (pe_callB c_len (by rfl) T.b_len (by decide +kernel) (pa_cons (p_ix (pc 0) pe_int) pa_nil))) (pw_and1 (t_cmp o_ge (pe_callB c_abs (by rfl) T.b_abs (by decide +kernel) (pa_cons (pc 4) pa_nil)) (pe_op o_pow pe_int pe_int))))) (pss_cons (ps_set (i := 5) sc__law_draw.nd rfl (Or.inl rfl) (pe_op o_add (pe_op o_mul pe_int (pe_op o_sub (pe_callB c_abs (by rfl) T.b_abs (by decide +kernel) (pa_cons (pc 4) pa_nil)) (pe_op o_pow pe_int pe_int))) (pe_callTy c_int (by rfl) T.b_int (by decide +kernel) (pa_cons (p_cmp o_lt (pc 4) pe_int) pa_nil))))
    (pss_cons (ps_asg (pe_op o_fdiv (pe_callTy c_int (by rfl) T.b_int (by decide +kernel) (pa_cons (pc 5) pa_nil)) (pc 1)) (pg_sub (pc 0) pe_int set_list))
    (pss_one (ps_ret (pe_op o_mod (pe_callTy c_int (by rfl) T.b_int (by decide +kernel) (pa_cons (pc 5) pa_nil)) (pc 1)))))) pss_nil)
    (s_cut (ps_set (i := 6) sc__law_draw.nd rfl (Or.inl rfl) (pe_op o_mod (pe_callTy c_int (by rfl) T.b_int (by decide +kernel) (pa_cons (pe_op o_pow (pe_op o_add (pe_op o_add (pe_op o_mod (pe_callTy c_int (by rfl) T.b_int (by decide +kernel) (pa_cons (pc 4) pa_nil)) pe_int) (pe_op o_mul pe_int (pc 3))) pe_int) pe_int) pa_nil)) pe_int))
    (s_cut (ps_set (i := 6) sc__law_draw.nd rfl (Or.inl rfl) (pe_op o_mod (pe_callTy c_int (by rfl) T.b_int (by decide +kernel) (pa_cons (pe_op o_pow (pe_op o_add (pe_op o_add (pe_op o_mul (pc 6) (pe_op o_add (pe_op o_mul pe_int (pc 3)) pe_int)) (pe_op o_mul (pe_op o_mul pe_int (pc 3)) (pc 3))) pe_int) pe_int) pa_nil)) pe_int))
    (pss_one (ps_ret (pe_op o_mod (pe_callTy c_int (by rfl) T.b_int (by decide +kernel) (pa_cons (pe_op o_fdiv (pc 6) pe_int) pa_nil)) (pc 1)))))))))))), ?_⟩
    -- what is left of a great cell
    refine ⟨_, _, .inl (SqL.of hp), rfl, fun h => ?_, fun _ => ?_⟩
    · have hg := of_decide_eq_true h
      have q0 : 0 ≤ g / many := Int.ediv_nonneg g0 (Int.le_of_lt hm)
      refine ⟨_, _, .inl (SqL.of hp), rfl, hm, _, _, .inl (SqL.of hp), rfl, wide_div hm hz (by decide) (by decide), p, _, _, 2, rfl, rfl, hp, rfl, ?_⟩
      have kk : Kp p H (upd H p (.lst [.ref l, .int c, .int (g / many)])) := Kp.refl.upd
      exact k (g % many) _ (Int.emod_nonneg _ (by omega)) (Int.emod_lt_of_pos _ hm) kk ⟨ns, c, _, Pp.put kk c0 q0 upd_same, by omega⟩
    · -- one more cell is begun
      refine ⟨_, _, .inl (SqL.of hp), rfl, fun σ G => σ = [some (.ref p), some (.int many), none, some (.int c), none, none, none] ∧ Kp p H G ∧ Pn G p l ns (c + 1) g, ?_, ?_⟩
      · exact ⟨p, _, _, 1, rfl, rfl, hp, rfl, rfl, Kp.refl.upd, Pp.put Kp.refl.upd (by omega) g0 upd_same⟩
      rintro σ H1 ⟨rfl, k1, P1⟩
      -- the cell, if there is one
      refine ⟨.inl (.inl ⟨by decide, by decide⟩), fun σ G => ∃ lone : Int, σ = [some (.ref p), some (.int many), none, some (.int c), some (.int lone), none, none] ∧ Kp p H G ∧ Pn G p l ns (c + 1) g, ?_, ?_⟩
      · refine ⟨_, _, .inl (SqL.of P1.at_), rfl, Nat.zero_le _, fun q nq => ?_⟩
        have k2 : Kp p H1 (upd H1 q (.lst [])) := Kp.refl.new nq
        have P2 : Pn (upd H1 q (.lst [])) p l ns (c + 1) g := P1.new nq
        have hq : upd H1 q (.lst []) q = some (.lst []) := upd_same
        refine ⟨.list (ns.map PyData.int), .list [], .lst (SqL.of P2.cel) (dp_ints ns), .lst (SqL.of hq) .nil, shaped_ints ns, rfl, ?_, ?_⟩
        · intro h
          have hn : ns ≠ [] := by
            intro e
            subst e
            cases h
          have hlen : 0 < (ns.length : Int) := by
            have := List.length_pos_iff.mpr hn
            omega
          obtain ⟨z, hzz⟩ := at_mod (ns := ns) c hlen
          refine ⟨_, _, .inl (SqL.of P2.at_), rfl, _, _, .inl (SqL.of P2.at_), rfl, _, .inl (SqL.of P2.cel), by rw [List.length_map]; exact hlen, _, .int z, .inl (SqL.of P2.cel), ?_, ?_⟩
          · rw [List.length_map]
            exact hzz
          · exact ⟨z, rfl, k1.trans k2, P2⟩
        · intro _
          exact ⟨_, rfl, k1.trans k2, P2⟩
      · rintro σ G ⟨lone, rfl, kG, PG⟩
        -- a great cell
        refine ⟨fun σ G' => σ = [some (.ref p), some (.int many), none, some (.int c), some (.int lone), none, none] ∧ Kp p H G' ∧ Pn G' p l ns (c + 1) g, ?_, ?_⟩
        · refine ⟨_, _, .inl (SqL.of PG.at_), rfl, _, .inl (SqL.of PG.cel), fun h1 => ?_, fun _ => ⟨fun z => Bool.noConfusion z, fun _ => ⟨rfl, kG, PG⟩⟩⟩
          refine ⟨⟨by decide, by decide, by decide⟩, fun h2 => ?_, fun _ => ⟨rfl, kG, PG⟩⟩
          have h2 := of_decide_eq_true h2
          refine ⟨⟨by decide, by decide, by decide⟩, .inl (.inl ⟨by decide, by decide⟩), wide_div hm hz (by decide) (by decide), p, _, _, 2, rfl, rfl, PG.at_, rfl, hm, ?_⟩
          have kk := kG.upd (p := p) (o := .lst [.ref l, .int (c + 1), .int ((2 * ((if lone < 0 then -lone else lone) - 10 ^ (18 : Int).toNat) + (if decide (lone < 0) = true then 1 else 0)) / many)])
          refine k _ _ (Int.emod_nonneg _ (by omega)) (Int.emod_lt_of_pos _ hm) kk ⟨ns, c + 1, _, Pp.put kk (by omega) ?_ upd_same, by omega⟩
          refine Int.ediv_nonneg ?_ (Int.le_of_lt hm)
          have z : (0 : Int) ≤ (if decide (lone < 0) = true then 1 else 0) := by split <;> decide
          omega
        · rintro σ' G' ⟨rfl, kG', PG'⟩
          -- a mix
          have e0 := fun b : Int => Int.emod_nonneg lone (b := b)
          have e1 := fun b : Int => Int.emod_lt_of_pos lone (b := b)
          refine ⟨fun σ G => ∃ m : Int, σ = [some (.ref p), some (.int many), none, some (.int c), some (.int lone), none, some (.int m)] ∧ G = G' ∧ 0 ≤ m ∧ m < 2147483648, ?_, ?_⟩
          · refine ⟨(by show (0 : Int) < _; decide), .inl (.inl ⟨by decide, by decide⟩), ⟨by decide, by decide, by omega⟩, (by show (0 : Int) < _; decide), _, rfl, rfl, Int.emod_nonneg _ (by decide), ?_⟩
            exact Int.lt_trans (Int.emod_lt_of_pos _ (by decide)) (by decide)
          rintro σ G2 ⟨m, rfl, rfl, m0, m1⟩
          refine ⟨fun σ G => ∃ m : Int, σ = [some (.ref p), some (.int many), none, some (.int c), some (.int lone), none, some (.int m)] ∧ G = G2 ∧ 0 ≤ m ∧ m < 2147483648, ?_, ?_⟩
          · have hb : ∀ a b d : Int, 0 ≤ a → a ≤ 1000 → 0 ≤ b → b ≤ 100000 → 0 ≤ d → d ≤ 1000 → (m * (2 * c + a) + b * c * c + d).natAbs < 2 ^ 64 := fun a b d h1 h2 h3 h4 h5 h6 => by
              have y1 := mul_lt (a := 2147483648) (b := 2002000) m0 m1 (show 0 ≤ 2 * c + a by omega) (by omega)
              have y2 := Int.mul_nonneg m0 (show 0 ≤ 2 * c + a by omega)
              have y3 := mul_lt (a := 100001) (b := 1000000) h3 (by omega) c0 hc
              have y4 := Int.mul_nonneg h3 c0
              have y5 := mul_lt (a := 100001000000) (b := 1000000) y4 (by omega) c0 hc
              have y6 := Int.mul_nonneg y4 c0
              omega
            have hb2 : ∀ b : Int, 0 ≤ b → b ≤ 100000 → CMulU (b * c) c := fun b h3 h4 => by
              have y3 := mul_lt (a := 100001) (b := 1000000) h3 (by omega) c0 hc
              have y4 := Int.mul_nonneg h3 c0
              exact .inl (.inl ⟨by omega, by omega⟩)
            refine ⟨.inl (.inl ⟨by decide, by decide⟩), .inl (.inl ⟨by omega, by omega⟩), .inl (.inl ⟨by decide, by decide⟩), hb2 _ (by decide) (by decide), ⟨by decide, by decide, ?_⟩, (by show (0 : Int) < _; decide), _, rfl, rfl, Int.emod_nonneg _ (by decide), ?_⟩
            · exact hb _ _ _ (by decide) (by decide) (by decide) (by decide) (by decide) (by decide)
            · exact Int.lt_trans (Int.emod_lt_of_pos _ (by decide)) (by decide)
          rintro σ G3 ⟨m, rfl, rfl, m0, m1⟩
          refine ⟨wide_div (b := 10) (by decide) (by decide) (by decide) (by decide), hm, ?_⟩
          exact k _ _ (Int.emod_nonneg _ (by omega)) (Int.emod_lt_of_pos _ hm) kG' ⟨ns, c + 1, g, PG', by omega⟩

theorem ok_pick {f : Addr} {fd : FuncData} {B : FuncData → Prop} (F : Fun K "_law_pick" "_law_pick" s__law_pick f fd) (T : Txt K mg) (cD : CalO P w K mg base "_law_draw" 1 ["_law_pen_here", "_law_many"] spDraw B) : FnOk P w K mg base CX0 2 f fd ["_law_pen_here", "_law_some"] (spPick K) := by
  refine F.ok sc__law_pick (fun vs H Q E h => ?_) (fun cdv A outer s H vs Q E hr h => ?_)
  · obtain ⟨p, l, c, x, rfl, _⟩ := h
    rfl
  · obtain ⟨p, l, c, x, rfl, Pp, hc, k⟩ := h
    refine ⟨_, (pss_one (ps_ret (p_ix (pc 1) (pe_cO cD (hr.mono (by decide)) (pa_cons (pc 0) (pa_cons (pe_callB c_len (by rfl) T.b_len (by decide +kernel) (pa_cons (pc 1) pa_nil)) pa_nil)))))), ?_⟩
    rcases k with ⟨z, rfl, h0, h1, k⟩ | ⟨a, xs, rfl, ne, hs, h0, h1, k⟩
    · refine ⟨Nat.le_trans h1 size_line_big, p, l, c, (z.length : Int), rfl, Pp, by omega, small_bits h1, hc, fun r H' r0 r1 kk P' => ?_⟩
      have e : z.length = z.cps.toList.length := by simp [Str.length]
      obtain ⟨ch, h2, h3⟩ := at_in (xs := z.cps.toList) r0 (by rw [← e]; exact r1)
      exact ⟨Nat.le_trans h1 size_line_big, ch, h2, k ch H' h3 kk P'⟩
    · refine ⟨xs, hs, p, l, c, (xs.length : Int), rfl, Pp, by omega, small_bits h1, hc, fun r H' r0 r1 kk P' => ?_⟩
      obtain ⟨v, h2, h3⟩ := at_in (xs := xs) r0 r1
      exact ⟨xs, v, hs.elim (fun z => .inl (kk.seq ne z)) (fun z => .inr (kk.seqT ne z)), h2, k v H' h3 kk P'⟩

def spLaw (K : PySem.W.Frag) (T : List (Addr × Str)) : Sp := fun vs H Q _ => ∃ (a : Addr) (ns : List Int), vs = [.ref a] ∧ SqL K H a (ns.map V.int) ∧ LamX.Tabs T H ∧ ∀ H', Q (.bl true) H'

theorem mkR {A : Addr} {H : Hp} {R : Addr → Hp → Prop} {E : XK} {p q : Int} (z : q ≠ 0) (sp : Sm 900 p) (sq : Sm 900 q) (k : ∀ r G, H r = none → Same H G → Am A G r (nT p q) (nB p q) → R r G) : ∀ x dx, H x = none → H dx = none → dx ≠ x →
    spInit A (.ref x :: [.int p, .int q]) (upd (upd H dx (.own x)) x (.ins A dx [])) (fun v H2 => v = .non ∧ R x H2) E := fun x dx nx nd ne =>
  ⟨x, dx, p, q, rfl, upd_same, z, sp, sq, fun G kp gx => ⟨rfl, k x G nx (fun b o e => kp b o (ne_of_none e nx) (by rw [upd_ne (ne_of_none e nx), upd_ne (ne_of_none e nd)]; exact e)) ⟨dx, gx⟩⟩⟩

def oddL : List PyData := [.none, .bool true, .bool false, .str "1", .str "", .tuple [.int 1], .list [.int 2], .dict [], .list [], .str "1/2"]
def alsoL : List PyData := [.none, .bool false, .str "0", .tuple [.int 0, .int 1], .list [.int 0]]
def tupA (d : PyData) : PyData := .tuple [.str "amount", d, .bool true, .bool false]
theorem gn {i : Nat} {x : V} {σ : L2.St} {H : Hp} {Q : L2.St → Hp → Prop} (h : Q (σ.set i (some x)) H) : gName i x σ H Q := h
theorem ts {a : TE} {b : TS} {D : Ends} {rt : VK} {bk ct : L2.St → Hp → Prop} {σ : L2.St} {H : Hp} (h : tDrop a { D with nx := b D } σ H) : ({ nx := tSeq (tDrop a) b D, rt := rt, bk := bk, ct := ct } : Ends).nx σ H := h
def tupN : PyData := .tuple [.str "divisor", .bool true, .bool false]
theorem Da.upl {p lh : Addr} {H : Hp} {o : HO} {v : V} {d : PyData} (h : Da (Hz p lh H) v d) : Da (Hz p lh (upd H lh o)) v d := h.mo (Kz.upd).hz
/-- what is known of the list of what was heard -/
structure LS (Pt : Addr) (qL : Str) (p l lh : Addr) (c : Int) (H : Hp) (xs : List V) (ds : List PyData) : Prop where
  P : Pe H p l c
  tb : LamX.Tabs [(Pt, qL)] H
  np : lh ≠ p
  nl : lh ≠ l
  at_ : H lh = some (.lst xs)
  da : Das (Hz p lh H) xs ds
theorem das_snoc {H : Hp} {v : V} {d : PyData} (h : Da H v d) : ∀ {xs : List V} {ds : List PyData}, Das H xs ds → Das H (xs ++ [v]) (ds ++ [d])
  | _, _, .nil => .cons h .nil
  | _, _, .cons a r => .cons a (das_snoc h r)
theorem LS.next {Pt : Addr} {qL : Str} {p l lh q : Addr} {c c' : Int} {H H1 G : Hp} {xs ys : List V} {ds es : List PyData} (S : LS Pt qL p l lh c H xs ds) (e : LamX.ExtN H H1) (nq : H1 q = none) (qp : q ≠ p) (k : Kp p H1 G) (tG : LamX.Tabs [(Pt, qL)] G) (PG : Pe G p l c') (eq : G q = some (.tup ys)) (hy : ∀ J, Same (Hz p lh H) J → Das J ys es) :
    LS Pt qL p l lh c' (upd G lh (.lst (xs ++ [.ref q]))) (xs ++ [.ref q]) (ds ++ [.tuple es]) ∧ Kz p lh H (upd G lh (.lst (xs ++ [.ref q]))) := by
  have h1 : H1 lh = some (.lst xs) := e _ _ S.at_ (fun _ z => by cases z)
  have hG : G lh = some (.lst xs) := k _ _ S.np h1
  have ql : q ≠ lh := Ne.symm (ne_of_none h1 nq)
  have kz : Kz p lh H (upd G lh (.lst (xs ++ [.ref q]))) := ((Kz.extN e).trans (Kz.kp k)).trans Kz.upd
  refine ⟨⟨PG.mut S.np S.nl, Tabs.put tG hG, S.np, S.nl, upd_same, das_snoc ?_ (Das.mo kz.hz S.da)⟩, kz⟩
  exact .tup (Hz.at_ qp ql (by rw [upd_ne ql]; exact eq) (fun _ z => by cases z)) (hy _ kz.hz)
section
variable {K : PySem.W.Frag} {Pt C N p l lh : Addr} {qL : Str} {c : Int} {H : Hp} {xs : List V} {ds : List PyData} {σ : L2.St} {tt : XK → TE} {D : Ends}
theorem app_A {v : V} {dv : PyData} (h3 : σ[3]? = some (some (.ref lh))) (S : LS Pt qL p l lh c H xs ds) (len : xs.length < 100) (hv : Da (Hz p lh H) v dv) (call : ∀ H1, LamX.ExtN H H1 → ∀ Ech Qv, RzA C H1 Ech v → tt Ech σ H1 Qv)
    (cont : ∀ G q, Kz p lh H G → LS Pt qL p l lh c G (xs ++ [.ref q]) (ds ++ [tupA dv]) → D.nx σ G) : tDrop (tBM K "list" rAppend (cV 3) (tCons (LamX.tLam [(Pt, qL)] (TTh C N) tt) tNil)) D σ H := by
  show cV 3 σ H fun x H1 => tyV K "list" x H1 ∧ tCons (LamX.tLam [(Pt, qL)] (TTh C N) tt) tNil σ H1 fun ys H2 => rAppend x ys H2 fun _ H3 => D.nx σ H3
  unfold cV
  rw [h3]
  refine ⟨.inl ⟨rfl, _, SqL.of S.at_⟩, S.tb, fun H1 e1 tb1 => .inl ⟨v, fun Ech Qv rz => call H1 e1 Ech Qv rz, fun q G nq sG eq => ?_⟩⟩
  have P1 := S.P.extN e1
  obtain ⟨S2, kz⟩ := S.next (es := [.str "amount", dv, .bool true, .bool false]) e1 nq (P1.ne nq) (Kp.same sG) (tb1.ext sG) (P1.same sG) eq (fun J sJ => .cons (.str _) (.cons (hv.mo sJ) (.cons (.bl _) (.cons (.bl _) .nil))))
  exact ⟨lh, xs, .ref q, rfl, rfl, sG _ _ (e1 _ _ S.at_ (fun _ z => by cases z)), by rw [sizeLine_eq]; omega, cont _ q kz S2⟩
theorem app_N (h3 : σ[3]? = some (some (.ref lh))) (S : LS Pt qL p l lh c H xs ds) (len : xs.length < 100) (call : ∀ H1, LamX.ExtN H H1 → ∀ Ech Qv, RzN N H1 Ech → tt Ech σ H1 Qv)
    (cont : ∀ G q, Kz p lh H G → LS Pt qL p l lh c G (xs ++ [.ref q]) (ds ++ [tupN]) → D.nx σ G) : tDrop (tBM K "list" rAppend (cV 3) (tCons (LamX.tLam [(Pt, qL)] (TTh C N) tt) tNil)) D σ H := by
  show cV 3 σ H fun x H1 => tyV K "list" x H1 ∧ tCons (LamX.tLam [(Pt, qL)] (TTh C N) tt) tNil σ H1 fun ys H2 => rAppend x ys H2 fun _ H3 => D.nx σ H3
  unfold cV
  rw [h3]
  refine ⟨.inl ⟨rfl, _, SqL.of S.at_⟩, S.tb, fun H1 e1 tb1 => .inr (.inl ⟨fun Ech Qv rz => call H1 e1 Ech Qv rz, fun q G nq sG eq => ?_⟩)⟩
  have P1 := S.P.extN e1
  obtain ⟨S2, kz⟩ := S.next (es := [.str "divisor", .bool true, .bool false]) e1 nq (P1.ne nq) (Kp.same sG) (tb1.ext sG) (P1.same sG) eq (fun J sJ => .cons (.str _) (.cons (.bl _) (.cons (.bl _) .nil)))
  exact ⟨lh, xs, .ref q, rfl, rfl, sG _ _ (e1 _ _ S.at_ (fun _ z => by cases z)), by rw [sizeLine_eq]; omega, cont _ q kz S2⟩
theorem app_P {c' : Int} (h3 : σ[3]? = some (some (.ref lh))) (S : LS Pt qL p l lh c H xs ds) (len : xs.length < 100) (call : ∀ H1, LamX.ExtN H H1 → Pe H1 p l c → ∀ Ech Qv, (∀ G, Kp p H1 G → Pe G p l c' → Ech (.ref N) none G) → tt Ech σ H1 Qv)
    (cont : ∀ G q, Kz p lh H G → LS Pt qL p l lh c' G (xs ++ [.ref q]) (ds ++ [tupN]) → D.nx σ G) : tDrop (tBM K "list" rAppend (cV 3) (tCons (LamX.tLam [(Pt, qL)] (TTh C N) tt) tNil)) D σ H := by
  show cV 3 σ H fun x H1 => tyV K "list" x H1 ∧ tCons (LamX.tLam [(Pt, qL)] (TTh C N) tt) tNil σ H1 fun ys H2 => rAppend x ys H2 fun _ H3 => D.nx σ H3
  unfold cV
  rw [h3]
  refine ⟨.inl ⟨rfl, _, SqL.of S.at_⟩, S.tb, fun H1 e1 tb1 => .inr (.inr ⟨p, l, c', fun Ech Qv rz => call H1 e1 (S.P.extN e1) Ech Qv rz, fun q G nq qp kG PG eq => ?_⟩)⟩
  have P1 := S.P.extN e1
  obtain ⟨S2, kz⟩ := S.next (es := [.str "divisor", .bool true, .bool false]) e1 nq qp kG (Tabs.kz tb1 P1 kG) PG eq (fun J sJ => .cons (.str _) (.cons (.bl _) (.cons (.bl _) .nil)))
  exact ⟨lh, xs, .ref q, rfl, rfl, kG _ _ S.np (e1 _ _ S.at_ (fun _ z => by cases z)), by rw [sizeLine_eq]; omega, cont _ q kz S2⟩
end
theorem nx1 {a : TS} {D : Ends} {rt : VK} {bk ct : L2.St → Hp → Prop} {σ : L2.St} {H : Hp} (h : a D σ H) : ({ nx := a D, rt := rt, bk := bk, ct := ct } : Ends).nx σ H := h
theorem nxs {a b : TS} {D : Ends} {rt : VK} {bk ct : L2.St → Hp → Prop} {σ : L2.St} {H : Hp} (h : a { D with nx := b D } σ H) : ({ nx := tSeq a b D, rt := rt, bk := bk, ct := ct } : Ends).nx σ H := h
theorem n_zero {q : Int} (h : q ≠ 0) : nT 0 q = 0 ∧ nB 0 q = 1 := by
  have c := cross (p := 0) h
  rw [Int.zero_mul] at c
  have e : nT 0 q = 0 := (Int.mul_eq_zero.mp c).resolve_right h
  exact low_unique (low_n h) (low_int 0) (by rw [e]; simp)
theorem Hz.to {p q D : Addr} {H G : Hp} (n : H D = none) (s : Same H G) : Same (Hz p q H) (Hz D D G) := fun b o h =>
  let ⟨_, _, h3, h4⟩ := Hz.un h
  Hz.at_ (ne_of_none h3 n) (ne_of_none h3 n) (s _ _ h3) h4
def due6 (d e : PyData) : PyData := .list [tupA d, tupA d, tupA e, tupA d, tupA d, tupA e]
def due7 : PyData := .list (List.replicate 7 (.tuple [.str "divisor", .bool true, .bool false]))
theorem okD_6 : ∀ d ∈ oddL, ∀ e ∈ alsoL, OkD (due6 d e) := fun d hd e he => okD_by (by
  have z : (oddL.all fun d => alsoL.all fun e => (due6 d e).showable && decide ((due6 d e).depth ≤ 60) && (due6 d e).leavesShort 1000 && decide ((due6 d e).weight ≤ 10000)) = true := by decide +kernel
  exact List.all_eq_true.mp (List.all_eq_true.mp z d hd) e he)
theorem okD_7 : OkD due7 := okD_by (by decide +kernel)
theorem odd_no : ∀ d ∈ oddL, isIntD d = false := fun d hd => by
  have z : (oddL.all fun d => !isIntD d) = true := by decide +kernel
  simpa using List.all_eq_true.mp z d hd
theorem also_no : ∀ d ∈ alsoL, isIntD d = false := fun d hd => by
  have z : (alsoL.all fun d => !isIntD d) = true := by decide +kernel
  simpa using List.all_eq_true.mp z d hd

theorem ok_law {A fI pO gO pN gN f c Pt S C N BG BT RF BI NA : Addr} {mc kV doc pm ct oc : Value} {an od : Option Addr} {osl : Array (Option Value)} {qL : Str} {fdI : FuncData}
    (lk : K.lookup f = some ⟨oc, od, .func (PySem.W.fnOf "law" "law" (defArgs s_law) (defBody s_law) (defScope s_law) .none kV doc pm an (.ref c) ct), osl⟩) (hcd : PySem.W.codeIn K (.ref c) "law" = true) (T : Txt K mg) (U : AmC K mg A fI pO gO pN gN mc) (V_ : TxH K mg S C N BG BT RF BI NA) (HC : HeC K mg) (TB : LamX.TabB base mg c Pt) (hqL : ∀ n : Addr, (envOfC "law" (defScope s_law) n f (.ref c)).qual ++ "<lambda>" = qL)
    (FI : FnOk P w K mg base CX0 2 fI fdI ["self", "top", "bottom"] (spInit A)) (FIR : FnOk P w K mg base (CX P w) 4 fI fdI ["self", "top", "bottom"] (spInitR C N)) {ds : List Value} (bI1 : Binds K fdI ["self", "top", "bottom"] ds) (vI1 : Vals [V.int 1] ds) (bI2 : Binds K fdI ["self", "top", "bottom"] []) (kI : KBn K fdI ["self", "top", "bottom"] 1 ["bottom", "top"] (fun us ws => us ++ sw ws) (fun vs zs => vs ++ sw zs))
    {fdO : FuncData} (FOR : FnOk P w K mg base (CX P w) 6 gO fdO ["number"] (spOfR C)) (bO : Binds K fdO ["number"] []) (kO : KBn K fdO ["number"] 0 ["number"] (fun us ws => us ++ ws) (fun vs zs => vs ++ zs))
    {fOver : Addr} {fdOver : FuncData} (FOverR : FnOk P w K mg base (CX P w) 6 fOver fdOver ["self", "number"] (spZ A N)) (bOver : Binds K fdOver ["self", "number"] []) (mOver : Meth K A "over" fOver)
    {fFlo gFlo : Addr} {fdFlo fdRfl : FuncData} (FFlo : FnOk P w K mg base CX0 6 fFlo fdFlo ["self", "other"] (spFl A pOver qBC)) (FFloR : FnOk P w K mg base (CX P w) 8 fFlo fdFlo ["self", "other"] (spZ A N)) (bFlo : Binds K fdFlo ["self", "other"] []) (FRflR : FnOk P w K mg base (CX P w) 9 gFlo fdRfl ["self", "other"] (spZr A N)) (bRfl : Binds K fdRfl ["self", "other"] []) (Ofdiv : PySem.HXO.OwnOp K A .FloorDiv fFlo gFlo)
    {fMod gMod : Addr} {fdMod fdRm : FuncData} (FModR : FnOk P w K mg base (CX P w) 9 fMod fdMod ["self", "other"] (spZ A N)) (bMod : Binds K fdMod ["self", "other"] []) (FRmR : FnOk P w K mg base (CX P w) 10 gMod fdRm ["self", "other"] (spZr A N)) (bRm : Binds K fdRm ["self", "other"] []) (Omod : PySem.HXO.OwnOp K A .Mod fMod gMod)
    {fSub gSub : Addr} {fdSub : FuncData} (FSub : FnOk P w K mg base CX0 6 fSub fdSub ["self", "other"] (spBin A 400 pSub qBD)) (bSub : Binds K fdSub ["self", "other"] []) (Osub : PySem.HXO.OwnOp K A .Sub fSub gSub)
    (cPn : CalO P w K mg base "_law_pen" 1 ["_law_script"] (spPen K) (fun _ => True)) (cD : CalO P w K mg base "_law_draw" 1 ["_law_pen_here", "_law_many"] spDraw (fun _ => True)) (cP : CalO P w K mg base "_law_pick" 2 ["_law_pen_here", "_law_some"] (spPick K) (fun _ => True)) (cS : CalG P w K mg base "_law_same" 1 ["_law_heard_here", "_law_due"] spSame (fun _ => True))
    (cIn : CalX P w K mg base "_law_in_place" 10 ["_law_amount", "_law_sign", "_law_other"] (spInpR A N) (fun _ => True)) :
    FnG P w K mg base CX0 16 f (PySem.W.fnOf "law" "law" (defArgs s_law) (defBody s_law) (defScope s_law) .none kV doc pm an (.ref c) ct) ["_law_script"] (spLaw K [(Pt, qL)]) := by
  refine fnG_of lk hcd sc_law (fun vs H Q E h => ?_) fun A' outer s H vs Q E gd hr h => ?_
  · obtain ⟨a, ns, rfl, _⟩ := h
    rfl
  · obtain ⟨a, ns, rfl, hs, tb, k⟩ := h
    suffices z : ∃ t, PSs (cxOf CX0 P w K mg base n_law "law" (defScope s_law) f (.ref c) A' outer s H E).nox (defBody s_law) t ∧ t { nx := fun _ G => Q .non G, rt := Q } (L2.start n_law [.ref a]) H by
      obtain ⟨t, p, q⟩ := z
      exact ⟨t, p.nox, q⟩
    refine ⟨_, (pss_cons (ps_set (i := 8) sc_law.nd rfl (Or.inr rfl) (pe_cO cPn (hr.mono (by decide)) (pa_cons (pc 0) pa_nil)))
    (pss_cons (ps_for PassesOwn.never rfl (pi_range1 (by rfl) T.b_range (pa_cons pe_int pa_nil)) (pg_name (i := 1) sc_law.nd rfl (Or.inl rfl)) (pss_cons (ps_set (i := 7) sc_law.nd rfl (Or.inr rfl) (pe_cO cP (hr.mono (by decide)) (pa_cons (pc 8) (pa_cons (pe_lstS (pa_cons pe_non (pa_cons pe_bl (pa_cons pe_bl (pa_cons pe_str (pa_cons pe_str (pa_cons (pe_tup (pa_cons pe_int pa_nil)) (pa_cons (pe_lstS (pa_cons pe_int pa_nil)) (pa_cons pe_dnewK (pa_cons (pe_lstS pa_nil) (pa_cons pe_str pa_nil))))))))))) pa_nil))))
    (pss_cons (ps_set (i := 5) sc_law.nd rfl (Or.inr rfl) (pe_cO cP (hr.mono (by decide)) (pa_cons (pc 8) (pa_cons (pe_lstS (pa_cons pe_non (pa_cons pe_bl (pa_cons pe_str (pa_cons (pe_tup (pa_cons pe_int (pa_cons pe_int pa_nil))) (pa_cons (pe_lstS (pa_cons pe_int pa_nil)) pa_nil)))))) pa_nil))))
    (pss_cons (ps_set (i := 9) sc_law.nd rfl (Or.inr rfl) (pe_cO cD (hr.mono (by decide)) (pa_cons (pc 8) (pa_cons (pe_cO cP (hr.mono (by decide)) (pa_cons (pc 8) (pa_cons (pe_lstS (pa_cons pe_int (pa_cons pe_int (pa_cons (pe_op o_pow pe_int pe_int) pa_nil)))) pa_nil))) pa_nil))))
    (pss_cons (ps_set (i := 6) sc_law.nd rfl (Or.inr rfl) (pe_make U.mkr FI (hr.mono (by decide)) rfl U.g_Amount bI2 .nil pass0 (pa_cons (pc 9) (pa_cons pe_int pa_nil))))
    (pss_cons (ps_set (i := 2) sc_law.nd rfl (Or.inl rfl) (pe_callB (call_reprD gd hr.units) (by rfl) T.b_repr (by decide +kernel) (pa_cons (pe_lstS (pa_cons (pe_fld (pc 6) rfl) (pa_cons (pe_fld (pc 6) rfl) pa_nil))) pa_nil)))
    (pss_cons (ps_set (i := 3) sc_law.nd rfl (Or.inl rfl) (pe_lstS (pa_cons (pe_hl HC T V_ TB rfl (hqL _) (hr.mono (by decide)) (LamX.lamS_by (by show LamX.lamSB (defScope s_law) _ = true; decide +kernel)) rfl (fun _ _ _ _ _ => rfl)
      (fun A3 outer3 s3 H3 E3 f3 c3 hr2 => (pe_make U.mkr FIR (hr2.mono (by decide)) rfl U.g_Amount bI2 .nil (passes_call (takes_of rfl rfl rfl rfl) (fun _ _ _ _ z => z)) (pa_cons (pc 7) (pa_cons (pc 5) pa_nil)))) rfl) pa_nil)))
    (pss_cons (ps_expr (pe_bm PySem.F.plainAttrs_list PySem.F.slot_list_append PySem.F.type_list_append mt_append (pc 3) (pa_cons (pe_hl HC T V_ TB rfl (hqL _) (hr.mono (by decide)) (LamX.lamS_by (by show LamX.lamSB (defScope s_law) _ = true; decide +kernel)) rfl (fun _ _ _ _ _ => rfl)
      (fun A3 outer3 s3 H3 E3 f3 c3 hr2 => (pe_make U.mkr FIR (hr2.mono (by decide)) rfl U.g_Amount bI1 vI1 (passes_call (takes_of rfl rfl rfl rfl) (fun _ _ _ _ z => z)) (pa_cons (pc 7) pa_nil))) rfl) pa_nil)))
    (pss_cons (ps_expr (pe_bm PySem.F.plainAttrs_list PySem.F.slot_list_append PySem.F.type_list_append mt_append (pc 3) (pa_cons (pe_hl HC T V_ TB rfl (hqL _) (hr.mono (by decide)) (LamX.lamS_by (by show LamX.lamSB (defScope s_law) _ = true; decide +kernel)) rfl (fun _ _ _ _ _ => rfl)
      (fun A3 outer3 s3 H3 E3 f3 c3 hr2 => (pe_make U.mkr FIR (hr2.mono (by decide)) rfl U.g_Amount bI2 .nil (passes_call (takes_of rfl rfl rfl rfl) (fun _ _ _ _ z => z)) (pa_cons (pc 9) (pa_cons (pc 5) pa_nil)))) rfl) pa_nil)))
    (pss_cons (ps_expr (pe_bm PySem.F.plainAttrs_list PySem.F.slot_list_append PySem.F.type_list_append mt_append (pc 3) (pa_cons (pe_hl HC T V_ TB rfl (hqL _) (hr.mono (by decide)) (LamX.lamS_by (by show LamX.lamSB (defScope s_law) _ = true; decide +kernel)) rfl (fun _ _ _ _ _ => rfl)
      (fun A3 outer3 s3 H3 E3 f3 c3 hr2 => (pe_makeK0 U.mkr FIR (hr2.mono (by decide)) rfl U.g_Amount kI (passes_call (takes_of rfl rfl rfl rfl) (fun _ _ _ _ z => z)) (pk_cons pe_int (pk_cons (pc 7) pk_nil)))) rfl) pa_nil)))
    (pss_cons (ps_expr (pe_bm PySem.F.plainAttrs_list PySem.F.slot_list_append PySem.F.type_list_append mt_append (pc 3) (pa_cons (pe_hl HC T V_ TB rfl (hqL _) (hr.mono (by decide)) (LamX.lamS_by (by show LamX.lamSB (defScope s_law) _ = true; decide +kernel)) rfl (fun _ _ _ _ _ => rfl)
      (fun A3 outer3 s3 H3 E3 f3 c3 hr2 => (pe_sm (p_gc U.g_Amount) U.sO FOR bO (hr2.mono (by decide)) (passes_call (takes_of rfl rfl rfl rfl) (fun _ _ _ _ z => z)) (pa_cons (pc 7) pa_nil))) rfl) pa_nil)))
    (pss_cons (ps_expr (pe_bm PySem.F.plainAttrs_list PySem.F.slot_list_append PySem.F.type_list_append mt_append (pc 3) (pa_cons (pe_hl HC T V_ TB rfl (hqL _) (hr.mono (by decide)) (LamX.lamS_by (by show LamX.lamSB (defScope s_law) _ = true; decide +kernel)) rfl (fun _ _ _ _ _ => rfl)
      (fun A3 outer3 s3 H3 E3 f3 c3 hr2 => (pe_smk (p_gc U.g_Amount) U.sO FOR kO (hr2.mono (by decide)) (passes_call (takes_of rfl rfl rfl rfl) (fun _ _ _ _ z => z)) (pk_cons (pc 5) pk_nil))) rfl) pa_nil)))
    (pss_cons (ps_setLc (i := 4) (own := [("_law_one", 11)]) (g := gName 11) (tt := tYes) rfl sc_law.nd rfl rfl (sw_true rfl rfl rfl (by decide +kernel)) (pi_list (pe_lstS (pa_cons (pc 7) (pa_cons (pc 7) (pa_cons (pc 5) (pa_cons (pc 7) (pa_cons (pc 7) (pa_cons (pc 5) pa_nil)))))))) (blkOk_by (own := [("_law_one", 11)]) (N := n_law) (sc := defScope s_law) (by decide +kernel)) (fun _ _ _ _ _ => pg_name (i := 11) sc_law.nd rfl (Or.inl rfl)) (fun _ _ _ _ _ => pts_nil) (fun _ _ _ _ _ => (pe_tup (pa_cons pe_str (pa_cons (pc 11) (pa_cons pe_bl (pa_cons pe_bl pa_nil)))))))
    (pss_cons (s_if (pt_not (t_val (pe_cG cS gd (hr.mono (by decide)) (pa_cons (pc 3) (pa_cons (pc 4) pa_nil))))) (pss_one (ps_ret pe_bl)) pss_nil)
    (pss_cons (ps_set (i := 10) sc_law.nd rfl (Or.inr rfl) (pe_cO cP (hr.mono (by decide)) (pa_cons (pc 8) (pa_cons (pe_lstS (pa_cons pe_int (pa_cons (pe_make U.mkr FI (hr.mono (by decide)) rfl U.g_Amount bI1 vI1 pass0 (pa_cons pe_int pa_nil)) (pa_cons (pe_make U.mkr FI (hr.mono (by decide)) rfl U.g_Amount bI2 .nil pass0 (pa_cons pe_int (pa_cons pe_int pa_nil))) (pa_cons (pe_op (op_owL PySem.HXO.io_sub Osub FSub bSub (hr.mono (by decide)) pass0) (pc 6) (pc 6)) pa_nil))))) pa_nil))))
    (pss_cons (ps_set (i := 3) sc_law.nd rfl (Or.inl rfl) (pe_lstS (pa_cons (pe_hl HC T V_ TB rfl (hqL _) (hr.mono (by decide)) (LamX.lamS_by (by show LamX.lamSB (defScope s_law) _ = true; decide +kernel)) rfl (fun _ _ _ _ _ => rfl)
      (fun A3 outer3 s3 H3 E3 f3 c3 hr2 => (pe_make U.mkr FIR (hr2.mono (by decide)) rfl U.g_Amount bI2 .nil (passes_call (takes_of rfl rfl rfl rfl) (fun _ _ _ _ z => z)) (pa_cons (pc 9) (pa_cons pe_int pa_nil)))) rfl) pa_nil)))
    (pss_cons (ps_expr (pe_bm PySem.F.plainAttrs_list PySem.F.slot_list_append PySem.F.type_list_append mt_append (pc 3) (pa_cons (pe_hl HC T V_ TB rfl (hqL _) (hr.mono (by decide)) (LamX.lamS_by (by show LamX.lamSB (defScope s_law) _ = true; decide +kernel)) rfl (fun _ _ _ _ _ => rfl)
      (fun A3 outer3 s3 H3 E3 f3 c3 hr2 => (pe_meth (pc 6) U.cls mOver FOverR (hr2.mono (by decide)) bOver .nil (passes_call (takes_of rfl rfl rfl rfl) (fun _ _ _ _ z => z)) (pa_cons (pc 10) pa_nil))) rfl) pa_nil)))
    (pss_cons (ps_expr (pe_bm PySem.F.plainAttrs_list PySem.F.slot_list_append PySem.F.type_list_append mt_append (pc 3) (pa_cons (pe_hl HC T V_ TB rfl (hqL _) (hr.mono (by decide)) (LamX.lamS_by (by show LamX.lamSB (defScope s_law) _ = true; decide +kernel)) rfl (fun _ _ _ _ _ => rfl)
      (fun A3 outer3 s3 H3 E3 f3 c3 hr2 => (pe_op (op_owL PySem.HXO.io_fdiv Ofdiv FFloR bFlo (hr2.mono (by decide)) (passes_call (takes_of rfl rfl rfl rfl) (fun _ _ _ _ z => z))) (pc 6) (pc 10))) rfl) pa_nil)))
    (pss_cons (ps_expr (pe_bm PySem.F.plainAttrs_list PySem.F.slot_list_append PySem.F.type_list_append mt_append (pc 3) (pa_cons (pe_hl HC T V_ TB rfl (hqL _) (hr.mono (by decide)) (LamX.lamS_by (by show LamX.lamSB (defScope s_law) _ = true; decide +kernel)) rfl (fun _ _ _ _ _ => rfl)
      (fun A3 outer3 s3 H3 E3 f3 c3 hr2 => (pe_op (op_owL PySem.HXO.io_mod Omod FModR bMod (hr2.mono (by decide)) (passes_call (takes_of rfl rfl rfl rfl) (fun _ _ _ _ z => z))) (pc 6) (pc 10))) rfl) pa_nil)))
    (pss_cons (ps_expr (pe_bm PySem.F.plainAttrs_list PySem.F.slot_list_append PySem.F.type_list_append mt_append (pc 3) (pa_cons (pe_hl HC T V_ TB rfl (hqL _) (hr.mono (by decide)) (LamX.lamS_by (by show LamX.lamSB (defScope s_law) _ = true; decide +kernel)) rfl (fun _ _ _ _ _ => rfl)
      (fun A3 outer3 s3 H3 E3 f3 c3 hr2 => (pe_op (op_owR PySem.HXO.io_fdiv o_fdivZ Ofdiv FRflR bRfl (hr2.mono (by decide)) (passes_call (takes_of rfl rfl rfl rfl) (fun _ _ _ _ z => z))) (pc 9) (pe_make U.mkr FI (hr2.mono (by decide)) rfl U.g_Amount bI1 vI1 pass0 (pa_cons pe_int pa_nil)))) rfl) pa_nil)))
    (pss_cons (ps_expr (pe_bm PySem.F.plainAttrs_list PySem.F.slot_list_append PySem.F.type_list_append mt_append (pc 3) (pa_cons (pe_hl HC T V_ TB rfl (hqL _) (hr.mono (by decide)) (LamX.lamS_by (by show LamX.lamSB (defScope s_law) _ = true; decide +kernel)) rfl (fun _ _ _ _ _ => rfl)
      (fun A3 outer3 s3 H3 E3 f3 c3 hr2 => (pe_op (op_owR PySem.HXO.io_mod o_mod Omod FRmR bRm (hr2.mono (by decide)) (passes_call (takes_of rfl rfl rfl rfl) (fun _ _ _ _ z => z))) (pc 9) (pe_make U.mkr FI (hr2.mono (by decide)) rfl U.g_Amount bI1 vI1 pass0 (pa_cons pe_int pa_nil)))) rfl) pa_nil)))
    (pss_cons (ps_expr (pe_bm PySem.F.plainAttrs_list PySem.F.slot_list_append PySem.F.type_list_append mt_append (pc 3) (pa_cons (pe_hl HC T V_ TB rfl (hqL _) (hr.mono (by decide)) (LamX.lamS_by (by show LamX.lamSB (defScope s_law) _ = true; decide +kernel)) rfl (fun _ _ _ _ _ => rfl)
      (fun A3 outer3 s3 H3 E3 f3 c3 hr2 => (pe_cX cIn (hr2.mono (by decide)) (takes_of rfl rfl rfl rfl) (pa_cons (pc 6) (pa_cons (pe_cO cP (hr2.mono (by decide)) (pa_cons (pc 8) (pa_cons (pe_lstS (pa_cons pe_str (pa_cons pe_str (pa_cons pe_str pa_nil)))) pa_nil))) (pa_cons (pc 10) pa_nil))))) rfl) pa_nil)))
    (pss_one (s_if (PW.pt (w_or (pt_not (t_val (pe_cG cS gd (hr.mono (by decide)) (pa_cons (pc 3) (pa_cons (pe_op op_rep (pe_lstS (pa_cons (pe_tup (pa_cons pe_str (pa_cons pe_bl (pa_cons pe_bl pa_nil)))) pa_nil)) pe_int) pa_nil))))) (pw_or1 (t_cmp (o_ne hr.units) (pe_callB (call_reprD gd hr.units) (by rfl) T.b_repr (by decide +kernel) (pa_cons (pe_lstS (pa_cons (pe_fld (pc 6) rfl) (pa_cons (pe_fld (pc 6) rfl) pa_nil))) pa_nil)) (pc 2))))) (pss_one (ps_ret pe_bl)) pss_nil))))))))))))))))))))))))
    (pss_one (ps_ret (p_cmp (o_eq hr.units) (pe_op (op_owL PySem.HXO.io_fdiv Ofdiv FFlo bFlo (hr.mono (by decide)) pass0) (pe_make U.mkr FI (hr.mono (by decide)) rfl U.g_Amount bI2 .nil pass0 (pa_cons pe_int (pa_cons pe_int pa_nil))) pe_int) pe_int))))), ?_⟩
    refine ⟨a, ns, rfl, hs, fun p l H1 np s1 P1 => ⟨_, rfl, by decide, by decide, for_range (lo := 0) (n := 10) (fun i σ G => ∃ t o2 o3 o4 o5 o6 o7 o9 o10 o11 : Option V, σ = [some (.ref a), t, o2, o3, o4, o5, o6, o7, some (.ref p), o9, o10, o11] ∧ Pe G p l (10 * i) ∧ LamX.Tabs [(Pt, qL)] G) ⟨none, none, none, none, none, none, none, none, none, none, rfl, P1.mono (by simp), tb.ext s1⟩ ?_ ?_⟩⟩
    · rintro i σ G hi ⟨t, o2, o3, o4, o5, o6, o7, o9, o10, o11, rfl, Pp, tb⟩
      -- odd
      refine ⟨by show 1 ≤ sizeLine; decide, fun t1 nt1 => ⟨by show 1 ≤ sizeLine; decide, fun q1 nq1 mq1 => fun d1 nd1 => ⟨Nat.zero_le _, fun q2 nq2 mq2 => ⟨by show 10 ≤ sizeLine; decide, fun q nq mq => ?_⟩⟩⟩⟩
      have za := Pp.new (o := .tup [.int 1]) nt1
      have zb := za.new (o := .lst [.int 2]) nq1
      have zc := zb.new (o := .dK []) nd1
      have zd := zc.new (o := .lst []) nq2
      refine ⟨p, l, _, _, rfl, zd.new nq, by omega, .inr ⟨q, _, rfl, zd.ne nq, .inl (SqL.of upd_same), by show 0 < 10; decide, by show 10 ≤ 1000000; decide, fun v1 G1 hv k1 P1 => ?_⟩⟩
      obtain ⟨d, dm, hd⟩ : ∃ d, d ∈ oddL ∧ Da (Hz p p G1) v1 d := by
        have f1 : Hz p p G1 t1 = some (.tup [.int 1]) := Hz.at_ (Pp.ne nt1) (Pp.ne nt1) (k1 _ _ (Pp.ne nt1) (kpN (kpN (kpN (kpN upd_same nq1) nd1) nq2) nq)) (fun _ z => by cases z)
        have f2 : Hz p p G1 q1 = some (.lst [.int 2]) := Hz.at_ (za.ne nq1) (za.ne nq1) (k1 _ _ (za.ne nq1) (kpN (kpN (kpN upd_same nd1) nq2) nq)) (fun _ z => by cases z)
        have f3 : Hz p p G1 d1 = some (.dK []) := Hz.at_ (zb.ne nd1) (zb.ne nd1) (k1 _ _ (zb.ne nd1) (kpN (kpN upd_same nq2) nq)) (fun _ z => by cases z)
        have f4 : Hz p p G1 q2 = some (.lst []) := Hz.at_ (zc.ne nq2) (zc.ne nq2) (k1 _ _ (zc.ne nq2) (kpN upd_same nq)) (fun _ z => by cases z)
        simp only [List.mem_cons, List.not_mem_nil, or_false] at hv
        rcases hv with rfl | rfl | rfl | rfl | rfl | rfl | rfl | rfl | rfl | rfl
        · exact ⟨_, by simp [oddL], .non⟩
        · exact ⟨.bool true, by simp [oddL], .bl _⟩
        · exact ⟨.bool false, by simp [oddL], .bl _⟩
        · exact ⟨.str "1", by simp [oddL], .str _⟩
        · exact ⟨.str "", by simp [oddL], .str _⟩
        · exact ⟨.tuple [.int 1], by simp [oddL], .tup f1 (.cons (.int 1) .nil)⟩
        · exact ⟨.list [.int 2], by simp [oddL], .lst f2 mq1 (.cons (.int 2) .nil)⟩
        · exact ⟨.dict [], by simp [oddL], .dic f3 .nil⟩
        · exact ⟨.list [], by simp [oddL], .lst f4 mq2 .nil⟩
        · exact ⟨.str "1/2", by simp [oddL], .str _⟩
      have tb1 : LamX.Tabs [(Pt, qL)] G1 := Tabs.kz (tb.ext (Same.new (Same.new (Same.new (Same.new (Same.new (Same.refl G) nt1) nq1) nd1) nq2) nq)) (zd.new nq) k1
      -- also
      refine ⟨by show 2 ≤ sizeLine; decide, fun t3 nt3 => ⟨by show 1 ≤ sizeLine; decide, fun q3 nq3 mq3 => ⟨by show 5 ≤ sizeLine; decide, fun q4 nq4 mq4 => ?_⟩⟩⟩
      have ya := P1.new (o := .tup [.int 0, .int 1]) nt3
      have yb := ya.new (o := .lst [.int 0]) nq3
      refine ⟨p, l, _, _, rfl, yb.new nq4, by omega, .inr ⟨q4, _, rfl, yb.ne nq4, .inl (SqL.of upd_same), by show 0 < 5; decide, by show 5 ≤ 1000000; decide, fun v2 G2 hv k2 P2 => ?_⟩⟩
      have c12 : Kz p p G1 G2 := ((Kz.new nt3).trans ((Kz.new nq3).trans (Kz.new nq4))).trans (Kz.kp k2)
      obtain ⟨e, em, he⟩ : ∃ e, e ∈ alsoL ∧ Da (Hz p p G2) v2 e := by
        have f1 : Hz p p G2 t3 = some (.tup [.int 0, .int 1]) := Hz.at_ (P1.ne nt3) (P1.ne nt3) (k2 _ _ (P1.ne nt3) (kpN (kpN upd_same nq3) nq4)) (fun _ z => by cases z)
        have f2 : Hz p p G2 q3 = some (.lst [.int 0]) := Hz.at_ (ya.ne nq3) (ya.ne nq3) (k2 _ _ (ya.ne nq3) (kpN upd_same nq4)) (fun _ z => by cases z)
        simp only [List.mem_cons, List.not_mem_nil, or_false] at hv
        rcases hv with rfl | rfl | rfl | rfl | rfl
        · exact ⟨_, by simp [alsoL], .non⟩
        · exact ⟨.bool false, by simp [alsoL], .bl _⟩
        · exact ⟨.str "0", by simp [alsoL], .str _⟩
        · exact ⟨.tuple [.int 0, .int 1], by simp [alsoL], .tup f1 (.cons (.int 0) (.cons (.int 1) .nil))⟩
        · exact ⟨.list [.int 0], by simp [alsoL], .lst f2 mq3 (.cons (.int 0) .nil)⟩
      have hd2 := hd.mo c12.hz
      have tb2 : LamX.Tabs [(Pt, qL)] G2 := Tabs.kz (tb1.ext (Same.new (Same.new (Same.new (Same.refl G1) nt3) nq3) nq4)) (yb.new nq4) k2
      -- upper
      refine ⟨⟨by decide, by decide, by decide⟩, by show 3 ≤ sizeLine; decide, fun q5 nq5 mq5 => ?_⟩
      refine ⟨p, l, _, _, rfl, P2.new nq5, by omega, .inr ⟨q5, _, rfl, P2.ne nq5, .inl (SqL.of upd_same), by show 0 < 3; decide, by show 3 ≤ 1000000; decide, fun v3 G3 hv k3 P3 => ?_⟩⟩
      obtain ⟨n, rfl, n0, n1⟩ : ∃ n : Int, v3 = .int n ∧ 0 < n ∧ n < 2 ^ 100 := by
        simp only [List.mem_cons, List.not_mem_nil, or_false] at hv
        rcases hv with rfl | rfl | rfl
        · exact ⟨_, rfl, by decide, by decide⟩
        · exact ⟨_, rfl, by decide, by decide⟩
        · exact ⟨_, rfl, by decide +kernel, by decide +kernel⟩
      refine ⟨p, l, _, n, rfl, P3, n0, Nat.lt_trans (show n.natAbs < 2 ^ 100 by omega) (by decide +kernel), by omega, fun u G4 u0 u1 k4 P4 => ?_⟩
      have Su : Sm 100 u := by unfold Sm; omega
      refine mkR (p := u) (q := 3) (by decide) (Su.mono (by decide)) (by unfold Sm; decide) fun r G5 nr s5 am => ?_
      have z3 : (3 : Int) ≠ 0 := by decide
      have lo := low_n (p := u) z3
      have St : Sm 400 (nT u 3) := (Su.mono (by decide) : Sm 400 u).nT z3
      have Sb : Sm 400 (nB u 3) := ((by unfold Sm; decide : Sm 400 3)).nB (p := u) z3
      generalize nT u 3 = t0 at am lo St ⊢
      generalize nB u 3 = b0 at am lo Sb ⊢
      obtain ⟨dx, ea⟩ := id am
      refine ⟨r, A, dx, _, _, rfl, ea, U.cls, U.nT, rfl, r, A, dx, _, _, rfl, ea, U.cls, U.nB, rfl, by show 2 ≤ sizeLine; decide, fun q6 nq6 mq6 => ⟨q6, .list [.int t0, .int b0], rfl, .lst upd_same mq6 (.cons (.int t0) (.cons (.int b0) .nil)), (okT_int (Nat.lt_of_lt_of_le St (Nat.pow_le_pow_right (by decide) (by decide)))).l2 (okT_int (Nat.lt_of_lt_of_le Sb (Nat.pow_le_pow_right (by decide) (by decide)))), ?_⟩⟩
      -- the state from here on
      have P6 := (P4.same s5).new (o := .lst [.int t0, .int b0]) nq6
      have c26 : Kz p p G2 (upd G5 q6 (.lst [.int t0, .int b0])) := ((Kz.new nq5).trans (Kz.kp k3)).trans ((Kz.kp k4).trans ((Kz.same s5).trans (Kz.new nq6)))
      have tb6 : LamX.Tabs [(Pt, qL)] (upd G5 q6 (.lst [.int t0, .int b0])) := LamX.Tabs.ext (Tabs.kz (Tabs.kz (tb2.ext (Same.new (Same.refl G2) nq5)) (P2.new nq5) k3) P3 k4) (Same.new s5 nq6)
      have hd6 := (hd2.mo c26.hz)
      have he6 := (he.mo c26.hz)
      have ea6 : Hz p p (upd G5 q6 (.lst [.int t0, .int b0])) r = some (.ins A dx (afs t0 b0)) := Hz.at_ ((P4.same s5).ne2 ea (fun _ _ _ z => by cases z)) ((P4.same s5).ne2 ea (fun _ _ _ z => by cases z)) (kpN ea nq6) (fun _ z => by cases z)
      generalize upd G5 q6 (.lst [.int t0, .int b0]) = G6 at P6 tb6 hd6 he6 ea6 ⊢
      clear hd hd2 he
      -- the first call
      refine ⟨tb6, fun H7 e7 tb7 => .inl ⟨v1, fun Ech Qv rz => ?_, fun x7 G7 nx7 s7 ex7 => ?_⟩⟩
      · exact mkRz (N := N) (Q := fun _ _ => False) ((hd6.mo (Kz.extN e7).hz).mo Hz.sub) ((he6.mo (Kz.extN e7).hz).mo Hz.sub) (.inl ⟨odd_no d dm, rz⟩)
      refine ⟨by show 1 ≤ sizeLine; decide, fun lh nlh mlh => ?_⟩
      have P7 := (P6.extN e7).same s7
      have k67 : Kz p p G6 G7 := (Kz.extN e7).trans (Kz.same s7)
      have k7l : Kz p lh G7 (upd G7 lh (.lst [.ref x7])) := Kz.upd
      have S1 : LS Pt qL p l lh (10 * i + 4) (upd G7 lh (.lst [.ref x7])) [.ref x7] [tupA d] := by
        have nx : x7 ≠ p := (P6.extN e7).ne nx7
        have nxl : x7 ≠ lh := ne_of_none ex7 nlh
        refine ⟨(P7.new nlh).mono (by omega), (tb7.ext s7).ext (Same.new (Same.refl _) nlh), P7.ne nlh, P7.neL nlh, upd_same, .cons (.tup (Hz.at_ nx nxl (kpN ex7 nlh) (fun _ z => by cases z)) (.cons (.str _) (.cons ?_ (.cons (.bl _) (.cons (.bl _) .nil))))) .nil⟩
        exact ((hd6.mo k67.hz).mo (Hz.turn nlh)).mo k7l.hz
      have hd8 := ((hd6.mo k67.hz).mo (Hz.turn nlh)).mo k7l.hz
      have he8 := ((he6.mo k67.hz).mo (Hz.turn nlh)).mo k7l.hz
      have ea8 : Hz p lh (upd G7 lh (.lst [.ref x7])) r = _ := k7l.hz _ _ (Hz.turn nlh _ _ (k67.hz _ _ ea6))
      generalize upd G7 lh (.lst [.ref x7]) = G8 at S1 hd8 he8 ea8 ⊢
      have an : ∀ {x : V} {y : PyData} {J H1 : Hp}, Da (Hz p lh J) x y → LamX.ExtN J H1 → Da H1 x y := fun h e1 => (h.mo (Kz.extN e1).hz).mo Hz.sub
      refine gn ?_
      refine ts ?_
      refine app_A (by rfl) S1 (by show 1 < 100; decide) hd8 ?_ ?_
      · intro H1 e1 Ech Qv rz
        exact mkRz (N := N) (Q := fun _ _ => False) (an hd8 e1) (.int 1) (.inl ⟨odd_no d dm, rz⟩)
      intro G9 y2 kz S2
      have hd9 := hd8.mo kz.hz
      have he9 := he8.mo kz.hz
      have ea9 := kz.hz _ _ ea8
      refine ts ?_
      refine app_A (by rfl) S2 (by show 2 < 100; decide) he9 ?_ ?_
      · intro H1 e1 Ech Qv rz
        exact mkRz (N := N) (Q := fun _ _ => False) (.int u) (an he9 e1) (.inr (.inl ⟨rfl, also_no e em, rz⟩))
      intro G10 y3 kz S3
      have hd10 := hd9.mo kz.hz
      have he10 := he9.mo kz.hz
      have ea10 := kz.hz _ _ ea9
      refine ts ?_
      refine app_A (by rfl) S3 (by show 3 < 100; decide) hd10 ?_ ?_
      · intro H1 e1 Ech Qv rz
        exact ⟨rfl, rfl, mkRz (N := N) (Q := fun _ _ => False) (an hd10 e1) (.int 0) (.inl ⟨odd_no d dm, rz⟩)⟩
      intro G11 y4 kz S4
      have hd11 := hd10.mo kz.hz
      have he11 := he10.mo kz.hz
      have ea11 := kz.hz _ _ ea10
      refine ts ?_
      refine app_A (by rfl) S4 (by show 4 < 100; decide) hd11 ?_ ?_
      · intro H1 e1 Ech Qv rz
        exact ⟨rfl, v1, d, rfl, an hd11 e1, odd_no d dm, rz⟩
      intro G12 y5 kz S5
      have hd12 := hd11.mo kz.hz
      have he12 := he11.mo kz.hz
      have ea12 := kz.hz _ _ ea11
      refine ts ?_
      refine app_A (by rfl) S5 (by show 5 < 100; decide) he12 ?_ ?_
      · intro H1 e1 Ech Qv rz
        exact ⟨rfl, rfl, v2, e, rfl, an he12 e1, also_no e em, rz⟩
      intro G13 y6 kz S6
      have hd13 := hd12.mo kz.hz
      have he13 := he12.mo kz.hz
      have ea13 := kz.hz _ _ ea12
      clear hd8 he8 ea8 hd9 he9 ea9 hd10 he10 ea10 hd11 he11 ea11 hd12 he12 ea12 S1 S2 S3 S4 S5
      -- what is due
      refine nxs ?_
      refine ⟨by show 6 ≤ sizeLine; decide, fun li nli mli => ⟨li, rfl, ⟨_, SqL.of upd_same⟩, fun DD nD => ?_⟩⟩
      have s13 : Same G13 (upd G13 li (.lst [v1, v1, v2, v1, v1, v2])) := Same.new (Same.refl _) nli
      have nD13 := s13.free nD
      have das0 : ∀ J, Same G13 J → Das (Hz DD DD J) [v1, v1, v2, v1, v1, v2] [d, d, e, d, d, e] := fun J sJ => by
        have a1 := hd13.mo (Hz.to nD13 sJ)
        have a2 := he13.mo (Hz.to nD13 sJ)
        exact .cons a1 (.cons a1 (.cons a2 (.cons a1 (.cons a1 (.cons a2 .nil)))))
      refine lc_it (walk_list (xs := [v1, v1, v2, v1, v1, v2])) (fun i G => ∃ ws : List V, ws.length = i ∧ G DD = some (.lst ws) ∧ Same G13 G ∧ G li = some (.lst [v1, v1, v2, v1, v1, v2]) ∧ Das (Hz DD DD G) ws (([d, d, e, d, d, e].take i).map tupA)) ⟨[], rfl, upd_same, Same.new s13 nD, kpN upd_same nD, .nil⟩ (fun i G _ ⟨_, _, _, _, z, _⟩ => SqL.of z) ?_ ?_
      · rintro j x J J2 hj ⟨ws, e1, e2, sJ, eli, da⟩ ⟨rfl, em⟩
        obtain ⟨dz, hz, hdz⟩ := (das0 J2 sJ).get em
        refine ⟨rfl, by show 4 ≤ sizeLine; decide, fun q nq => ?_⟩
        have qD : q ≠ DD := Ne.symm (ne_of_none e2 nq)
        refine ⟨ws, kpN e2 nq, by rw [e1, sizeLine_eq]; have : j < 6 := hj; omega, ws ++ [.ref q], by rw [List.length_append, e1]; rfl, upd_same, Same.mut (Same.new sJ nq) nD13, ?_, ?_⟩
        · rw [upd_ne (fun z => by rw [z] at eli; rw [eli] at e2; cases e2; exact absurd (ne_of_none (upd_same (H := G13) (a := li) (o := .lst [v1, v1, v2, v1, v1, v2])) nD) (by simp [z]))]
          exact kpN eli nq
        · have kk : Kz DD DD J2 (upd (upd J2 q (.tup [.str "amount", x, .bl true, .bl false])) DD (.lst (ws ++ [.ref q]))) := (Kz.new nq).trans Kz.upd
          rw [List.take_add_one, hz, List.map_append]
          refine das_snoc ?_ (da.mo kk.hz)
          exact .tup (Hz.at_ qD qD (by rw [upd_ne qD]; exact upd_same) (fun _ z => by cases z)) (.cons (.str _) (.cons (hdz.mo kk.hz) (.cons (.bl _) (.cons (.bl _) .nil))))
      rintro J ⟨ws, e1, e2, sJ, _, da⟩
      refine nxs ?_
      have o6 : OkD (due6 d e) := okD_6 d dm e em
      refine ⟨lh, DD, _, ws, _, _, rfl, sJ _ _ S6.at_, (S6.da.mo Hz.sub).mo sJ, e2, da.mo Hz.sub, o6, o6, ⟨fun h => ?_, fun _ => ?_⟩⟩
      · simp [due6, tupA] at h
      have PJ := S6.P.same sJ
      have tbJ := S6.tb.ext sJ
      have eaJ := sJ _ _ (Hz.sub _ _ ea13)
      clear S6 hd13 he13 ea13 das0 da e2 e1 s13 nD13 nD o6
      -- zero
      refine nxs ?_
      refine mkR (p := 0) (q := 1) (by decide) (by unfold Sm; decide) (by unfold Sm; decide) fun r1 J1 n1 s1' am1 => ?_
      refine mkR (p := 0) (q := 5) (by decide) (by unfold Sm; decide) (by unfold Sm; decide) fun r2 J2 n2 s2' am2 => ?_
      have z1 : Am A J1 r1 0 1 := am1
      have z2 : Am A J2 r2 0 1 := am2
      have amJ : Am A J r t0 b0 := ⟨dx, eaJ⟩
      have am3 : Am A J2 r t0 b0 := amJ.mo (s1'.trans s2')
      have bz : b0 * b0 ≠ 0 := Int.mul_ne_zero (by have := lo.1; omega) (by have := lo.1; omega)
      refine ⟨am3.isI, am3.isI, r, _, t0, b0, t0, b0, rfl, am3, .inl ⟨r, rfl, am3⟩, lo, lo, St, Sb, St, Sb, bz, fun r3 J3 n3 s3' am4 => ?_⟩
      have z3 : Am A J3 r3 0 1 := by
        have e0 : pSub t0 b0 t0 b0 = 0 := by unfold pSub; rw [Int.neg_mul]; omega
        rw [e0, (n_zero (q := qBD t0 b0 t0 b0) bz).1, (n_zero (q := qBD t0 b0 t0 b0) bz).2] at am4
        exact am4
      have P3 := PJ.same ((s1'.trans s2').trans s3')
      refine ⟨by show 4 ≤ sizeLine; decide, fun q4 nq4 mq4 => ?_⟩
      refine ⟨p, l, _, _, rfl, P3.new nq4, by omega, .inr ⟨q4, _, rfl, P3.ne nq4, .inl (SqL.of upd_same), by show 0 < 4; decide, by show 4 ≤ 1000000; decide, fun v G hv k4 P4 => ?_⟩⟩
      have kz4 : Kz p p J3 G := (Kz.new nq4).trans (Kz.kp k4)
      have nz : Nu A (Hz p p G) v 0 1 := by
        have i2 : ∀ {x dx : Addr} {fs : List (Str × V)}, J3 x = some (.ins A dx fs) → Hz p p G x = some (.ins A dx fs) := fun e => kz4.hz _ _ (Hz.at_ (P3.ne2 e (fun _ _ _ z => by cases z)) (P3.ne2 e (fun _ _ _ z => by cases z)) e (fun _ z => by cases z))
        simp only [List.mem_cons, List.not_mem_nil, or_false] at hv
        rcases hv with rfl | rfl | rfl | rfl
        · exact .inr ⟨rfl, rfl⟩
        · obtain ⟨y, ey⟩ := z1.mo (s2'.trans s3')
          exact .inl ⟨_, rfl, y, i2 ey⟩
        · obtain ⟨y, ey⟩ := z2.mo s3'
          exact .inl ⟨_, rfl, y, i2 ey⟩
        · obtain ⟨y, ey⟩ := z3
          exact .inl ⟨_, rfl, y, i2 ey⟩
      have am5 : Am A (Hz p p G) r t0 b0 := by
        obtain ⟨y, ey⟩ := am3.mo s3'
        exact ⟨y, kz4.hz _ _ (Hz.at_ (P3.ne2 ey (fun _ _ _ z => by cases z)) (P3.ne2 ey (fun _ _ _ z => by cases z)) ey (fun _ z => by cases z))⟩
      have tb4 : LamX.Tabs [(Pt, qL)] G := Tabs.kz (tbJ.ext (Same.new ((s1'.trans s2').trans s3') nq4)) (P3.new nq4) k4
      clear amJ am1 am2 am4 z1 z2 z3 am3 eaJ tbJ PJ kz4 hv
      have one4 : Sm 400 1 := sm_one.mono (by decide)
      have Su4 : Sm 400 u := Su.mono (by decide)
      -- the first of seven
      refine nxs ?_
      refine ⟨tb4, fun H7 e7 tb7 => .inr (.inl ⟨fun Ech Qv rz => ?_, fun x7 G7 nx7 s7 ex7 => ?_⟩)⟩
      · exact mkRz (C := C) (Q := fun _ _ => False) (.int u) (.int 0) (.inr (.inr ⟨rfl, rfl, rz⟩))
      refine ⟨by show 1 ≤ sizeLine; decide, fun lk2 nlk mlk => ?_⟩
      have P7 := (P4.extN e7).same s7
      have k67 : Kz p p G G7 := (Kz.extN e7).trans (Kz.same s7)
      have k7l : Kz p lk2 G7 (upd G7 lk2 (.lst [.ref x7])) := Kz.upd
      have toL : Same (Hz p p G) (Hz p lk2 (upd G7 lk2 (.lst [.ref x7]))) := fun b o h => k7l.hz _ _ (Hz.turn nlk _ _ (k67.hz _ _ h))
      have T1 : LS Pt qL p l lk2 (10 * i + 5) (upd G7 lk2 (.lst [.ref x7])) [.ref x7] [tupN] := by
        have nx : x7 ≠ p := (P4.extN e7).ne nx7
        have nxl : x7 ≠ lk2 := ne_of_none ex7 nlk
        refine ⟨(P7.new nlk).mono (by omega), (tb7.ext s7).ext (Same.new (Same.refl _) nlk), P7.ne nlk, P7.neL nlk, upd_same, .cons (.tup (Hz.at_ nx nxl (kpN ex7 nlk) (fun _ z => by cases z)) (.cons (.str _) (.cons (.bl _) (.cons (.bl _) .nil)))) .nil⟩
      have nz8 := nz.mo toL
      have am8 := am5.mo toL
      clear nz am5 toL k7l k67 P7
      generalize upd G7 lk2 (.lst [.ref x7]) = G8 at T1 nz8 am8 ⊢
      have anN : ∀ {J H1 : Hp}, Nu A (Hz p lk2 J) v 0 1 → LamX.ExtN J H1 → Nu A H1 v 0 1 := fun h e1 => (h.mo (Kz.extN e1).hz).mo Hz.sub
      have anA : ∀ {J H1 : Hp}, Am A (Hz p lk2 J) r t0 b0 → LamX.ExtN J H1 → Am A H1 r t0 b0 := fun h e1 => (h.mo (Kz.extN e1).hz).mo Hz.sub
      refine gn ?_
      refine ts ?_
      refine app_N (by rfl) T1 (by show 1 < 100; decide) ?_ ?_
      · intro H1 e1 Ech Qv rz
        have a1 := anA am8 e1
        obtain ⟨y, ey⟩ := id a1
        exact ⟨r, y, _, rfl, ey, rfl, r, v, t0, b0, 1, rfl, a1, anN nz8 e1, low_int 0, St, Sb, one4, rz⟩
      intro G9 y2 kz T2
      have nz9 := nz8.mo kz.hz
      have am9 := am8.mo kz.hz
      refine ts ?_
      refine app_N (by rfl) T2 (by show 2 < 100; decide) ?_ ?_
      · intro H1 e1 Ech Qv rz
        have a1 := anA am9 e1
        rcases anN nz9 e1 with ⟨y, rfl, an⟩ | ⟨rfl, _⟩
        · exact ⟨a1.isI, an.isI, r, _, t0, b0, 1, rfl, a1, .inl ⟨y, rfl, an⟩, low_int 0, St, Sb, one4, rz⟩
        · exact ⟨a1.isI, r, _, t0, b0, 1, rfl, a1, .inr ⟨rfl, rfl⟩, low_int 0, St, Sb, one4, rz⟩
      intro G10 y3 kz T3
      have nz10 := nz9.mo kz.hz
      have am10 := am9.mo kz.hz
      refine ts ?_
      refine app_N (by rfl) T3 (by show 3 < 100; decide) ?_ ?_
      · intro H1 e1 Ech Qv rz
        have a1 := anA am10 e1
        rcases anN nz10 e1 with ⟨y, rfl, an⟩ | ⟨rfl, _⟩
        · exact ⟨a1.isI, an.isI, r, _, t0, b0, 1, rfl, a1, .inl ⟨y, rfl, an⟩, low_int 0, St, Sb, one4, rz⟩
        · exact ⟨a1.isI, r, _, t0, b0, 1, rfl, a1, .inr ⟨rfl, rfl⟩, low_int 0, St, Sb, one4, rz⟩
      intro G11 y4 kz T4
      have nz11 := nz10.mo kz.hz
      have am11 := am10.mo kz.hz
      refine ts ?_
      refine app_N (by rfl) T4 (by show 4 < 100; decide) ?_ ?_
      · intro H1 e1 Ech Qv rz
        refine mkR (p := 0) (q := 1) (by decide) (by unfold Sm; decide) (by unfold Sm; decide) fun r9 G9' nr9 s9 am9' => ?_
        have a9 : Am A G9' r9 0 1 := am9'
        exact ⟨a9.isI, r9, u, 1, rfl, a9, low_int 0, Su4, one4, rz.mo s9⟩
      intro G12 y5 kz T5
      have nz12 := nz11.mo kz.hz
      have am12 := am11.mo kz.hz
      refine ts ?_
      refine app_N (by rfl) T5 (by show 5 < 100; decide) ?_ ?_
      · intro H1 e1 Ech Qv rz
        refine mkR (p := 0) (q := 1) (by decide) (by unfold Sm; decide) (by unfold Sm; decide) fun r9 G9' nr9 s9 am9' => ?_
        have a9 : Am A G9' r9 0 1 := am9'
        exact ⟨a9.isI, r9, u, 1, rfl, a9, low_int 0, Su4, one4, rz.mo s9⟩
      intro G13 y6 kz T6
      have nz13 := nz12.mo kz.hz
      have am13 := am12.mo kz.hz
      refine ts ?_
      refine app_P (c' := 10 * i + 6) (by rfl) T6 (by show 6 < 100; decide) ?_ ?_
      · intro H1 e1 P1 Ech Qv rz
        refine ⟨by show 3 ≤ sizeLine; decide, fun q nq mq => ⟨p, l, _, .ref q, rfl, P1.new nq, by omega, .inr ⟨q, _, rfl, P1.ne nq, .inl (SqL.of upd_same), by show 0 < 3; decide, by show 3 ≤ 1000000; decide, fun x J hx kJ PJ => ?_⟩⟩⟩
        obtain ⟨z, rfl⟩ : ∃ z, x = .str z := by
          simp only [List.mem_cons, List.not_mem_nil, or_false] at hx
          rcases hx with rfl | rfl | rfl <;> exact ⟨_, rfl⟩
        have kk : Kz p lk2 G13 J := ((Kz.extN e1).trans (Kz.new nq)).trans (Kz.kp kJ)
        exact ⟨r, z, v, t0, b0, 1, rfl, (am13.mo kk.hz).mo Hz.sub, (nz13.mo kk.hz).mo Hz.sub, low_int 0, St, Sb, one4, fun J2 s2 => rz J2 (((Kp.refl.new nq).trans kJ).trans (Kp.same s2)) ((PJ.same s2).mono (by omega))⟩
      intro G14 y7 kz T7
      have am14 := am13.mo kz.hz
      clear nz8 nz9 nz10 nz11 nz12 nz13 am8 am9 am10 am11 am12 am13 T1 T2 T3 T4 T5 T6 kz
      -- the second look, the parts again
      refine nx1 ?_
      refine ⟨by show 3 ≤ sizeLine; decide, fun tq ntq => ⟨by show 1 ≤ sizeLine; decide, fun l1 nl1 ml1 => ⟨l1, 7, _, rfl, rfl, upd_same, by decide, by decide, by show 1 * 7 ≤ sizeLine; decide, fun l7 nl7 => ?_⟩⟩⟩
      have s15 := Same.new (o := .lst (List.replicate (7 : Int).toNat [V.ref tq]).flatten) (Same.new (o := .lst [.ref tq]) (Same.new (o := .tup [.str "divisor", .bl true, .bl false]) (Same.refl G14) ntq) nl1) nl7
      have eq15 : upd (upd (upd G14 tq (.tup [.str "divisor", .bl true, .bl false])) l1 (.lst [.ref tq])) l7 (.lst (List.replicate (7 : Int).toNat [V.ref tq]).flatten) tq = some (.tup [.str "divisor", .bl true, .bl false]) := kpN (kpN upd_same nl1) nl7
      have e7 : upd (upd (upd G14 tq (.tup [.str "divisor", .bl true, .bl false])) l1 (.lst [.ref tq])) l7 (.lst (List.replicate (7 : Int).toNat [V.ref tq]).flatten) l7 = some (.lst (List.replicate (7 : Int).toNat [V.ref tq]).flatten) := upd_same
      generalize upd (upd (upd G14 tq (.tup [.str "divisor", .bl true, .bl false])) l1 (.lst [.ref tq])) l7 (.lst (List.replicate (7 : Int).toNat [V.ref tq]).flatten) = G15 at s15 eq15 e7 ⊢
      have q1 : Da G15 (.ref tq) tupN := .tup eq15 (.cons (.str _) (.cons (.bl _) (.cons (.bl _) .nil)))
      have da7 : Das G15 (List.replicate (7 : Int).toNat [V.ref tq]).flatten (List.replicate 7 tupN) := .cons q1 (.cons q1 (.cons q1 (.cons q1 (.cons q1 (.cons q1 (.cons q1 .nil))))))
      have o7 : OkD (.list (List.replicate 7 tupN)) := okD_7
      have da0 : Das G15 _ (List.replicate 7 tupN) := (T7.da.mo Hz.sub).mo s15
      refine ⟨lk2, l7, _, _, _, _, rfl, s15 _ _ T7.at_, da0, e7, da7, o7, o7, ⟨fun h => ?_, fun _ => ?_⟩⟩
      · simp at h
      obtain ⟨dy, ey⟩ := (am14.mo Hz.sub).mo s15
      refine ⟨r, A, dy, _, _, rfl, ey, U.cls, U.nT, rfl, r, A, dy, _, _, rfl, ey, U.cls, U.nB, rfl, by show 2 ≤ sizeLine; decide, fun q6 nq6 mq6 => ⟨q6, .list [.int t0, .int b0], rfl, .lst upd_same mq6 (.cons (.int t0) (.cons (.int b0) .nil)), (okT_int (Nat.lt_of_lt_of_le St (Nat.pow_le_pow_right (by decide) (by decide)))).l2 (okT_int (Nat.lt_of_lt_of_le Sb (Nat.pow_le_pow_right (by decide) (by decide)))), ⟨fun h => ?_, fun _ => ?_⟩⟩⟩
      · simp at h
      exact ⟨_, _, _, _, _, _, _, _, _, _, rfl, ((T7.P.same s15).new nq6).mono (by omega), (T7.tb.ext s15).ext (Same.new (Same.refl _) nq6)⟩
    · rintro σ G ⟨t, o2, o3, o4, o5, o6, o7, o9, o10, o11, rfl, Pp, tb⟩
      refine mkR (p := 1) (q := 2) (by decide) (by unfold Sm; decide) (by unfold Sm; decide) fun r G2 nr s am => ?_
      have a' : Am A G2 r 1 2 := am
      refine ⟨a'.isI, r, _, 1, 2, 1, 1, rfl, a', .inr ⟨rfl, rfl⟩, ⟨by decide, by decide⟩, low_int 1, by unfold Sm; decide, by unfold Sm; decide, by unfold Sm; decide, by unfold Sm; decide, by decide, fun G3 s3 => ?_⟩
      exact k _

end
end LW
set_option Elab.async false
set_option linter.all false
set_option maxRecDepth 100000
set_option maxHeartbeats 2000000
namespace HX
open PySem PySem.Spec PyProof.Rows L2

/-! ### the end of a law that makes lambdas and calls repr: its def's table of code is tracked too -/
/-- the heap that knows the script, locked, and one empty table -/
def scrT (Pt : Addr) (S : Hp) : Hp := fun b => if b = Pt then some (.tbl #[]) else S b
section
variable {P : Program} {w : World} {K : PySem.W.Frag} {mg mb : Str → Option Value} {CX : CXT} {k : Nat} {fa a c Pt : Addr} {fd : FuncData} {x : Str} {sp : Sp} {s : Shared} {vs : List Value} {ns : List Int}
theorem law_goT (kin : K.In s.heap) (hn : s.heap.Ns mainGlobals mg) (hb : s.heap.Ns builtinsNs mb) (hbb : ∀ y : Str, y ≠ "__name__" → mb y = bootBuiltins y) (lim : s.heap.NoLimit) (hg : s.gens = #[])
    (hT : s.heap.get? Pt = some { cls := .none, data := .fields #[] }) (nT : K.lookup Pt = none) (hC : PySem.W.codeHdIn K c Pt = true)
    (hbm : ∃ (bm : Addr) (ob : Obj), mg "__builtins__" = some (.ref bm) ∧ bm ≠ builtinsNs ∧ s.heap.get? bm = some ob ∧ ob.cls = .type "module" ∧ ob.dict = some builtinsNs ∧ ob.data = .plain)
    (H : Hp) (hH : H Pt = some (.tbl #[])) (only : ∀ b, b = Pt ∨ H b = none ∨ ∃ o xs, H b = some (.frz o (.lst xs))) (hok : HOk P w H s.heap) (at1 : ∀ b, b ≠ Pt → H b ≠ none → s.heap.get? b = some { cls := .type "list", data := .seq vs.toArray } ∧ K.lookup b = none)
    (hr : Room k callerA) (F : ∀ base : Heap, K.In base → base.Ns mainGlobals mg → LamX.TabB base mg c Pt → FnG P w K mg base CX k fa fd [x] sp)
    (bind1 : ∀ (s : Shared) (u : Value), BindsTo s fd ⟨[u], []⟩ [(x, u)])
    (hsp : sp [.ref a] H (fun v _ => v = .bl true) fun _ _ _ => False) (hCX : ∀ e s', CX [] H s (fun _ _ _ => False) e s' → False) :
    codeAny (model P w) callerA (.call (.ref fa) ⟨[.ref a], []⟩) (fun r s' => r = .ok (.ret (.bool true)) ∧ OldK s.heap s'.heap ∧ s'.os = s.os ∧ AllBare s'.gens) s := by
  have untr : ∀ b o, s.heap.get? b = some o → ((o.data ≠ .seq vs.toArray ∧ o.data ≠ .fields #[]) ∨ K.lookup b ≠ none) → H b = none := fun b o e d => by
    cases q : H b with
    | none => rfl
    | some u =>
      have tr : (o.data = .seq vs.toArray ∨ o.data = .fields #[]) ∧ K.lookup b = none := by
        by_cases hb : b = Pt
        · rw [hb, hT] at e
          cases e
          exact ⟨.inr rfl, by rw [hb]; exact nT⟩
        · obtain ⟨z1, z2⟩ := at1 b hb (by rw [q]; exact fun z => nomatch z)
          rw [e] at z1
          cases z1
          exact ⟨.inl rfl, z2⟩
      rcases d with ⟨d1, d2⟩ | d
      · exact (tr.1.elim d1 d2).elim
      · exact (d tr.2).elim
  have isNs : ∀ {b : Addr} {m : Str → Option Value}, s.heap.Ns b m → (hidT s.heap H).Ns b m := fun {b m} z => by
    obtain ⟨o, es, ep, e, d, r⟩ := z
    exact ⟨o, es, ep, hidT_get e (untr b o e (.inl ⟨(fun z => by rw [d] at z; cases z), (fun z => by rw [d] at z; cases z)⟩)), d, r⟩
  have kinB : K.In (hidT s.heap H) := fun b o e => hidT_get (kin b o e) (untr b o (kin b o e) (.inr (by rw [e]; exact fun z => nomatch z)))
  have md : Mod K mg (hidT s.heap H) := ⟨kinB, isNs hn, ⟨mb, isNs hb, hbb⟩, let ⟨m, z1, z2⟩ := lim; ⟨m, isNs z1, z2⟩⟩
  have nsTab : ∀ {b : Addr} {m : Str → Option Value}, s.heap.Ns b m → b ≠ Pt := fun {b m} z e => by
    obtain ⟨o, es, ep, e1, d, _⟩ := z
    rw [e, hT] at e1
    cases e1
    cases d
  have TB : LamX.TabB (hidT s.heap H) mg c Pt := by
    refine ⟨PySem.W.codeHd_of_K kinB hC, ?_, nsTab hn⟩
    obtain ⟨bm, ob, b1, b2, b3, b4, b5, b6⟩ := hbm
    refine ⟨bm, ob, b1, b2, fun e => ?_, fun e => ?_, hidT_get b3 (untr bm ob b3 (.inl ⟨(fun z => by rw [b6] at z; cases z), (fun z => by rw [b6] at z; cases z)⟩)), b4, b5, b6⟩
    · obtain ⟨o, es, ep, e1, d, _⟩ := hn
      rw [← e, b3] at e1
      cases e1
      rw [b6] at d
      cases d
    · rw [e, hT] at b3
      cases b3
      cases b6
  have e0 : Env0 P w K mg (hidT s.heap H) callerA [] s H :=
    ⟨rfl, md, fun _ _ e => of_hidT e, Nat.le_of_eq (hidT_size _ _), trivial, fun b z => absurd (show b ∈ ([] : List Addr) from z) List.not_mem_nil, hok, AllBare.of_eq hg⟩
  have run := (F _ kinB (isNs hn) TB).go callerA [] s H ⟨[.ref a], []⟩ [.ref a] [.ref a] (fun v _ => v = .bl true) (fun _ _ _ => False) rfl hr e0 (bind1 s (.ref a)) (.cons rfl .nil) hsp
  refine codeAny_mono run fun r s' q => ?_
  match r, q with
  | .error e, q => exact (hCX e s' q).elim
  | .ok .next, q => exact False.elim q
  | .ok .brk, q => exact False.elim q
  | .ok .cont, q => exact False.elim q
  | .ok (.ret u), q =>
    obtain ⟨v, G, os, bare, un, hok', rv, ev⟩ := q
    subst ev
    obtain rfl : u = Value.bool true := rv
    have stay : ∀ b o, b ≠ Pt → s.heap.get? b = some o → s'.heap.get? b = some o := fun b o nb e => by
      rcases only b with z | n | ⟨ob, xs, n⟩
      · exact absurd z nb
      · exact un.keep b o e n (fun z => absurd (show b ∈ ([] : List Addr) from z) List.not_mem_nil) List.not_mem_nil
      · have y1 := (hok b _ n).1
        have y2 := (hok' b _ (un.frzs b ob _ n)).1
        exact (y2.trans y1.symm).trans e
    obtain ⟨more, mT⟩ := un.tbls Pt #[] hH
    have gT : s'.heap.get? Pt = some { cls := .none, data := .fields (#[] ++ more) } := hok' Pt _ mT
    rw [Array.empty_append] at gT
    refine ⟨rfl, ⟨fun b o e => ?_, fun b o e => ?_⟩, os, bare⟩
    · by_cases hb : b = Pt
      · rw [hb, hT] at e
        cases e
        rw [hb]
        exact .inr (.inl ⟨((PySem.W.codeHd_of_K kin hC).tab hT).isCodeTable, rfl, #[], more, rfl, by rw [Array.empty_append]; exact gT⟩)
      · exact .inl (stay b o hb e)
    · by_cases hb : b = Pt
      · rw [hb]
        exact ⟨_, gT⟩
      · exact ⟨o, stay b o hb e⟩
end
/-- .. -/
theorem walkGT {l : PySem.W.OpenLaw} {n k : Nat} {q : Program} {loose : List Str} {XP : (Str → Option Value) → Heap → Prop} {YP : World → Heap → Prop} {d d' : DefRec} {K : Params → PySem.W.Frag} {sp : PySem.W.Frag → List (Addr × Str) → Sp} {x : Str}
    (hm : l.most = some n) (hn : n ≤ sizeLine) (hdf : d.params.defaults = []) (hr : Room k callerA) (hrec : (recsOf q).find? (fun e => e.name == d.name) = some d') (hY : ∀ (w : World) (h : Heap), YP w h → (K w.params).In h)
    (F : ∀ (w : World) (mg : Str → Option Value) (fa : Addr) (h : Heap), (K w.params).In h → h.Ns mainGlobals mg → mg d.name = some (.ref fa) →
      ∃ (fd : FuncData) (c Pt : Addr) (qL : Str), PySem.W.tabIn (K w.params) d.name = some (c, Pt) ∧ (K w.params).lookup Pt = none ∧ PySem.W.codeHdIn (K w.params) c Pt = true ∧ (∀ (s : Shared) (u : Value), BindsTo s fd ⟨[u], []⟩ [(x, u)]) ∧
        ∀ base : Heap, (K w.params).In base → base.Ns mainGlobals mg → LamX.TabB base mg c Pt → FnG l.prog w (K w.params) mg base CX0 k fa fd [x] (sp (K w.params) [(Pt, qL)]))
    (hsp : ∀ (K : PySem.W.Frag) (H : Hp) (a Pt : Addr) (qL : Str) (ns : List Int), ns.length ≤ n → H Pt = some (.tbl #[]) → SqL K H a (ns.map V.int) → sp K [(Pt, qL)] [.ref a] H (fun v _ => v = .bl true) fun _ _ _ => False) :
    PySem.W.WalkO q loose XP YP l.row.toRowW d [] (fun f vs => PySem.call f vs) := by
  refine Att.attach_call hm hdf fun w s₀ s mg mb fa o pm cd doc a vs ns G Y ho hd hcd hmg hobj hi hlen hg => ?_
  have kin := hY w _ Y
  obtain ⟨fd, c, Pt, qL, tI, nT, hC, b1, f1⟩ := F w mg fa _ kin G.T.g hmg
  have hT : s.heap.get? Pt = some { cls := .none, data := .fields #[] } := (PySem.W.tab_of G.T kin hrec tI).2
  have aP : a ≠ Pt := fun e => by
    rw [e, hT] at hobj
    have z : Data.fields #[] = Data.seq vs.toArray _ := congrArg Obj.data (Option.some.inj hobj)
    cases z
  have rv := vals_ints hi
  have lv := hi.length
  cases e : (K w.params).lookup a with
  | some ob =>
    have z := kin a ob e
    rw [hobj] at z
    cases z
    refine law_goT (vs := vs) kin G.T.g G.T.b G.T.builtins G.T.nolimit hg hT nT hC G.T.bmain (scrT Pt fun _ => none) (if_pos rfl) (fun b => ?_) (fun b u z => ?_) (fun b nb z => absurd (if_neg nb) z) hr f1 b1 ?_ fun _ _ z => z
    · by_cases hb : b = Pt
      · exact .inl hb
      · exact .inr (.inl (if_neg hb))
    · unfold scrT at z
      split at z
      · rename_i hb
        cases z
        rw [hb]
        exact hT
      · cases z
    · refine hsp _ _ a Pt qL ns hlen (if_pos rfl) (.inr ⟨_, vs.toArray, _, e, rfl, rfl, rfl, ?_, by simpa using rv⟩)
      rw [List.size_toArray, lv]
      exact Nat.le_trans hlen hn
  | none =>
    have at_ : ∀ b u, scr a { cls := .type "list", data := .seq vs.toArray } ns b = some u → b = a ∧ u = .frz { cls := .type "list", data := .seq vs.toArray } (.lst (ns.map V.int)) := fun b u z => by
      unfold scr at z
      split at z
      · rename_i hb
        exact ⟨hb, (Option.some.inj z).symm⟩
      · cases z
    refine law_goT (vs := vs) kin G.T.g G.T.b G.T.builtins G.T.nolimit hg hT nT hC G.T.bmain (scrT Pt (scr a { cls := .type "list", data := .seq vs.toArray } ns)) (if_pos rfl) (fun b => ?_) (fun b u z => ?_) (fun b nb z => ?_) hr f1 b1 ?_ fun _ _ z => z
    · by_cases hb : b = Pt
      · exact .inl hb
      · refine .inr ?_
        rw [show scrT Pt (scr a { cls := .type "list", data := .seq vs.toArray } ns) b = scr a { cls := .type "list", data := .seq vs.toArray } ns b from if_neg hb]
        cases z : scr a { cls := .type "list", data := .seq vs.toArray } ns b with
        | none => exact .inl rfl
        | some u => exact .inr ⟨_, _, by rw [(at_ b u z).2]⟩
    · unfold scrT at z
      split at z
      · rename_i hb
        cases z
        rw [hb]
        exact hT
      · obtain ⟨rfl, rfl⟩ := at_ b u z
        exact ⟨hobj, by rw [List.length_map]; exact Nat.le_trans hlen hn, vs, _, rv, hobj⟩
    · rw [show scrT Pt (scr a { cls := .type "list", data := .seq vs.toArray } ns) b = scr a { cls := .type "list", data := .seq vs.toArray } ns b from if_neg nb] at z
      cases y : scr a { cls := .type "list", data := .seq vs.toArray } ns b with
      | none => exact absurd y z
      | some u =>
        obtain ⟨rfl, _⟩ := at_ b u y
        exact ⟨hobj, e⟩
    · refine hsp _ _ a Pt qL ns hlen (if_pos rfl) (.inl (.inr ⟨_, (if_neg aP).trans (if_pos rfl)⟩))
end HX

set_option Elab.async false
set_option linter.all false
set_option maxRecDepth 100000
set_option maxHeartbeats 40000000
namespace LW
open PySem PySem.Spec PyProof.Rows L2 HX
theorem dn_add : PySem.dunder (Operator.info .Add).2 = "__add__" := by first | rfl | decide +kernel
theorem dr_add : PySem.dunderR (Operator.info .Add).2 = "__radd__" := by first | rfl | decide +kernel
theorem di_add : PySem.dunderI (Operator.info .Add).2 = "__iadd__" := by first | rfl | decide +kernel
theorem dn_sub : PySem.dunder (Operator.info .Sub).2 = "__sub__" := by first | rfl | decide +kernel
theorem dr_sub : PySem.dunderR (Operator.info .Sub).2 = "__rsub__" := by first | rfl | decide +kernel
theorem di_sub : PySem.dunderI (Operator.info .Sub).2 = "__isub__" := by first | rfl | decide +kernel
theorem dn_mul : PySem.dunder (Operator.info .Mult).2 = "__mul__" := by first | rfl | decide +kernel
theorem dr_mul : PySem.dunderR (Operator.info .Mult).2 = "__rmul__" := by first | rfl | decide +kernel
theorem di_mul : PySem.dunderI (Operator.info .Mult).2 = "__imul__" := by first | rfl | decide +kernel
theorem dn_floordiv : PySem.dunder (Operator.info .FloorDiv).2 = "__floordiv__" := by first | rfl | decide +kernel
theorem dr_floordiv : PySem.dunderR (Operator.info .FloorDiv).2 = "__rfloordiv__" := by first | rfl | decide +kernel
theorem di_floordiv : PySem.dunderI (Operator.info .FloorDiv).2 = "__ifloordiv__" := by first | rfl | decide +kernel
theorem dn_mod : PySem.dunder (Operator.info .Mod).2 = "__mod__" := by first | rfl | decide +kernel
theorem dr_mod : PySem.dunderR (Operator.info .Mod).2 = "__rmod__" := by first | rfl | decide +kernel
theorem di_mod : PySem.dunderI (Operator.info .Mod).2 = "__imod__" := by first | rfl | decide +kernel
theorem exm_mk {K : PySem.W.Frag} {C S : Addr} (h1 : PySem.W.subIn K (.ref S) (.type "BaseException") = some true) (h2 : PySem.W.isClsIn K S = true) (h3 : PySem.W.typeIn K (.ref S) = some (.type "type")) (h4 : PySem.W.subIn K (.ref C) (.ref S) = some true) :
    PySem.W.exmOne K (.ref C) (.ref S) = some true := by
  have e1 : (PySem.W.subIn K (.ref S) (.type "BaseException") == some true) = true := by rw [h1] <;> rfl
  have e2 : ((PySem.W.clsIn K S).isSome && PySem.W.typeIn K (.ref S) == some (.type "type")) = true := by
    have h2' : (PySem.W.clsIn K S).isSome = true := h2
    rw [h2', h3] <;> rfl
  unfold PySem.W.exmOne
  rw [if_pos e1]
  show (if ((PySem.W.clsIn K S).isSome && PySem.W.typeIn K (.ref S) == some (.type "type")) = true then PySem.W.subIn K (.ref C) (.ref S) else none) = some true
  rw [if_pos e2, h4]
theorem kb_1 {K : PySem.W.Frag} {f : Addr} {fd : FuncData} {x q p : Str} {st : Stmt} (F : Fun K x q st f fd) (hb : ∀ (kV doc pm : Value) (an : Option Addr) (cdv ct : Value) (s : Shared) (u : Value), BindsTo s (PySem.W.fnOf x q (defArgs st) (defBody st) (defScope st) .none kV doc pm an cdv ct) ⟨[], [(p, u)]⟩ [(p, u)]) : KBn K fd [p] 0 [p] (fun us ws => us ++ ws) (fun vs zs => vs ++ zs) := by
  obtain ⟨oc, od, kV, doc, pm, an, cdv, ct, osl, rfl, lk, hcd⟩ := F.ex
  exact ⟨fun s us ws _ l1 l2 => match us, ws, l1, l2 with | [], [u], _, _ => hb kV doc pm an cdv ct s u, fun r1 r2 => r1.append r2⟩
theorem all_mk {l : PySem.W.OpenLaw} {w : World} {K : PySem.W.Frag} {h : Heap} {mg : Str → Option Value} {fa : Addr} (X : K.In h) (G : h.Ns mainGlobals mg) (hfa : mg "law" = some (.ref fa))
    {A : Addr}
    {S : Addr}
    {BI : Addr}
    {RF : Addr}
    {NA : Addr}
    {BG : Addr}
    {BT : Addr}
    {C : Addr}
    {nm_C q_C : Str} {N_C : Addr} {bs_C : List Value} {sn_C : List Str} {sub_C : List Value} {ab_C : Bool} {col_C : Option Bool} {dd_C : Option Addr} {m0_C m1_C m2_C m3_C m5_C : Option Value}
    {f_IC : Addr} {od_IC an_IC : Option Addr} {sl_IC : Array (Option Value)} {oc_IC kV_IC dc_IC pm_IC cd_IC ct_IC : Value}
    {N : Addr}
    {nm_N q_N : Str} {N_N : Addr} {bs_N : List Value} {sn_N : List Str} {sub_N : List Value} {ab_N : Bool} {col_N : Option Bool} {dd_N : Option Addr} {m0_N m1_N m2_N m3_N m5_N : Option Value}
    {fI T : Addr} {odI anI odT : Option Addr} {slI slT : Array (Option Value)} {ocI kVI dcI pmI cdI ctI ocT : Value} {tkT : Tok} {zT : Nat}
    {f_of : Addr} {od_of an_of : Option Addr} {sl_of : Array (Option Value)} {oc_of kV_of dc_of pm_of cd_of ct_of : Value}
    {p_of : Addr} {rest_of : List Value}
    {f_num : Addr} {od_num an_num : Option Addr} {sl_num : Array (Option Value)} {oc_num kV_num dc_num pm_num cd_num ct_num : Value}
    {p_num : Addr} {rest_num : List Value}
    {f_over : Addr} {od_over an_over : Option Addr} {sl_over : Array (Option Value)} {oc_over kV_over dc_over pm_over cd_over ct_over : Value}
    {f_add : Addr} {od_add an_add : Option Addr} {sl_add : Array (Option Value)} {oc_add kV_add dc_add pm_add cd_add ct_add : Value}
    {f_radd : Addr} {od_radd an_radd : Option Addr} {sl_radd : Array (Option Value)} {oc_radd kV_radd dc_radd pm_radd cd_radd ct_radd : Value}
    {f_sub : Addr} {od_sub an_sub : Option Addr} {sl_sub : Array (Option Value)} {oc_sub kV_sub dc_sub pm_sub cd_sub ct_sub : Value}
    {f_rsub : Addr} {od_rsub an_rsub : Option Addr} {sl_rsub : Array (Option Value)} {oc_rsub kV_rsub dc_rsub pm_rsub cd_rsub ct_rsub : Value}
    {f_mul : Addr} {od_mul an_mul : Option Addr} {sl_mul : Array (Option Value)} {oc_mul kV_mul dc_mul pm_mul cd_mul ct_mul : Value}
    {f_rmul : Addr} {od_rmul an_rmul : Option Addr} {sl_rmul : Array (Option Value)} {oc_rmul kV_rmul dc_rmul pm_rmul cd_rmul ct_rmul : Value}
    {f_flo : Addr} {od_flo an_flo : Option Addr} {sl_flo : Array (Option Value)} {oc_flo kV_flo dc_flo pm_flo cd_flo ct_flo : Value}
    {f_rflo : Addr} {od_rflo an_rflo : Option Addr} {sl_rflo : Array (Option Value)} {oc_rflo kV_rflo dc_rflo pm_rflo cd_rflo ct_rflo : Value}
    {f_iflo : Addr} {od_iflo an_iflo : Option Addr} {sl_iflo : Array (Option Value)} {oc_iflo kV_iflo dc_iflo pm_iflo cd_iflo ct_iflo : Value}
    {f_mod : Addr} {od_mod an_mod : Option Addr} {sl_mod : Array (Option Value)} {oc_mod kV_mod dc_mod pm_mod cd_mod ct_mod : Value}
    {f_rmod : Addr} {od_rmod an_rmod : Option Addr} {sl_rmod : Array (Option Value)} {oc_rmod kV_rmod dc_rmod pm_rmod cd_rmod ct_rmod : Value}
    {f_neg : Addr} {od_neg an_neg : Option Addr} {sl_neg : Array (Option Value)} {oc_neg kV_neg dc_neg pm_neg cd_neg ct_neg : Value}
    {f_isint : Addr} {od_isint an_isint : Option Addr} {sl_isint : Array (Option Value)} {oc_isint kV_isint dc_isint pm_isint cd_isint ct_isint : Value}
    {f_pen : Addr} {od_pen an_pen : Option Addr} {sl_pen : Array (Option Value)} {oc_pen kV_pen dc_pen pm_pen cd_pen ct_pen : Value}
    {f_draw : Addr} {od_draw an_draw : Option Addr} {sl_draw : Array (Option Value)} {oc_draw kV_draw dc_draw pm_draw cd_draw ct_draw : Value}
    {f_pick : Addr} {od_pick an_pick : Option Addr} {sl_pick : Array (Option Value)} {oc_pick kV_pick dc_pick pm_pick cd_pick ct_pick : Value}
    {f_heard : Addr} {od_heard an_heard : Option Addr} {sl_heard : Array (Option Value)} {oc_heard kV_heard dc_heard pm_heard cd_heard ct_heard : Value}
    {f_same : Addr} {od_same an_same : Option Addr} {sl_same : Array (Option Value)} {oc_same kV_same dc_same pm_same cd_same ct_same : Value}
    {f_inp : Addr} {od_inp an_inp : Option Addr} {sl_inp : Array (Option Value)} {oc_inp kV_inp dc_inp pm_inp cd_inp ct_inp : Value}
    {f_law c_law : Addr} {od_law an_law od_c : Option Addr} {sl_law sl_c : Array (Option Value)} {oc_law kV_law dc_law pm_law ct_law oc_c : Value} {vs_c : Array Value} {Pt : Addr}
    (n_int : PySem.W.nsIn K mainGlobals "int" = some none)
    (n_len : PySem.W.nsIn K mainGlobals "len" = some none)
    (n_abs : PySem.W.nsIn K mainGlobals "abs" = some none)
    (n_list : PySem.W.nsIn K mainGlobals "list" = some none)
    (n_range : PySem.W.nsIn K mainGlobals "range" = some none)
    (n_isinstance : PySem.W.nsIn K mainGlobals "isinstance" = some none)
    (n_repr : PySem.W.nsIn K mainGlobals "repr" = some none)
    (n_bool : PySem.W.nsIn K mainGlobals "bool" = some none)
    (n_ValueError : PySem.W.nsIn K mainGlobals "ValueError" = some none)
    (a_A : PySem.W.nsIn K mainGlobals "Amount" = some (some (.ref A)))
    (hgcd : PySem.W.nsIn K mainGlobals "gcd" = some (some (.builtin "math.gcd")))
    (pg : PySem.W.plainGet K A Str.empty = true)
    (hd : PySem.W.hasDictIn K A = true)
    (po : PySem.W.plainOver K A = true)
    (sa : PySem.W.findIn K (.ref A) "__setattr__" = some (some (.builtin "object.__setattr__")))
    (mk : PySem.W.makesIn K A = true)
    (kA : PySem.W.keepIn K (.ref A) = true)
    (nT : PySem.W.findIn K (.ref A) "top" = some none)
    (nB : PySem.W.findIn K (.ref A) "bottom" = some none)
    (ha : PySem.W.findIn K (.ref A) "__class__" = some (some (.builtin "object.__class__")))
    (hn : PySem.W.specialIn K (.builtin "object.__class__") "__get__" = some (some (.builtin "getset_descriptor.__get__")))
    (ht : PySem.W.takesIn K (.builtin "object.__class__") = some true)
    (hm : PySem.W.mroIn K A (.type "object") = some true)
    (first : PySem.W.selfFirst K A = true)
    (sub : PySem.W.subIn K (.ref A) (.type "int") = some false)
    (rd : PySem.W.readsIn K A (.type "type") = true)
    (gat : PySem.W.specialIn K (.ref A) "__getattribute__" = some (some (.builtin "type.__getattribute__")))
    (tI : PySem.W.kitOne K (.ref A) (.type "int") = some false)
    (tA : PySem.W.kitOne K (.type "int") (.ref A) = some false)
    (a_S : PySem.W.nsIn K mainGlobals "ShiftError" = some (some (.ref S)))
    (iS : PySem.W.isClsIn K S = true)
    (tS : PySem.W.typeIn K (.ref S) = some (.type "type"))
    (bS : PySem.W.subIn K (.ref S) (.type "BaseException") = some true)
    (a_BI : PySem.W.nsIn K mainGlobals "BadInput" = some (some (.ref BI)))
    (a_RF : PySem.W.nsIn K mainGlobals "Refused" = some (some (.ref RF)))
    (a_NA : PySem.W.nsIn K mainGlobals "NoAnswer" = some (some (.ref NA)))
    (a_BG : PySem.W.nsIn K mainGlobals "BadGaps" = some (some (.ref BG)))
    (a_BT : PySem.W.nsIn K mainGlobals "BadText" = some (some (.ref BT)))
    (a_C : PySem.W.nsIn K mainGlobals "BadAmount" = some (some (.ref C)))
    (xL_C : K.lookup C = some (excClassObj nm_C q_C C N_C bs_C [.ref BI, .ref S, .type "ValueError", .type "Exception", .type "BaseException", .type "object"] true sn_C sub_C ab_C col_C dd_C m0_C m1_C m2_C m3_C m5_C "ValueError.__new__"))
    (sa_C : PySem.W.findIn K (.ref C) "__setattr__" = some (some (.builtin "object.__setattr__")))
    (eC_C : PySem.W.subIn K (.ref C) (.type "BaseException") = some true)
    (tC_C : PySem.W.typeIn K (.ref C) = some (.type "type"))
    (kC_C : PySem.W.keepIn K (.ref C) = true)
    (ga_C : PySem.W.findIn K (.ref C) "__getattribute__" = some (some (.builtin "BaseException.__getattribute__")))
    (gg_C : PySem.W.findIn K (.ref C) "__getattr__" = some none)
    (hd_C : PySem.W.hasDictIn K C = true)
    (ha_C : PySem.W.findIn K (.ref C) "__class__" = some (some (.builtin "object.__class__")))
    (hn_C : PySem.W.specialIn K (.builtin "object.__class__") "__get__" = some (some (.builtin "getset_descriptor.__get__")))
    (ht_C : PySem.W.takesIn K (.builtin "object.__class__") = some true)
    (hm_C : PySem.W.mroIn K C (.type "object") = some true)
    (no_C_value : PySem.W.findIn K (.ref C) "value" = some none)
    (a_IC : PySem.W.findIn K (.ref C) "__init__" = some (some (.ref f_IC)))
    (t_IC : PySem.W.typeIn K (.ref f_IC) = some (.type "function"))
    (l_IC : K.lookup f_IC = some ⟨oc_IC, od_IC, .func (PySem.W.fnOf "__init__" "BadAmount.__init__" (defArgs s_BadAmount_init) (defBody s_BadAmount_init) (defScope s_BadAmount_init) .none kV_IC dc_IC pm_IC an_IC cd_IC ct_IC), sl_IC⟩)
    (c_IC : PySem.W.codeIn K cd_IC "BadAmount.__init__" = true)
    (k_IC : PySem.W.keepIn K (.ref f_IC) = true)
    (a_N : PySem.W.nsIn K mainGlobals "NoDivisor" = some (some (.ref N)))
    (xL_N : K.lookup N = some (excClassObj nm_N q_N N N_N bs_N [.ref NA, .ref S, .type "ValueError", .type "Exception", .type "BaseException", .type "object"] true sn_N sub_N ab_N col_N dd_N m0_N m1_N m2_N m3_N m5_N "ValueError.__new__"))
    (sa_N : PySem.W.findIn K (.ref N) "__setattr__" = some (some (.builtin "object.__setattr__")))
    (eC_N : PySem.W.subIn K (.ref N) (.type "BaseException") = some true)
    (tC_N : PySem.W.typeIn K (.ref N) = some (.type "type"))
    (kC_N : PySem.W.keepIn K (.ref N) = true)
    (ga_N : PySem.W.findIn K (.ref N) "__getattribute__" = some (some (.builtin "BaseException.__getattribute__")))
    (gg_N : PySem.W.findIn K (.ref N) "__getattr__" = some none)
    (hd_N : PySem.W.hasDictIn K N = true)
    (ha_N : PySem.W.findIn K (.ref N) "__class__" = some (some (.builtin "object.__class__")))
    (hn_N : PySem.W.specialIn K (.builtin "object.__class__") "__get__" = some (some (.builtin "getset_descriptor.__get__")))
    (ht_N : PySem.W.takesIn K (.builtin "object.__class__") = some true)
    (hm_N : PySem.W.mroIn K N (.type "object") = some true)
    (qN : PySem.W.excIn K N [.type "ValueError", .type "Exception", .type "BaseException", .type "object"] "ValueError.__new__" = true)
    (sCS : PySem.W.subIn K (.ref C) (.ref S) = some true)
    (sNS : PySem.W.subIn K (.ref N) (.ref S) = some true)
    (q_vC : PySem.W.kitOne K (.ref C) (.type "ValueError") = some true)
    (q_vN : PySem.W.kitOne K (.ref N) (.type "ValueError") = some true)
    (q_oC : PySem.W.kitAny K (.ref C) [.ref BG, .ref BT, .ref RF] = some false)
    (q_oN : PySem.W.kitAny K (.ref N) [.ref BG, .ref BT, .ref RF] = some false)
    (q_cN_ : PySem.W.kitOne K (.ref N) (.ref C) = some false)
    (q_iC : PySem.W.kitOne K (.ref C) (.ref BI) = some true)
    (q_iN : PySem.W.kitOne K (.ref N) (.ref BI) = some false)
    (q_aC : PySem.W.kitAny K (.ref C) [.ref NA, .ref N] = some false)
    (q_aN : PySem.W.kitOne K (.ref N) (.ref NA) = some true)
    (far_non : PySem.W.kitOne K (.type "NoneType") (.ref A) = some false)
    (far_bl : PySem.W.kitOne K (.type "bool") (.ref A) = some false)
    (far_str : PySem.W.kitOne K (.type "str") (.ref A) = some false)
    (far_lst : PySem.W.kitOne K (.type "list") (.ref A) = some false)
    (far_tup : PySem.W.kitOne K (.type "tuple") (.ref A) = some false)
    (far_dic : PySem.W.kitOne K (.type "dict") (.ref A) = some false)
    (aI : PySem.W.findIn K (.ref A) "__init__" = some (some (.ref fI)))
    (iI : PySem.W.isFn K (.ref fI) = true)
    (lI : K.lookup fI = some ⟨ocI, odI, .func (PySem.W.fnOf "__init__" "Amount.__init__" (defArgs s_Amount_init) (defBody s_Amount_init) (defScope s_Amount_init) (.ref T) kVI dcI pmI anI cdI ctI), slI⟩)
    (cI_ : PySem.W.codeIn K cdI "Amount.__init__" = true)
    (kpI : PySem.W.keepIn K (.ref fI) = true)
    (lT : K.lookup T = some ⟨ocT, odT, .seq #[.int 1 tkT] zT, slT⟩)
    (a_of : PySem.W.findCls K (.ref A) (.type "type") "of" = some (.get (.builtin "staticmethod.__get__") (.ref p_of) .none (.ref A)))
    (r_of : PySem.W.recIn K p_of "staticmethod" = some (.ref f_of :: rest_of))
    (i_of : PySem.W.isFn K (.ref f_of) = true)
    (l_of : K.lookup f_of = some ⟨oc_of, od_of, .func (PySem.W.fnOf "of" "Amount.of" (defArgs s_Amount_of) (defBody s_Amount_of) (defScope s_Amount_of) .none kV_of dc_of pm_of an_of cd_of ct_of), sl_of⟩)
    (c_of : PySem.W.codeIn K cd_of "Amount.of" = true)
    (k_of : PySem.W.keepIn K (.ref f_of) = true)
    (a_num : PySem.W.findCls K (.ref A) (.type "type") "is_number" = some (.get (.builtin "staticmethod.__get__") (.ref p_num) .none (.ref A)))
    (r_num : PySem.W.recIn K p_num "staticmethod" = some (.ref f_num :: rest_num))
    (i_num : PySem.W.isFn K (.ref f_num) = true)
    (l_num : K.lookup f_num = some ⟨oc_num, od_num, .func (PySem.W.fnOf "is_number" "Amount.is_number" (defArgs s_Amount_is_number) (defBody s_Amount_is_number) (defScope s_Amount_is_number) .none kV_num dc_num pm_num an_num cd_num ct_num), sl_num⟩)
    (c_num : PySem.W.codeIn K cd_num "Amount.is_number" = true)
    (k_num : PySem.W.keepIn K (.ref f_num) = true)
    (a_over : PySem.W.findIn K (.ref A) "over" = some (some (.ref f_over)))
    (i_over : PySem.W.isFn K (.ref f_over) = true)
    (l_over : K.lookup f_over = some ⟨oc_over, od_over, .func (PySem.W.fnOf "over" "Amount.over" (defArgs s_Amount_over) (defBody s_Amount_over) (defScope s_Amount_over) .none kV_over dc_over pm_over an_over cd_over ct_over), sl_over⟩)
    (c_over : PySem.W.codeIn K cd_over "Amount.over" = true)
    (k_over : PySem.W.keepIn K (.ref f_over) = true)
    (a_add : PySem.W.findIn K (.ref A) "__add__" = some (some (.ref f_add)))
    (i_add : PySem.W.isFn K (.ref f_add) = true)
    (l_add : K.lookup f_add = some ⟨oc_add, od_add, .func (PySem.W.fnOf "__add__" "Amount.__add__" (defArgs s_Amount_add) (defBody s_Amount_add) (defScope s_Amount_add) .none kV_add dc_add pm_add an_add cd_add ct_add), sl_add⟩)
    (c_add : PySem.W.codeIn K cd_add "Amount.__add__" = true)
    (k_add : PySem.W.keepIn K (.ref f_add) = true)
    (a_radd : PySem.W.findIn K (.ref A) "__radd__" = some (some (.ref f_radd)))
    (i_radd : PySem.W.isFn K (.ref f_radd) = true)
    (l_radd : K.lookup f_radd = some ⟨oc_radd, od_radd, .func (PySem.W.fnOf "__radd__" "Amount.__radd__" (defArgs s_Amount_radd) (defBody s_Amount_radd) (defScope s_Amount_radd) .none kV_radd dc_radd pm_radd an_radd cd_radd ct_radd), sl_radd⟩)
    (c_radd : PySem.W.codeIn K cd_radd "Amount.__radd__" = true)
    (k_radd : PySem.W.keepIn K (.ref f_radd) = true)
    (a_sub : PySem.W.findIn K (.ref A) "__sub__" = some (some (.ref f_sub)))
    (i_sub : PySem.W.isFn K (.ref f_sub) = true)
    (l_sub : K.lookup f_sub = some ⟨oc_sub, od_sub, .func (PySem.W.fnOf "__sub__" "Amount.__sub__" (defArgs s_Amount_sub) (defBody s_Amount_sub) (defScope s_Amount_sub) .none kV_sub dc_sub pm_sub an_sub cd_sub ct_sub), sl_sub⟩)
    (c_sub : PySem.W.codeIn K cd_sub "Amount.__sub__" = true)
    (k_sub : PySem.W.keepIn K (.ref f_sub) = true)
    (a_rsub : PySem.W.findIn K (.ref A) "__rsub__" = some (some (.ref f_rsub)))
    (i_rsub : PySem.W.isFn K (.ref f_rsub) = true)
    (l_rsub : K.lookup f_rsub = some ⟨oc_rsub, od_rsub, .func (PySem.W.fnOf "__rsub__" "Amount.__rsub__" (defArgs s_Amount_rsub) (defBody s_Amount_rsub) (defScope s_Amount_rsub) .none kV_rsub dc_rsub pm_rsub an_rsub cd_rsub ct_rsub), sl_rsub⟩)
    (c_rsub : PySem.W.codeIn K cd_rsub "Amount.__rsub__" = true)
    (k_rsub : PySem.W.keepIn K (.ref f_rsub) = true)
    (a_mul : PySem.W.findIn K (.ref A) "__mul__" = some (some (.ref f_mul)))
    (i_mul : PySem.W.isFn K (.ref f_mul) = true)
    (l_mul : K.lookup f_mul = some ⟨oc_mul, od_mul, .func (PySem.W.fnOf "__mul__" "Amount.__mul__" (defArgs s_Amount_mul) (defBody s_Amount_mul) (defScope s_Amount_mul) .none kV_mul dc_mul pm_mul an_mul cd_mul ct_mul), sl_mul⟩)
    (c_mul : PySem.W.codeIn K cd_mul "Amount.__mul__" = true)
    (k_mul : PySem.W.keepIn K (.ref f_mul) = true)
    (a_rmul : PySem.W.findIn K (.ref A) "__rmul__" = some (some (.ref f_rmul)))
    (i_rmul : PySem.W.isFn K (.ref f_rmul) = true)
    (l_rmul : K.lookup f_rmul = some ⟨oc_rmul, od_rmul, .func (PySem.W.fnOf "__rmul__" "Amount.__rmul__" (defArgs s_Amount_rmul) (defBody s_Amount_rmul) (defScope s_Amount_rmul) .none kV_rmul dc_rmul pm_rmul an_rmul cd_rmul ct_rmul), sl_rmul⟩)
    (c_rmul : PySem.W.codeIn K cd_rmul "Amount.__rmul__" = true)
    (k_rmul : PySem.W.keepIn K (.ref f_rmul) = true)
    (a_flo : PySem.W.findIn K (.ref A) "__floordiv__" = some (some (.ref f_flo)))
    (i_flo : PySem.W.isFn K (.ref f_flo) = true)
    (l_flo : K.lookup f_flo = some ⟨oc_flo, od_flo, .func (PySem.W.fnOf "__floordiv__" "Amount.__floordiv__" (defArgs s_Amount_floordiv) (defBody s_Amount_floordiv) (defScope s_Amount_floordiv) .none kV_flo dc_flo pm_flo an_flo cd_flo ct_flo), sl_flo⟩)
    (c_flo : PySem.W.codeIn K cd_flo "Amount.__floordiv__" = true)
    (k_flo : PySem.W.keepIn K (.ref f_flo) = true)
    (a_rflo : PySem.W.findIn K (.ref A) "__rfloordiv__" = some (some (.ref f_rflo)))
    (i_rflo : PySem.W.isFn K (.ref f_rflo) = true)
    (l_rflo : K.lookup f_rflo = some ⟨oc_rflo, od_rflo, .func (PySem.W.fnOf "__rfloordiv__" "Amount.__rfloordiv__" (defArgs s_Amount_rfloordiv) (defBody s_Amount_rfloordiv) (defScope s_Amount_rfloordiv) .none kV_rflo dc_rflo pm_rflo an_rflo cd_rflo ct_rflo), sl_rflo⟩)
    (c_rflo : PySem.W.codeIn K cd_rflo "Amount.__rfloordiv__" = true)
    (k_rflo : PySem.W.keepIn K (.ref f_rflo) = true)
    (a_iflo : PySem.W.findIn K (.ref A) "__ifloordiv__" = some (some (.ref f_iflo)))
    (i_iflo : PySem.W.isFn K (.ref f_iflo) = true)
    (l_iflo : K.lookup f_iflo = some ⟨oc_iflo, od_iflo, .func (PySem.W.fnOf "__ifloordiv__" "Amount.__ifloordiv__" (defArgs s_Amount_ifloordiv) (defBody s_Amount_ifloordiv) (defScope s_Amount_ifloordiv) .none kV_iflo dc_iflo pm_iflo an_iflo cd_iflo ct_iflo), sl_iflo⟩)
    (c_iflo : PySem.W.codeIn K cd_iflo "Amount.__ifloordiv__" = true)
    (k_iflo : PySem.W.keepIn K (.ref f_iflo) = true)
    (a_mod : PySem.W.findIn K (.ref A) "__mod__" = some (some (.ref f_mod)))
    (i_mod : PySem.W.isFn K (.ref f_mod) = true)
    (l_mod : K.lookup f_mod = some ⟨oc_mod, od_mod, .func (PySem.W.fnOf "__mod__" "Amount.__mod__" (defArgs s_Amount_mod) (defBody s_Amount_mod) (defScope s_Amount_mod) .none kV_mod dc_mod pm_mod an_mod cd_mod ct_mod), sl_mod⟩)
    (c_mod : PySem.W.codeIn K cd_mod "Amount.__mod__" = true)
    (k_mod : PySem.W.keepIn K (.ref f_mod) = true)
    (a_rmod : PySem.W.findIn K (.ref A) "__rmod__" = some (some (.ref f_rmod)))
    (i_rmod : PySem.W.isFn K (.ref f_rmod) = true)
    (l_rmod : K.lookup f_rmod = some ⟨oc_rmod, od_rmod, .func (PySem.W.fnOf "__rmod__" "Amount.__rmod__" (defArgs s_Amount_rmod) (defBody s_Amount_rmod) (defScope s_Amount_rmod) .none kV_rmod dc_rmod pm_rmod an_rmod cd_rmod ct_rmod), sl_rmod⟩)
    (c_rmod : PySem.W.codeIn K cd_rmod "Amount.__rmod__" = true)
    (k_rmod : PySem.W.keepIn K (.ref f_rmod) = true)
    (a_neg : PySem.W.findIn K (.ref A) "__neg__" = some (some (.ref f_neg)))
    (i_neg : PySem.W.isFn K (.ref f_neg) = true)
    (l_neg : K.lookup f_neg = some ⟨oc_neg, od_neg, .func (PySem.W.fnOf "__neg__" "Amount.__neg__" (defArgs s_Amount_neg) (defBody s_Amount_neg) (defScope s_Amount_neg) .none kV_neg dc_neg pm_neg an_neg cd_neg ct_neg), sl_neg⟩)
    (c_neg : PySem.W.codeIn K cd_neg "Amount.__neg__" = true)
    (k_neg : PySem.W.keepIn K (.ref f_neg) = true)
    (a_isint : PySem.W.nsIn K mainGlobals "is_int" = some (some (.ref f_isint)))
    (l_isint : K.lookup f_isint = some ⟨oc_isint, od_isint, .func (PySem.W.fnOf "is_int" "is_int" (defArgs s_is_int) (defBody s_is_int) (defScope s_is_int) .none kV_isint dc_isint pm_isint an_isint cd_isint ct_isint), sl_isint⟩)
    (c_isint : PySem.W.codeIn K cd_isint "is_int" = true)
    (k_isint : PySem.W.keepIn K (.ref f_isint) = true)
    (a_pen : PySem.W.nsIn K mainGlobals "_law_pen" = some (some (.ref f_pen)))
    (l_pen : K.lookup f_pen = some ⟨oc_pen, od_pen, .func (PySem.W.fnOf "_law_pen" "_law_pen" (defArgs s__law_pen) (defBody s__law_pen) (defScope s__law_pen) .none kV_pen dc_pen pm_pen an_pen cd_pen ct_pen), sl_pen⟩)
    (c_pen : PySem.W.codeIn K cd_pen "_law_pen" = true)
    (k_pen : PySem.W.keepIn K (.ref f_pen) = true)
    (a_draw : PySem.W.nsIn K mainGlobals "_law_draw" = some (some (.ref f_draw)))
    (l_draw : K.lookup f_draw = some ⟨oc_draw, od_draw, .func (PySem.W.fnOf "_law_draw" "_law_draw" (defArgs s__law_draw) (defBody s__law_draw) (defScope s__law_draw) .none kV_draw dc_draw pm_draw an_draw cd_draw ct_draw), sl_draw⟩)
    (c_draw : PySem.W.codeIn K cd_draw "_law_draw" = true)
    (k_draw : PySem.W.keepIn K (.ref f_draw) = true)
    (a_pick : PySem.W.nsIn K mainGlobals "_law_pick" = some (some (.ref f_pick)))
    (l_pick : K.lookup f_pick = some ⟨oc_pick, od_pick, .func (PySem.W.fnOf "_law_pick" "_law_pick" (defArgs s__law_pick) (defBody s__law_pick) (defScope s__law_pick) .none kV_pick dc_pick pm_pick an_pick cd_pick ct_pick), sl_pick⟩)
    (c_pick : PySem.W.codeIn K cd_pick "_law_pick" = true)
    (k_pick : PySem.W.keepIn K (.ref f_pick) = true)
    (a_heard : PySem.W.nsIn K mainGlobals "_law_heard" = some (some (.ref f_heard)))
    (l_heard : K.lookup f_heard = some ⟨oc_heard, od_heard, .func (PySem.W.fnOf "_law_heard" "_law_heard" (defArgs s__law_heard) (defBody s__law_heard) (defScope s__law_heard) .none kV_heard dc_heard pm_heard an_heard cd_heard ct_heard), sl_heard⟩)
    (c_heard : PySem.W.codeIn K cd_heard "_law_heard" = true)
    (k_heard : PySem.W.keepIn K (.ref f_heard) = true)
    (a_same : PySem.W.nsIn K mainGlobals "_law_same" = some (some (.ref f_same)))
    (l_same : K.lookup f_same = some ⟨oc_same, od_same, .func (PySem.W.fnOf "_law_same" "_law_same" (defArgs s__law_same) (defBody s__law_same) (defScope s__law_same) .none kV_same dc_same pm_same an_same cd_same ct_same), sl_same⟩)
    (c_same : PySem.W.codeIn K cd_same "_law_same" = true)
    (k_same : PySem.W.keepIn K (.ref f_same) = true)
    (a_inp : PySem.W.nsIn K mainGlobals "_law_in_place" = some (some (.ref f_inp)))
    (l_inp : K.lookup f_inp = some ⟨oc_inp, od_inp, .func (PySem.W.fnOf "_law_in_place" "_law_in_place" (defArgs s__law_in_place) (defBody s__law_in_place) (defScope s__law_in_place) .none kV_inp dc_inp pm_inp an_inp cd_inp ct_inp), sl_inp⟩)
    (c_inp : PySem.W.codeIn K cd_inp "_law_in_place" = true)
    (k_inp : PySem.W.keepIn K (.ref f_inp) = true)
    (a_law : PySem.W.nsIn K mainGlobals "law" = some (some (.ref f_law)))
    (l_law : K.lookup f_law = some ⟨oc_law, od_law, .func (PySem.W.fnOf "law" "law" (defArgs s_law) (defBody s_law) (defScope s_law) .none kV_law dc_law pm_law an_law (.ref c_law) ct_law), sl_law⟩)
    (c_law_ : PySem.W.codeIn K (.ref c_law) "law" = true)
    (l_c : K.lookup c_law = some ⟨oc_c, od_c, .fields vs_c, sl_c⟩)
    (h11 : vs_c[11]? = some (.ref Pt))
    (nPt : K.lookup Pt = none)
    (hC : PySem.W.codeHdIn K c_law Pt = true) :
    ∃ (fd : FuncData) (c Pt : Addr) (qL : Str), PySem.W.tabIn K "law" = some (c, Pt) ∧ K.lookup Pt = none ∧ PySem.W.codeHdIn K c Pt = true ∧ (∀ (s : Shared) (v : Value), BindsTo s fd ⟨[v], []⟩ [("_law_script", v)]) ∧ ∀ base : Heap, K.In base → base.Ns mainGlobals mg → LamX.TabB base mg c Pt → FnG l.prog w K mg base CX0 16 fa fd ["_law_script"] (spLaw K [(Pt, qL)]) := by
  have e := hfa.symm.trans (PySem.W.mg_of X G a_law)
  cases e
  have mn_int := PySem.W.mg_none_of X G n_int
  have mn_len := PySem.W.mg_none_of X G n_len
  have mn_abs := PySem.W.mg_none_of X G n_abs
  have mn_list := PySem.W.mg_none_of X G n_list
  have mn_range := PySem.W.mg_none_of X G n_range
  have mn_isinstance := PySem.W.mg_none_of X G n_isinstance
  have mn_repr := PySem.W.mg_none_of X G n_repr
  have mn_bool := PySem.W.mg_none_of X G n_bool
  have mn_ValueError := PySem.W.mg_none_of X G n_ValueError
  have m_A := PySem.W.mg_of X G a_A
  have m_S := PySem.W.mg_of X G a_S
  have m_BI := PySem.W.mg_of X G a_BI
  have m_RF := PySem.W.mg_of X G a_RF
  have m_NA := PySem.W.mg_of X G a_NA
  have m_BG := PySem.W.mg_of X G a_BG
  have m_BT := PySem.W.mg_of X G a_BT
  have m_C := PySem.W.mg_of X G a_C
  have ox_C : OexC K C := ⟨⟨nm_C, q_C, N_C, bs_C, _, sn_C, sub_C, ab_C, col_C, dd_C, m0_C, m1_C, m2_C, m3_C, m5_C, xL_C, by rfl⟩, sa_C, eC_C, tC_C, kC_C⟩
  have ex_C : ExC K C := ⟨ga_C, gg_C, eC_C, hd_C, ha_C, hn_C, ht_C, hm_C⟩
  have F_IC := fun_mk (st := s_BadAmount_init) l_IC c_IC k_IC
  have b_IC := F_IC.binds (ps := ["self", "value"]) fun _ _ _ _ _ _ us hl => match us, hl with | [_, _], _ => rfl
  have rx_C : RxC K mg "BadAmount" C f_IC := ⟨ox_C, a_IC, t_IC, m_C⟩
  have zE_C : ∀ base : Heap, ErrC l.prog w K mg base "BadAmount" C ["self", "value"] (spI1 C "value") := fun base => ⟨f_IC, _, rx_C, ok_init1 F_IC ox_C no_C_value sc_BadAmount_init ⟨_, _, _, _, rfl⟩, b_IC⟩
  have m_N := PySem.W.mg_of X G a_N
  have ox_N : OexC K N := ⟨⟨nm_N, q_N, N_N, bs_N, _, sn_N, sub_N, ab_N, col_N, dd_N, m0_N, m1_N, m2_N, m3_N, m5_N, xL_N, by rfl⟩, sa_N, eC_N, tC_N, kC_N⟩
  have ex_N : ExC K N := ⟨ga_N, gg_N, eC_N, hd_N, ha_N, hn_N, ht_N, hm_N⟩
  have FID : FunD K "__init__" "Amount.__init__" (defArgs s_Amount_init) (defBody s_Amount_init) (defScope s_Amount_init) [.int 1] [] fI (PySem.W.fnOf "__init__" "Amount.__init__" (defArgs s_Amount_init) (defBody s_Amount_init) (defScope s_Amount_init) (.ref T) kVI dcI pmI anI cdI ctI) := ⟨⟨ocI, odI, _, kVI, dcI, pmI, anI, cdI, ctI, slI, rfl, lI, cI_, .inr ⟨by decide, T, _, [.int 1 tkT], zT, rfl, lT, rfl, .cons ⟨tkT, rfl⟩ .nil⟩, .inl rfl⟩, kpI⟩
  obtain ⟨ds1, vI1, bI1⟩ := FID.binds1 (ps := ["self", "top", "bottom"]) 2 0 (by decide) rfl fun _ _ _ _ _ _ _ us its h1 h2 => match us, its, h1, h2 with | [_, _], [_], _, _ => ⟨_, rfl, rfl⟩
  obtain ⟨ds2, vI2, bI2⟩ := FID.binds1 (ps := ["self", "top", "bottom"]) 3 1 (by decide) rfl fun _ _ _ _ _ _ _ us its h1 h2 => match us, its, h1, h2 with | [_, _, _], [_], _, _ => ⟨_, rfl, rfl⟩
  cases vI2
  obtain ⟨its3, kI⟩ := FID.kbindsD (ps := ["self", "top", "bottom"]) 1 ["bottom", "top"] (fun us _ ws => us ++ sw ws) (by decide) (fun r1 _ r3 => r1.append (sw_vals r3)) fun _ _ _ _ _ _ _ us its ws h1 h2 h3 => match us, its, ws, h1, h2, h3 with | [_], [_], [_, _], _, _, _ => ⟨_, rfl, rfl⟩
  have F_of := fun_mk (st := s_Amount_of) l_of c_of k_of
  have b_of := F_of.binds (ps := ["number"]) fun _ _ _ _ _ _ us hl => match us, hl with | [_], _ => rfl
  have F_num := fun_mk (st := s_Amount_is_number) l_num c_num k_num
  have b_num := F_num.binds (ps := ["value"]) fun _ _ _ _ _ _ us hl => match us, hl with | [_], _ => rfl
  have F_over := fun_mk (st := s_Amount_over) l_over c_over k_over
  have b_over := F_over.binds (ps := ["self", "number"]) fun _ _ _ _ _ _ us hl => match us, hl with | [_, _], _ => rfl
  have F_add := fun_mk (st := s_Amount_add) l_add c_add k_add
  have b_add := F_add.binds (ps := ["self", "other"]) fun _ _ _ _ _ _ us hl => match us, hl with | [_, _], _ => rfl
  have F_radd := fun_mk (st := s_Amount_radd) l_radd c_radd k_radd
  have b_radd := F_radd.binds (ps := ["self", "other"]) fun _ _ _ _ _ _ us hl => match us, hl with | [_, _], _ => rfl
  have F_sub := fun_mk (st := s_Amount_sub) l_sub c_sub k_sub
  have b_sub := F_sub.binds (ps := ["self", "other"]) fun _ _ _ _ _ _ us hl => match us, hl with | [_, _], _ => rfl
  have F_rsub := fun_mk (st := s_Amount_rsub) l_rsub c_rsub k_rsub
  have b_rsub := F_rsub.binds (ps := ["self", "other"]) fun _ _ _ _ _ _ us hl => match us, hl with | [_, _], _ => rfl
  have F_mul := fun_mk (st := s_Amount_mul) l_mul c_mul k_mul
  have b_mul := F_mul.binds (ps := ["self", "other"]) fun _ _ _ _ _ _ us hl => match us, hl with | [_, _], _ => rfl
  have F_rmul := fun_mk (st := s_Amount_rmul) l_rmul c_rmul k_rmul
  have b_rmul := F_rmul.binds (ps := ["self", "other"]) fun _ _ _ _ _ _ us hl => match us, hl with | [_, _], _ => rfl
  have F_flo := fun_mk (st := s_Amount_floordiv) l_flo c_flo k_flo
  have b_flo := F_flo.binds (ps := ["self", "other"]) fun _ _ _ _ _ _ us hl => match us, hl with | [_, _], _ => rfl
  have F_rflo := fun_mk (st := s_Amount_rfloordiv) l_rflo c_rflo k_rflo
  have b_rflo := F_rflo.binds (ps := ["self", "other"]) fun _ _ _ _ _ _ us hl => match us, hl with | [_, _], _ => rfl
  have F_iflo := fun_mk (st := s_Amount_ifloordiv) l_iflo c_iflo k_iflo
  have b_iflo := F_iflo.binds (ps := ["self", "other"]) fun _ _ _ _ _ _ us hl => match us, hl with | [_, _], _ => rfl
  have F_mod := fun_mk (st := s_Amount_mod) l_mod c_mod k_mod
  have b_mod := F_mod.binds (ps := ["self", "other"]) fun _ _ _ _ _ _ us hl => match us, hl with | [_, _], _ => rfl
  have F_rmod := fun_mk (st := s_Amount_rmod) l_rmod c_rmod k_rmod
  have b_rmod := F_rmod.binds (ps := ["self", "other"]) fun _ _ _ _ _ _ us hl => match us, hl with | [_, _], _ => rfl
  have F_neg := fun_mk (st := s_Amount_neg) l_neg c_neg k_neg
  have b_neg := F_neg.binds (ps := ["self"]) fun _ _ _ _ _ _ us hl => match us, hl with | [_], _ => rfl
  have F_isint := fun_mk (st := s_is_int) l_isint c_isint k_isint
  have b_isint := F_isint.binds (ps := ["value"]) fun _ _ _ _ _ _ us hl => match us, hl with | [_], _ => rfl
  have m_isint := PySem.W.mg_of X G a_isint
  have F_pen := fun_mk (st := s__law_pen) l_pen c_pen k_pen
  have b_pen := F_pen.binds (ps := ["_law_script"]) fun _ _ _ _ _ _ us hl => match us, hl with | [_], _ => rfl
  have m_pen := PySem.W.mg_of X G a_pen
  have F_draw := fun_mk (st := s__law_draw) l_draw c_draw k_draw
  have b_draw := F_draw.binds (ps := ["_law_pen_here", "_law_many"]) fun _ _ _ _ _ _ us hl => match us, hl with | [_, _], _ => rfl
  have m_draw := PySem.W.mg_of X G a_draw
  have F_pick := fun_mk (st := s__law_pick) l_pick c_pick k_pick
  have b_pick := F_pick.binds (ps := ["_law_pen_here", "_law_some"]) fun _ _ _ _ _ _ us hl => match us, hl with | [_, _], _ => rfl
  have m_pick := PySem.W.mg_of X G a_pick
  have F_heard := fun_mk (st := s__law_heard) l_heard c_heard k_heard
  have b_heard := F_heard.binds (ps := ["_law_call"]) fun _ _ _ _ _ _ us hl => match us, hl with | [_], _ => rfl
  have m_heard := PySem.W.mg_of X G a_heard
  have F_same := fun_mk (st := s__law_same) l_same c_same k_same
  have b_same := F_same.binds (ps := ["_law_heard_here", "_law_due"]) fun _ _ _ _ _ _ us hl => match us, hl with | [_, _], _ => rfl
  have m_same := PySem.W.mg_of X G a_same
  have F_inp := fun_mk (st := s__law_in_place) l_inp c_inp k_inp
  have b_inp := F_inp.binds (ps := ["_law_amount", "_law_sign", "_law_other"]) fun _ _ _ _ _ _ us hl => match us, hl with | [_, _, _], _ => rfl
  have m_inp := PySem.W.mg_of X G a_inp
  have tIn : PySem.W.tabIn K "law" = some (c_law, Pt) := by
    unfold PySem.W.tabIn
    rw [a_law]
    dsimp only
    rw [l_law]
    dsimp only [PySem.W.fnOf]
    rw [l_c]
    dsimp only
    rw [h11]
  refine ⟨PySem.W.fnOf "law" "law" (defArgs s_law) (defBody s_law) (defScope s_law) .none kV_law dc_law pm_law an_law (.ref c_law) ct_law, c_law, Pt, (envOfC "law" (defScope s_law) 0 fa (.ref c_law)).qual ++ "<lambda>", tIn, nPt, hC, fun s v => .of_eq rfl, fun base _ _ TB => ?_⟩
  have T_ : Txt K mg := ⟨mn_int, mn_len, mn_abs, mn_list, mn_range, mn_isinstance, mn_repr, mn_bool⟩
  have U : AmC K mg A fI p_of f_of p_num f_num (.type "type") := ⟨m_A, PySem.W.mg_of X G hgcd, ⟨pg, hd, po, sa⟩, nT, nB, ⟨mk, aI, iI, kA⟩, ha, hn, ht, hm, tI, tA, ⟨⟨rd, gat⟩, a_of, ⟨_, r_of⟩, k_of⟩, ⟨⟨rd, gat⟩, a_num, ⟨_, r_num⟩, k_num⟩⟩
  have N_ : TxN K mg N := ⟨m_N, qN, kC_N, eC_N, tC_N⟩
  have V_ : TxH K mg S C N BG BT RF BI NA := ⟨m_S, m_C, m_N, m_BG, m_BT, m_RF, m_BI, m_NA, mn_ValueError, ex_C, ex_N, exm_mk bS iS tS sCS, exm_mk bS iS tS sNS, q_vC, q_vN, q_oC, q_oN, kit_self K C, q_cN_, q_iC, q_iN, q_aC, q_aN, kit_self K N, no_C_value⟩
  have UF : FarA K A := ⟨far_non, far_bl, tA, far_str, far_lst, far_tup, far_dic⟩
  have cI : CalO l.prog w K mg base "is_int" 1 ["value"] (spIsInt A) (fun _ => True) := ⟨_, _, ok_is_int F_isint T_ U, m_isint, k_isint, b_isint, trivial⟩
  have cID : CalO l.prog w K mg base "is_int" 1 ["value"] spIsIntD (fun _ => True) := ⟨_, _, ok_is_intD F_isint T_, m_isint, k_isint, b_isint, trivial⟩
  have FI : FnOk l.prog w K mg base CX0 2 fI _ ["self", "top", "bottom"] (spInit A) := ok_init FID T_ U cI
  have FIR : FnOk l.prog w K mg base (CX l.prog w) 4 fI _ ["self", "top", "bottom"] (spInitR C N) := ok_initR FID T_ U cID (zE_C base) N_
  have FN := ok_is_number (P := l.prog) (w := w) (base := base) F_num T_ U cI
  have FO := ok_of (P := l.prog) (w := w) (base := base) F_of T_ U FI bI1 vI1 bI2
  have FOR := ok_ofR (P := l.prog) (w := w) (base := base) F_of T_ U UF FIR bI1 vI1 bI2
  have fOver := ok_Amount_over (P := l.prog) (w := w) (base := base) F_over T_ U FI bI1 vI1 bI2 FO b_of FN b_num
  have fOverR := ok_overR (P := l.prog) (w := w) (base := base) F_over T_ U FIR bI1 vI1 bI2 FO b_of FN b_num
  have fAdd := ok_Amount_add (P := l.prog) (w := w) (base := base) F_add T_ U FI bI1 vI1 bI2 cI
  have fMul := ok_Amount_mul (P := l.prog) (w := w) (base := base) F_mul T_ U FI bI1 vI1 bI2 cI
  have fNeg := ok_Amount_neg (P := l.prog) (w := w) (base := base) F_neg T_ U FI bI1 vI1 bI2
  have O_add : PySem.HXO.OwnOp K A .Add f_add f_radd := ⟨first, sub, by rw [dn_add]; exact a_add, by rw [dr_add]; exact a_radd, i_add, i_radd⟩
  have O_sub : PySem.HXO.OwnOp K A .Sub f_sub f_rsub := ⟨first, sub, by rw [dn_sub]; exact a_sub, by rw [dr_sub]; exact a_rsub, i_sub, i_rsub⟩
  have O_mul : PySem.HXO.OwnOp K A .Mult f_mul f_rmul := ⟨first, sub, by rw [dn_mul]; exact a_mul, by rw [dr_mul]; exact a_rmul, i_mul, i_rmul⟩
  have O_flo : PySem.HXO.OwnOp K A .FloorDiv f_flo f_rflo := ⟨first, sub, by rw [dn_floordiv]; exact a_flo, by rw [dr_floordiv]; exact a_rflo, i_flo, i_rflo⟩
  have O_mod : PySem.HXO.OwnOp K A .Mod f_mod f_rmod := ⟨first, sub, by rw [dn_mod]; exact a_mod, by rw [dr_mod]; exact a_rmod, i_mod, i_rmod⟩
  have mOver : Meth K A "over" f_over := ⟨a_over, i_over, k_over⟩
  have fRmul := ok_Amount_rmul (P := l.prog) (w := w) (base := base) F_rmul T_ U FO b_of FN b_num fMul b_mul O_mul
  have fSub := ok_Amount_sub (P := l.prog) (w := w) (base := base) F_sub T_ U FO b_of FN b_num fAdd b_add O_add fNeg b_neg a_neg i_neg
  have fRsub := ok_Amount_rsub (P := l.prog) (w := w) (base := base) F_rsub T_ U FO b_of FN b_num fAdd b_add O_add fNeg b_neg a_neg i_neg
  have fFlo := ok_Amount_floordiv (P := l.prog) (w := w) (base := base) F_flo T_ U FO b_of FN b_num fOver b_over mOver
  have fFloR := ok_floR (P := l.prog) (w := w) (base := base) F_flo T_ U FO b_of FN b_num fOverR b_over mOver
  have fRflR := ok_rfloR (P := l.prog) (w := w) (base := base) F_rflo T_ U FO b_of FN b_num fFloR b_flo O_flo
  have fIflR := ok_ifloR (P := l.prog) (w := w) (base := base) F_iflo T_ U fFloR b_flo O_flo
  have fModR := ok_modR (P := l.prog) (w := w) (base := base) F_mod T_ U fFloR b_flo O_flo fRmul b_rmul O_mul fSub b_sub O_sub
  have fRmR := ok_rmodR (P := l.prog) (w := w) (base := base) F_rmod T_ U fRflR b_rflo O_flo fRmul b_rmul O_mul fRsub b_rsub O_sub
  have kO : KBn K _ ["number"] 0 ["number"] (fun us ws => us ++ ws) (fun vs zs => vs ++ zs) := kb_1 (x := "of") (q := "Amount.of") (st := s_Amount_of) (p := "number") F_of (fun _ _ _ _ _ _ _ _ => .of_eq rfl)
  have cPn : CalO l.prog w K mg base "_law_pen" 1 ["_law_script"] (spPen K) (fun _ => True) := ⟨_, _, ok_pen F_pen T_, m_pen, k_pen, b_pen, trivial⟩
  have cD : CalO l.prog w K mg base "_law_draw" 1 ["_law_pen_here", "_law_many"] spDraw (fun _ => True) := ⟨_, _, ok_draw F_draw T_, m_draw, k_draw, b_draw, trivial⟩
  have cP : CalO l.prog w K mg base "_law_pick" 2 ["_law_pen_here", "_law_some"] (spPick K) (fun _ => True) := ⟨_, _, ok_pick F_pick T_ cD, m_pick, k_pick, b_pick, trivial⟩
  have cS : CalG l.prog w K mg base "_law_same" 1 ["_law_heard_here", "_law_due"] spSame (fun _ => True) := ⟨_, _, ok_same F_same T_, m_same, k_same, b_same, trivial⟩
  have cIn : CalX l.prog w K mg base "_law_in_place" 10 ["_law_amount", "_law_sign", "_law_other"] (spInpR A N) (fun _ => True) := ⟨_, _, ok_inpR F_inp T_ U fOverR b_over mOver first fIflR b_iflo (by rw [di_floordiv]; exact a_iflo) i_iflo fModR b_mod O_mod, m_inp, k_inp, b_inp, trivial⟩
  have HC : HeC K mg := ⟨_, _, F_heard, m_heard, k_heard, b_heard⟩
  exact ok_law l_law c_law_ T_ U V_ HC TB (fun _ => rfl) FI FIR bI1 vI1 bI2 kI FOR b_of kO fOverR b_over mOver fFlo fFloR b_flo fRflR b_rflo O_flo fModR b_mod fRmR b_rmod O_mod fSub b_sub O_sub cPn cD cP cS cIn
theorem sp_law_of (K : PySem.W.Frag) (H : Hp) (a Pt : Addr) (qL : Str) (ns : List Int) (hl : ns.length ≤ 63) (hH : H Pt = some (.tbl #[])) (h : SqL K H a (ns.map V.int)) : spLaw K [(Pt, qL)] [.ref a] H (fun v _ => v = .bl true) fun _ _ _ => False :=
  ⟨a, ns, rfl, h, (fun x hx => by rw [List.mem_singleton.mp hx]; exact LamX.TabS.nil hH), fun _ => rfl⟩
end LW
open HX
open PySem PySem.W PyProof.Rows
set_option maxRecDepth 100000 in
set_option maxHeartbeats 0 in
theorem PySem.Challenge.cw_holeshift_k21_amounts_refused_holds : PySem.Challenge.rw_holeshift_k21_amounts_refused.Holds := by
  w_on; o_law; k_head; (case hw => w_witness2)
  k_fill
  refine walkGT (l := PySem.Challenge.rw_holeshift_k21_amounts_refused) (n := 63) (k := 16) (x := "_law_script") (sp := LW.spLaw) rfl (by decide) rfl ⟨rfl, by decide, by decide⟩ (by rfl) (fun w h Y => PySem.W.km_in_of Y) ?F (fun K H a Pt qL ns hl hH h => LW.sp_law_of K H a Pt qL ns hl hH h)
  case F =>
    intro w mg fa h KX G hmg
    refine' LW.all_mk KX G hmg ?n_int ?n_len ?n_abs ?n_list ?n_range ?n_isinstance ?n_repr ?n_bool ?n_ValueError ?a_A ?hgcd ?pg ?hd ?po ?sa ?mk ?kA ?nT ?nB ?ha ?hn ?ht ?hm ?first ?sub ?rd ?gat ?tI ?tA ?a_S ?iS ?tS ?bS ?a_BI ?a_RF ?a_NA ?a_BG ?a_BT ?a_C ?xL_C ?sa_C ?eC_C ?tC_C ?kC_C ?ga_C ?gg_C ?hd_C ?ha_C ?hn_C ?ht_C ?hm_C ?no_C_value ?a_IC ?t_IC ?l_IC ?c_IC ?k_IC ?a_N ?xL_N ?sa_N ?eC_N ?tC_N ?kC_N ?ga_N ?gg_N ?hd_N ?ha_N ?hn_N ?ht_N ?hm_N ?qN ?sCS ?sNS ?q_vC ?q_vN ?q_oC ?q_oN ?q_cN_ ?q_iC ?q_iN ?q_aC ?q_aN ?far_non ?far_bl ?far_str ?far_lst ?far_tup ?far_dic ?aI ?iI ?lI ?cI_ ?kpI ?lT ?a_of ?r_of ?i_of ?l_of ?c_of ?k_of ?a_num ?r_num ?i_num ?l_num ?c_num ?k_num ?a_over ?i_over ?l_over ?c_over ?k_over ?a_add ?i_add ?l_add ?c_add ?k_add ?a_radd ?i_radd ?l_radd ?c_radd ?k_radd ?a_sub ?i_sub ?l_sub ?c_sub ?k_sub ?a_rsub ?i_rsub ?l_rsub ?c_rsub ?k_rsub ?a_mul ?i_mul ?l_mul ?c_mul ?k_mul ?a_rmul ?i_rmul ?l_rmul ?c_rmul ?k_rmul ?a_flo ?i_flo ?l_flo ?c_flo ?k_flo ?a_rflo ?i_rflo ?l_rflo ?c_rflo ?k_rflo ?a_iflo ?i_iflo ?l_iflo ?c_iflo ?k_iflo ?a_mod ?i_mod ?l_mod ?c_mod ?k_mod ?a_rmod ?i_rmod ?l_rmod ?c_rmod ?k_rmod ?a_neg ?i_neg ?l_neg ?c_neg ?k_neg ?a_isint ?l_isint ?c_isint ?k_isint ?a_pen ?l_pen ?c_pen ?k_pen ?a_draw ?l_draw ?c_draw ?k_draw ?a_pick ?l_pick ?c_pick ?k_pick ?a_heard ?l_heard ?c_heard ?k_heard ?a_same ?l_same ?c_same ?k_same ?a_inp ?l_inp ?c_inp ?k_inp ?a_law ?l_law ?c_law_ ?l_c ?h11 ?nPt ?hC
    (case n_int => k_is)
    (case n_len => k_is)
    (case n_abs => k_is)
    (case n_list => k_is)
    (case n_range => k_is)
    (case n_isinstance => k_is)
    (case n_repr => k_is)
    (case n_bool => k_is)
    (case n_ValueError => k_is)
    (case a_A => k_is)
    (case hgcd => k_is)
    (case pg => k_is)
    (case hd => k_is)
    (case po => k_is)
    (case sa => k_is)
    (case mk => k_is)
    (case kA => k_is)
    (case nT => k_is)
    (case nB => k_is)
    (case ha => k_is)
    (case hn => k_is)
    (case ht => k_is)
    (case hm => k_is)
    (case first => k_is)
    (case sub => k_is)
    (case rd => k_is)
    (case gat => k_is)
    (case tI => exact (by kernel_rfl))
    (case tA => exact (by kernel_rfl))
    (case a_S => k_is)
    (case iS => k_is)
    (case tS => k_is)
    (case bS => k_is)
    (case a_BI => k_is)
    (case a_RF => k_is)
    (case a_NA => k_is)
    (case a_BG => k_is)
    (case a_BT => k_is)
    (case a_C => k_is)
    (case xL_C => k_is)
    (case sa_C => k_is)
    (case eC_C => k_is)
    (case tC_C => k_is)
    (case kC_C => k_is)
    (case ga_C => k_is)
    (case gg_C => k_is)
    (case hd_C => k_is)
    (case ha_C => k_is)
    (case hn_C => k_is)
    (case ht_C => k_is)
    (case hm_C => k_is)
    (case no_C_value => k_is)
    (case a_IC => k_is)
    (case t_IC => k_is)
    (case l_IC => k_is)
    (case c_IC => k_is)
    (case k_IC => k_is)
    (case a_N => k_is)
    (case xL_N => k_is)
    (case sa_N => k_is)
    (case eC_N => k_is)
    (case tC_N => k_is)
    (case kC_N => k_is)
    (case ga_N => k_is)
    (case gg_N => k_is)
    (case hd_N => k_is)
    (case ha_N => k_is)
    (case hn_N => k_is)
    (case ht_N => k_is)
    (case hm_N => k_is)
    (case qN => exact (by kernel_rfl))
    (case sCS => k_is)
    (case sNS => k_is)
    (case q_vC => exact (by kernel_rfl))
    (case q_vN => exact (by kernel_rfl))
    (case q_oC => exact (by kernel_rfl))
    (case q_oN => exact (by kernel_rfl))
    (case q_cN_ => exact (by kernel_rfl))
    (case q_iC => exact (by kernel_rfl))
    (case q_iN => exact (by kernel_rfl))
    (case q_aC => exact (by kernel_rfl))
    (case q_aN => exact (by kernel_rfl))
    (case far_non => exact (by kernel_rfl))
    (case far_bl => exact (by kernel_rfl))
    (case far_str => exact (by kernel_rfl))
    (case far_lst => exact (by kernel_rfl))
    (case far_tup => exact (by kernel_rfl))
    (case far_dic => exact (by kernel_rfl))
    (case aI => k_is)
    (case iI => k_is)
    (case lI => k_is)
    (case cI_ => k_is)
    (case kpI => k_is)
    (case lT => k_is)
    (case a_of => k_is)
    (case r_of => k_is)
    (case i_of => k_is)
    (case l_of => k_is)
    (case c_of => k_is)
    (case k_of => k_is)
    (case a_num => k_is)
    (case r_num => k_is)
    (case i_num => k_is)
    (case l_num => k_is)
    (case c_num => k_is)
    (case k_num => k_is)
    (case a_over => k_is)
    (case i_over => k_is)
    (case l_over => k_is)
    (case c_over => k_is)
    (case k_over => k_is)
    (case a_add => k_is)
    (case i_add => k_is)
    (case l_add => k_is)
    (case c_add => k_is)
    (case k_add => k_is)
    (case a_radd => k_is)
    (case i_radd => k_is)
    (case l_radd => k_is)
    (case c_radd => k_is)
    (case k_radd => k_is)
    (case a_sub => k_is)
    (case i_sub => k_is)
    (case l_sub => k_is)
    (case c_sub => k_is)
    (case k_sub => k_is)
    (case a_rsub => k_is)
    (case i_rsub => k_is)
    (case l_rsub => k_is)
    (case c_rsub => k_is)
    (case k_rsub => k_is)
    (case a_mul => k_is)
    (case i_mul => k_is)
    (case l_mul => k_is)
    (case c_mul => k_is)
    (case k_mul => k_is)
    (case a_rmul => k_is)
    (case i_rmul => k_is)
    (case l_rmul => k_is)
    (case c_rmul => k_is)
    (case k_rmul => k_is)
    (case a_flo => k_is)
    (case i_flo => k_is)
    (case l_flo => k_is)
    (case c_flo => k_is)
    (case k_flo => k_is)
    (case a_rflo => k_is)
    (case i_rflo => k_is)
    (case l_rflo => k_is)
    (case c_rflo => k_is)
    (case k_rflo => k_is)
    (case a_iflo => k_is)
    (case i_iflo => k_is)
    (case l_iflo => k_is)
    (case c_iflo => k_is)
    (case k_iflo => k_is)
    (case a_mod => k_is)
    (case i_mod => k_is)
    (case l_mod => k_is)
    (case c_mod => k_is)
    (case k_mod => k_is)
    (case a_rmod => k_is)
    (case i_rmod => k_is)
    (case l_rmod => k_is)
    (case c_rmod => k_is)
    (case k_rmod => k_is)
    (case a_neg => k_is)
    (case i_neg => k_is)
    (case l_neg => k_is)
    (case c_neg => k_is)
    (case k_neg => k_is)
    (case a_isint => k_is)
    (case l_isint => k_is)
    (case c_isint => k_is)
    (case k_isint => k_is)
    (case a_pen => k_is)
    (case l_pen => k_is)
    (case c_pen => k_is)
    (case k_pen => k_is)
    (case a_draw => k_is)
    (case l_draw => k_is)
    (case c_draw => k_is)
    (case k_draw => k_is)
    (case a_pick => k_is)
    (case l_pick => k_is)
    (case c_pick => k_is)
    (case k_pick => k_is)
    (case a_heard => k_is)
    (case l_heard => k_is)
    (case c_heard => k_is)
    (case k_heard => k_is)
    (case a_same => k_is)
    (case l_same => k_is)
    (case c_same => k_is)
    (case k_same => k_is)
    (case a_inp => k_is)
    (case l_inp => k_is)
    (case c_inp => k_is)
    (case k_inp => k_is)
    (case a_law => k_is)
    (case l_law => k_is)
    (case c_law_ => k_is)
    (case l_c => k_is)
    (case h11 => exact rfl)
    (case nPt => exact (by kernel_rfl))
    (case hC => exact (by kernel_rfl))
