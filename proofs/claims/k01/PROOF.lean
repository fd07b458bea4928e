import PyProof.Rows.All
import Wide.All
import OpenK.AllK
import Wide.FinOn
import HandS.ForMost
import HandS.ForExc
import HandS.ExcInit
import HandS.Wide
import PyProof.ReprRoads
import PyProof.ReprLen
import HandS.ExcField
import HandS.ExcIs
import KE.KExcIs
import HandS.IsInst
import HandS.Defaults
import HandS.AnyAll
import HandS.Walk
import HandS.Text
import HandS.ExcValue
import HandS.Iter
import PySem.Challenge.RW_holeshift_k01_errors_kept
set_option Elab.async false
set_option linter.all false
set_option maxRecDepth 100000
set_option maxHeartbeats 2000000
namespace HX
open PySem PySem.Spec PyProof.Rows L2

/-- a def's promise where nothing is being shown (no repr runs around it) -/
structure FnG (P : Program) (w : World) (K : PySem.W.Frag) (mg : Str → Option Value) (base : Heap) (CX : CXT) (k : Nat) (f : Addr) (fd : FuncData) (ps : List Str) (sp : Sp) : Prop where
  len : ∀ vs H Q E, sp vs H Q E → vs.length = ps.length
  go : ∀ (A : Around) (out : List Env) (s : Shared) (H : Hp) (ar : Args) (us : List Value) (vs : List V) (Q : VK) (E : XK),
    A.guards = some [] → Room k A → Env0 P w K mg base A out s H → BindsTo s fd ar (ps.zip us) → Vals vs us → sp vs H Q E →
      codeAny (model P w) A (.call (.ref f) ar) (CR CX out P w H s Q E) s

section
variable {P : Program} {w : World} {K : PySem.W.Frag} {mg : Str → Option Value} {base : Heap} {CX : CXT} {k : Nat} {f : Addr} {fd : FuncData} {ps : List Str} {sp : Sp}
theorem FnG.of (F : FnOk P w K mg base CX k f fd ps sp) : FnG P w K mg base CX k f fd ps sp :=
  ⟨F.len, fun A out s H ar us vs Q E _ r e b v h => F.run A out s H ar us vs Q E r e b v h⟩
theorem FnG.mono {j : Nat} (F : FnG P w K mg base CX j f fd ps sp) (h : j ≤ k) : FnG P w K mg base CX k f fd ps sp :=
  ⟨F.len, fun A out s H ar us vs Q E g r => F.go A out s H ar us vs Q E g (r.mono h)⟩

/-- a def by its body -/
theorem fnG_of {nm qual : Str} {prm : Arguments} {body : List Stmt} {sc : Scope} {dV kV doc pm cdv ct oc : Value} {an od : Option Addr} {osl : Array (Option Value)} {N : List Str}
    (lk : K.lookup f = some ⟨oc, od, .func (PySem.W.fnOf nm qual prm body sc dV kV doc pm an cdv ct), osl⟩)
    (hcd : PySem.W.codeIn K cdv qual = true) (S : FnScope N ps sc) (ln : ∀ vs H Q E, sp vs H Q E → vs.length = ps.length)
    (hb : ∀ (A : Around) (out : List Env) (s : Shared) (H : Hp) (vs : List V) (Q : VK) (E : XK), A.guards = some [] →
      Room k (A.deeper (envOfC qual sc s.heap.objs.size f cdv)) → sp vs H Q E →
        ∃ t, PSs (cxOf CX P w K mg base N qual sc f cdv A out s H E) body t ∧ t { nx := fun _ G => Q .non G, rt := Q } (start N vs) H) :
    FnG P w K mg base CX (k + 1) f (PySem.W.fnOf nm qual prm body sc dV kV doc pm an cdv ct) ps sp := by
  refine ⟨ln, fun A out s H ar us vs Q E hgd hr e0 bd rv hsp => ?_⟩
  have n0 := ln _ _ _ _ hsp
  have stay : ∀ b o, base.get? b = some o → s.heap.get? b = some o := fun b o z => (e0.bs b o z).1
  have kin : K.In s.heap := e0.mod.kin.keeps stay
  have lim : s.heap.NoLimit := e0.mod.nolimit.keeps stay
  refine codeAny_call_function hr.depth (kin _ _ lk) rfl S.co S.gen rfl (PySem.W.codeRec_of kin hcd) (bd _ _ _ _ ?_)
  refine wpAny_newFunctionEnv_cells S.kind (fun ⟨x, u⟩ hx => ?_) fun env he s1 ic => ?_
  · rcases S.par x (List.of_mem_zip hx).1 with z | z
    · exact .inl z
    · exact .inr ⟨z, PySem.W.cellsFrom_some _ _ _ (.inl z)⟩
  · subst he
    refine ⟨lim.keeps ic.toInCall.keep, codeAny_func ?_⟩
    obtain ⟨t, pt, go⟩ := hb A out s H vs Q E hgd (hr.deeper _) hsp
    refine wpAny_mono (pt.run [] s1 _ H _ (inv_start S hr.hd e0 n0 rv ic) go) (fun fl s' q => ?_) fun _ _ z => z
    cases fl with
    | ret u =>
      obtain ⟨v, _, G, J, r, z⟩ := q
      exact ⟨v, G, J.os, J.bare, J.base, J.hok, r, z⟩
    | next =>
      obtain ⟨_, G, J, z⟩ := q
      exact ⟨V.non, G, J.os, J.bare, J.base, J.hok, rfl, z⟩
    | brk => exact False.elim (let ⟨_, _, _, z⟩ := q; z)
    | cont => exact False.elim (let ⟨_, _, _, z⟩ := q; z)

theorem fun_okG {x qual : Str} {st : Stmt} {N : List Str} (F : Fun K x qual st f fd) (S : FnScope N ps (defScope st)) (ln : ∀ vs H Q E, sp vs H Q E → vs.length = ps.length)
    (hb : ∀ (cdv : Value) (A : Around) (out : List Env) (s : Shared) (H : Hp) (vs : List V) (Q : VK) (E : XK), A.guards = some [] →
      Room k (A.deeper (envOfC qual (defScope st) s.heap.objs.size f cdv)) → sp vs H Q E →
        ∃ t, PSs (cxOf CX0 P w K mg base N qual (defScope st) f cdv A out s H E).nox (defBody st) t ∧ t { nx := fun _ G => Q .non G, rt := Q } (start N vs) H) :
    FnG P w K mg base CX0 (k + 1) f fd ps sp := by
  obtain ⟨_, _, _, _, _, _, cdv, _, _, rfl, lk, hcd⟩ := F.ex
  refine fnG_of lk hcd S ln fun A out s H vs Q E g hr hs => ?_
  obtain ⟨t, p, q⟩ := hb cdv A out s H vs Q E g hr hs
  exact ⟨t, p.nox, q⟩
end

section
variable {X : Cx} {CX : CXT} {k : Nat} {f : Addr} {fd : FuncData} {ps : List Str} {sp : Sp} {dvs : List V} {ds : List Value} {E : XK} {x : Str} {p pos : Pos} {e : Expr} {es : List Expr} {t : TA}
theorem run_fnG {pins : List (Addr × Obj)} {σ : L2.St} {H : Hp} {s : Shared} {Q : VK} {us : List Value} {vs : List V} (F : FnG X.prog X.w X.K X.mg X.base CX k f fd ps sp) (gd : X.A.guards = some []) (hr : Room k X.A)
    (hb : Binds X.K fd ps ds) (hd : Vals dvs ds) (hx : Passes CX X E) (I : Inv X pins σ H s) (r : Vals vs us) (h : sp (vs ++ dvs) H Q E) :
    wpAny (model X.prog X.w) X.A (call (.ref f) us) (EP X pins σ Q) X.xe s := by
  have rr : Vals (vs ++ dvs) (us ++ ds) := r.append hd
  have n0 : (us ++ ds).length = ps.length := rr.length.symm.trans (F.len _ _ _ _ h)
  have run := F.go X.A X.stack s H ⟨us, []⟩ (us ++ ds) (vs ++ dvs) Q E gd hr I.env0 (hb s us I.kIn n0) rr h
  refine wpAny_call (codeAny_mono run fun r s' q => ?_)
  match r, q with
  | .error e, q => exact hx pins σ H s e s' I q
  | .ok (.ret u), q => exact I.after q
  | .ok .next, q => exact False.elim q
  | .ok .brk, q => exact False.elim q
  | .ok .cont, q => exact False.elim q
theorem pe_callG (F : FnG X.prog X.w X.K X.mg X.base CX k f fd ps sp) (gd : X.A.guards = some []) (hr : Room k X.A) (hg : Gl X x) (hm : X.mg x = some (.ref f)) (hk : PySem.W.keepIn X.K (.ref f) = true)
    (hb : Binds X.K fd ps ds) (hd : Vals dvs ds) (hx : Passes CX X E) (ha : PA X (e :: es) t) (hdb : (x == ("__debug__" : Str)) = false := by decide)
    (he : starEach (e :: es) X.env = (false, eval e X.env) :: starEach es X.env := by rfl) (hpl : (backTo pos (starEach es X.env)).any (·.1) = false := by rfl) :
    PE X (.Call (.Name x p) (e :: es) [] pos) (tCall sp dvs E t) :=
  ⟨fun pins s σ H Q I h => wpAny_Call_Name_kw (ld_glob I hg hm (PySem.W.callWith_K (h₀ := X.base) I.ok.mod.kin hk
    (thn (ha.run pos pins s σ H _ I h) fun us s1 ⟨vs, H1, I1, r, q⟩ => ⟨I1.kIn, run_fnG F gd hr hb hd hx I1 r q⟩) he hpl) hdb)⟩
end
end HX

set_option Elab.async false
set_option linter.all false
set_option maxRecDepth 100000
set_option maxHeartbeats 2000000
namespace HX
open PySem PySem.Spec PyProof.Rows L2

/-- the heap that knows the script alone, locked -/
def scr (a : Addr) (o : Obj) (ns : List Int) : Hp := fun b => if b = a then some (.frz o (.lst (ns.map V.int))) else none

section
variable {P : Program} {w : World} {K : PySem.W.Frag} {mg mb : Str → Option Value} {CX : CXT} {k : Nat} {fa a : Addr} {fd : FuncData} {x : Str} {sp : Sp} {s : Shared} {vs : List Value} {ns : List Int}
theorem law_goG (kin : K.In s.heap) (hn : s.heap.Ns mainGlobals mg) (hb : s.heap.Ns builtinsNs mb) (hbb : ∀ y : Str, y ≠ "__name__" → mb y = bootBuiltins y) (lim : s.heap.NoLimit) (hg : s.gens = #[])
    (H : Hp) (only : Only H) (hok : HOk P w H s.heap) (at1 : ∀ b, H b ≠ none → s.heap.get? b = some { cls := .type "list", data := .seq vs.toArray } ∧ K.lookup b = none)
    (hr : Room k callerA) (F : ∀ base : Heap, K.In base → base.Ns mainGlobals mg → FnG P w K mg base CX k fa fd [x] sp)
    (bind1 : ∀ (s : Shared) (u : Value), BindsTo s fd ⟨[u], []⟩ [(x, u)])
    (hsp : sp [.ref a] H (fun v _ => v = .bl true) fun _ _ _ => False) (hCX : ∀ e s', CX [] H s (fun _ _ _ => False) e s' → False) :
    codeAny (model P w) callerA (.call (.ref fa) ⟨[.ref a], []⟩) (fun r s' => r = .ok (.ret (.bool true)) ∧ OldK s.heap s'.heap ∧ s'.os = s.os ∧ AllBare s'.gens) s := by
  have untr : ∀ b o, s.heap.get? b = some o → (o ≠ { cls := .type "list", data := .seq vs.toArray } ∨ K.lookup b ≠ none) → H b = none := fun b o e d => by
    cases q : H b with
    | none => rfl
    | some u =>
      obtain ⟨z1, z2⟩ := at1 b (by rw [q]; exact fun z => nomatch z)
      rcases d with d | d
      · exact absurd (Option.some.inj (e.symm.trans z1)) d
      · exact absurd z2 d
  have isNs : ∀ {b : Addr} {m : Str → Option Value}, s.heap.Ns b m → (hidT s.heap H).Ns b m := fun {b m} z => by
    obtain ⟨o, es, ep, e, d, r⟩ := z
    refine ⟨o, es, ep, hidT_get e (untr b o e (.inl fun z => ?_)), d, r⟩
    rw [z] at d
    cases d
  have kinB : K.In (hidT s.heap H) := fun b o e => hidT_get (kin b o e) (untr b o (kin b o e) (.inr (by rw [e]; exact fun z => nomatch z)))
  have md : Mod K mg (hidT s.heap H) := ⟨kinB, isNs hn, ⟨mb, isNs hb, hbb⟩, let ⟨m, z1, z2⟩ := lim; ⟨m, isNs z1, z2⟩⟩
  have e0 : Env0 P w K mg (hidT s.heap H) callerA [] s H :=
    ⟨rfl, md, fun _ _ e => of_hidT e, Nat.le_of_eq (hidT_size _ _), trivial, fun b z => absurd (show b ∈ ([] : List Addr) from z) List.not_mem_nil, hok, AllBare.of_eq hg⟩
  have run := (F _ kinB (isNs hn)).go callerA [] s H ⟨[.ref a], []⟩ [.ref a] [.ref a] (fun v _ => v = .bl true) (fun _ _ _ => False) rfl hr e0 (bind1 s (.ref a)) (.cons rfl .nil) hsp
  refine codeAny_mono run fun r s' q => ?_
  match r, q with
  | .error e, q => exact (hCX e s' q).elim
  | .ok .next, q => exact False.elim q
  | .ok .brk, q => exact False.elim q
  | .ok .cont, q => exact False.elim q
  | .ok (.ret u), q =>
    obtain ⟨v, G, os, bare, un, hok', rv, ev⟩ := q
    subst ev
    obtain rfl : u = Value.bool true := rv
    refine ⟨rfl, OldK.of_keep fun b o e => ?_, os, bare⟩
    rcases only b with n | ⟨ob, xs, n⟩
    · exact un.keep b o e n (fun z => absurd (show b ∈ ([] : List Addr) from z) List.not_mem_nil) List.not_mem_nil
    · have y1 := (hok b _ n).1
      have y2 := (hok' b _ (un.frzs b ob _ n)).1
      exact (y2.trans y1.symm).trans e
end

/-- the end of a law whose def keeps an FnG promise -/
theorem walkG {l : PySem.W.OpenLaw} {n k : Nat} {q : Program} {loose : List Str} {XP : (Str → Option Value) → Heap → Prop} {YP : World → Heap → Prop} {d : DefRec} {K : Params → PySem.W.Frag} {sp : PySem.W.Frag → Sp} {x : Str}
    (hm : l.most = some n) (hn : n ≤ sizeLine) (hdf : d.params.defaults = []) (hr : Room k callerA) (hY : ∀ (w : World) (h : Heap), YP w h → (K w.params).In h)
    (F : ∀ (w : World) (mg : Str → Option Value) (fa : Addr) (h : Heap), (K w.params).In h → h.Ns mainGlobals mg → mg d.name = some (.ref fa) →
      ∃ fd : FuncData, (∀ (s : Shared) (u : Value), BindsTo s fd ⟨[u], []⟩ [(x, u)]) ∧
        ∀ base : Heap, (K w.params).In base → base.Ns mainGlobals mg → FnG l.prog w (K w.params) mg base CX0 k fa fd [x] (sp (K w.params)))
    (hsp : ∀ (K : PySem.W.Frag) (H : Hp) (a : Addr) (ns : List Int), ns.length ≤ n → Only H → SqL K H a (ns.map V.int) → sp K [.ref a] H (fun v _ => v = .bl true) fun _ _ _ => False) :
    PySem.W.WalkO q loose XP YP l.row.toRowW d [] (fun f vs => PySem.call f vs) := by
  refine Att.attach_call hm hdf fun w s₀ s mg mb fa o pm cd doc a vs ns G Y ho hd hcd hmg hobj hi hlen hg => ?_
  have kin := hY w _ Y
  obtain ⟨fd, b1, f1⟩ := F w mg fa _ kin G.T.g hmg
  have rv := vals_ints hi
  have lv := hi.length
  cases e : (K w.params).lookup a with
  | some ob =>
    have z := kin a ob e
    rw [hobj] at z
    cases z
    refine law_goG (vs := vs) kin G.T.g G.T.b G.T.builtins G.T.nolimit hg (fun _ => none) (fun _ => .inl rfl) (fun _ _ z => nomatch z) (fun _ z => absurd rfl z) hr f1 b1 ?_ fun _ _ z => z
    refine hsp _ _ a ns hlen (fun _ => .inl rfl) (.inr ⟨_, vs.toArray, _, e, rfl, rfl, rfl, ?_, by simpa using rv⟩)
    rw [List.size_toArray, lv]
    exact Nat.le_trans hlen hn
  | none =>
    have at_ : ∀ b u, scr a { cls := .type "list", data := .seq vs.toArray } ns b = some u → b = a ∧ u = .frz { cls := .type "list", data := .seq vs.toArray } (.lst (ns.map V.int)) := fun b u z => by
      unfold scr at z
      split at z
      · rename_i hb
        exact ⟨hb, (Option.some.inj z).symm⟩
      · cases z
    refine law_goG (vs := vs) kin G.T.g G.T.b G.T.builtins G.T.nolimit hg (scr a { cls := .type "list", data := .seq vs.toArray } ns) (fun b => ?_) (fun b u z => ?_) (fun b z => ?_) hr f1 b1 ?_ fun _ _ z => z
    · cases z : scr a { cls := .type "list", data := .seq vs.toArray } ns b with
      | none => exact .inl rfl
      | some u => exact .inr ⟨_, _, by rw [(at_ b u z).2]⟩
    · obtain ⟨rfl, rfl⟩ := at_ b u z
      exact ⟨hobj, by rw [List.length_map]; exact Nat.le_trans hlen hn, vs, _, rv, hobj⟩
    · cases y : scr a { cls := .type "list", data := .seq vs.toArray } ns b with
      | none => exact absurd y z
      | some u =>
        obtain ⟨rfl, _⟩ := at_ b u y
        exact ⟨hobj, e⟩
    · refine hsp _ _ a ns hlen (fun b => ?_) (.inl (.inr ⟨_, if_pos rfl⟩))
      cases z : scr a { cls := .type "list", data := .seq vs.toArray } ns b with
      | none => exact .inl rfl
      | some u => exact .inr ⟨_, _, by rw [(at_ b u z).2]⟩
end HX

set_option Elab.async false
set_option linter.all false
set_option maxRecDepth 100000
set_option maxHeartbeats 2000000
namespace HX
open PySem PySem.Spec PyProof.Rows L2

/-! ### what a value tells as data: None, bools, ints, texts, lists, tuples, dicts with int and text keys -/
def keyD : Key → PyData
  | .inl i => .int i
  | .inr x => .str x
mutual
inductive Da (H : Hp) : V → PyData → Prop
  | non : Da H .non .none
  | bl (b : Bool) : Da H (.bl b) (.bool b)
  | int (i : Int) : Da H (.int i) (.int i)
  | str (x : Str) : Da H (.str x) (.str x)
  | lst {a : Addr} {xs : List V} {ds : List PyData} : H a = some (.lst xs) → a ≠ sysModules → Das H xs ds → Da H (.ref a) (.list ds)
  | tup {a : Addr} {xs : List V} {ds : List PyData} : H a = some (.tup xs) → Das H xs ds → Da H (.ref a) (.tuple ds)
  | dic {a : Addr} {kvs : List (Key × V)} {ps : List (PyData × PyData)} : H a = some (.dK kvs) → Dks H kvs ps → Da H (.ref a) (.dict ps)
inductive Das (H : Hp) : List V → List PyData → Prop
  | nil : Das H [] []
  | cons {v : V} {vs : List V} {d : PyData} {ds : List PyData} : Da H v d → Das H vs ds → Das H (v :: vs) (d :: ds)
inductive Dks (H : Hp) : List (Key × V) → List (PyData × PyData) → Prop
  | nil : Dks H [] []
  | cons {k : Key} {v : V} {kvs : List (Key × V)} {d : PyData} {ps : List (PyData × PyData)} : Da H v d → Dks H kvs ps → Dks H ((k, v) :: kvs) ((keyD k, d) :: ps)
end
theorem Das.len {H : Hp} : ∀ {vs : List V} {ds : List PyData}, Das H vs ds → vs.length = ds.length
  | _, _, .nil => rfl
  | _, _, .cons _ t => by rw [List.length_cons, List.length_cons, t.len]
theorem Das.get {H : Hp} : ∀ {vs : List V} {ds : List PyData} {i : Nat} {v : V}, Das H vs ds → vs[i]? = some v → ∃ d, ds[i]? = some d ∧ Da H v d
  | _, _, _, _, .nil, e => by simp at e
  | _, _, 0, v, .cons h _, e => by
    simp at e
    subst e
    exact ⟨_, rfl, h⟩
  | _, _, i + 1, v, .cons _ t, e => by
    obtain ⟨d, h1, h2⟩ := t.get (i := i) (v := v) (by simpa using e)
    exact ⟨d, by simpa using h1, h2⟩
theorem Das.app {H : Hp} : ∀ {vs us : List V} {ds es : List PyData}, Das H vs ds → Das H us es → Das H (vs ++ us) (ds ++ es)
  | _, _, _, _, .nil, t => t
  | _, _, _, _, .cons h t, t2 => .cons h (t.app t2)
mutual
theorem Da.mo {H H' : Hp} (m : Same H H') : ∀ {d : PyData} {v : V}, Da H v d → Da H' v d
  | _, _, .non => .non
  | _, _, .bl b => .bl b
  | _, _, .int i => .int i
  | _, _, .str x => .str x
  | _, _, .lst s n t => .lst (m _ _ s) n (Das.mo m t)
  | _, _, .tup s t => .tup (m _ _ s) (Das.mo m t)
  | _, _, .dic s t => .dic (m _ _ s) (Dks.mo m t)
theorem Das.mo {H H' : Hp} (m : Same H H') : ∀ {ds : List PyData} {vs : List V}, Das H vs ds → Das H' vs ds
  | _, _, .nil => .nil
  | _, _, .cons h t => .cons (Da.mo m h) (Das.mo m t)
theorem Dks.mo {H H' : Hp} (m : Same H H') : ∀ {ps : List (PyData × PyData)} {kvs : List (Key × V)}, Dks H kvs ps → Dks H' kvs ps
  | _, _, .nil => .nil
  | _, _, .cons h t => .cons (Da.mo m h) (Dks.mo m t)
end
section
variable {X : Cx} {pins : List (Addr × Obj)} {σ : L2.St} {H : Hp} {s : Shared}
theorem key_reads {h : Heap} {k : Key} {v : Value} (e : keyIs k v = true) : Reads h v (keyD k) [] := by
  rcases keyIs_shape e with ⟨i, t, rfl, rfl⟩ | ⟨x, t, rfl, rfl⟩
  · exact .int i t
  · exact .str x t
mutual
/-- .. as it stands in the heap; of the addresses that are read, none is sys.modules -/
theorem Da.reads (I : Inv X pins σ H s) : ∀ {d : PyData} {v : V} {u : Value}, Da H v d → RelV v u → ∃ as, Reads s.heap u d as ∧ sysModules ∉ as
  | _, _, _, .non, r => by cases r; exact ⟨_, .none, fun z => nomatch z⟩
  | _, _, _, .bl b, r => by cases r; exact ⟨_, .bool b, fun z => nomatch z⟩
  | _, _, _, .int i, r => by obtain ⟨t, rfl⟩ := r; exact ⟨_, .int i t, fun z => nomatch z⟩
  | _, _, _, .str x, r => by obtain ⟨t, rfl⟩ := r; exact ⟨_, .str x t, fun z => nomatch z⟩
  | _, _, _, .lst h nz t, r => by
    cases r
    obtain ⟨its, rv, ⟨o, n, ho, hc, _, hd⟩, _⟩ := I.list (SqL.of h)
    obtain ⟨as, hr, qs⟩ := Das.reads I t rv
    exact ⟨_, .list ho hc hd (by simpa using hr), fun z => (List.mem_cons.mp z).elim (fun e => nz e.symm) qs⟩
  | _, _, _, .tup h t, r => by
    cases r
    obtain ⟨its, rv, ⟨o, ho, hc, n, hd⟩, _⟩ := I.tuple (SqT.of h)
    obtain ⟨as, hr, q⟩ := Das.reads I t rv
    exact ⟨_, .tuple ho hc hd (by simpa using hr), q⟩
  | _, _, _, .dic (a := a) (kvs := kvs) h t, r => by
    cases r
    obtain ⟨_, nsys, vs, kv, o, es, ep, ho, hx, hd, _, hp, _⟩ := (show ObjOk X.prog X.w H s.heap a (.dK kvs) from I.hok a _ h)
    obtain ⟨bs, hr1, hr2, q⟩ := Dks.reads I t kv hp
    refine ⟨_, .dict (as := []) (bs := bs) ho hx.1 hd hr1 hr2, fun hm => ?_⟩
    rcases List.mem_cons.mp hm with e | hm
    · rw [← e] at nsys
      simp at nsys
    · exact q (by simpa using hm)
theorem Das.reads (I : Inv X pins σ H s) : ∀ {ds : List PyData} {vs : List V} {us : List Value}, Das H vs ds → Vals vs us → ∃ as, ReadsAll s.heap us ds as ∧ sysModules ∉ as
  | _, _, _, .nil, r => by cases r; exact ⟨_, .nil, fun z => nomatch z⟩
  | _, _, _, .cons h t, r => by
    cases r with
    | cons r1 r2 =>
      obtain ⟨as, h1, q1⟩ := Da.reads I h r1
      obtain ⟨bs, h2, q2⟩ := Das.reads I t r2
      exact ⟨_, .cons h1 h2, fun hm => (List.mem_append.mp hm).elim q1 q2⟩
theorem Dks.reads (I : Inv X pins σ H s) : ∀ {ps : List (PyData × PyData)} {kvs : List (Key × V)} {vs : List (Key × Value)} {es : List DictEntry}, Dks H kvs ps → KV kvs vs → Pairs (mixKind X.prog X.w) es vs →
    ∃ bs, ReadsAll s.heap (es.map (·.key)) (ps.map (·.1)) [] ∧ ReadsAll s.heap (es.map (·.val)) (ps.map (·.2)) bs ∧ sysModules ∉ bs
  | _, _, _, _, .nil, r, p => by cases r; cases p; exact ⟨_, .nil, .nil, fun z => nomatch z⟩
  | _, _, _, _, .cons h t, r, p => by
    cases r with
    | cons r1 r2 =>
      cases p with
      | cons p1 p2 p3 =>
        obtain ⟨e1, e2⟩ := r1
        obtain ⟨as, h1, q1⟩ := Da.reads I h e2
        obtain ⟨bs, h2, h3, q2⟩ := Dks.reads I t r2 p3
        rw [← e1] at p1
        refine ⟨as ++ bs, .cons (key_reads p1) h2, .cons (by show Reads s.heap (DictEntry.val _) _ _; rw [p2]; exact h1) h3, fun hm => (List.mem_append.mp hm).elim q1 q2⟩
end
/-- data that repr can show: not deep, not long -/
structure OkD (d : PyData) : Prop where
  sh : d.showable = true
  dp : d.depth ≤ 60
  lv : d.leavesShort 1000 = true
  wt : d.weight ≤ 10000
theorem OkD.len {d : PyData} (h : OkD d) : d.shown.length ≤ sizeLine := by
  have e := PyData.shown_le 1000 (by decide) d h.lv
  have w := h.wt
  rw [sizeLine_eq]
  omega
/-- repr of a list, a tuple, a dict -/
def rRepr : List V → Hp → VK → Prop := fun xs H Q => ∃ (a : Addr) (d : PyData), xs = [.ref a] ∧ Da H (.ref a) d ∧ OkD d ∧ Q (.str d.shown) H
theorem call_reprD (gd : X.A.guards = some []) (hu : X.A.units + 64 < cLine) : CallR X (.builtin "repr") rRepr := by
  intro pins s σ H xs us Q I r h
  obtain ⟨a, d, rfl, hd, ok, q⟩ := h
  obtain ⟨u, rfl, ru⟩ := vals1 r
  obtain ⟨as, hr, hsys⟩ := Da.reads I hd ru
  cases ru
  have hz := ok.dp
  exact repr_of_reads' hr ok.sh (fun _ => hsys) gd (by omega) (fun _ _ e => e) (fun h' t tk k => ⟨.str d.shown, H, I.kept k, ⟨_, rfl⟩, q⟩) ok.len
end
end HX

set_option Elab.async false
set_option linter.all false
set_option maxRecDepth 100000
set_option maxHeartbeats 2000000
namespace HX
open PySem PySem.Spec PyProof.Rows L2

/-! ### an exception that was caught, kept as a value: at a, of the class cls, its own dict at d -/
def exT (a : Addr) (cls : Value) (d : Option Addr) : HO := .ext fun h => ∃ oe vs, h.get? a = some oe ∧ Zc cls d oe ∧ oe.data = .fields vs
theorem exT_ok {P : Program} {w : World} {H : Hp} {h : Heap} {a : Addr} {cls : Value} {d : Option Addr} {oe : Obj} {vs : Array Value} (e : h.get? a = some oe) (z : Zc cls d oe) (q : oe.data = .fields vs) : ObjOk P w H h a (exT a cls d) :=
  ⟨⟨oe, vs, e, z, q⟩, ⟨oe, e⟩, fun _ _ ⟨o, us, x1, x2⟩ k => ⟨o, us, k o x1, x2⟩⟩
theorem exT_at {P : Program} {w : World} {H : Hp} {h : Heap} {a : Addr} {cls : Value} {d : Option Addr} (ok : HOk P w H h) (e : H a = some (exT a cls d)) : ∃ oe vs, h.get? a = some oe ∧ Zc cls d oe ∧ oe.data = .fields vs := by
  have x : ObjOk P w H h a (.ext fun h => ∃ oe vs, h.get? a = some oe ∧ Zc cls d oe ∧ oe.data = .fields vs) := ok a _ e
  exact x.1

section
variable {X : Cx} {pins : List (Addr × Obj)} {σ : L2.St} {H : Hp} {sI s' s : Shared} {B : Heap}
/-- back on the ground, the exception tracked -/
theorem landedK {a : Addr} {cls : Value} {d : Option Addr} {oe : Obj} {vs : Array Value} (I : Inv X pins σ H sI) (nb : ∀ b o, sI.heap.get? b = some o → b ∉ frs X.stack → B.get? b = some o) (st : B.StaysIn s'.heap)
    (up : sI.heap.UpToSlots s'.heap) (os : s'.os = sI.os) (ag : AllBare s'.gens) (na : H a = none) (nB : B.get? a = none) (nf : a ∉ frs X.stack) (he : s'.heap.get? a = some oe) (hz : Zc cls d oe) (hd : oe.data = .fields vs) :
    Inv X pins σ (upd H a (exT a cls d)) s' := by
  have nI : ∀ b o, sI.heap.get? b = some o → b ≠ a := fun b o e z => by
    subst z
    rw [nb b o e nf] at nB
    cases nB
  have fr : ∀ b ∈ frs X.stack, ∀ o, sI.heap.get? b = some o → ∃ sl, s'.heap.get? b = some { o with slots := sl } := fun b hb o e => by
    obtain ⟨_, o', e', q⟩ := I.stack.mem hb
    rw [e] at e'
    cases e'
    exact up b o e q
  have hk : HOk X.prog X.w H s'.heap := (I.inGround nb).kept st
  have hok : HOk X.prog X.w (upd H a (exT a cls d)) s'.heap := fun b u e => by
    by_cases hb : b = a
    · subst hb
      rw [upd_same] at e
      cases e
      exact exT_ok he hz hd
    · rw [upd_ne hb] at e
      exact (hk b u e).stay (fun _ _ _ z => z) (fun c z => by rw [upd_ne (ne_of_none z na)]; exact z) fun c xs z => by rw [upd_ne (ne_of_none z na)]; exact z
  have un : Un (frs X.stack) [] H (upd H a (exT a cls d)) sI.heap s'.heap := {
    keep := fun b o e _ hb _ => st b o (nb b o e hb)
    slot := fun b o e _ hb _ => fr b hb o e
    free := fun b o e n _ => by rw [upd_ne (nI b o e)]; exact n
    there := fun b o e _ => by
      by_cases hb : b ∈ frs X.stack
      · obtain ⟨sl, q⟩ := fr b hb o e
        exact ⟨_, q⟩
      · exact ⟨o, st b o (nb b o e hb)⟩
    tups := fun b xs e => by rw [upd_ne (ne_of_none e na)]; exact e
    frzs := fun b o u e => by rw [upd_ne (ne_of_none e na)]; exact e
    tbls := fun b ps e => ⟨#[], by rw [upd_ne (ne_of_none e na), e]; simp⟩ }
  exact I.call' (ch := []) os un hok ag fun _ z => nomatch z
theorem inSuite (I : Inv X pins σ H s) (a : Addr) : Inv (X.suite a (X.pn ++ pins)) [] σ H s :=
  ⟨I.ok.suite _ _, I.os, I.bare, I.base, I.loc, I.cell, I.free, I.freeC, fun p hp => I.pin p (by rw [List.append_nil] at hp; exact hp), I.hok, I.len⟩
theorem outSuite {a : Addr} {pn' : List (Addr × Obj)} (I : Inv (X.suite a (X.pn ++ pins)) pn' σ H s) (ok : X.Ok) : Inv X pins σ H s :=
  ⟨ok, I.os, I.bare, I.base, I.loc, I.cell, I.free, I.freeC, fun p hp => I.pin p (List.mem_append_left _ hp), I.hok, I.len⟩
end

/-- what 'except x as n' wishes of an exception of the body, where the suite keeps it as a value -/
def wKeep (K : PySem.W.Frag) (c : Value) (i : Nat) (ts : TS) (Wout : WX) (D : Ends) : WX := fun cls d σ H =>
  ∃ b, PySem.W.exmOne K cls c = some b ∧
    (b = true → ∀ a, H a = none → ts { nx := fun σ' G => D.nx (σ'.set i none) G, rt := D.rt, bk := fun σ' G => D.bk (σ'.set i none) G, ct := fun σ' G => D.ct (σ'.set i none) G } (σ.set i (some (.ref a))) (upd H a (exT a cls d))) ∧
    (b = false → Wout cls d σ H)

section
variable {X : Cx} {x n : Str} {c : Value} {i : Nat} {body rest : List Stmt} {b₀ : Stmt} {np pos pos' : Pos} {tb : WX → TS} {ts : TS} {Wout : WX}
theorem ps_try_keep (hs : X.stack = X.env :: X.outer) (hf : X.env.frame = some X.env.locals) (hN : X.N.Nodup) (hi : X.N[i]? = some n) (hln : X.env.kindOf n = some .local) (hc : Names X x c) (tk : Takes X Wout)
    (hb : ∀ (W : WX) (pn : List (Addr × Obj)) (xe : Value → Shared → Prop), Takes (X.tr pn xe) W → PassesOwn (model X.prog X.w) X.A X.env xe → PSs (X.tr pn xe) body (tb W))
    (hsu : ∀ (a : Addr) (pn : List (Addr × Obj)), PSs (X.suite a pn) (b₀ :: rest) ts) :
    PS X (.Try body [.ExceptHandler (some (.Name x np)) (some n) (b₀ :: rest) pos'] [] [] pos) (fun D σ H => tb (wKeep X.K c i ts Wout D) D σ H) := by
  refine ⟨fun pins s σ H D I h => ?_⟩
  have ok := I.ok
  have hfr : X.A.frames = some (X.env :: X.outer) := by rw [ok.frames, hs]
  have hloc : Loc X.env.scope n := .inl hln
  refine wpAny_Try_except ?_
  refine wpAny_mono ((hb (wKeep X.K c i ts Wout D) (X.pn ++ pins)
    (fun e s₁ => wpAny (model X.prog X.w) X.A (noteFrame e X.env) (fun _ s₂ => wpAny (model X.prog X.w) X.A (setFlight e none)
      (fun _ s₃ => wpAny (model X.prog X.w) X.A (handleBy e X.env [.ExceptHandler (some (.Name x np)) (some n) (b₀ :: rest) pos']) (SP X pins D) X.xe s₃) X.xe s₂) X.xe s₁)
    (fun u s' xx => ?_) PassesOwn.looking).run [] s σ H D (I.toTry _) h) (fun f s1 q => ?_) (fun _ _ z => z)
  · obtain ⟨a, B, sI, pins', σ', G, cls, d, rfl, J', nb, up, sky, na, os, ag, b, hb1, yes, no⟩ := xx
    have J : Inv X pins σ' G sI := J'.ofTry ok
    have sky2 : Sky B (X.env :: X.outer) a (Zc cls d) X.env.locals s'.heap := by rw [← hs]; exact sky
    show wpAny (model X.prog X.w) X.A (noteFrame (.ref a) X.env) _ _ _
    refine Sky.land Zc.steady hfr hf sky2 fun h3 fl3 up3 => ?_
    obtain ⟨oe3, vs3, he3, hz3, hd3⟩ := fl3.there
    have nfr : a ∉ frs X.stack := by
      rw [hs]
      intro hm
      obtain ⟨_, o, e, q⟩ := fl3.2.2.1.mem hm
      rw [he3] at e
      cases e
      exact q _ hd3
    have J3 := landedK (s' := { s' with heap := h3 }) J nb fl3.1 (up.trans up3) os ag na fl3.2.1 nfr he3 hz3 hd3
    have S3 := inSuite J3 a
    refine wpAny_handleBy_cons (codeAny_handlers_test ?_) (by intro q; cases q)
    have LT : PySem.W.Looks (model X.prog X.w) h3 (typeOf (.ref a)) cls := fun A Q E s k q => wpAny_typeOf_ref (k _ _ he3) (by rw [hz3.1]; exact q)
    have LM := PySem.W.exm_one (M := model X.prog X.w) J3.kIn LT hb1
    have test : ∀ {Q : Value → Shared → Prop} {E : Value → Shared → Prop}, Q c { s' with heap := h3 } → wpAny (model X.prog X.w) (X.A.mark (some (.ref a))) (eval (.Name x np) X.env) Q E { s' with heap := h3 } := fun {Q E} q => by
      obtain ⟨z1, z2, z3 | ⟨z3, z4, z5⟩⟩ := hc
      · exact ld_glob S3 z1 z3 q z2
      · exact ld_blt S3 z1 z3 z4 q z5 z2
    refine test (LM.here ?_)
    cases b with
    | true =>
      refine codeAny_handlers_suite_as ?_
      refine HandSPX.lands_againZ fl3 fun h4 fl4 up4 => ?_
      obtain ⟨oe4, vs4, he4, hz4, hd4⟩ := fl4.there
      have J4 := landedK (s' := { s' with heap := h4 }) J nb fl4.1 ((up.trans up3).trans up4) os ag na fl4.2.1 nfr he4 hz4 hd4
      refine store_ok (X := X.suite a (X.pn ++ pins)) (v := .ref a) (inSuite J4 a) hN hi hloc rfl (fun s5 S5 => ?_) (.inr hln)
      have leave : ∀ {σ6 : L2.St} {G6 : Hp} {s6 : Shared} {Q : Shared → Prop}, Inv (X.suite a (X.pn ++ pins)) [] σ6 G6 s6 → (∀ s7, Inv X pins (σ6.set i none) G6 s7 → Q s7) →
          wpAny (model X.prog X.w) X.A (do bindName X.env n .none; unbindBehindTheSuite X.env n pos') (fun _ s7 => Q s7) X.xe s6 := fun S6 hq => gone_ok (outSuite S6 ok) hN hi hln hq
      refine wpAny_mono ((hsu a (X.pn ++ pins)).run [] s5 _ _ _ S5 (yes rfl a na)) (fun f s6 q => ?_) (fun _ _ z => False.elim z)
      match f, q with
      | .next, ⟨σ6, G6, S6, q6⟩ => exact leave S6 fun s7 J7 => ⟨_, _, J7, q6⟩
      | .brk, ⟨σ6, G6, S6, q6⟩ => exact leave S6 fun s7 J7 => ⟨_, _, J7, q6⟩
      | .cont, ⟨σ6, G6, S6, q6⟩ => exact leave S6 fun s7 J7 => ⟨_, _, J7, q6⟩
      | .ret u, ⟨v6, σ6, G6, S6, r6, q6⟩ => exact leave S6 fun s7 J7 => ⟨_, _, _, J7, r6, q6⟩
    | false =>
      show wpAny _ X.A (handleBy (.ref a) X.env []) _ _ _
      refine wpAny_handleBy_nil ?_
      obtain ⟨k1, k2, k3, oe, vs, T, oT, ts', he, hz, hd, h1, hr⟩ := id fl3
      unfold PySem.passOn
      refine wpAny_bind (wpAny_field he hd h1 ?_)
      rw [if_neg (show ¬ ((Value.ref T == Value.none) = true) from by simp)]
      have fin : wpAny (model X.prog X.w) X.A (setFlight (.ref a) X.env.frame) (fun _ s4 => wpAny (model X.prog X.w) X.A (throw (.ref a) : Sem Flow) (SP X pins D) X.xe s4) X.xe { s' with heap := h3 } := by
        rw [hf]
        refine HandSPX.setFlight_upZ fl3 fun h4 hh4 up4 => wpAny_throw (tk _ _ ?_)
        exact ⟨a, B, sI, pins, σ', G, cls, d, rfl, J, nb, (up.trans up3).trans up4, .inr (.inr (by rw [hs]; exact hh4)), na, os, ag, no rfl⟩
      first
        | exact wpAny_bind (wpAny_pure (wpAny_bind fin))
        | exact wpAny_bind fin
  · match f, q with
    | .next, ⟨σ', G, J', z⟩ => exact wpAny_execs_nil ⟨σ', G, J'.ofTry ok, z⟩
    | .brk, ⟨σ', G, J', z⟩ => exact ⟨σ', G, J'.ofTry ok, z⟩
    | .cont, ⟨σ', G, J', z⟩ => exact ⟨σ', G, J'.ofTry ok, z⟩
    | .ret u, ⟨v, σ', G, J', r, z⟩ => exact ⟨v, σ', G, J'.ofTry ok, r, z⟩
end

/-! ### such a value's class and fields -/
/-- what an own exception class must have -/
structure ExC (K : PySem.W.Frag) (C : Addr) : Prop where
  ga : PySem.W.findIn K (.ref C) "__getattribute__" = some (some (.builtin "BaseException.__getattribute__"))
  gg : PySem.W.findIn K (.ref C) "__getattr__" = some none
  sub : PySem.W.subIn K (.ref C) (.type "BaseException") = some true
  hd : PySem.W.hasDictIn K C = true
  ha : PySem.W.findIn K (.ref C) "__class__" = some (some (.builtin "object.__class__"))
  hn : PySem.W.specialIn K (.builtin "object.__class__") "__get__" = some (some (.builtin "getset_descriptor.__get__"))
  ht : PySem.W.takesIn K (.builtin "object.__class__") = some true
  hm : PySem.W.mroIn K C (.type "object") = some true
theorem instAt_of {h : Heap} {a C : Addr} {oe od : Obj} {vs : Array Value} {d : Addr} (he : h.get? a = some oe) (hz : Zc (.ref C) (some d) oe) (hf : oe.data = .fields vs) (ho : h.get? d = some od) : PySem.W.InstAt h a oe C (some od) := by
  obtain ⟨c1, d1, dt, sl⟩ := oe
  obtain ⟨rfl, rfl⟩ := hz
  dsimp only at hf
  subst hf
  exact ⟨he, rfl, rfl, ho⟩
theorem instAt_of0 {h : Heap} {a C : Addr} {oe : Obj} {vs : Array Value} (he : h.get? a = some oe) (hz : Zc (.ref C) none oe) (hf : oe.data = .fields vs) : PySem.W.InstAt h a oe C none := by
  obtain ⟨c1, d1, dt, sl⟩ := oe
  obtain ⟨rfl, rfl⟩ := hz
  dsimp only at hf
  subst hf
  exact ⟨he, rfl, rfl, trivial⟩
section
variable {X : Cx} {e : Expr} {te : TE} {f : Str} {pos : Pos}
/-- e.f -/
def tExf (K : PySem.W.Frag) (f : Str) (te : TE) : TE := fun σ H Q => te σ H fun x G => ∃ (a C d : Addr) (fs : List (Str × V)) (v : V), x = .ref a ∧ G a = some (exT a (.ref C) (some d)) ∧ G d = some (.xd fs) ∧ ExC K C ∧ PySem.W.findIn K (.ref C) f = some none ∧ fs.lookup f = some v ∧ Q v G
theorem pe_exf (he : PE X e te) (hb : attributeBase e f X.env (eval e X.env) = eval e X.env := by rfl) : PE X (.Attribute e f pos) (tExf X.K f te) := by
  refine ⟨fun pins s σ H Q I h => attr_of hb (thn (he.run pins s σ H _ I h) fun u s1 ⟨x, G, I1, rx, a, C, d, fs, v, ex, ea, ed, T, no, l, q⟩ => ?_)⟩
  subst ex
  obtain rfl : u = Value.ref a := rx
  obtain ⟨oe, vs, z1, z2, z3⟩ := exT_at I1.hok ea
  obtain ⟨mA, hns, hr⟩ := (show ObjOk X.prog X.w G s1.heap d (.xd fs) from I1.hok d _ ed)
  obtain ⟨od, ho, hl⟩ := lookIn_ns hns
  obtain ⟨w', hu, ru⟩ := RelO.some_of (v := v) (o := mA f) (by rw [← l]; exact hr f)
  exact HandSPX.exc_get I1.kIn (instAt_of z1 z2 z3 ho) T.ga T.gg T.sub (PySem.W.findObj_own T.hd no rfl (by rw [hl, hu])) (handed_of ru) ⟨v, G, I1.tok _, ru, q⟩
/-- isinstance(e, c) -/
def rIsX (K : PySem.W.Frag) : List V → Hp → VK → Prop := fun xs H Q => ∃ (a D : Addr) (d : Option Addr) (c : V) (cv : Value) (b : Bool), xs = [.ref a, c] ∧ H a = some (exT a (.ref D) d) ∧ (∀ dd, d = some dd → ∃ fs, H dd = some (.xd fs)) ∧ ExC K D ∧ (∀ u, RelV c u → u = cv) ∧
  PySem.W.kitOne K (.ref D) cv = some b ∧ Q (.bl b) H
theorem call_isX : CallR X (.builtin "isinstance") (rIsX X.K) := by
  intro pins s σ H xs us Q I r h
  obtain ⟨a, D, d, c, cv, b, rfl, ea, ed, T, hc, hk, q⟩ := h
  obtain ⟨u, u2, rfl, r1, r2⟩ := vals2 r
  cases r1
  have e2 := hc _ r2
  subst e2
  obtain ⟨oe, vs, z1, z2, z3⟩ := exT_at I.hok ea
  have hcl : (PySem.W.clsIn X.K D).isSome = true := by
    obtain ⟨cd, z, _⟩ := PySem.W.any_some T.hd
    rw [z]
    rfl
  cases d with
  | none => exact PySem.W.kia_one (PySem.W.kitx_exc hcl T.ga T.gg T.sub T.ha T.hn T.ht T.hm) I.kIn (instAt_of0 z1 z2 z3) hk (fun z => nomatch z) fun tk => ⟨.bl b, H, I.kept (t' := tk) fun _ _ z => z, rfl, q⟩
  | some dd =>
    obtain ⟨fs, ed⟩ := ed dd rfl
    obtain ⟨mA, ⟨od, _, _, ho, _⟩, _⟩ := (show ObjOk X.prog X.w H s.heap dd (.xd fs) from I.hok dd _ ed)
    exact PySem.W.kia_one (PySem.W.kitx_exc hcl T.ga T.gg T.sub T.ha T.hn T.ht T.hm) I.kIn (instAt_of z1 z2 z3 ho) hk (fun z => nomatch z) fun tk => ⟨.bl b, H, I.kept (t' := tk) fun _ _ z => z, rfl, q⟩
end
end HX

set_option Elab.async false
set_option linter.all false
set_option maxRecDepth 100000
set_option maxHeartbeats 2000000
namespace HX
open PySem PySem.Spec PyProof.Rows L2

/-! ### own error classes whose __init__ keeps one field, two fields -/
def spI1 (C : Addr) (f : Str) : Sp := fun vs H Q _ => ∃ (a : Addr) (v : V), vs = [.ref a, v] ∧ H a = some (exo a C none) ∧
  ∀ dx, H dx = none → dx ≠ a → Q .non (upd (upd H dx (exd dx [(f, v)])) a (exo a C (some dx)))
def spI2 (C : Addr) (f g : Str) : Sp := fun vs H Q _ => ∃ (a : Addr) (v u : V), vs = [.ref a, v, u] ∧ H a = some (exo a C none) ∧
  ∀ dx, H dx = none → dx ≠ a → Q .non (upd (upd (upd H dx (exd dx [(f, v)])) a (exo a C (some dx))) dx (exd dx [(g, u), (f, v)]))
/-- what the written part says of such a class -/
structure RxC (K : PySem.W.Frag) (mg : Str → Option Value) (x : Str) (C fI : Addr) : Prop where
  o : OexC K C
  iC : PySem.W.findIn K (.ref C) "__init__" = some (some (.ref fI))
  tI : PySem.W.typeIn K (.ref fI) = some (.type "function")
  gC : mg x = some (.ref C)
section
variable {P : Program} {w : World} {K : PySem.W.Frag} {mg : Str → Option Value} {base : Heap} {C fI : Addr} {fd : FuncData} {qual f g : Str} {st : Stmt}
theorem ok_init1 (F : Fun K "__init__" qual st fI fd) (T : OexC K C) (no : PySem.W.findIn K (.ref C) f = some none) (S : FnScope ["self", f] ["self", f] (defScope st))
    (hb : ∃ p1 p2 p3 p4, defBody st = [.Assign [.Attribute (.Name "self" p1) f p2] (.Name f p3) p4])
    (v0 : Vis (defScope st) "self" := by exact Or.inl rfl) (v1 : Vis (defScope st) f := by exact Or.inl rfl)
    (hd : (f == ("__debug__" : Str)) = false := by decide) (hcd : (f == ("__classdict__" : Str)) = false := by decide) : FnOk P w K mg base CX0 1 fI fd ["self", f] (spI1 C f) := by
  obtain ⟨p1, p2, p3, p4, eb⟩ := hb
  refine F.ok S (fun vs H Q E h => ?_) (fun cdv A outer s H vs Q E hr h => ?_)
  · obtain ⟨a, v, rfl, _⟩ := h
    rfl
  · obtain ⟨a, v, rfl, ha, k⟩ := h
    rw [eb]
    refine ⟨_, pss_one (ps_ost (pe_var (i := 0) rfl v0) (pe_var (i := 1) rfl v1 hd hcd)), ?_⟩
    exact ⟨v, rfl, _, rfl, a, C, rfl, T, no, .inl ⟨ha, fun dx n ne => k dx n ne⟩⟩
theorem ok_init2 (F : Fun K "__init__" qual st fI fd) (T : OexC K C) (no : PySem.W.findIn K (.ref C) f = some none) (no2 : PySem.W.findIn K (.ref C) g = some none) (S : FnScope ["self", f, g] ["self", f, g] (defScope st))
    (hb : ∃ p1 p2 p3 p4 q1 q2 q3 q4, defBody st = [.Assign [.Attribute (.Name "self" p1) f p2] (.Name f p3) p4, .Assign [.Attribute (.Name "self" q1) g q2] (.Name g q3) q4])
    (v0 : Vis (defScope st) "self" := by exact Or.inl rfl) (v1 : Vis (defScope st) f := by exact Or.inl rfl) (v2 : Vis (defScope st) g := by exact Or.inl rfl)
    (hd : (f == ("__debug__" : Str)) = false := by decide) (hcd : (f == ("__classdict__" : Str)) = false := by decide)
    (hd2 : (g == ("__debug__" : Str)) = false := by decide) (hcd2 : (g == ("__classdict__" : Str)) = false := by decide) : FnOk P w K mg base CX0 1 fI fd ["self", f, g] (spI2 C f g) := by
  obtain ⟨p1, p2, p3, p4, q1, q2, q3, q4, eb⟩ := hb
  refine F.ok S (fun vs H Q E h => ?_) (fun cdv A outer s H vs Q E hr h => ?_)
  · obtain ⟨a, v, u, rfl, _⟩ := h
    rfl
  · obtain ⟨a, v, u, rfl, ha, k⟩ := h
    rw [eb]
    refine ⟨_, pss_cons (ps_ost (pe_var (i := 0) rfl v0) (pe_var (i := 1) rfl v1 hd hcd)) (pss_one (ps_ost (pe_var (i := 0) rfl v0) (pe_var (i := 2) rfl v2 hd2 hcd2))), ?_⟩
    refine ⟨v, rfl, _, rfl, a, C, rfl, T, no, .inl ⟨ha, fun dx n ne => ?_⟩⟩
    exact ⟨u, rfl, _, rfl, a, C, rfl, T, no2, .inr ⟨dx, [(f, v)], upd_same, by rw [upd_ne ne, upd_same], by show 1 ≤ 900; decide, k dx n ne⟩⟩
end

theorem lay_gone {H : Hp} {a dx : Addr} {o1 o2 o3 u : HO} (na : H a = none) (ne : dx ≠ a) : upd (del (upd (upd (upd H a o1) dx o2) a o3) a) dx u = upd H dx u := by
  funext b
  by_cases h1 : b = dx
  · rw [h1, upd_same, upd_same]
  · rw [upd_ne h1, upd_ne h1]
    by_cases h2 : b = a
    · rw [h2, del_same, na]
    · rw [del_ne h2, upd_ne h2, upd_ne h1, upd_ne h2]
theorem lay_gone2 {H : Hp} {a dx : Addr} {o1 o2 o3 o4 u : HO} (na : H a = none) (ne : dx ≠ a) : upd (del (upd (upd (upd (upd H a o1) dx o2) a o3) dx o4) a) dx u = upd H dx u := by
  funext b
  by_cases h1 : b = dx
  · rw [h1, upd_same, upd_same]
  · rw [upd_ne h1, upd_ne h1]
    by_cases h2 : b = a
    · rw [h2, del_same, na]
    · rw [del_ne h2, upd_ne h1, upd_ne h2, upd_ne h1, upd_ne h2]

/-- the answer where such an error is made: its own dict d is new and holds the field -/
theorem mk1_ans {H : Hp} {C : Addr} {f : Str} {v : V} {Q : XK} (h : ∀ d, H d = none → Q (.ref C) (some d) (upd H d (.xd [(f, v)]))) :
    [v].length ≤ 1000 ∧ ∀ a, H a = none → spI1 C f (.ref a :: ([v] ++ [])) (upd H a (exo a C none))
      (fun u G => u = .non ∧ ∃ (d : Addr) (fs : List (Str × V)), G a = some (exo a C (some d)) ∧ G d = some (exd d fs) ∧ H d = none ∧ Q (.ref C) (some d) (upd (del G a) d (.xd fs))) (fun _ _ _ => False) := by
  refine ⟨by show 1 ≤ 1000; decide, fun a na => ⟨a, v, rfl, upd_same, fun dx nx ne => ?_⟩⟩
  rw [upd_ne ne] at nx
  exact ⟨rfl, dx, _, upd_same, by rw [upd_ne ne, upd_same], nx, by rw [lay_gone na ne]; exact h dx nx⟩
theorem mk2_ans {H : Hp} {C : Addr} {f g : Str} {v u : V} {Q : XK} (h : ∀ d, H d = none → Q (.ref C) (some d) (upd H d (.xd [(g, u), (f, v)]))) :
    [v, u].length ≤ 1000 ∧ ∀ a, H a = none → spI2 C f g (.ref a :: ([v, u] ++ [])) (upd H a (exo a C none))
      (fun z G => z = .non ∧ ∃ (d : Addr) (fs : List (Str × V)), G a = some (exo a C (some d)) ∧ G d = some (exd d fs) ∧ H d = none ∧ Q (.ref C) (some d) (upd (del G a) d (.xd fs))) (fun _ _ _ => False) := by
  refine ⟨by show 2 ≤ 1000; decide, fun a na => ⟨a, v, u, rfl, upd_same, fun dx nx ne => ?_⟩⟩
  rw [upd_ne ne] at nx
  exact ⟨rfl, dx, _, by rw [upd_ne (Ne.symm ne), upd_same], upd_same, nx, by rw [lay_gone2 na ne]; exact h dx nx⟩
section
variable {X : Cx} {x f g : Str} {C fI : Addr} {fd : FuncData} {k : Nat} {e : Expr} {es : List Expr} {ta : TA} {W : WX} {p pos pos2 : Pos} {ps : List Str} {sp : Sp}
/-- raise C(e, ..) -/
theorem ps_raiseO (hc : X.calm = true) (T : RxC X.K X.mg x C fI) (F : FnOk X.prog X.w X.K X.mg X.base CX0 k fI fd ps sp) (b : Binds X.K fd ps []) (hr : Room (k + 1) X.A) (tk : Takes X W) (he : PA X (e :: es) ta) (hg : Gl X x)
    (hdb : (x == ("__debug__" : Str)) = false := by decide) (hs : starEach (e :: es) X.env = (false, eval e X.env) :: starEach es X.env := by rfl) (hpl : (backTo pos (starEach es X.env)).any (·.1) = false := by rfl) :
    PS X (.Raise (some (.Call (.Name x p) (e :: es) [] pos)) none pos2) (fun _ σ H => tMkO C sp [] ta σ H fun cls d G => W cls d σ G) :=
  ps_raise hc tk (pmk_oex T.o T.iC T.tI F hr b .nil (fun _ _ _ _ _ _ _ z => z.elim) hg T.gC he hdb hs hpl)
end
end HX

set_option Elab.async false
set_option linter.all false
set_option maxRecDepth 100000
set_option maxHeartbeats 2000000
namespace HX
open PySem PySem.Spec PyProof.Rows L2

/-! ### readings that reckon: a name, a test, operators by the values' kinds -/
def cV (i : Nat) : TE := fun σ H Q => match σ[i]? with
  | some (some v) => Q v H
  | _ => False
def cT (te : TE) : TT := fun σ H Q => te σ H fun x G => match x with
  | .bl k => Q k G
  | _ => False
def rI2 (C : Int → Int → Prop) (g : Int → Int → V) : R2 := fun x y H Q => match x, y with
  | .int i, .int j => C i j ∧ Q (g i j) H
  | _, _ => False
/-- one factor below 2 ^ 64, or both together below a million bits -/
def CMulU (i j : Int) : Prop := CMul i j ∨ CMulW i j
def rI1 (g : Int → Int → V) : R2 := fun x y H Q => match x, y with
  | .int i, .int j => Q (g i j) H
  | _, _ => False
def rAdd2 : R2 := fun x y H Q => match x, y with
  | .int i, .int j => Q (.int (i + j)) H
  | .str a, .str b => a.length + b.length ≤ sizeLine ∧ Q (.str (a ++ b)) H
  | _, _ => False
def eqD2 (K : PySem.W.Frag) (a b : Addr) (H : Hp) (Q : Bool → Prop) : Prop := ∃ d e, Dp K H (.ref a) d ∧ Dp K H (.ref b) e ∧ SeqAt.shaped d = true ∧ SeqAt.shaped e = true ∧ Q (PyData.eqv d e)
def rEq2 (K : PySem.W.Frag) (neg : Bool) : R2 := fun x y H Q => match x, y with
  | .int i, .int j => Q (.bl (xor neg (decide (i = j)))) H
  | .str i, .str j => Q (.bl (xor neg (decide (i = j)))) H
  | .bl i, .bl j => Q (.bl (xor neg (decide (i = j)))) H
  | .non, .non => Q (.bl (xor neg true)) H
  | .non, .int _ => Q (.bl neg) H
  | .int _, .non => Q (.bl neg) H
  | .non, .str _ => Q (.bl neg) H
  | .str _, .non => Q (.bl neg) H
  | .int _, .str _ => Q (.bl neg) H
  | .str _, .int _ => Q (.bl neg) H
  | .ref a, .ref b => eqD2 K a b H fun k => Q (.bl (xor neg k)) H
  | _, _ => False
def rOrd2 (g : Int → Int → Bool) (h : Str → Str → Bool) : R2 := fun x y H Q => match x, y with
  | .int i, .int j => Q (.bl (g i j)) H
  | .str i, .str j => Q (.bl (h i j)) H
  | _, _ => False
def rIs2 (neg : Bool) : R2 := fun x y H Q => match y with
  | .non => Q (.bl (xor neg (decide (x = .non)))) H
  | _ => False
/-- t[i]: of lists, tuples, texts, dicts with text keys -/
def rIx2 (K : PySem.W.Frag) : R2 := fun x y H Q => match x, y with
  | .ref p, .int i => ∃ xs v, (SqL K H p xs ∨ SqT K H p xs) ∧ atI xs i = some v ∧ Q v H
  | .str z, .int i => z.length ≤ sizeLine ∧ ∃ c, atI z.cps.toList i = some c ∧ Q (.str ⟨#[c]⟩) H
  | _, _ => False
section
variable {X : Cx} {a b e : Expr} {ta tb te : TE} {pos : Pos} {f : Value → Value → Sem Value}
theorem pc (i : Nat) {x : Str} (hN : X.N[i]? = some x := by rfl) (hv : Vis X.env.scope x := by first | exact Or.inl rfl | exact Or.inr (Or.inl rfl) | exact Or.inr (Or.inr rfl)) (hd : (x == ("__debug__" : Str)) = false := by decide)
    (hcd : (x == ("__classdict__" : Str)) = false := by decide) : PE X (.Name x pos) (cV i) := by
  refine ⟨fun pins s σ H Q I h => ?_⟩
  refine (pe_var hN hv hd hcd).run pins s σ H Q I ?_
  unfold cV at h
  split at h
  · rename_i v e
    exact ⟨v, e, h⟩
  · exact h.elim
theorem opC {C : Int → Int → Prop} {g : Int → Int → V} (h : OpR X f (rI C g)) : OpR X f (rI2 C g) := fun pins s σ H x y v u Q I rx ry q => by
  unfold rI2 at q
  split at q
  · exact h pins s σ H _ _ v u Q I rx ry ⟨_, _, rfl, rfl, q.1, q.2⟩
  · exact q.elim
theorem opC0 {g : Int → Int → V} (h : OpR X f (rI0 g)) : OpR X f (rI1 g) := fun pins s σ H x y v u Q I rx ry q => by
  unfold rI1 at q
  split at q
  · exact h pins s σ H _ _ v u Q I rx ry ⟨_, _, rfl, rfl, q⟩
  · exact q.elim
theorem o_add : OpR X (binaryOp .Add) rAdd2 := fun pins s σ H x y v u Q I rx ry q => by
  unfold rAdd2 at q
  split at q
  · exact op_add pins s σ H _ _ v u Q I rx ry ⟨_, _, rfl, rfl, q⟩
  · exact op_add_str pins s σ H _ _ v u Q I rx ry ⟨_, _, rfl, rfl, q.1, q.2⟩
  · exact q.elim
theorem o_sub : OpR X (binaryOp .Sub) (rI1 fun i j => .int (i - j)) := opC0 op_sub
theorem o_mul : OpR X (binaryOp .Mult) (rI2 CMulU fun i j => .int (i * j)) := fun pins s σ H x y v u Q I rx ry q => by
  unfold rI2 at q
  split at q
  · rcases q.1 with c | c
    · exact op_mul pins s σ H _ _ v u Q I rx ry ⟨_, _, rfl, rfl, c, q.2⟩
    · exact op_mulW pins s σ H _ _ v u Q I rx ry ⟨_, _, rfl, rfl, c, q.2⟩
  · exact q.elim
theorem o_fdiv : OpR X (binaryOp .FloorDiv) (rI2 CDivW fun i j => .int (i / j)) := opC op_fdivW
theorem o_mod : OpR X (binaryOp .Mod) (rI2 (fun _ j => 0 < j) fun i j => .int (i % j)) := opC op_mod
theorem o_pow : OpR X (binaryOp .Pow) (rI2 CPow fun i j => .int (i ^ j.toNat)) := opC op_pow
theorem o_lt : OpR X (compareOp .Lt) (rOrd2 (fun i j => decide (i < j)) fun i j => decide (i.cps.toList < j.cps.toList)) := fun pins s σ H x y v u Q I rx ry q => by
  unfold rOrd2 at q
  split at q
  · exact op_lt pins s σ H _ _ v u Q I rx ry ⟨_, _, rfl, rfl, q⟩
  · exact op_lt_str pins s σ H _ _ v u Q I rx ry ⟨_, _, rfl, rfl, q⟩
  · exact q.elim
theorem o_le : OpR X (compareOp .LtE) (rI1 fun i j => .bl (decide (i ≤ j))) := opC0 op_le
theorem o_gt : OpR X (compareOp .Gt) (rI1 fun i j => .bl (decide (j < i))) := opC0 op_gt
theorem o_ge : OpR X (compareOp .GtE) (rI1 fun i j => .bl (decide (j ≤ i))) := opC0 op_ge
theorem o_is : OpR X (compareOp .Is) (rIs2 false) := fun pins s σ H x y v u Q I rx ry q => by
  unfold rIs2 at q
  split at q
  · exact op_isN pins s σ H _ _ v u Q I rx ry ⟨rfl, by simpa using q⟩
  · exact q.elim
theorem o_isnot : OpR X (compareOp .IsNot) (rIs2 true) := fun pins s σ H x y v u Q I rx ry q => by
  unfold rIs2 at q
  split at q
  · exact op_notN pins s σ H _ _ v u Q I rx ry ⟨rfl, by simpa using q⟩
  · exact q.elim
theorem o_eq (hu : X.A.units + 64 < cLine) : OpR X (compareOp .Eq) (rEq2 X.K false) := fun pins s σ H x y v u Q I rx ry q => by
  unfold rEq2 at q
  split at q
  case h_11 =>
    obtain ⟨d, e, q1, q2, q3, q4, q5⟩ := q
    exact op_eqD hu pins s σ H _ _ v u Q I rx ry ⟨d, e, q1, q2, q3, q4, by simpa using q5⟩
  case h_12 => exact q.elim
  all_goals exact op_eq pins s σ H _ _ v u Q I rx ry ⟨rfl, by simpa [dec_int, dec_bl, dec_str] using q⟩
theorem o_ne (hu : X.A.units + 64 < cLine) : OpR X (compareOp .NotEq) (rEq2 X.K true) := fun pins s σ H x y v u Q I rx ry q => by
  unfold rEq2 at q
  split at q
  case h_11 =>
    obtain ⟨d, e, q1, q2, q3, q4, q5⟩ := q
    exact op_neD hu pins s σ H _ _ v u Q I rx ry ⟨d, e, q1, q2, q3, q4, by simpa using q5⟩
  case h_12 => exact q.elim
  all_goals exact op_ne pins s σ H _ _ v u Q I rx ry ⟨rfl, by simpa [dec_int, dec_bl, dec_str] using q⟩
theorem ix2 : IxR X (rIx2 X.K) := fun ve se pins s σ H x y v u Q I rx ry q hs => by
  unfold rIx2 at q
  split at q
  · obtain ⟨xs, w', z | z, h1, h2⟩ := q
    · exact ix_list ve se pins s σ H _ _ v u Q I rx ry ⟨_, xs, _, w', rfl, rfl, z, h1, h2⟩ hs
    · exact ix_tup ve se pins s σ H _ _ v u Q I rx ry ⟨_, xs, _, w', rfl, rfl, z, h1, h2⟩ hs
  · obtain ⟨h1, c, h2, h3⟩ := q
    exact ix_str ve se pins s σ H _ _ v u Q I rx ry ⟨_, _, c, rfl, rfl, h1, h2, h3⟩ hs
  · exact q.elim
theorem p_ix (ha : PE X a ta) (hb : PE X b tb) (hs : PlainIx b := by exact fun _ _ => rfl) : PE X (.Subscript a b pos) (tOp (rIx2 X.K) ta tb) := pe_ix ix2 ha hb hs
theorem p_cmp {op : CmpOp} {r : R2} (ho : OpR X (compareOp op) r) (ha : PE X a ta) (hb : PE X b tb) (hm : behindInMarks op b = false := by first | exact nomark _ | rfl) : PE X (.Compare a [op] [b] pos) (tOp r ta tb) := pe_cmpR ho ha hb hm
theorem tT_of {te : TE} {σ : L2.St} {H : Hp} {Q : Bool → Hp → Prop} (mono : ∀ {R R' : VK}, (∀ v G, R v G → R' v G) → te σ H R → te σ H R') (h : cT te σ H Q) : tTest te σ H Q :=
  mono (fun v G q => by
    split at q
    · exact ⟨_, rfl, q⟩
    · exact q.elim) h
/-- a value that is True or False as a test -/
theorem t_val (h : PE X e te) (he : ∀ whole, isTrue e X.env whole = (do let v ← whole; standAt e.pos; holding [v] (truthy v)) := by intro _; rfl) : PT X e (cT te) := by
  refine ⟨fun pins s σ H Q I hw => isTrue_plain (thn (h.run pins s σ H _ I hw) fun v s1 ⟨x, G, I1, r1, q1⟩ => ?_) (he _)⟩
  dsimp only at q1
  split at q1
  · cases r1
    exact wpAny_truthy_bool ⟨G, I1, q1⟩
  · exact q1.elim
theorem t_cmp {op : CmpOp} {r : R2} (ho : OpR X (compareOp op) r) (ha : PE X a ta) (hb : PE X b tb) (hm : behindInMarks op b = false := by first | exact nomark _ | rfl) : PT X (.Compare a [op] [b] pos) (cT (tOp r ta tb)) := by
  refine ⟨fun pins s σ H Q I h => wpAny_isTrue_Compare1 (thn (ha.run pins s σ H _ I h) fun v s1 ⟨x, H1, I1, r1, q1⟩ => thn (hb.run pins s1 σ H1 _ I1 q1) fun u s2 ⟨y, H2, I2, r2, q2⟩ =>
    thn (ho pins s2 σ H2 x y v u _ I2 r1 r2 q2) fun c s3 ⟨z, H3, I3, r3, q3⟩ => ?_) hm⟩
  dsimp only at q3
  split at q3
  · cases r3
    exact wpAny_truthy_bool ⟨H3, I3, q3⟩
  · exact q3.elim
/-! ### ways: each under its own answer -/
def cIfS (c : TT) (t u : TS) : TS := fun D σ H => c σ H fun b G => (b = true → t D σ G) ∧ (b = false → u D σ G)
theorem s_if {c : Expr} {p q : List Stmt} {tc : TT} {t u : TS} (hc : PT X c tc) (hp : PSs X p t) (hq : PSs X q u) : PS X (.If c p q pos) (cIfS tc t u) := by
  refine ⟨fun pins s σ H D I h => wpAny_If (thn (hc.run pins s σ H _ I h) fun d s1 ⟨G, I1, z⟩ => ?_)⟩
  cases d with
  | true => exact hp.run pins s1 σ G D I1 (z.1 rfl)
  | false => exact hq.run pins s1 σ G D I1 (z.2 rfl)
def cIfE (t : TT) (ta tb : TE) : TE := fun σ H Q => t σ H fun c G => (c = true → ta σ G Q) ∧ (c = false → tb σ G Q)
theorem e_if {c : Expr} {tc : TT} (hc : PT X c tc) (ha : PE X a ta) (hb : PE X b tb) : PE X (.IfExp c a b pos) (cIfE tc ta tb) := by
  refine ⟨fun pins s σ H Q I h => wpAny_IfExp (thn (hc.run pins s σ H _ I h) fun d s1 ⟨G, I1, z⟩ => ?_)⟩
  cases d with
  | true => exact ha.run pins s1 σ G Q I1 (z.1 rfl)
  | false => exact hb.run pins s1 σ G Q I1 (z.2 rfl)
def cAnd (t u : TT) : TT := fun σ H Q => t σ H fun c G => (c = true → u σ G Q) ∧ (c = false → Q false G)
def cOr (t u : TT) : TT := fun σ H Q => t σ H fun c G => (c = true → Q true G) ∧ (c = false → u σ G Q)
theorem w_and {rest : List Expr} {t u : TT} (ha : PT X a t) (hb : PW X (.BoolOp .And (b :: rest) pos) u) : PW X (.BoolOp .And (a :: b :: rest) pos) (cAnd t u) := by
  refine ⟨fun wh pins s σ H Q I h => isTrue_and (thn (ha.run pins s σ H _ I h) fun c s1 ⟨G, I1, z⟩ => ?_)⟩
  cases c with
  | true => exact hb.run wh pins s1 σ G Q I1 (z.1 rfl)
  | false => exact ⟨G, I1, z.2 rfl⟩
theorem w_or {rest : List Expr} {t u : TT} (ha : PT X a t) (hb : PW X (.BoolOp .Or (b :: rest) pos) u) : PW X (.BoolOp .Or (a :: b :: rest) pos) (cOr t u) := by
  refine ⟨fun wh pins s σ H Q I h => isTrue_or (thn (ha.run pins s σ H _ I h) fun c s1 ⟨G, I1, z⟩ => ?_)⟩
  cases c with
  | true => exact ⟨G, I1, z.1 rfl⟩
  | false => exact hb.run wh pins s1 σ G Q I1 (z.2 rfl)
/-- and, or, not as values, of True and False -/
def cAndV (ta tb : TE) : TE := fun σ H Q => ta σ H fun x G => match x with
  | .bl c => (c = true → tb σ G Q) ∧ (c = false → Q (.bl false) G)
  | _ => False
def cOrV (ta tb : TE) : TE := fun σ H Q => ta σ H fun x G => match x with
  | .bl c => (c = true → Q (.bl true) G) ∧ (c = false → tb σ G Q)
  | _ => False
def cNotV (ta : TE) : TE := fun σ H Q => ta σ H fun x G => match x with
  | .bl c => Q (.bl (!c)) G
  | _ => False
theorem e_and {rest : List Expr} (ha : PE X a ta) (hb : PE X (.BoolOp .And (b :: rest) pos) tb) : PE X (.BoolOp .And (a :: b :: rest) pos) (cAndV ta tb) := by
  refine ⟨fun pins s σ H Q I h => BoolOp_and (thn (ha.run pins s σ H _ I h) fun v s1 ⟨x, G, I1, r1, z⟩ => ?_)⟩
  dsimp only at z
  split at z
  · rename_i c
    cases r1
    refine wpAny_truthy_bool ?_
    cases c with
    | true => exact hb.run pins s1 σ G Q I1 (z.1 rfl)
    | false => exact ⟨.bl false, G, I1, rfl, z.2 rfl⟩
  · exact z.elim
theorem e_or {rest : List Expr} (ha : PE X a ta) (hb : PE X (.BoolOp .Or (b :: rest) pos) tb) : PE X (.BoolOp .Or (a :: b :: rest) pos) (cOrV ta tb) := by
  refine ⟨fun pins s σ H Q I h => BoolOp_or (thn (ha.run pins s σ H _ I h) fun v s1 ⟨x, G, I1, r1, z⟩ => ?_)⟩
  dsimp only at z
  split at z
  · rename_i c
    cases r1
    refine wpAny_truthy_bool ?_
    cases c with
    | false => exact hb.run pins s1 σ G Q I1 (z.2 rfl)
    | true => exact ⟨.bl true, G, I1, rfl, z.1 rfl⟩
  · exact z.elim
theorem e_not (ha : PE X a ta) : PE X (.UnaryOp .Not a pos) (cNotV ta) := by
  refine ⟨fun pins s σ H Q I h => UnaryOp_ (thn (ha.run pins s σ H _ I h) fun v s1 ⟨x, G, I1, r1, z⟩ => ?_)⟩
  dsimp only at z
  split at z
  · cases r1
    exact not_of (wpAny_truthy_bool ⟨.bl _, G, I1, rfl, z⟩)
  · exact z.elim
/-- a op b op' c, as a test, as a value -/
def cChain (r r' : R2) (ta tb tc : TE) : TE := fun σ H Q => ta σ H fun x H1 => tb σ H1 fun y H2 => r x y H2 fun z H3 => match z with
  | .bl k => (k = true → tc σ H3 fun u H4 => r' y u H4 Q) ∧ (k = false → Q (.bl false) H3)
  | _ => False
theorem t_chain {c : Expr} {tc : TE} {op op' : CmpOp} {r r' : R2} (ho : OpR X (compareOp op) r) (ho' : OpR X (compareOp op') r') (ha : PE X a ta) (hb : PE X b tb) (hc : PE X c tc)
    (hm : lastMarks [op, op'] [b, c] = false := by with_unfolding_all rfl) : PT X (.Compare a [op, op'] [b, c] pos) (cT (cChain r r' ta tb tc)) := by
  refine ⟨fun pins s σ H Q I h => isTrue_chain (thn (ha.run pins s σ H _ I h) fun v s1 ⟨x, H1, I1, r1, q1⟩ => test_link (thn (hb.run pins s1 σ H1 _ I1 q1) fun u s2 ⟨y, H2, I2, r2, q2⟩ =>
    thn (ho pins s2 σ H2 x y v u _ I2 r1 r2 q2) fun d s3 ⟨z, H3, I3, r3, q3⟩ => ?_)) hm⟩
  dsimp only at q3
  split at q3
  · rename_i k
    cases r3
    refine wpAny_truthy_bool ?_
    cases k with
    | false => exact ite_ff ⟨H3, I3, q3.2 rfl⟩
    | true =>
      refine ite_tt (test_last (thn (hc.run pins s3 σ H3 _ I3 (q3.1 rfl)) fun w4 s4 ⟨z4, H4, I4, r4, q4⟩ => thn (ho' pins s4 σ H4 y z4 u w4 _ I4 r2 r4 q4) fun d' s5 ⟨z5, H5, I5, r5, q5⟩ => ?_))
      dsimp only at q5
      split at q5
      · cases r5
        exact wpAny_truthy_bool ⟨H5, I5, q5⟩
      · exact q5.elim
  · exact q3.elim
theorem e_chain {c : Expr} {tc : TE} {op op' : CmpOp} {r r' : R2} (ho : OpR X (compareOp op) r) (ho' : OpR X (compareOp op') r') (ha : PE X a ta) (hb : PE X b tb) (hc : PE X c tc)
    (hm : lastMarks [op, op'] [b, c] = false := by with_unfolding_all rfl) : PE X (.Compare a [op, op'] [b, c] pos) (cChain r r' ta tb tc) := by
  refine ⟨fun pins s σ H Q I h => Compare_chain (thn (ha.run pins s σ H _ I h) fun v s1 ⟨x, H1, I1, r1, q1⟩ => chain_link (thn (hb.run pins s1 σ H1 _ I1 q1) fun u s2 ⟨y, H2, I2, r2, q2⟩ =>
    thn (ho pins s2 σ H2 x y v u _ I2 r1 r2 q2) fun d s3 ⟨z, H3, I3, r3, q3⟩ => ?_)) hm⟩
  dsimp only at q3
  split at q3
  · rename_i k
    cases r3
    refine wpAny_truthy_bool ?_
    cases k with
    | false => exact ite_ff ⟨.bl false, H3, I3, rfl, q3.2 rfl⟩
    | true => exact ite_tt (chain_last (thn (hc.run pins s3 σ H3 _ I3 (q3.1 rfl)) fun w4 s4 ⟨z4, H4, I4, r4, q4⟩ => ho' pins s4 σ H4 y z4 u w4 Q I4 r2 r4 q4))
  · exact q3.elim
/-- two statements with a word of one's own between them -/
def cCut (t u : TS) : TS := fun D σ H => ∃ M : L2.St → Hp → Prop, t { D with nx := M } σ H ∧ ∀ σ' G, M σ' G → u D σ' G
theorem s_cut {st : Stmt} {rest : List Stmt} {t u : TS} (h1 : PS X st t) (h2 : PSs X rest u) : PSs X (st :: rest) (cCut t u) := by
  refine ⟨fun pins s σ H D I ⟨M, h, k⟩ => wpAny_execs_cons (thn (h1.run pins s σ H { D with nx := M } I h) fun f s1 q => ?_)⟩
  match f, q with
  | .next, ⟨σ', G, I', q⟩ => exact h2.run pins s1 σ' G D I' (k σ' G q)
  | .ret v, q => exact q
  | .brk, q => exact q
  | .cont, q => exact q
theorem eqs {α : Type} [DecidableEq α] {a : α} {R : Bool → Prop} (h : R true) : R (xor false (decide (a = a))) := by
  rw [decide_eq_true rfl]
  exact h
end
end HX

set_option Elab.async false
set_option linter.all false
set_option maxRecDepth 100000
set_option maxHeartbeats 2000000
namespace HX
open PySem PySem.Spec PyProof.Rows L2

/-! ### the defs of the text, as their callers see them: by the module's name x -/
section
variable (P : Program) (w : World) (K : PySem.W.Frag) (mg : Str → Option Value) (base : Heap)
/-- raises nothing -/
def CalO (x : Str) (k : Nat) (ps : List Str) (sp : Sp) (B : FuncData → Prop) : Prop := ∃ (f : Addr) (fd : FuncData), FnOk P w K mg base CX0 k f fd ps sp ∧ mg x = some (.ref f) ∧ PySem.W.keepIn K (.ref f) = true ∧ Binds K fd ps [] ∧ B fd
/-- raises nothing, where nothing is being shown -/
def CalG (x : Str) (k : Nat) (ps : List Str) (sp : Sp) (B : FuncData → Prop) : Prop := ∃ (f : Addr) (fd : FuncData), FnG P w K mg base CX0 k f fd ps sp ∧ mg x = some (.ref f) ∧ PySem.W.keepIn K (.ref f) = true ∧ Binds K fd ps [] ∧ B fd
/-- may raise -/
def CalX (x : Str) (k : Nat) (ps : List Str) (sp : Sp) (B : FuncData → Prop) : Prop := ∃ (f : Addr) (fd : FuncData), FnOk P w K mg base (CX P w) k f fd ps sp ∧ mg x = some (.ref f) ∧ PySem.W.keepIn K (.ref f) = true ∧ Binds K fd ps [] ∧ B fd
end
section
variable {X : Cx} {k : Nat} {ps : List Str} {sp : Sp} {x : Str} {p pos : Pos} {e : Expr} {es : List Expr} {t tk' : TA} {W : WX} {B : FuncData → Prop} {ks : List Str} {kws : List Keyword} {g : List Value → List Value → List Value} {gV : List V → List V → List V}
theorem pe_cO (C : CalO X.prog X.w X.K X.mg X.base x k ps sp B) (hr : Room k X.A) (ha : PA X (e :: es) t) (hg : Gl X x := by rfl) (hdb : (x == ("__debug__" : Str)) = false := by decide)
    (he : starEach (e :: es) X.env = (false, eval e X.env) :: starEach es X.env := by rfl) (hpl : (backTo pos (starEach es X.env)).any (·.1) = false := by rfl) : PE X (.Call (.Name x p) (e :: es) [] pos) (tCall sp [] E0 t) := by
  obtain ⟨f, fd, F, hm, hk, hb, _⟩ := C
  exact pe_call F hr hg hm hk hb .nil pass0 ha hdb he hpl
theorem pe_cG (C : CalG X.prog X.w X.K X.mg X.base x k ps sp B) (gd : X.A.guards = some []) (hr : Room k X.A) (ha : PA X (e :: es) t) (hg : Gl X x := by rfl) (hdb : (x == ("__debug__" : Str)) = false := by decide)
    (he : starEach (e :: es) X.env = (false, eval e X.env) :: starEach es X.env := by rfl) (hpl : (backTo pos (starEach es X.env)).any (·.1) = false := by rfl) : PE X (.Call (.Name x p) (e :: es) [] pos) (tCall sp [] E0 t) := by
  obtain ⟨f, fd, F, hm, hk, hb, _⟩ := C
  exact pe_callG F gd hr hg hm hk hb .nil pass0 ha hdb he hpl
theorem pe_cX (C : CalX X.prog X.w X.K X.mg X.base x k ps sp B) (hr : Room k X.A) (tk : Takes X W) (ha : PA X (e :: es) t) (hg : Gl X x := by rfl) (hdb : (x == ("__debug__" : Str)) = false := by decide)
    (he : starEach (e :: es) X.env = (false, eval e X.env) :: starEach es X.env := by rfl) (hpl : (backTo pos (starEach es X.env)).any (·.1) = false := by rfl) : PE X (.Call (.Name x p) (e :: es) [] pos) (tCallS sp (WE W) t) := by
  obtain ⟨f, fd, F, hm, hk, hb, _⟩ := C
  exact pe_callS F hr hg hm hk hb (fun σ => passAt tk σ) ha hdb he hpl
end
/-! ### calls by keywords alone -/
section
variable {X : Cx} {k : Nat} {ps : List Str} {sp : Sp} {x : Str} {p pos : Pos} {t : TA} {W : WX} {B : FuncData → Prop} {ks : List Str} {kws : List Keyword} {g : List Value → List Value → List Value} {gV : List V → List V → List V} {CY : CXT} {f : Addr} {fd : FuncData} {E : XK}
theorem run_kw {pins : List (Addr × Obj)} {σ : L2.St} {H : Hp} {s : Shared} {Q : VK} {ws : List Value} {zs : List V} (F : FnOk X.prog X.w X.K X.mg X.base CY k f fd ps sp) (hr : Room k X.A) (hb : KBn X.K fd ps 0 ks g gV)
    (hx : ∀ e s', CY X.stack H s E e s' → X.xe e s') (I : Inv X pins σ H s) (rz : Vals zs ws) (l2 : zs.length = ks.length) (h : sp (gV [] zs) H Q E) : wpAny (model X.prog X.w) X.A (call (.ref f) [] (ks.zip ws)) (EP X pins σ Q) X.xe s := by
  have l3 : ws.length = ks.length := rz.length.symm.trans l2
  have run := F.run X.A X.stack s H ⟨[], ks.zip ws⟩ (g [] ws) (gV [] zs) Q E hr I.env0 (hb.to s [] ws I.kIn rfl l3) (hb.rel .nil rz) h
  refine wpAny_call (codeAny_mono run fun r s' q => ?_)
  match r, q with
  | .error e, q => exact hx e s' q
  | .ok (.ret u), q => exact I.after q
  | .ok .next, q => exact False.elim q
  | .ok .brk, q => exact False.elim q
  | .ok .cont, q => exact False.elim q
/-- f(k = e, ..) -/
def cKw (m : Nat) (sp : Sp) (gV : List V → List V → List V) (E : L2.St → XK) (t : TA) : TE := fun σ H Q => t σ H fun zs G => zs.length = m ∧ sp (gV [] zs) G Q (E σ)
theorem pe_kO (C : CalO X.prog X.w X.K X.mg X.base x k ps sp B) (hB : ∀ fd, B fd → KBn X.K fd ps 0 ks g gV) (hr : Room k X.A) (hkw : PK X kws t) (hg : Gl X x := by rfl)
    (hall : (backToKw pos (keywordEach kws X.env)).all (·.1.isSome) = true := by rfl) (hks : (backToKw pos (keywordEach kws X.env)).filterMap (·.1) = ks := by rfl) (hdb : (x == ("__debug__" : Str)) = false := by decide)
    (hpl : ((backTo pos (starEach [] X.env)).any (·.1) || (backToKw pos (keywordEach kws X.env)).any (·.1.isNone)) = false := by rfl) : PE X (.Call (.Name x p) [] kws pos) (cKw ks.length sp gV (fun _ => E0) t) := by
  obtain ⟨f, fd, F, hm, hk, _, hb⟩ := C
  refine ⟨fun pins s σ H Q I h => wpAny_Call_Name_kw (ld_glob I hg hm ?_ hdb)⟩
  refine PySem.W.callWith_KW0 (h₀ := X.base) I.ok.mod.kin hk hall (thn (hkw.run pos pins s σ H _ I h) fun ws s2 ⟨zs, G, I2, rz, l2, q⟩ => ⟨I2.kIn, ?_⟩) hpl
  rw [hks]
  exact run_kw F hr (hB fd hb) (fun _ _ z => z.elim) I2 rz l2 q
theorem pe_kX (C : CalX X.prog X.w X.K X.mg X.base x k ps sp B) (hB : ∀ fd, B fd → KBn X.K fd ps 0 ks g gV) (hr : Room k X.A) (tk : Takes X W) (hkw : PK X kws t) (hg : Gl X x := by rfl)
    (hall : (backToKw pos (keywordEach kws X.env)).all (·.1.isSome) = true := by rfl) (hks : (backToKw pos (keywordEach kws X.env)).filterMap (·.1) = ks := by rfl) (hdb : (x == ("__debug__" : Str)) = false := by decide)
    (hpl : ((backTo pos (starEach [] X.env)).any (·.1) || (backToKw pos (keywordEach kws X.env)).any (·.1.isNone)) = false := by rfl) : PE X (.Call (.Name x p) [] kws pos) (cKw ks.length sp gV (WE W) t) := by
  obtain ⟨f, fd, F, hm, hk, _, hb⟩ := C
  refine ⟨fun pins s σ H Q I h => wpAny_Call_Name_kw (ld_glob I hg hm ?_ hdb)⟩
  refine PySem.W.callWith_KW0 (h₀ := X.base) I.ok.mod.kin hk hall (thn (hkw.run pos pins s σ H _ I h) fun ws s2 ⟨zs, G, I2, rz, l2, q⟩ => ⟨I2.kIn, ?_⟩) hpl
  rw [hks]
  exact run_kw F hr (hB fd hb) (fun e s' c => passAt tk σ pins G s2 e s' I2 c) I2 rz l2 q
end
/-! ### built-ins by the values' kinds -/
section
variable {X : Cx}
def rInt2 : List V → Hp → VK → Prop := fun xs H Q => match xs with
  | [.int i] => Q (.int i) H
  | [.bl k] => Q (.int (if k then 1 else 0)) H
  | _ => False
theorem c_int : CallR X (.type "int") rInt2 := fun pins s σ H xs us Q I r q => by
  unfold rInt2 at q
  split at q
  · exact call_int1 pins s σ H _ us Q I r (.inl ⟨_, rfl, q⟩)
  · exact call_int1 pins s σ H _ us Q I r (.inr ⟨_, rfl, q⟩)
  · exact q.elim
def rAbs2 : List V → Hp → VK → Prop := fun xs H Q => match xs with
  | [.int i] => Q (.int (if i < 0 then -i else i)) H
  | _ => False
theorem c_abs : CallR X (.builtin "abs") rAbs2 := fun pins s σ H xs us Q I r q => by
  unfold rAbs2 at q
  split at q
  · exact call_abs pins s σ H _ us Q I r ⟨_, rfl, q⟩
  · exact q.elim
def rLen2 (K : PySem.W.Frag) : List V → Hp → VK → Prop := fun xs H Q => match xs with
  | [.str y] => y.length ≤ sizeLine ∧ Q (.int y.length) H
  | [.ref p] => ∃ ys : List V, (SqL K H p ys ∨ SqT K H p ys) ∧ Q (.int ys.length) H
  | _ => False
theorem c_len : CallR X (.builtin "len") (rLen2 X.K) := fun pins s σ H xs us Q I r q => by
  unfold rLen2 at q
  split at q
  · exact call_len pins s σ H _ us Q I r ⟨_, _, rfl, ⟨q.1, rfl⟩, q.2⟩
  · obtain ⟨ys, h | h, q⟩ := q
    · exact call_len pins s σ H _ us Q I r ⟨_, _, rfl, .inl ⟨ys, h, rfl⟩, q⟩
    · exact call_len pins s σ H _ us Q I r ⟨_, _, rfl, .inr ⟨ys, h, rfl⟩, q⟩
  · exact q.elim
/-- isinstance of plain values and own instances, and one class -/
def rIsi2 (K : PySem.W.Frag) : List V → Hp → VK → Prop := fun xs H Q => ∃ (x c : V) (t cv : Value) (b : Bool), xs = [x, c] ∧ TyOf K H x t ∧ (∀ u, RelV c u → u = cv) ∧ PySem.W.kitOne K t cv = some b ∧ Q (.bl b) H
theorem c_isi : CallR X (.builtin "isinstance") (rIsi2 X.K) := fun pins s σ H xs us Q I r q => by
  obtain ⟨x, c, t, cv, b, rfl, ty, hc, hk, q⟩ := q
  obtain ⟨u, u2, rfl, r1, r2⟩ := vals2 r
  have e2 := hc _ r2
  subst e2
  exact isinst_ok I r1 ty hk fun tk => ⟨.bl b, H, I.tok tk, rfl, q⟩
end
end HX

set_option Elab.async false
set_option linter.all false
set_option maxRecDepth 100000
set_option maxHeartbeats 2000000
namespace HX
open PySem PySem.Spec PyProof.Rows L2

/-! ### the pen: its cells at l, how many were begun, what is left of a great one -/
structure Pn (H : Hp) (p l : Addr) (ns : List Int) (c g : Int) : Prop where
  at_ : H p = some (.lst [.ref l, .int c, .int g])
  cel : H l = some (.lst (ns.map V.int))
  ne : l ≠ p
  c0 : 0 ≤ c
  g0 : 0 ≤ g
/-- all but p is as it was -/
def Kp (p : Addr) (H H' : Hp) : Prop := ∀ b o, b ≠ p → H b = some o → H' b = some o
/-- H without p -/
def Hd (p : Addr) (H : Hp) : Hp := fun b => if b = p then none else H b
theorem Hd.at_ {p b : Addr} {H : Hp} {o : HO} (n : b ≠ p) (e : H b = some o) : Hd p H b = some o := by unfold Hd; rw [if_neg n]; exact e
theorem Hd.un {p b : Addr} {H : Hp} {o : HO} (e : Hd p H b = some o) : b ≠ p ∧ H b = some o := by
  unfold Hd at e
  split at e
  · cases e
  · rename_i n
    exact ⟨n, e⟩
theorem Kp.hd {p : Addr} {H H' : Hp} (k : Kp p H H') : Same (Hd p H) (Hd p H') := fun b o e => Hd.at_ (Hd.un e).1 (k b o (Hd.un e).1 (Hd.un e).2)
theorem Hd.sub {p : Addr} {H : Hp} : Same (Hd p H) H := fun _ _ e => (Hd.un e).2
theorem Kp.refl {p : Addr} {H : Hp} : Kp p H H := fun _ _ _ e => e
theorem Kp.trans {p : Addr} {H H1 H2 : Hp} (a : Kp p H H1) (b : Kp p H1 H2) : Kp p H H2 := fun c o n e => b c o n (a c o n e)
theorem Kp.upd {p : Addr} {H H1 : Hp} {o : HO} (a : Kp p H H1) : Kp p H (L2.upd H1 p o) := fun c u n e => by rw [upd_ne n]; exact a c u n e
theorem Kp.new {p q : Addr} {H H1 : Hp} {o : HO} (a : Kp p H H1) (h : H1 q = none) : Kp p H (L2.upd H1 q o) := fun c u n e => by
  have z := a c u n e
  rw [upd_ne (ne_of_none z h)]
  exact z
theorem Kp.same {p : Addr} {H H1 : Hp} (a : Same H H1) : Kp p H H1 := fun c u _ e => a c u e
theorem Same.new {H H1 : Hp} {q : Addr} {o : HO} (a : Same H H1) (h : H1 q = none) : Same H (L2.upd H1 q o) := fun c u e => by
  have z := a c u e
  rw [upd_ne (ne_of_none z h)]
  exact z
theorem Same.mut {H H1 : Hp} {q : Addr} {o : HO} (a : Same H H1) (h : H q = none) : Same H (L2.upd H1 q o) := fun c u e => by
  rw [upd_ne (ne_of_none e h)]
  exact a c u e
theorem Kp.mut {p : Addr} {H H1 : Hp} {q : Addr} {o : HO} (a : Kp p H H1) (h : H q = none) : Kp p H (L2.upd H1 q o) := fun c u n e => by
  rw [upd_ne (ne_of_none e h)]
  exact a c u n e
theorem Kp.seq {K : PySem.W.Frag} {p a : Addr} {H H1 : Hp} {xs : List V} (k : Kp p H H1) (n : a ≠ p) (h : SqL K H a xs) : SqL K H1 a xs := by
  rcases h with (h | ⟨o, h⟩) | h
  · exact .inl (.inl (k _ _ n h))
  · exact .inl (.inr ⟨o, k _ _ n h⟩)
  · exact .inr h
theorem Kp.seqT {K : PySem.W.Frag} {p a : Addr} {H H1 : Hp} {xs : List V} (k : Kp p H H1) (n : a ≠ p) (h : SqT K H a xs) : SqT K H1 a xs := by
  rcases h with (h | ⟨o, h⟩) | h
  · exact .inl (.inl (k _ _ n h))
  · exact .inl (.inr ⟨o, k _ _ n h⟩)
  · exact .inr h
theorem Pn.put {H H1 : Hp} {p l : Addr} {ns : List Int} {c g c' g' : Int} (P : Pn H p l ns c g) (k : Kp p H H1) (hc : 0 ≤ c') (hg : 0 ≤ g') (e : H1 p = some (.lst [.ref l, .int c', .int g'])) : Pn H1 p l ns c' g' :=
  ⟨e, k _ _ P.ne P.cel, P.ne, hc, hg⟩
theorem Pn.same {H H1 : Hp} {p l : Addr} {ns : List Int} {c g : Int} (P : Pn H p l ns c g) (k : Same H H1) : Pn H1 p l ns c g := P.put (.same k) P.c0 P.g0 (k _ _ P.at_)
theorem Pn.new {H : Hp} {p l q : Addr} {ns : List Int} {c g : Int} {o : HO} (P : Pn H p l ns c g) (h : H q = none) : Pn (L2.upd H q o) p l ns c g := P.same (Same.new (Same.refl H) h)
/-- a pen at p, its cells at l, that has been asked c times at most -/
def Pe (H : Hp) (p l : Addr) (c : Int) : Prop := ∃ ns c0 g, Pn H p l ns c0 g ∧ c0 ≤ c
theorem Pe.mono {H : Hp} {p l : Addr} {c c' : Int} (P : Pe H p l c) (h : c ≤ c') : Pe H p l c' := let ⟨ns, c0, g, q, e⟩ := P; ⟨ns, c0, g, q, Int.le_trans e h⟩
theorem Pe.same {H H1 : Hp} {p l : Addr} {c : Int} (P : Pe H p l c) (k : Same H H1) : Pe H1 p l c := let ⟨ns, c0, g, q, e⟩ := P; ⟨ns, c0, g, q.same k, e⟩
theorem Pe.new {H : Hp} {p l q : Addr} {c : Int} {o : HO} (P : Pe H p l c) (h : H q = none) : Pe (L2.upd H q o) p l c := P.same (Same.new (Same.refl H) h)
theorem Pe.atP {H : Hp} {p l : Addr} {c : Int} (P : Pe H p l c) : ∃ o, H p = some o := let ⟨_, _, _, q, _⟩ := P; ⟨_, q.at_⟩
theorem Pe.atL {H : Hp} {p l : Addr} {c : Int} (P : Pe H p l c) : ∃ o, H l = some o := let ⟨_, _, _, q, _⟩ := P; ⟨_, q.cel⟩
theorem Pe.ne {H : Hp} {p l q : Addr} {c : Int} (P : Pe H p l c) (h : H q = none) : q ≠ p := let ⟨_, e⟩ := P.atP; Ne.symm (ne_of_none e h)
theorem Pe.neL {H : Hp} {p l q : Addr} {c : Int} (P : Pe H p l c) (h : H q = none) : q ≠ l := let ⟨_, e⟩ := P.atL; Ne.symm (ne_of_none e h)
theorem Pe.mut {H : Hp} {p l q : Addr} {c : Int} {o : HO} (P : Pe H p l c) (h : q ≠ p) (h2 : q ≠ l) : Pe (L2.upd H q o) p l c := by
  obtain ⟨ns, c0, g, q0, e⟩ := P
  exact ⟨ns, c0, g, ⟨by rw [upd_ne (Ne.symm h)]; exact q0.at_, by rw [upd_ne (Ne.symm h2)]; exact q0.cel, q0.ne, q0.c0, q0.g0⟩, e⟩
/-- an object that the pen isn't: it is no list of a list and two numbers -/
theorem Pe.ne2 {H : Hp} {p l a : Addr} {c : Int} {o : HO} (P : Pe H p l c) (h : H a = some o) (n : ∀ l c g, o ≠ .lst [.ref l, .int c, .int g]) : a ≠ p := by
  obtain ⟨ns, c0, g, q, _⟩ := P
  exact ne_of h q.at_ (n _ _ _)

/-! ### what the draws promise -/
def spPen (K : PySem.W.Frag) : Sp := fun vs H Q _ => ∃ (a : Addr) (ns : List Int), vs = [.ref a] ∧ SqL K H a (ns.map V.int) ∧ ∀ (p l : Addr) (H' : Hp), H p = none → Same H H' → Pe H' p l 0 → Q (.ref p) H'
def spDraw : Sp := fun vs H Q _ => ∃ (p l : Addr) (c many : Int), vs = [.ref p, .int many] ∧ Pe H p l c ∧ 0 < many ∧ many.natAbs < 2 ^ 250 ∧ c < 1000000 ∧
  ∀ (r : Int) (H' : Hp), 0 ≤ r → r < many → Kp p H H' → Pe H' p l (c + 1) → Q (.int r) H'
/-- one of a text's signs, of a list's or a tuple's items -/
def spPick (K : PySem.W.Frag) : Sp := fun vs H Q _ => ∃ (p l : Addr) (c : Int) (x : V), vs = [.ref p, x] ∧ Pe H p l c ∧ c < 1000000 ∧
  ((∃ z : Str, x = .str z ∧ 0 < z.length ∧ z.length ≤ 1000000 ∧ ∀ (ch : Nat) (H' : Hp), ch ∈ z.cps.toList → Kp p H H' → Pe H' p l (c + 1) → Q (.str ⟨#[ch]⟩) H') ∨
    ∃ (a : Addr) (xs : List V), x = .ref a ∧ a ≠ p ∧ (SqL K H a xs ∨ SqT K H a xs) ∧ 0 < xs.length ∧ xs.length ≤ 1000000 ∧ ∀ (v : V) (H' : Hp), v ∈ xs → Kp p H H' → Pe H' p l (c + 1) → Q v H')

theorem mul_lt {a b x y : Int} (h0 : 0 ≤ x) (h1 : x < a) (h2 : 0 ≤ y) (h3 : y < b) : x * y < a * b := by
  have z1 : x * y ≤ x * b := Int.mul_le_mul_of_nonneg_left (by omega) h0
  have z2 : x * b ≤ (a - 1) * b := Int.mul_le_mul_of_nonneg_right (by omega) (by omega)
  have z3 : (a - 1) * b = a * b - b := by rw [Int.sub_mul]; omega
  omega
theorem dp_ints {K : PySem.W.Frag} {H : Hp} : ∀ ns : List Int, DpAll K H (ns.map V.int) (ns.map PyData.int)
  | [] => .nil
  | n :: ns => .cons (.int n) (dp_ints ns)
theorem can_ints : ∀ ns : List Int, PyData.canLayAll0 (ns.map PyData.int) = true
  | [] => rfl
  | n :: ns => by
    rw [List.map_cons, PyData.canLayAll0, PyData.canLay0, can_ints ns]
    rfl
theorem depth_ints : ∀ ns : List Int, PyData.depthAll (ns.map PyData.int) = 0
  | [] => by simp [PyData.depthAll]
  | n :: ns => by
    have := depth_ints ns
    simp [PyData.depthAll, PyData.depth, this]
theorem shaped_ints (ns : List Int) : SeqAt.shaped (.list (ns.map PyData.int)) = true := by
  unfold SeqAt.shaped
  rw [PyData.canLay0, can_ints, PyData.depth, depth_ints]
  rfl
theorem at_mod {ns : List Int} (c : Int) (h : 0 < (ns.length : Int)) : ∃ z, atI (ns.map V.int) (c % ns.length) = some (.int z) := by
  have h0 := Int.emod_nonneg c (b := (ns.length : Int)) (by omega)
  have h1 := Int.emod_lt_of_pos c h
  obtain ⟨j, hj⟩ : ∃ j : Nat, c % ns.length = (j : Int) := ⟨(c % ns.length).toNat, by omega⟩
  have hlt : j < ns.length := by omega
  refine ⟨ns[j], ?_⟩
  rw [hj]
  exact atI_nat (by rw [List.getElem?_map, List.getElem?_eq_getElem hlt]; rfl)
theorem at_in {α : Type} {xs : List α} {r : Int} (h0 : 0 ≤ r) (h1 : r < xs.length) : ∃ v, atI xs r = some v ∧ v ∈ xs := by
  obtain ⟨j, rfl⟩ : ∃ j : Nat, r = (j : Int) := ⟨r.toNat, by omega⟩
  have hlt : j < xs.length := by omega
  exact ⟨xs[j], atI_nat (List.getElem?_eq_getElem hlt), List.getElem_mem hlt⟩
theorem small_bits {n : Nat} (h : n ≤ 1000000) : (n : Int).natAbs < 2 ^ 250 := Nat.lt_of_le_of_lt (show (n : Int).natAbs ≤ 1000000 by omega) (by decide)
theorem cut_ints (ns : List Int) (lo hi : Option Int) : ∃ ms : List Int, cutV (ns.map V.int) lo hi = ms.map V.int := by
  unfold cutV
  exact ⟨_, by rw [← List.map_drop, ← List.map_take]⟩
theorem size_line_big : 1000000 ≤ sizeLine := by rw [sizeLine_eq]; decide
/-! ### letters -/
def abc : List Nat := ("abcdefghijklmnopqrstuvwxyz" : Str).cps.toList
theorem tl_join1 {a : Str} (ha : TL.tl a = []) : ∀ cs : List Nat, (Txt.join a (cs.map fun c => (⟨#[c]⟩ : Str))).cps.toList = cs := fun cs => by
  show TL.tl _ = cs
  rw [TL.join_eq, TL.tl_join, ha]
  induction cs with
  | nil => rfl
  | cons c cs ih =>
    cases cs with
    | nil => rfl
    | cons d cs =>
      rw [List.map_cons, List.map_cons, List.map_cons, List.map_cons, TL.joinL]
      rw [List.map_cons, List.map_cons] at ih
      rw [ih]
      rfl
def spLetters : Sp := fun vs H Q _ => ∃ (p l : Addr) (c n : Int), vs = [.ref p, .int n] ∧ Pe H p l c ∧ 0 ≤ n ∧ n ≤ 1000 ∧ c + n < 1000000 ∧
  ∀ (z : Str) (H' : Hp), (z.length : Int) = n → (∀ ch ∈ z.cps.toList, ch ∈ abc) → Kp p H H' → Pe H' p l (c + n) → Q (.str z) H'
/-! ### a module's constants -/
theorem p_gs {X : Cx} {x z : Str} {pos : Pos} (h : ∃ t, X.mg x = some (.str z t)) (hg : Gl X x := by rfl) (hd : (x == ("__debug__" : Str)) = false := by decide) : PE X (.Name x pos) (tC (.str z)) := by
  obtain ⟨t, h⟩ := h
  exact pe_glob hg h ⟨t, rfl⟩ hd
theorem p_gi {X : Cx} {x : Str} {i : Int} {pos : Pos} (h : ∃ t, X.mg x = some (.int i t)) (hg : Gl X x := by rfl) (hd : (x == ("__debug__" : Str)) = false := by decide) : PE X (.Name x pos) (tC (.int i)) := by
  obtain ⟨t, h⟩ := h
  exact pe_glob hg h ⟨t, rfl⟩ hd
theorem p_gc {X : Cx} {x : Str} {C : Addr} {pos : Pos} (h : X.mg x = some (.ref C)) (hg : Gl X x := by rfl) (hd : (x == ("__debug__" : Str)) = false := by decide) : PE X (.Name x pos) (tC (.ref C)) := pe_glob hg h rfl hd
/-! ### own error classes, as the text that raises them sees them -/
def ErrC (P : Program) (w : World) (K : PySem.W.Frag) (mg : Str → Option Value) (base : Heap) (x : Str) (C : Addr) (ps : List Str) (sp : Sp) : Prop :=
  ∃ (fI : Addr) (fd : FuncData), RxC K mg x C fI ∧ FnOk P w K mg base CX0 1 fI fd ps sp ∧ Binds K fd ps []
theorem ps_rz {X : Cx} {x : Str} {C : Addr} {ps : List Str} {sp : Sp} {e : Expr} {es : List Expr} {ta : TA} {W : WX} {p pos pos2 : Pos} (Z : ErrC X.prog X.w X.K X.mg X.base x C ps sp) (hc : X.calm = true) (hr : Room 2 X.A) (tk : Takes X W) (he : PA X (e :: es) ta)
    (hg : Gl X x := by rfl) (hdb : (x == ("__debug__" : Str)) = false := by decide) (hs : starEach (e :: es) X.env = (false, eval e X.env) :: starEach es X.env := by rfl) (hpl : (backTo pos (starEach es X.env)).any (·.1) = false := by rfl) :
    PS X (.Raise (some (.Call (.Name x p) (e :: es) [] pos)) none pos2) (fun _ σ H => tMkO C sp [] ta σ H fun cls d G => W cls d σ G) := by
  obtain ⟨fI, fd, T, F, b⟩ := Z
  exact ps_raiseO hc T F b hr tk he hg hdb hs hpl
/-! ### names -/
def isStrD : PyData → Bool
  | .str _ => true
  | _ => false
theorem Da.isStr {K : PySem.W.Frag} {H : Hp} {x : V} {d : PyData} (h : Da H x d) : ∃ t, TyOf K H x t ∧ PySem.W.kitOne K t (.type "str") = some (isStrD d) := by
  cases h with
  | non => exact ⟨_, .non, kit_ty (by show kitB _ _ = some false; decide +kernel)⟩
  | bl b => exact ⟨_, .bl b, kit_ty (by show kitB _ _ = some false; decide +kernel)⟩
  | int i => exact ⟨_, .int i, kit_ty (by show kitB _ _ = some false; decide +kernel)⟩
  | str x => exact ⟨_, .str x, kit_ty (by show kitB _ _ = some true; decide +kernel)⟩
  | lst e _ => exact ⟨_, .lst e, kit_ty (by show kitB _ _ = some false; decide +kernel)⟩
  | tup e _ => exact ⟨_, .tup e, kit_ty (by show kitB _ _ = some false; decide +kernel)⟩
  | dic e _ => exact ⟨_, .dK e, kit_ty (by show kitB _ _ = some false; decide +kernel)⟩
def nameS (z : Str) : Bool := decide (1 ≤ z.length) && (decide (z.length ≤ 8) && z.cps.toList.all fun c => decide (c ∈ abc))
def nameD : PyData → Bool
  | .str z => nameS z
  | _ => false
def shortD : PyData → Prop
  | .str z => z.length ≤ 1000000
  | _ => True
def spIsName : Sp := fun vs H Q _ => ∃ (x : V) (d : PyData), vs = [x] ∧ Da H x d ∧ shortD d ∧ ∀ H', Same H H' → Q (.bl (nameD d)) H'
def spNeedName (C : Addr) : Sp := fun vs H Q E => ∃ (x : V) (d : PyData), vs = [x] ∧ Da H x d ∧ shortD d ∧ (nameD d = true → ∀ H', Same H H' → Q .non H') ∧
  (nameD d = false → ∀ H' dd, Same H H' → H dd = none → H' dd = some (.xd [("value", x)]) → E (.ref C) (some dd) H')
theorem isStr_str {d : PyData} (h : isStrD d = true) : ∃ z, d = .str z := by
  cases d <;> first | exact ⟨_, rfl⟩ | cases h
theorem nameD_not {d : PyData} (h : isStrD d = false) : nameD d = false := by
  cases d <;> first | rfl | cases h
theorem abc_lt {c : Nat} (h : c ∈ abc) : c < 200 := by
  have e : (abc.all fun c => decide (c < 200)) = true := by decide +kernel
  exact of_decide_eq_true (List.all_eq_true.mp e c h)
theorem nameS_true {z : Str} (h1 : 1 ≤ z.length) (h2 : z.length ≤ 8) (h3 : ∀ c ∈ z.cps.toList, c ∈ abc) : nameS z = true := by
  unfold nameS
  rw [decide_eq_true h1, decide_eq_true h2]
  simp only [Bool.true_and]
  rw [List.all_eq_true]
  exact fun c hc => decide_eq_true (h3 c hc)
theorem nameS_false {z : Str} (h : z.length = 0 ∨ 8 < z.length ∨ ∃ c ∈ z.cps.toList, c ∉ abc) : nameS z = false := by
  cases e : nameS z with
  | false => rfl
  | true =>
    unfold nameS at e
    simp only [Bool.and_eq_true, decide_eq_true_eq] at e
    obtain ⟨e1, e2, e3⟩ := e
    rcases h with h | h | ⟨c, hc, h⟩
    · omega
    · omega
    · exact absurd (of_decide_eq_true (List.all_eq_true.mp e3 c hc)) h
theorem cutS_sub (z : Str) (lo hi : Option Int) : (cutS z lo hi).length ≤ z.length ∧ ∀ c ∈ (cutS z lo hi).cps.toList, c ∈ z.cps.toList :=
  ⟨cutS_length z lo hi, fun c hc => List.mem_of_mem_drop (List.mem_of_mem_take hc)⟩
/-- a short text of small signs -/
def OkS (z : Str) : Prop := z.length ≤ 200 ∧ ∀ c ∈ z.cps.toList, c < 200
theorem OkS.app {x y : Str} (hx : OkS x) (hy : OkS y) (h : x.length + y.length ≤ 200) : OkS (x ++ y) :=
  ⟨by rw [Str.length_append]; exact h, fun c hc => by
    have e : c ∈ TL.tl x ++ TL.tl y := by rw [← TL.tl_append]; exact hc
    exact (List.mem_append.mp e).elim (hx.2 c) (hy.2 c)⟩
theorem OkS.sub {x y : Str} (hx : OkS x) (h1 : y.length ≤ x.length) (h2 : ∀ c ∈ y.cps.toList, c ∈ x.cps.toList) : OkS y := ⟨Nat.le_trans h1 hx.1, fun c hc => hx.2 c (h2 c hc)⟩
theorem mem_appL {x y : Str} {c : Nat} (h : c ∈ x.cps.toList) : c ∈ (x ++ y).cps.toList := by
  show c ∈ TL.tl (x ++ y)
  rw [TL.tl_append]
  exact List.mem_append_left _ h
theorem mem_appR {x y : Str} {c : Nat} (h : c ∈ y.cps.toList) : c ∈ (x ++ y).cps.toList := by
  show c ∈ TL.tl (x ++ y)
  rw [TL.tl_append]
  exact List.mem_append_right _ h
theorem okS_one {c : Nat} (h : c < 200) : OkS ⟨#[c]⟩ := ⟨by show 1 ≤ 200; decide, fun x hx => by rw [List.mem_singleton.mp hx]; exact h⟩
theorem len_tl (z : Str) : z.length = z.cps.toList.length := by simp [Str.length]
end HX

set_option Elab.async false
set_option linter.all false
set_option maxRecDepth 100000
set_option maxHeartbeats 2000000
namespace PySem
namespace HXK
open Builtin Builtin.ObjectAttr HandSPX

/-! ### an own exception made by keywords alone: C(k = e, ..) -/
section
variable {M : Model} {prog : Program} {w : World} {A : Around} {E : Value → Shared → Prop} {R : Result → Shared → Prop} {h : Heap} {g : Array GenState} {dr : Drawn} {tk : Nat} {os : OsState}
variable {nm q : Str} {C N fI : Addr} {bs bm bB : List Value} {sn : List Str} {sub : List Value} {ab : Bool} {col : Option Bool} {dd : Option Addr} {k0 k1 k2 k3 k5 : Option Value} {B nI iI : String} {kw : List (Str × Value)}
theorem kwx_check (Fx : ExcBaseFacts B nI iI bB) (hT : ∀ X : String, bm.contains (.type X) = bB.contains (.type X)) {Q : Unit → Shared → Prop}
    (hC : h.get? C = some (excClassObj nm q C N bs bm true sn sub ab col dd k0 k1 k2 k3 k5 nI)) (hkw : kw.length ≤ 2) (z : Q () ⟨h, g, dr, tk, os⟩) : wpAny M A (checkBuiltinCall nI ⟨[.ref C], kw⟩) Q E ⟨h, g, dr, tk, os⟩ := by
  have c1 : (Value.ref C :: bm).contains (.type B) = true := by rw [List.contains_cons, hT, Fx.hasB, Bool.or_true]
  have st := Fx.noStar
  simp only [checkBuiltinCall, Fx.newKind, Fx.newSplit, Fx.newRow]
  repeat (first | refine wpAny_loadPart_at hC ?_ | (refine wpAny_isSubtype_exc hC ?_; rw [c1]) | refine wpAny_staticBase_exc hC ?_ | refine wpAny_madeBy_exc hC ?_ | simp only [bne_self_eq_false, Bool.false_eq_true, if_false] | wp_step)
  exact z
theorem kwx_new (Fx : ExcBaseFacts B nI iI bB) (hT : ∀ X : String, bm.contains (.type X) = bB.contains (.type X))
    (hC : h.get? C = some (excClassObj nm q C N bs bm true sn sub ab col dd k0 k1 k2 k3 k5 nI))
    (z : R (.ok (.ret (.ref (h.objs.size + 1)))) ⟨(h.push (PySem.W.kdv_tup [])).push (excO C h.objs.size), g, dr, tk, os⟩) :
    codeAny (model prog w) A (.builtin nI ⟨[.ref C], kw⟩) R ⟨h, g, dr, tk, os⟩ := by
  have ends := Fx.ends
  have c1 : (Value.ref C :: bm).contains (.type B) = true := by rw [List.contains_cons, hT, Fx.hasB, Bool.or_true]
  have c2 : (Value.ref C :: bm).contains (.type "AttributeError") = false := by rw [List.contains_cons, hT, Fx.noAttr]; rfl
  have c3 : (Value.ref C :: bm).contains (.type "NameError") = false := by rw [List.contains_cons, hT, Fx.noName]; rfl
  have hrest : ([] : List Value).length ≤ sizeLine := Nat.zero_le _
  refine codeAny_builtinAt Fx.entry ?_
  unfold Builtin.«BaseException.__new__»
  refine wpAt_bind ?_
  show wpAt _ _ _ (stack >>= _) _ _ _
  refine wpAt_bind (wpAt_stack fun p below => wpAt_of_wpAny ?_)
  wp_walk
  refine wpAt_of_wpAny ?_
  rw [Fx.owner]
  repeat (first | with_reducible refine wpAny_madeHere_exc Fx.canon hC ?_ | with_reducible refine wpAny_loadPart_at hC ?_ | (with_reducible refine wpAny_isSubtype_exc hC ?_; first | rw [c1] | rw [c2] | rw [c3]) | wp_step)
  show R _ _
  rw [Heap.size_push]
  exact z
theorem kwx_type (Fx : ExcBaseFacts B nI iI bB) (hT : ∀ X : String, bm.contains (.type X) = bB.contains (.type X)) {Q : Fin → Shared → Prop} (hl : kw.length ≤ 2)
    (hC : h.get? C = some (excClassObj nm q C N bs bm true sn sub ab col dd k0 k1 k2 k3 k5 nI))
    (i0 : PySem.W.Looks (model prog w) h (typeLookup (.ref C) "__init__") (some (.ref fI))) (b0 : ∀ self, PySem.W.Looks (model prog w) h (bindSpecial (.ref fI) self) (.ref fI, [self]))
    (z : codeAny (model prog w) A (.call (.ref fI) ⟨[.ref (h.objs.size + 1)], kw⟩)
      (fun r s' => match r with | .ok (.ret v) => v = .none ∧ Q (.done (.ret (.ref (h.objs.size + 1)))) s' | .ok _ => False | .error e => E e s')
      ⟨(h.push (PySem.W.kdv_tup [])).push (excO C h.objs.size), g, dr, tk, os⟩) :
    wpAny (model prog w) A (Builtin.«type.__call__» ⟨[.ref C], kw⟩) Q E ⟨h, g, dr, tk, os⟩ := by
  repeat (first | with_reducible refine wpAny_loadPart_at hC ?_ | with_reducible refine wpAny_madeBy_exc hC ?_ | wp_step)
  refine codeAny_call_builtin_code (Code.quiet_builtin _ Fx.quiet) (kwx_check Fx hT hC hl ?_)
  refine kwx_new Fx hT hC ?_
  show wpAny _ _ _ _ _ _
  have old : ∀ b o, h.get? b = some o → ((h.push (PySem.W.kdv_tup [])).push (excO C h.objs.size)).get? b = some o := fun b o e => Heap.get?_push_of_some _ (Heap.get?_push_of_some _ e)
  have hC1 := old _ _ hC
  have hx : ((h.push (PySem.W.kdv_tup [])).push (excO C h.objs.size)).get? (h.objs.size + 1) = some (excO C h.objs.size) := by heap_get
  have own : (Value.ref C :: bm).contains (.ref C) = true := by simp
  have i1 := i0.keeps old
  have b1 := (b0 (.ref (h.objs.size + 1))).keeps old
  unfold isInstance
  repeat (first | with_reducible refine wpAny_loadPart_at hx ?_ | (with_reducible refine wpAny_isSubtype_exc hC1 ?_; rw [own]) | wp_step)
  show wpAny _ _ (typeLookup (.ref C) _) _ _ _
  refine i1.at ?_
  refine wpAny_holding (wpAny_bind (b1.at ?_))
  refine wpAny_bind (wpAny_call (codeAny_mono z fun r s' z => ?_))
  rcases r with e | (v | _ | _ | _) <;> first | exact z | exact z.elim | skip
  obtain ⟨rfl, z⟩ := z
  first
    | exact wpAny_pure (wpAny_pure z)
    | (wp_walk; exact z)
theorem kwx_tc {Q : Unit → Shared → Prop} (hl : kw.length ≤ 2) (hC : h.get? C = some (excClassObj nm q C N bs bm true sn sub ab col dd k0 k1 k2 k3 k5 nI))
    (z : Q () ⟨h, g, dr, tk, os⟩) : wpAny M A (checkBuiltinCall "type.__call__" ⟨[.ref C], kw⟩) Q E ⟨h, g, dr, tk, os⟩ := by
  have f3 := tc_sub
  have ty : (⟨h, g, dr, tk, os⟩ : Shared).TypeIs (.ref C) "type" := ⟨_, hC, rfl⟩
  simp only [checkBuiltinCall, tc_kind, tc_split]
  repeat (any_goals (first | assumption | with_reducible refine wpAny_loadPart_at hC ?_ | with_reducible refine wpAny_onRaise ?_ | with_reducible refine wpAny_map ?_ | wp_step))
theorem kwx_call (Fx : ExcBaseFacts B nI iI bB) (hT : ∀ X : String, bm.contains (.type X) = bB.contains (.type X)) (hl : kw.length ≤ 2)
    (hC : h.get? C = some (excClassObj nm q C N bs bm true sn sub ab col dd k0 k1 k2 k3 k5 nI))
    (i0 : PySem.W.Looks (model prog w) h (typeLookup (.ref C) "__init__") (some (.ref fI))) (b0 : ∀ self, PySem.W.Looks (model prog w) h (bindSpecial (.ref fI) self) (.ref fI, [self]))
    (z : codeAny (model prog w) (A.under (.builtin "type.__call__" ⟨[.ref C], kw⟩)) (.call (.ref fI) ⟨[.ref (h.objs.size + 1)], kw⟩) (PySem.W.InitBack (h.objs.size + 1) R)
      ⟨(h.push (PySem.W.kdv_tup [])).push (excO C h.objs.size), g, dr, tk, os⟩) :
    codeAny (model prog w) A (.call (.ref C) ⟨[], kw⟩) R ⟨h, g, dr, tk, os⟩ := by
  have f1 := tc_lookup
  have f2 := tc_bind (.ref C)
  have ty : (⟨h, g, dr, tk, os⟩ : Shared).TypeIs (.ref C) "type" := ⟨_, hC, rfl⟩
  refine codeAny_of_tree ?_
  show wpAny _ _ (callAny (.ref C) _) _ _ _
  repeat (any_goals (first | assumption | with_reducible refine wpAny_loadPart_at hC ?_ | wp_step))
  refine ⟨rfl, ?_⟩
  refine codeAny_call_builtin_at (Code.quiet_builtin _ (by decide +kernel)) entry_typeCall (kwx_tc hl hC (kwx_type Fx hT hl hC i0 b0 ?_))
  refine codeAny_mono z fun r s' z => ?_
  rcases r with e | (v | _ | _ | _) <;> exact z
end
end HXK
end PySem

set_option Elab.async false
set_option linter.all false
set_option maxRecDepth 100000
set_option maxHeartbeats 2000000
namespace HX
open PySem PySem.Spec PyProof.Rows L2

/-! ### an own exception as a value: at e, of the class at C, its fields fs -/
def Er (H : Hp) (e C : Addr) (fs : List (Str × V)) : Prop := ∃ od : Option Addr, H e = some (exT e (.ref C) od) ∧ ((∃ d, od = some d ∧ H d = some (.xd fs)) ∨ (od = none ∧ fs = []))
theorem Er.mo {H H' : Hp} {e C : Addr} {fs : List (Str × V)} (m : Same H H') : Er H e C fs → Er H' e C fs
  | ⟨od, h, q⟩ => ⟨od, m _ _ h, q.elim (fun ⟨d, a, b⟩ => .inl ⟨d, a, m _ _ b⟩) .inr⟩
section
variable {X : Cx} {x f g : Str} {C fI : Addr} {fd : FuncData} {k : Nat} {e e1 e2 : Expr} {es : List Expr} {te te1 te2 : TE} {ta : TA} {p pos : Pos} {ps : List Str} {sp : Sp}
/-- what the maker's end gives the value's reader -/
def QV (H1 : Hp) (C a : Addr) (Q : VK) : VK := fun v H2 => v = .non ∧ ∃ d fs, H2 a = some (exo a C (some d)) ∧ H2 d = some (exd d fs) ∧ H1 d = none ∧ Q (.ref a) (upd (upd (del H2 a) d (.xd fs)) a (exT a (.ref C) (some d)))
theorem end_xv {pins : List (Addr × Obj)} {σ : L2.St} {H1 H2 : Hp} {Q : VK} {hp hp2 h2 : Heap} {g1 g2 : Array GenState} {d1 d2 : Drawn} {t1 t2 : Nat} {os1 os2 : OsState} {a C d : Addr} {fs : List (Str × V)} (I1 : Inv X pins σ H1 ⟨hp, g1, d1, t1, os1⟩)
    (ha : hp.objs.size ≤ a) (k : ∀ b o, hp.get? b = some o → hp2.get? b = some o) (un : Un (frs X.stack) [] (upd H1 a (exo a C none)) H2 hp2 h2) (hok : HOk X.prog X.w H2 h2) (ho : os2 = os1) (hb : AllBare g2)
    (ea : H2 a = some (exo a C (some d))) (ed : H2 d = some (exd d fs)) (hd1 : H1 d = none) (q : Q (.ref a) (upd (upd (del H2 a) d (.xd fs)) a (exT a (.ref C) (some d)))) : EP X pins σ Q (.ref a) ⟨h2, g2, d2, t2, os2⟩ := by
  obtain ⟨t0, G, J, kG, ge, hoe, na⟩ := mk_end0 (d2 := d2) (t2 := t2) I1 ha k un hok ho hb ea ed hd1
  exact ⟨.ref a, _, J.laidN (t' := t2) kG ge na (exT_ok hoe ⟨rfl, rfl⟩ rfl), rfl, q⟩
theorem pe_xv {R : List V → Hp → VK → Prop} (imp : ∀ vs H1 Q, R vs H1 Q → vs.length ≤ 1000 ∧ ∀ a, H1 a = none → sp (.ref a :: vs) (upd H1 a (exo a C none)) (QV H1 C a Q) fun _ _ _ => False) (T : RxC X.K X.mg x C fI) (Fi : FnOk X.prog X.w X.K X.mg X.base CX0 k fI fd ps sp) (b : Binds X.K fd ps []) (hr : Room (k + 1) X.A) (ha : PA X (e :: es) ta) (hg : Gl X x)
    (hdb : (x == ("__debug__" : Str)) = false := by decide) (hs : starEach (e :: es) X.env = (false, eval e X.env) :: starEach es X.env := by rfl) (hpl : (backTo pos (starEach es X.env)).any (·.1) = false := by rfl) :
    PE X (.Call (.Name x p) (e :: es) [] pos) (fun σ H Q => ta σ H fun vs H1 => R vs H1 Q) := by
  refine ⟨fun pins s σ H Q I h => ?_⟩
  obtain ⟨nm, q, N, bs, bm, sn, sub, ab, col, dd, k0, k1, k2, k3, k5, hC, hbm⟩ := T.o.cls
  refine wpAny_Call_Name_kw (ld_glob I hg T.gC ?_ hdb)
  refine PySem.W.callWith_K (h₀ := X.base) I.ok.mod.kin T.o.kC (thn (ha.run pos pins s σ H _ I h) fun us s1 ⟨vs, H1, I1, r1, qR⟩ => ⟨I1.kIn, ?_⟩) hs hpl
  obtain ⟨hz, q1⟩ := imp _ _ _ qR
  show wpAny _ _ (call (.ref C) us) _ _ _
  obtain ⟨hp, gn, dr, tk, os⟩ := s1
  have z1 : hp.objs.size ≤ hp.objs.size + 1 := Nat.le_succ _
  have hn : H1 (hp.objs.size + 1) = none := I1.hok.fresh z1
  have hq := q1 (hp.objs.size + 1) hn
  have old : ∀ b o, hp.get? b = some o → ((hp.push (PySem.W.kdv_tup us)).push (PySem.HandSPX.excO C hp.objs.size)).get? b = some o := fun b o z => Heap.get?_push_of_some _ (Heap.get?_push_of_some _ z)
  have at_ : ((hp.push (PySem.W.kdv_tup us)).push (PySem.HandSPX.excO C hp.objs.size)).get? (hp.objs.size + 1) = some (PySem.HandSPX.excO C hp.objs.size) := by heap_get
  have I2 : Inv X pins σ (upd H1 (hp.objs.size + 1) (exo (hp.objs.size + 1) C none)) ⟨(hp.push (PySem.W.kdv_tup us)).push (PySem.HandSPX.excO C hp.objs.size), gn, dr, tk, os⟩ :=
    I1.laid (t' := tk) (a := hp.objs.size + 1) (o := exo (hp.objs.size + 1) C none) (h' := (hp.push (PySem.W.kdv_tup us)).push (PySem.HandSPX.excO C hp.objs.size)) old z1 (exo_ok at_)
  have r2 : Vals (V.ref (hp.objs.size + 1) :: vs) (Value.ref (hp.objs.size + 1) :: us) := .cons rfl r1
  have hl : ((Value.ref (hp.objs.size + 1) :: us) ++ []).length = ps.length := by
    rw [List.append_nil, ← r2.length]
    exact Fi.len _ _ _ _ hq
  have hus : us.length ≤ sizeLine := by
    rw [← Paired.length r1, sizeLine_eq]
    omega
  have bd := b (Shared.mk _ gn dr tk os) (Value.ref (hp.objs.size + 1) :: us) I2.kIn hl
  rw [List.append_nil] at bd
  refine wpAny_call (PySem.HandSPX.call_own F.excBase_ValueError (fun Y => PySem.HandSPX.refsVE_contains Y bm hbm) (I1.kIn _ _ hC) (PySem.W.looks_findIn I1.kIn T.iC) (fun self => PySem.W.bind_fn I1.kIn self T.tI) hus
    (codeAny_mono (Fi.run _ X.stack _ _ ⟨Value.ref (hp.objs.size + 1) :: us, []⟩ (Value.ref (hp.objs.size + 1) :: us) _ _ (fun _ _ _ => False) (hr.make C us []) (I2.env0.make C us []) bd r2 hq) fun r s' hq' => ?_))
  match r, hq' with
  | .error er, hq' => exact False.elim hq'
  | .ok .next, hq' => exact False.elim hq'
  | .ok .brk, hq' => exact False.elim hq'
  | .ok .cont, hq' => exact False.elim hq'
  | .ok (.ret u), hq' =>
    obtain ⟨v, H2, os2, bare2, un2, hok2, rv, ev, d, fs, ea, ed, hd1, q2⟩ := hq'
    subst ev
    obtain ⟨h2, g2, d2, t2, os'⟩ := s'
    exact ⟨rv, end_xv I1 z1 old un2 hok2 os2 bare2 ea ed hd1 q2⟩
theorem pe_xk {R : List V → Hp → VK → Prop} {ks : List Str} {kws : List Keyword} {gg : List Value → List Value → List Value} {gV : List V → List V → List V} (imp : ∀ zs H1 Q, R zs H1 Q → zs.length = ks.length ∧ ∀ a, H1 a = none → sp (gV [.ref a] zs) (upd H1 a (exo a C none)) (QV H1 C a Q) fun _ _ _ => False) (T : RxC X.K X.mg x C fI) (Fi : FnOk X.prog X.w X.K X.mg X.base CX0 k fI fd ps sp) (b : KBn X.K fd ps 1 ks gg gV) (hks2 : ks.length ≤ 2) (hr : Room (k + 1) X.A) (hkw : PK X kws ta) (hg : Gl X x)
    (hdb : (x == ("__debug__" : Str)) = false := by decide) (hall : (backToKw pos (keywordEach kws X.env)).all (·.1.isSome) = true := by rfl) (hks : (backToKw pos (keywordEach kws X.env)).filterMap (·.1) = ks := by rfl)
    (hpl : ((backTo pos (starEach [] X.env)).any (·.1) || (backToKw pos (keywordEach kws X.env)).any (·.1.isNone)) = false := by rfl) :
    PE X (.Call (.Name x p) [] kws pos) (fun σ H Q => ta σ H fun zs H1 => R zs H1 Q) := by
  refine ⟨fun pins s σ H Q I h => ?_⟩
  obtain ⟨nm, q, N, bs, bm, sn, sub, ab, col, dd, k0, k1, k2, k3, k5, hC, hbm⟩ := T.o.cls
  refine wpAny_Call_Name_kw (ld_glob I hg T.gC ?_ hdb)
  refine PySem.W.callWith_KW0 (h₀ := X.base) I.ok.mod.kin T.o.kC hall (thn (hkw.run pos pins s σ H _ I h) fun ws s1 ⟨zs, H1, I1, rz, qR⟩ => ⟨I1.kIn, ?_⟩) hpl
  obtain ⟨l1, q1⟩ := imp _ _ _ qR
  rw [hks]
  show wpAny _ _ (call (.ref C) [] (ks.zip ws)) _ _ _
  obtain ⟨hp, gn, dr, tk, os⟩ := s1
  have z1 : hp.objs.size ≤ hp.objs.size + 1 := Nat.le_succ _
  have hn : H1 (hp.objs.size + 1) = none := I1.hok.fresh z1
  have hq := q1 (hp.objs.size + 1) hn
  have old : ∀ b o, hp.get? b = some o → ((hp.push (PySem.W.kdv_tup [])).push (PySem.HandSPX.excO C hp.objs.size)).get? b = some o := fun b o z => Heap.get?_push_of_some _ (Heap.get?_push_of_some _ z)
  have at_ : ((hp.push (PySem.W.kdv_tup [])).push (PySem.HandSPX.excO C hp.objs.size)).get? (hp.objs.size + 1) = some (PySem.HandSPX.excO C hp.objs.size) := by heap_get
  have I2 : Inv X pins σ (upd H1 (hp.objs.size + 1) (exo (hp.objs.size + 1) C none)) ⟨(hp.push (PySem.W.kdv_tup [])).push (PySem.HandSPX.excO C hp.objs.size), gn, dr, tk, os⟩ :=
    I1.laid (t' := tk) (a := hp.objs.size + 1) (o := exo (hp.objs.size + 1) C none) (h' := (hp.push (PySem.W.kdv_tup [])).push (PySem.HandSPX.excO C hp.objs.size)) old z1 (exo_ok at_)
  have lw : ws.length = ks.length := rz.length.symm.trans l1
  have lkw : (ks.zip ws).length ≤ 2 := by
    rw [List.length_zip, lw, Nat.min_self]
    exact hks2
  have bd := b.to (Shared.mk _ gn dr tk os) [Value.ref (hp.objs.size + 1)] ws I2.kIn rfl lw
  have r2 := b.rel (vs := [V.ref (hp.objs.size + 1)]) (us := [Value.ref (hp.objs.size + 1)]) (.cons rfl .nil) rz
  refine wpAny_call (PySem.HXK.kwx_call F.excBase_ValueError (fun Y => PySem.HandSPX.refsVE_contains Y bm hbm) lkw (I1.kIn _ _ hC) (PySem.W.looks_findIn I1.kIn T.iC) (fun self => PySem.W.bind_fn I1.kIn self T.tI)
    (codeAny_mono (Fi.run _ X.stack _ _ ⟨[Value.ref (hp.objs.size + 1)], ks.zip ws⟩ (gg [Value.ref (hp.objs.size + 1)] ws) _ _ (fun _ _ _ => False) (hr.make C [] (ks.zip ws)) (I2.env0.make C [] (ks.zip ws)) bd r2 hq) fun r s' hq' => ?_))
  match r, hq' with
  | .error er, hq' => exact False.elim hq'
  | .ok .next, hq' => exact False.elim hq'
  | .ok .brk, hq' => exact False.elim hq'
  | .ok .cont, hq' => exact False.elim hq'
  | .ok (.ret u), hq' =>
    obtain ⟨v, H2, os2, bare2, un2, hok2, rv, ev, d, fs, ea, ed, hd1, q2⟩ := hq'
    subst ev
    obtain ⟨h2, g2, d2, t2, os'⟩ := s'
    exact ⟨rv, end_xv I1 z1 old un2 hok2 os2 bare2 ea ed hd1 q2⟩
/-- C(), no own __init__, kept -/
def tX0 (C : Addr) : TE := fun _ H Q => ∀ a H', Same H H' → H a = none → Er H' a C [] → Q (.ref a) H'
theorem pe_x0 {bmB : List Value} {B newId initId : String} (Fx : ExcBaseFacts B newId initId bmB) (q : PySem.W.excIn X.K C bmB newId = true) (gC : X.mg x = some (.ref C)) (kC : PySem.W.keepIn X.K (.ref C) = true) (hg : Gl X x) (hdb : (x == ("__debug__" : Str)) = false := by decide) :
    PE X (.Call (.Name x p) [] [] pos) (tX0 C) := by
  refine ⟨fun pins s σ H Q I h => ?_⟩
  refine wpAny_Call_Name_kw (ld_glob I hg gC ?_ hdb)
  refine PySem.W.callWith_KW0 (h₀ := X.base) I.ok.mod.kin kC rfl ?_ rfl
  refine PyProof.Rows.kwAll_nil ⟨I.kIn, ?_⟩
  show wpAny _ _ (call (.ref C) []) _ _ _
  obtain ⟨bm, N, nm, qn, bs, hdct, sn, sub, ab, col, dd, k0, k1, k2, k3, k5, mN, hC, hN, hni, T⟩ := exc_obj I.kIn q
  refine wpAny_call_exc_subT Fx T hC hN hni (fun h' a hm => ?_) (Nat.zero_le _)
  have hn : H a = none := I.hok.gone hm.new
  obtain ⟨t, ht, _, _⟩ := hm.there
  exact ⟨.ref a, upd H a (exT a (.ref C) none), I.laidN hm.keeps hm.new hn (exT_ok ht ⟨rfl, rfl⟩ rfl), rfl, h a _ (Same.new (Same.refl _) hn) hn ⟨none, upd_same, .inr ⟨rfl, rfl⟩⟩⟩
/-! ### .. by their fields -/
def R1 (C : Addr) (f : Str) : List V → Hp → VK → Prop := fun vs H1 Q => ∃ v, vs = [v] ∧ ∀ a H', Same H1 H' → H1 a = none → Er H' a C [(f, v)] → Q (.ref a) H'
def R2 (C : Addr) (f g : Str) : List V → Hp → VK → Prop := fun vs H1 Q => ∃ v u, vs = [v, u] ∧ ∀ a H', Same H1 H' → H1 a = none → Er H' a C [(g, u), (f, v)] → Q (.ref a) H'
def R2s (C : Addr) (f g : Str) : List V → Hp → VK → Prop := fun vs H1 Q => ∃ v u, vs = [u, v] ∧ ∀ a H', Same H1 H' → H1 a = none → Er H' a C [(g, u), (f, v)] → Q (.ref a) H'
def sw {α : Type} : List α → List α
  | [a, b] => [b, a]
  | _ => []
theorem sw_vals {vs : List V} {us : List Value} (r : Vals vs us) : Vals (sw vs) (sw us) := by
  cases r with
  | nil => exact .nil
  | cons r1 r =>
    cases r with
    | nil => exact .nil
    | cons r2 r =>
      cases r with
      | nil => exact .cons r2 (.cons r1 .nil)
      | cons _ _ => exact .nil
theorem same_xv {H1 : Hp} {a d : Addr} {o1 o2 u : HO} {H2 : Hp} (na : H1 a = none) (nd : H1 d = none) (e : ∀ b, b ≠ a → b ≠ d → H2 b = H1 b) : Same H1 (upd (upd (del H2 a) d u) a o2) := fun b o z => by
  have n1 := ne_of_none z na
  have n2 := ne_of_none z nd
  rw [upd_ne n1, upd_ne n2, del_ne n1, e b n1 n2]
  exact z
theorem imp1 {C : Addr} {f : Str} (vs : List V) (H1 : Hp) (Q : VK) (h : R1 C f vs H1 Q) : vs.length ≤ 1000 ∧ ∀ a, H1 a = none → spI1 C f (.ref a :: vs) (upd H1 a (exo a C none)) (QV H1 C a Q) fun _ _ _ => False := by
  obtain ⟨v, rfl, k⟩ := h
  refine ⟨by show 1 ≤ 1000; decide, fun a na => ⟨a, v, rfl, upd_same, fun dx nx ne => ⟨rfl, dx, _, upd_same, by rw [upd_ne ne, upd_same], ?_, k a _ (same_xv (o1 := .own 0) na ?_ fun b n1 n2 => ?_) na ?_⟩⟩⟩
  · rw [upd_ne ne] at nx
    exact nx
  · rw [upd_ne ne] at nx
    exact nx
  · rw [upd_ne n1, upd_ne n2, upd_ne n1]
  · exact ⟨some dx, upd_same, .inl ⟨dx, rfl, by rw [upd_ne ne, upd_same]⟩⟩
theorem imp2 {C : Addr} {f g : Str} (vs : List V) (H1 : Hp) (Q : VK) (h : R2 C f g vs H1 Q) : vs.length ≤ 1000 ∧ ∀ a, H1 a = none → spI2 C f g (.ref a :: vs) (upd H1 a (exo a C none)) (QV H1 C a Q) fun _ _ _ => False := by
  obtain ⟨v, u, rfl, k⟩ := h
  refine ⟨by show 2 ≤ 1000; decide, fun a na => ⟨a, v, u, rfl, upd_same, fun dx nx ne => ⟨rfl, dx, _, by rw [upd_ne (Ne.symm ne), upd_same], upd_same, ?_, k a _ (same_xv (o1 := .own 0) na ?_ fun b n1 n2 => ?_) na ?_⟩⟩⟩
  · rw [upd_ne ne] at nx
    exact nx
  · rw [upd_ne ne] at nx
    exact nx
  · rw [upd_ne n2, upd_ne n1, upd_ne n2, upd_ne n1]
  · exact ⟨some dx, upd_same, .inl ⟨dx, rfl, by rw [upd_ne ne, upd_same]⟩⟩
end
/-- an error class of one field, of two -/
def Er1 (P : Program) (w : World) (K : PySem.W.Frag) (mg : Str → Option Value) (base : Heap) (x : Str) (C : Addr) (f : Str) : Prop :=
  ∃ (fI : Addr) (fd : FuncData), RxC K mg x C fI ∧ FnOk P w K mg base CX0 1 fI fd ["self", f] (spI1 C f) ∧ Binds K fd ["self", f] [] ∧ KBn K fd ["self", f] 1 [f] (fun us ws => us ++ ws) (fun vs zs => vs ++ zs)
def Er2 (P : Program) (w : World) (K : PySem.W.Frag) (mg : Str → Option Value) (base : Heap) (x : Str) (C : Addr) (f g : Str) : Prop :=
  ∃ (fI : Addr) (fd : FuncData), RxC K mg x C fI ∧ FnOk P w K mg base CX0 1 fI fd ["self", f, g] (spI2 C f g) ∧ Binds K fd ["self", f, g] [] ∧ KBn K fd ["self", f, g] 1 [g, f] (fun us ws => us ++ sw ws) (fun vs zs => vs ++ sw zs)
section
variable {X : Cx} {x f g : Str} {C : Addr} {e e2 : Expr} {te te2 : TE} {ta : TA} {kws : List Keyword} {p pos : Pos}
theorem pe_e1 (Z : Er1 X.prog X.w X.K X.mg X.base x C f) (hr : Room 2 X.A) (ha : PA X [e] ta) (hg : Gl X x := by rfl)
    (hdb : (x == ("__debug__" : Str)) = false := by decide) (hs : starEach [e] X.env = (false, eval e X.env) :: starEach [] X.env := by rfl) (hpl : (backTo pos (starEach [] X.env)).any (·.1) = false := by rfl) :
    PE X (.Call (.Name x p) [e] [] pos) (fun σ H Q => ta σ H fun vs H1 => R1 C f vs H1 Q) := by
  obtain ⟨fI, fd, T, Fi, b, _⟩ := Z
  exact pe_xv imp1 T Fi b hr ha hg hdb hs hpl
theorem pe_e2 (Z : Er2 X.prog X.w X.K X.mg X.base x C f g) (hr : Room 2 X.A) (ha : PA X [e, e2] ta) (hg : Gl X x := by rfl)
    (hdb : (x == ("__debug__" : Str)) = false := by decide) (hs : starEach [e, e2] X.env = (false, eval e X.env) :: starEach [e2] X.env := by rfl) (hpl : (backTo pos (starEach [e2] X.env)).any (·.1) = false := by rfl) :
    PE X (.Call (.Name x p) [e, e2] [] pos) (fun σ H Q => ta σ H fun vs H1 => R2 C f g vs H1 Q) := by
  obtain ⟨fI, fd, T, Fi, b, _⟩ := Z
  exact pe_xv imp2 T Fi b hr ha hg hdb hs hpl
theorem pe_e1k (Z : Er1 X.prog X.w X.K X.mg X.base x C f) (hr : Room 2 X.A) (hkw : PK X kws ta) (hg : Gl X x := by rfl)
    (hdb : (x == ("__debug__" : Str)) = false := by decide) (hall : (backToKw pos (keywordEach kws X.env)).all (·.1.isSome) = true := by rfl) (hks : (backToKw pos (keywordEach kws X.env)).filterMap (·.1) = [f] := by rfl)
    (hpl : ((backTo pos (starEach [] X.env)).any (·.1) || (backToKw pos (keywordEach kws X.env)).any (·.1.isNone)) = false := by rfl) :
    PE X (.Call (.Name x p) [] kws pos) (fun σ H Q => ta σ H fun vs H1 => R1 C f vs H1 Q) := by
  obtain ⟨fI, fd, T, Fi, _, b⟩ := Z
  refine pe_xk (fun zs H1 Q h => ?_) T Fi b (by show 1 ≤ 2; decide) hr hkw hg hdb hall hks hpl
  have q := (imp1 zs H1 Q h).2
  obtain ⟨v, rfl, _⟩ := h
  exact ⟨rfl, q⟩
theorem pe_e2k (Z : Er2 X.prog X.w X.K X.mg X.base x C f g) (hr : Room 2 X.A) (hkw : PK X kws ta) (hg : Gl X x := by rfl)
    (hdb : (x == ("__debug__" : Str)) = false := by decide) (hall : (backToKw pos (keywordEach kws X.env)).all (·.1.isSome) = true := by rfl) (hks : (backToKw pos (keywordEach kws X.env)).filterMap (·.1) = [g, f] := by rfl)
    (hpl : ((backTo pos (starEach [] X.env)).any (·.1) || (backToKw pos (keywordEach kws X.env)).any (·.1.isNone)) = false := by rfl) :
    PE X (.Call (.Name x p) [] kws pos) (fun σ H Q => ta σ H fun vs H1 => R2s C f g vs H1 Q) := by
  obtain ⟨fI, fd, T, Fi, _, b⟩ := Z
  refine pe_xk (fun zs H1 Q h => ?_) T Fi b (by show 2 ≤ 2; decide) hr hkw hg hdb hall hks hpl
  obtain ⟨v, u, rfl, q⟩ := h
  exact ⟨rfl, (imp2 [v, u] H1 Q ⟨v, u, rfl, q⟩).2⟩
theorem Er.at_ {G : Hp} {a C : Addr} {fs : List (Str × V)} (h : Er G a C fs) (n : fs ≠ []) : ∃ d, G a = some (exT a (.ref C) (some d)) ∧ G d = some (.xd fs) := by
  obtain ⟨od, e, q⟩ := h
  rcases q with ⟨d, rfl, z⟩ | ⟨_, z⟩
  · exact ⟨d, e, z⟩
  · exact absurd z n
end
end HX

set_option Elab.async false
set_option linter.all false
set_option maxRecDepth 100000
set_option maxHeartbeats 2000000
namespace HX
open PySem PySem.Spec PyProof.Rows L2

/-! ### new lists that are not sys.modules -/
section
variable {X : Cx} {es : List Expr} {t : TA} {pos : Pos}
def tLstS (t : TA) : TE := fun σ H Q => t σ H fun xs G => xs.length ≤ sizeLine ∧ ∀ p, G p = none → p ≠ sysModules → Q (.ref p) (upd G p (.lst xs))
theorem pe_lstS (h : PA X es t) : PE X (.List es pos) (tLstS t) := by
  refine ⟨fun pins s σ H Q I k => wpAny_List_spliced (thn (h.run pos pins s σ H _ I k) fun us s1 ⟨xs, G, J, r, z, q⟩ => ⟨by rw [← r.length]; exact z, ?_⟩)⟩
  have nw : G s1.heap.objs.size = none := J.hok.fresh (Nat.le_refl _)
  exact ⟨.ref s1.heap.objs.size, upd G s1.heap.objs.size (.lst xs), J.laid (t' := s1.toks) (fun b u e => Heap.get?_push_of_some _ e) (Nat.le_refl _) ⟨z, us, 0, r, Heap.get?_push_size _ rfl⟩, rfl, q _ nw (Ne.symm (Nat.ne_of_lt J.big))⟩
def rSlLS (K : PySem.W.Frag) : V → Option Int → Option Int → Hp → VK → Prop := fun x lo hi H Q => ∃ a xs, x = .ref a ∧ SqL K H a xs ∧ ∀ p, H p = none → p ≠ sysModules → Q (.ref p) (upd H p (.lst (cutV xs lo hi)))
theorem sl_listS : SlR X (rSlLS X.K) := by
  intro pins s σ H x v vl vu lo hi sl Q I rx hs pl pu h
  obtain ⟨a, xs, rfl, hx, q⟩ := h
  obtain ⟨T, id, z1, z2, z3⟩ := sl_list pins s σ H (.ref a) v vl vu lo hi sl (fun v G => ∃ p, v = .ref p ∧ G = upd H p (.lst (cutV xs lo hi)) ∧ H p = none) I rx hs pl pu ⟨a, xs, rfl, hx, fun p n => ⟨p, rfl, rfl, n⟩⟩
  cases rx
  obtain ⟨its, r, ht, hz⟩ := I.list hx
  have hlen := r.length
  refine ⟨"list", _, F.slot_list_getitem.lookup, ht.isList.typeIs, wpAny_getItem_list_slice ht.isList hs pl pu .none (by simp) ?_ (by rw [List.size_toArray]; omega)⟩
  rw [slicePick_cut, ← hlen]
  exact ⟨.ref s.heap.objs.size, _, I.laid (t' := s.toks) (o := .lst (cutV xs lo hi)) (fun b ob q => Heap.get?_push_of_some _ q) (Nat.le_refl _)
    ⟨Nat.le_trans (cutV_length xs lo hi) hz, _, 0, (r.drop (HT.sIx xs.length 0 lo)).take (HT.sIx xs.length xs.length hi - HT.sIx xs.length 0 lo), Heap.get?_push_size _ rfl⟩, rfl, q _ (I.hok.fresh (Nat.le_refl _)) (Ne.symm (Nat.ne_of_lt I.big))⟩
end

/-! ### values that are drawn, of any kind -/
/-- data that repr can show in a list, beside another -/
structure OkT (d : PyData) : Prop where
  sh : d.showable = true
  dp : d.depth ≤ 30
  lv : d.leavesShort 1000 = true
  wt : d.weight ≤ 1000
theorem OkT.l1 {d : PyData} (h : OkT d) : OkD (.list [d]) := by
  obtain ⟨h1, h2, h3, h4⟩ := h
  refine ⟨?_, ?_, ?_, ?_⟩
  · simp [PyData.showable, PyData.showableAll, h1]
  · simp [PyData.depth, PyData.depthAll]; omega
  · simp [PyData.leavesShort, PyData.leavesShortAll, h3]
  · simp [PyData.weight, PyData.weightAll]; omega
theorem OkT.l2 {d e : PyData} (h : OkT d) (k : OkT e) : OkD (.list [d, e]) := by
  obtain ⟨h1, h2, h3, h4⟩ := h
  obtain ⟨k1, k2, k3, k4⟩ := k
  refine ⟨?_, ?_, ?_, ?_⟩
  · simp [PyData.showable, PyData.showableAll, h1, k1]
  · simp [PyData.depth, PyData.depthAll]; omega
  · simp [PyData.leavesShort, PyData.leavesShortAll, h3, k3]
  · simp [PyData.weight, PyData.weightAll]; omega
theorem okD_nil : OkD (.list []) := ⟨by decide +kernel, by decide +kernel, by decide +kernel, by decide +kernel⟩
theorem okT_by {d : PyData} (e : (d.showable && decide (d.depth ≤ 30) && d.leavesShort 1000 && decide (d.weight ≤ 1000)) = true) : OkT d := by
  simp only [Bool.and_eq_true, decide_eq_true_eq] at e
  exact ⟨e.1.1.1, e.1.1.2, e.1.2, e.2⟩
theorem kpN {H : Hp} {q b : Addr} {o u : HO} (e : H b = some u) (h : H q = none) : L2.upd H q o b = some u := by rw [upd_ne (ne_of_none e h)]; exact e
theorem kp2 {H : Hp} {q b : Addr} {o o' u : HO} (e : H b = some u) (h : H q = none) : L2.upd (L2.upd H q o) q o' b = some u := by rw [upd_ne (ne_of_none e h)]; exact kpN e h
theorem Same.upN {H G : Hp} {l : Addr} {o : HO} (s : Same H G) (n : H l = none) : Same H (L2.upd G l o) := fun c u e => by rw [upd_ne (ne_of_none e n)]; exact s c u e
/-- isinstance(e, c) of an own exception's value -/
def rIsE (K : PySem.W.Frag) : List V → Hp → VK → Prop := fun xs H Q => ∃ (a D : Addr) (fs : List (Str × V)) (c : V) (cv : Value) (b : Bool), xs = [.ref a, c] ∧ Er H a D fs ∧ ExC K D ∧ (∀ u, RelV c u → u = cv) ∧ PySem.W.kitOne K (.ref D) cv = some b ∧ Q (.bl b) H
theorem call_isE {X : Cx} : CallR X (.builtin "isinstance") (rIsE X.K) := fun pins s σ H xs us Q I r h => by
  obtain ⟨a, D, fs, c, cv, b, rfl, ⟨od, e, q⟩, T, hc, hk, z⟩ := h
  refine call_isX pins s σ H _ us Q I r ⟨a, D, od, c, cv, b, rfl, e, fun dd ed => ?_, T, hc, hk, z⟩
  rcases q with ⟨d, e1, e2⟩ | ⟨e1, _⟩
  · rw [ed] at e1
    cases e1
    exact ⟨_, e2⟩
  · rw [ed] at e1
    cases e1
theorem okT_int {i : Int} (h : i.natAbs < 2 ^ 900) : OkT (.int i) := by
  have hl : i.natAbs.log2 < 900 := by
    by_cases z : i.natAbs = 0
    · rw [z]
      decide
    · exact (Nat.log2_lt z).mpr h
  have e := int_text_length_le (a := i) (k := 900) (by decide) hl
  refine ⟨by show decide (i.natAbs.log2 < 1920) = true; exact decide_eq_true (by omega), by show 0 ≤ 30; decide, ?_, by simp only [PyData.weight]; split <;> omega⟩
  show decide ((PyData.shown (.int i)).length ≤ 1000) = true
  refine decide_eq_true ?_
  show (Str.ofString (toString i)).length ≤ 1000
  rw [PySem.ofString_length]
  omega
end HX

set_option Elab.async false
set_option linter.all false
set_option maxRecDepth 100000
set_option maxHeartbeats 4000000
namespace LW
open PySem PySem.Spec PyProof.Rows L2 HX
def top (i : Nat) : Stmt := PySem.Challenge.pw_holeshift_k01_errors_kept.main.body.getD i (.Pass ⟨0, 0, 0, 0⟩)

abbrev s_Looked_init : Stmt := inClass (top 5) 0
abbrev n_Looked_init : List Str := ["self", "check", "amount"]
theorem sc_Looked_init : FnScope n_Looked_init ["self", "check", "amount"] (defScope s_Looked_init) := ⟨rfl, rfl, rfl, by decide +kernel, rfl, by decide +kernel, by decide +kernel⟩

abbrev s_BadName_init : Stmt := inClass (top 6) 0
abbrev n_BadName_init : List Str := ["self", "value"]
theorem sc_BadName_init : FnScope n_BadName_init ["self", "value"] (defScope s_BadName_init) := ⟨rfl, rfl, rfl, by decide +kernel, rfl, by decide +kernel, by decide +kernel⟩

abbrev s_BadAmount_init : Stmt := inClass (top 7) 0
abbrev n_BadAmount_init : List Str := ["self", "value"]
theorem sc_BadAmount_init : FnScope n_BadAmount_init ["self", "value"] (defScope s_BadAmount_init) := ⟨rfl, rfl, rfl, by decide +kernel, rfl, by decide +kernel, by decide +kernel⟩

abbrev s_BadDay_init : Stmt := inClass (top 8) 0
abbrev n_BadDay_init : List Str := ["self", "value"]
theorem sc_BadDay_init : FnScope n_BadDay_init ["self", "value"] (defScope s_BadDay_init) := ⟨rfl, rfl, rfl, by decide +kernel, rfl, by decide +kernel, by decide +kernel⟩

abbrev s_BadItem_init : Stmt := inClass (top 9) 0
abbrev n_BadItem_init : List Str := ["self", "part"]
theorem sc_BadItem_init : FnScope n_BadItem_init ["self", "part"] (defScope s_BadItem_init) := ⟨rfl, rfl, rfl, by decide +kernel, rfl, by decide +kernel, by decide +kernel⟩

abbrev s_BadOffice_init : Stmt := inClass (top 10) 0
abbrev n_BadOffice_init : List Str := ["self", "part"]
theorem sc_BadOffice_init : FnScope n_BadOffice_init ["self", "part"] (defScope s_BadOffice_init) := ⟨rfl, rfl, rfl, by decide +kernel, rfl, by decide +kernel, by decide +kernel⟩

abbrev s_BadGaps_init : Stmt := inClass (top 11) 0
abbrev n_BadGaps_init : List Str := ["self", "value"]
theorem sc_BadGaps_init : FnScope n_BadGaps_init ["self", "value"] (defScope s_BadGaps_init) := ⟨rfl, rfl, rfl, by decide +kernel, rfl, by decide +kernel, by decide +kernel⟩

abbrev s_BadRow_init : Stmt := inClass (top 12) 0
abbrev n_BadRow_init : List Str := ["self", "part"]
theorem sc_BadRow_init : FnScope n_BadRow_init ["self", "part"] (defScope s_BadRow_init) := ⟨rfl, rfl, rfl, by decide +kernel, rfl, by decide +kernel, by decide +kernel⟩

abbrev s_BadBound_init : Stmt := inClass (top 13) 0
abbrev n_BadBound_init : List Str := ["self", "value"]
theorem sc_BadBound_init : FnScope n_BadBound_init ["self", "value"] (defScope s_BadBound_init) := ⟨rfl, rfl, rfl, by decide +kernel, rfl, by decide +kernel, by decide +kernel⟩

abbrev s_BadLook_init : Stmt := inClass (top 14) 0
abbrev n_BadLook_init : List Str := ["self", "at"]
theorem sc_BadLook_init : FnScope n_BadLook_init ["self", "at"] (defScope s_BadLook_init) := ⟨rfl, rfl, rfl, by decide +kernel, rfl, by decide +kernel, by decide +kernel⟩

abbrev s_BadMenu_init : Stmt := inClass (top 15) 0
abbrev n_BadMenu_init : List Str := ["self", "at"]
theorem sc_BadMenu_init : FnScope n_BadMenu_init ["self", "at"] (defScope s_BadMenu_init) := ⟨rfl, rfl, rfl, by decide +kernel, rfl, by decide +kernel, by decide +kernel⟩

abbrev s_BadText_init : Stmt := inClass (top 16) 0
abbrev n_BadText_init : List Str := ["self", "line", "word"]
theorem sc_BadText_init : FnScope n_BadText_init ["self", "line", "word"] (defScope s_BadText_init) := ⟨rfl, rfl, rfl, by decide +kernel, rfl, by decide +kernel, by decide +kernel⟩

abbrev s_BadLine_init : Stmt := inClass (top 17) 0
abbrev n_BadLine_init : List Str := ["self", "word"]
theorem sc_BadLine_init : FnScope n_BadLine_init ["self", "word"] (defScope s_BadLine_init) := ⟨rfl, rfl, rfl, by decide +kernel, rfl, by decide +kernel, by decide +kernel⟩

abbrev s_NoAccount_init : Stmt := inClass (top 18) 0
abbrev n_NoAccount_init : List Str := ["self", "name"]
theorem sc_NoAccount_init : FnScope n_NoAccount_init ["self", "name"] (defScope s_NoAccount_init) := ⟨rfl, rfl, rfl, by decide +kernel, rfl, by decide +kernel, by decide +kernel⟩

abbrev s_NoItem_init : Stmt := inClass (top 19) 0
abbrev n_NoItem_init : List Str := ["self", "name"]
theorem sc_NoItem_init : FnScope n_NoItem_init ["self", "name"] (defScope s_NoItem_init) := ⟨rfl, rfl, rfl, by decide +kernel, rfl, by decide +kernel, by decide +kernel⟩

abbrev s_NoKind_init : Stmt := inClass (top 20) 0
abbrev n_NoKind_init : List Str := ["self", "name"]
theorem sc_NoKind_init : FnScope n_NoKind_init ["self", "name"] (defScope s_NoKind_init) := ⟨rfl, rfl, rfl, by decide +kernel, rfl, by decide +kernel, by decide +kernel⟩

abbrev s_NoCheck_init : Stmt := inClass (top 21) 0
abbrev n_NoCheck_init : List Str := ["self", "name"]
theorem sc_NoCheck_init : FnScope n_NoCheck_init ["self", "name"] (defScope s_NoCheck_init) := ⟨rfl, rfl, rfl, by decide +kernel, rfl, by decide +kernel, by decide +kernel⟩

abbrev s_InUse_init : Stmt := inClass (top 22) 0
abbrev n_InUse_init : List Str := ["self", "day"]
theorem sc_InUse_init : FnScope n_InUse_init ["self", "day"] (defScope s_InUse_init) := ⟨rfl, rfl, rfl, by decide +kernel, rfl, by decide +kernel, by decide +kernel⟩

abbrev s_Clash_init : Stmt := inClass (top 23) 0
abbrev n_Clash_init : List Str := ["self", "name"]
theorem sc_Clash_init : FnScope n_Clash_init ["self", "name"] (defScope s_Clash_init) := ⟨rfl, rfl, rfl, by decide +kernel, rfl, by decide +kernel, by decide +kernel⟩

abbrev s_Unlike_init : Stmt := inClass (top 24) 0
abbrev n_Unlike_init : List Str := ["self", "part"]
theorem sc_Unlike_init : FnScope n_Unlike_init ["self", "part"] (defScope s_Unlike_init) := ⟨rfl, rfl, rfl, by decide +kernel, rfl, by decide +kernel, by decide +kernel⟩

abbrev s_TooMany_init : Stmt := inClass (top 25) 0
abbrev n_TooMany_init : List Str := ["self", "what", "most"]
theorem sc_TooMany_init : FnScope n_TooMany_init ["self", "what", "most"] (defScope s_TooMany_init) := ⟨rfl, rfl, rfl, by decide +kernel, rfl, by decide +kernel, by decide +kernel⟩

abbrev s_Seen_init : Stmt := inClass (top 26) 0
abbrev n_Seen_init : List Str := ["self", "day"]
theorem sc_Seen_init : FnScope n_Seen_init ["self", "day"] (defScope s_Seen_init) := ⟨rfl, rfl, rfl, by decide +kernel, rfl, by decide +kernel, by decide +kernel⟩

abbrev s__law_pen : Stmt := top 32
abbrev n__law_pen : List Str := ["_law_script"]
theorem sc__law_pen : FnScope n__law_pen ["_law_script"] (defScope s__law_pen) := ⟨rfl, rfl, rfl, by decide +kernel, rfl, by decide +kernel, by decide +kernel⟩

abbrev s__law_draw : Stmt := top 33
abbrev n__law_draw : List Str := ["_law_pen_here", "_law_many", "_law_digit", "_law_begun", "_law_lone", "_law_great", "_law_mixed"]
theorem sc__law_draw : FnScope n__law_draw ["_law_pen_here", "_law_many"] (defScope s__law_draw) := ⟨rfl, rfl, rfl, by decide +kernel, rfl, by decide +kernel, by decide +kernel⟩

abbrev s__law_pick : Stmt := top 34
abbrev n__law_pick : List Str := ["_law_pen_here", "_law_some"]
theorem sc__law_pick : FnScope n__law_pick ["_law_pen_here", "_law_some"] (defScope s__law_pick) := ⟨rfl, rfl, rfl, by decide +kernel, rfl, by decide +kernel, by decide +kernel⟩

abbrev s__law_thing : Stmt := top 35
abbrev n__law_thing : List Str := ["_law_pen_here", "_law_some"]
theorem sc__law_thing : FnScope n__law_thing ["_law_pen_here"] (defScope s__law_thing) := ⟨rfl, rfl, rfl, by decide +kernel, rfl, by decide +kernel, by decide +kernel⟩

abbrev s__law_inputs : Stmt := top 36
abbrev n__law_inputs : List Str := ["_law_one", "_law_two", "_law_found"]
theorem sc__law_inputs : FnScope n__law_inputs ["_law_one", "_law_two"] (defScope s__law_inputs) := ⟨rfl, rfl, rfl, by decide +kernel, rfl, by decide +kernel, by decide +kernel⟩

abbrev s__law_others : Stmt := top 37
abbrev n__law_others : List Str := ["_law_one", "_law_two", "_law_found"]
theorem sc__law_others : FnScope n__law_others ["_law_one", "_law_two"] (defScope s__law_others) := ⟨rfl, rfl, rfl, by decide +kernel, rfl, by decide +kernel, by decide +kernel⟩

abbrev s__law_kept : Stmt := top 38
abbrev n__law_kept : List Str := ["_law_kind", "_law_error"]
theorem sc__law_kept : FnScope n__law_kept ["_law_kind", "_law_error"] (defScope s__law_kept) := ⟨rfl, rfl, rfl, by decide +kernel, rfl, by decide +kernel, by decide +kernel⟩

abbrev s__law_classes : Stmt := top 39
abbrev n__law_classes : List Str := ["_law_error", "_law_found"]
theorem sc__law_classes : FnScope n__law_classes ["_law_error"] (defScope s__law_classes) := ⟨rfl, rfl, rfl, by decide +kernel, rfl, by decide +kernel, by decide +kernel⟩

abbrev s__law_bases : Stmt := top 40
abbrev n__law_bases : List Str := ["_law_spot"]
theorem sc__law_bases : FnScope n__law_bases ["_law_spot"] (defScope s__law_bases) := ⟨rfl, rfl, rfl, by decide +kernel, rfl, by decide +kernel, by decide +kernel⟩

abbrev s_law : Stmt := top 41
abbrev n_law : List Str := ["_law_script", "_law_pen_here", "_law_turn", "_law_one", "_law_two", "_law_spot", "_law_row", "_law_error", "_law_bases_here", "_law_other"]
theorem sc_law : FnScope n_law ["_law_script"] (defScope s_law) := ⟨rfl, rfl, rfl, by decide +kernel, rfl, by decide +kernel, by decide +kernel⟩

/-- the kinds of the rows, the fields of the errors -/
def kdL : List Str := ["value", "value", "value", "part", "part", "value", "part", "value", "at", "at", "line word", "word", "name", "name", "name", "name", "day", "name", "part", "day", "what most", "", "", "", "", "check amount"]
def fsL : List (List Str) := [["value"], ["value"], ["value"], ["part"], ["part"], ["value"], ["part"], ["value"], ["at"], ["at"], ["line", "word"], ["word"], ["name"], ["name"], ["name"], ["name"], ["day"], ["name"], ["part"], ["day"], ["what", "most"], [], [], [], [], ["check", "amount"]]
def kd (i : Nat) : Str := kdL.getD i ""
def fsT (i : Nat) : List Str := fsL.getD i []
def flF : List Str → V → V → List (Str × V)
  | [f], x, _ => [(f, x)]
  | [f, g], x, y => [(g, y), (f, x)]
  | _, _, _ => []
def fl (i : Nat) (x y : V) : List (Str × V) := flF (fsT i) x y
def fv (i : Nat) (x y : V) : List V := [x, y].take (fsT i).length
/-- what the module's names are -/
structure Txt (K : PySem.W.Frag) (mg : Str → Option Value) : Prop where
  b_int : mg "int" = none
  b_len : mg "len" = none
  b_abs : mg "abs" = none
  b_list : mg "list" = none
  b_range : mg "range" = none
  b_isinstance : mg "isinstance" = none
  b_repr : mg "repr" = none
  b_enumerate : mg "enumerate" = none
  b_ValueError : mg "ValueError" = none
  b_KeyError : mg "KeyError" = none
  b_ArithmeticError : mg "ArithmeticError" = none
  b_IndexError : mg "IndexError" = none
  b_TypeError : mg "TypeError" = none

/-- .. and its errors -/
structure TxE (P : Program) (w : World) (K : PySem.W.Frag) (mg : Str → Option Value) (base : Heap) (C : Nat → Addr) (S BI RF NA : Addr) : Prop where
  g_BadName : mg "BadName" = some (.ref (C 0))
  g_BadAmount : mg "BadAmount" = some (.ref (C 1))
  g_BadDay : mg "BadDay" = some (.ref (C 2))
  g_BadItem : mg "BadItem" = some (.ref (C 3))
  g_BadOffice : mg "BadOffice" = some (.ref (C 4))
  g_BadGaps : mg "BadGaps" = some (.ref (C 5))
  g_BadRow : mg "BadRow" = some (.ref (C 6))
  g_BadBound : mg "BadBound" = some (.ref (C 7))
  g_BadLook : mg "BadLook" = some (.ref (C 8))
  g_BadMenu : mg "BadMenu" = some (.ref (C 9))
  g_BadText : mg "BadText" = some (.ref (C 10))
  g_BadLine : mg "BadLine" = some (.ref (C 11))
  g_NoAccount : mg "NoAccount" = some (.ref (C 12))
  g_NoItem : mg "NoItem" = some (.ref (C 13))
  g_NoKind : mg "NoKind" = some (.ref (C 14))
  g_NoCheck : mg "NoCheck" = some (.ref (C 15))
  g_InUse : mg "InUse" = some (.ref (C 16))
  g_Clash : mg "Clash" = some (.ref (C 17))
  g_Unlike : mg "Unlike" = some (.ref (C 18))
  g_Seen : mg "Seen" = some (.ref (C 19))
  g_TooMany : mg "TooMany" = some (.ref (C 20))
  g_NoDivisor : mg "NoDivisor" = some (.ref (C 21))
  g_NoDeed : mg "NoDeed" = some (.ref (C 22))
  g_NoOffice : mg "NoOffice" = some (.ref (C 23))
  g_NoBook : mg "NoBook" = some (.ref (C 24))
  g_Looked : mg "Looked" = some (.ref (C 25))
  g_ShiftError : mg "ShiftError" = some (.ref S)
  g_BadInput : mg "BadInput" = some (.ref BI)
  g_Refused : mg "Refused" = some (.ref RF)
  g_NoAnswer : mg "NoAnswer" = some (.ref NA)
  z0 : Er1 P w K mg base "BadName" (C 0) "value"
  z1 : Er1 P w K mg base "BadAmount" (C 1) "value"
  z2 : Er1 P w K mg base "BadDay" (C 2) "value"
  z3 : Er1 P w K mg base "BadItem" (C 3) "part"
  z4 : Er1 P w K mg base "BadOffice" (C 4) "part"
  z5 : Er1 P w K mg base "BadGaps" (C 5) "value"
  z6 : Er1 P w K mg base "BadRow" (C 6) "part"
  z7 : Er1 P w K mg base "BadBound" (C 7) "value"
  z8 : Er1 P w K mg base "BadLook" (C 8) "at"
  z9 : Er1 P w K mg base "BadMenu" (C 9) "at"
  z10 : Er2 P w K mg base "BadText" (C 10) "line" "word"
  z11 : Er1 P w K mg base "BadLine" (C 11) "word"
  z12 : Er1 P w K mg base "NoAccount" (C 12) "name"
  z13 : Er1 P w K mg base "NoItem" (C 13) "name"
  z14 : Er1 P w K mg base "NoKind" (C 14) "name"
  z15 : Er1 P w K mg base "NoCheck" (C 15) "name"
  z16 : Er1 P w K mg base "InUse" (C 16) "day"
  z17 : Er1 P w K mg base "Clash" (C 17) "name"
  z18 : Er1 P w K mg base "Unlike" (C 18) "part"
  z19 : Er1 P w K mg base "Seen" (C 19) "day"
  z20 : Er2 P w K mg base "TooMany" (C 20) "what" "most"
  z21 : PySem.W.excIn K (C 21) [.type "ValueError", .type "Exception", .type "BaseException", .type "object"] "ValueError.__new__" = true
  k21 : PySem.W.keepIn K (.ref (C 21)) = true
  z22 : PySem.W.excIn K (C 22) [.type "ValueError", .type "Exception", .type "BaseException", .type "object"] "ValueError.__new__" = true
  k22 : PySem.W.keepIn K (.ref (C 22)) = true
  z23 : PySem.W.excIn K (C 23) [.type "ValueError", .type "Exception", .type "BaseException", .type "object"] "ValueError.__new__" = true
  k23 : PySem.W.keepIn K (.ref (C 23)) = true
  z24 : PySem.W.excIn K (C 24) [.type "ValueError", .type "Exception", .type "BaseException", .type "object"] "ValueError.__new__" = true
  k24 : PySem.W.keepIn K (.ref (C 24)) = true
  z25 : Er2 P w K mg base "Looked" (C 25) "check" "amount"
  ex : ∀ i, i < 26 → ExC K (C i)
  no : ∀ i, i < 26 → ∀ f, f ∈ fsT i → PySem.W.findIn K (.ref (C i)) f = some none
  kt : ∀ i j, i < 26 → j < 26 → PySem.W.kitOne K (.ref (C i)) (.ref (C j)) = some (i == j)
  kS : ∀ i, i < 26 → PySem.W.kitOne K (.ref (C i)) (.ref S) = some true
  kBI : ∀ i, i < 26 → PySem.W.kitOne K (.ref (C i)) (.ref BI) = some (decide (i < 12))
  kRF : ∀ i, i < 26 → PySem.W.kitOne K (.ref (C i)) (.ref RF) = some (decide (12 ≤ i) && decide (i < 21))
  kNA : ∀ i, i < 26 → PySem.W.kitOne K (.ref (C i)) (.ref NA) = some (decide (21 ≤ i) && decide (i < 25))
  kVE : ∀ i, i < 26 → PySem.W.kitOne K (.ref (C i)) (.type "ValueError") = some true
  kKeyError : ∀ i, i < 26 → PySem.W.kitOne K (.ref (C i)) (.type "KeyError") = some false
  kArithmeticError : ∀ i, i < 26 → PySem.W.kitOne K (.ref (C i)) (.type "ArithmeticError") = some false
  kIndexError : ∀ i, i < 26 → PySem.W.kitOne K (.ref (C i)) (.type "IndexError") = some false
  kTypeError : ∀ i, i < 26 → PySem.W.kitOne K (.ref (C i)) (.type "TypeError") = some false

/-- a row of the errors with the index i -/
def RowOk (C : Nat → Addr) (H : Hp) (x y : V) (i : Nat) (r : V) : Prop := ∃ t e1 e2 : Addr, r = .ref t ∧ H t = some (.tup [.str (kd i), .ref e1, .ref e2]) ∧ Er H e1 (C i) (fl i x y) ∧ Er H e2 (C i) (fl i x y)
theorem RowOk.mo {C : Nat → Addr} {H H' : Hp} {x y : V} {i : Nat} {r : V} (s : Same H H') : RowOk C H x y i r → RowOk C H' x y i r
  | ⟨t, e1, e2, z, h, a, b⟩ => ⟨t, e1, e2, z, s _ _ h, a.mo s, b.mo s⟩
theorem ErUpL {H : Hp} {e C : Addr} {fs : List (Str × V)} {l : Addr} {xs ys : List V} (hl : H l = some (.lst xs)) (h : Er H e C fs) : Er (L2.upd H l (.lst ys)) e C fs := by
  obtain ⟨od, z, q⟩ := h
  refine ⟨od, by rw [upd_ne (at_ne hl z (fun k => HO.noConfusion k))]; exact z, q.elim (fun ⟨d, a, b⟩ => .inl ⟨d, a, by rw [upd_ne (at_ne hl b (fun k => HO.noConfusion k))]; exact b⟩) .inr⟩
theorem RowOk.upL {C : Nat → Addr} {H : Hp} {x y : V} {i : Nat} {r : V} {l : Addr} {xs ys : List V} (hl : H l = some (.lst xs)) : RowOk C H x y i r → RowOk C (L2.upd H l (.lst ys)) x y i r
  | ⟨t, e1, e2, z, h, a, b⟩ => ⟨t, e1, e2, z, by rw [upd_ne (at_ne hl h (fun k => HO.noConfusion k))]; exact h, ErUpL hl a, ErUpL hl b⟩
def RowsOk (C : Nat → Addr) (H : Hp) (x y : V) : Nat → List V → Prop
  | _, [] => True
  | i, r :: rs => RowOk C H x y i r ∧ RowsOk C H x y (i + 1) rs
theorem RowsOk.mo {C : Nat → Addr} {H H' : Hp} {x y : V} (s : Same H H') : ∀ {rs : List V} {i : Nat}, RowsOk C H x y i rs → RowsOk C H' x y i rs
  | [], _, _ => trivial
  | _ :: _, _, h => ⟨h.1.mo s, RowsOk.mo s h.2⟩
theorem RowsOk.upL {C : Nat → Addr} {H : Hp} {x y : V} {l : Addr} {xs ys : List V} (hl : H l = some (.lst xs)) : ∀ {rs : List V} {i : Nat}, RowsOk C H x y i rs → RowsOk C (L2.upd H l (.lst ys)) x y i rs
  | [], _, _ => trivial
  | _ :: _, _, h => ⟨h.1.upL hl, RowsOk.upL hl h.2⟩
theorem RowsOk.app {C : Nat → Addr} {H : Hp} {x y : V} : ∀ {rs us : List V} {i : Nat}, RowsOk C H x y i rs → RowsOk C H x y (i + rs.length) us → RowsOk C H x y i (rs ++ us)
  | [], _, _, _, k => k
  | r :: rs, us, i, h, k => ⟨h.1, RowsOk.app h.2 (by rw [show i + 1 + rs.length = i + (r :: rs).length by rw [List.length_cons]; omega]; exact k)⟩
theorem RowsOk.at_ {C : Nat → Addr} {H : Hp} {x y : V} : ∀ {rs : List V} {i j : Nat} {r : V}, RowsOk C H x y i rs → rs[j]? = some r → RowOk C H x y (i + j) r
  | [], _, _, _, _, e => by simp at e
  | r :: rs, i, 0, _, h, e => by
    simp at e
    subst e
    exact h.1
  | _ :: rs, i, j + 1, _, h, e => by
    have q := RowsOk.at_ (j := j) h.2 (by simpa using e)
    rw [show i + (j + 1) = i + 1 + j by omega]
    exact q

section
variable {P : Program} {w : World} {K : PySem.W.Frag} {mg : Str → Option Value} {base : Heap}

theorem ok_pen {f : Addr} {fd : FuncData} (F : Fun K "_law_pen" "_law_pen" s__law_pen f fd) (T : Txt K mg) : FnOk P w K mg base CX0 1 f fd ["_law_script"] (spPen K) := by
  refine F.ok sc__law_pen (fun vs H Q E h => ?_) (fun cdv A outer s H vs Q E hr h => ?_)
  · obtain ⟨a, ns, rfl, _⟩ := h
    rfl
  · obtain ⟨a, ns, rfl, hs, k⟩ := h
    refine ⟨_, (pss_one (ps_ret (pe_lst (pa_cons (pe_callTy call_list_of (by rfl) T.b_list (by decide +kernel) (pa_cons (pe_slice sl_list (pc 0) po_none (po_some pe_int)) pa_nil)) (pa_cons pe_int (pa_cons pe_int pa_nil)))))), ?_⟩
    refine ⟨_, rfl, a, _, rfl, hs, fun q1 n1 => ⟨q1, _, rfl, .inl (SqL.of upd_same), fun q2 n2 => ⟨by show 3 ≤ sizeLine; decide, fun p n3 => ?_⟩⟩⟩
    obtain ⟨ms, hm⟩ := cut_ints ns none (some 63)
    have s1 : Same H (upd H q1 (.lst (cutV (ns.map V.int) none (some 63)))) := Same.new (Same.refl H) n1
    have s2 := Same.new (o := .lst (cutV (ns.map V.int) none (some 63))) s1 n2
    have s3 := Same.new (o := .lst [.ref q2, .int 0, .int 0]) s2 n3
    refine k p q2 _ (s2.free n3) s3 ⟨ms, 0, 0, ⟨upd_same, ?_, ne_of_none upd_same n3, by decide, by decide⟩, by decide⟩
    rw [upd_ne (ne_of_none upd_same n3), upd_same, hm]

theorem ok_draw {f : Addr} {fd : FuncData} (F : Fun K "_law_draw" "_law_draw" s__law_draw f fd) (T : Txt K mg) : FnOk P w K mg base CX0 1 f fd ["_law_pen_here", "_law_many"] spDraw := by
  refine F.ok sc__law_draw (fun vs H Q E h => ?_) (fun cdv A outer s H vs Q E hr h => ?_)
  · obtain ⟨p, l, c, many, rfl, _⟩ := h
    rfl
  · obtain ⟨p, l, cM, many, rfl, ⟨ns, c, g, Pp, cle⟩, hm, hz, hcM, k⟩ := h
    have hc : c < 1000000 := by omega
    obtain ⟨hp, hl, ne, c0, g0⟩ := id Pp
    refine ⟨_, (pss_cons (s_if (t_cmp o_gt (p_ix (pc 0) pe_int) pe_int) (pss_cons (ps_set (i := 2) sc__law_draw.nd rfl (Or.inl rfl) (pe_op o_mod (pe_callTy c_int (by rfl) T.b_int (by decide +kernel) (pa_cons (p_ix (pc 0) pe_int) pa_nil)) (pc 1)))
    (pss_cons (ps_asg (pe_op o_fdiv (pe_callTy c_int (by rfl) T.b_int (by decide +kernel) (pa_cons (p_ix (pc 0) pe_int) pa_nil)) (pc 1)) (pg_sub (pc 0) pe_int set_list))
    (pss_one (ps_ret (pc 2))))) pss_nil)
    (pss_cons (ps_set (i := 3) sc__law_draw.nd rfl (Or.inl rfl) (p_ix (pc 0) pe_int))
    (s_cut (ps_asg (pe_op o_add (pc 3) pe_int) (pg_sub (pc 0) pe_int set_list))
    (pss_cons (ps_set (i := 4) sc__law_draw.nd rfl (Or.inl rfl) (pe_op o_add (pe_op o_mul pe_int (pc 3)) pe_int))
    (s_cut (s_if (t_cmp (o_ne hr.units) (p_ix (pc 0) pe_int) (pe_lst pa_nil)) (pss_one (ps_set (i := 4) sc__law_draw.nd rfl (Or.inl rfl) (p_ix (p_ix (pc 0) pe_int) (pe_op o_mod (pe_callTy c_int (by rfl) T.b_int (by decide +kernel) (pa_cons (pc 3) pa_nil)) (pe_callB c_len (by rfl) T.b_len (by decide +kernel) (pa_cons (p_ix (pc 0) pe_int) pa_nil)))))) pss_nil)
    (s_cut (s_if (PW.pt (w_and (t_cmp o_lt (pc 3) (pe_callB c_len (by rfl) T.b_len (by decide +kernel) (pa_cons (p_ix (pc 0) pe_int) pa_nil))) (pw_and1 (t_cmp o_ge (pe_callB c_abs (by rfl) T.b_abs (by decide +kernel) (pa_cons (pc 4) pa_nil)) (pe_op o_pow pe_int pe_int))))) (pss_cons (ps_set (i := 5) sc__law_draw.nd rfl (Or.inl rfl) (pe_op o_add (pe_op o_mul pe_int (pe_op o_sub (pe_callB c_abs (by rfl) T.b_abs (by decide +kernel) (pa_cons (pc 4) pa_nil)) (pe_op o_pow pe_int pe_int))) (pe_callTy c_int (by rfl) T.b_int (by decide +kernel) (pa_cons (p_cmp o_lt (pc 4) pe_int) pa_nil))))
    (pss_cons (ps_asg (pe_op o_fdiv (pe_callTy c_int (by rfl) T.b_int (by decide +kernel) (pa_cons (pc 5) pa_nil)) (pc 1)) (pg_sub (pc 0) pe_int set_list))
    (pss_one (ps_ret (pe_op o_mod (pe_callTy c_int (by rfl) T.b_int (by decide +kernel) (pa_cons (pc 5) pa_nil)) (pc 1)))))) pss_nil)
    (s_cut (ps_set (i := 6) sc__law_draw.nd rfl (Or.inl rfl) (pe_op o_mod (pe_callTy c_int (by rfl) T.b_int (by decide +kernel) (pa_cons (pe_op o_pow (pe_op o_add (pe_op o_add (pe_op o_mod (pe_callTy c_int (by rfl) T.b_int (by decide +kernel) (pa_cons (pc 4) pa_nil)) pe_int) (pe_op o_mul pe_int (pc 3))) pe_int) pe_int) pa_nil)) pe_int))
    (s_cut (ps_set (i := 6) sc__law_draw.nd rfl (Or.inl rfl) (pe_op o_mod (pe_callTy c_int (by rfl) T.b_int (by decide +kernel) (pa_cons (pe_op o_pow (pe_op o_add (pe_op o_add (pe_op o_mul (pc 6) (pe_op o_add (pe_op o_mul pe_int (pc 3)) pe_int)) (pe_op o_mul (pe_op o_mul pe_int (pc 3)) (pc 3))) pe_int) pe_int) pa_nil)) pe_int))
    (pss_one (ps_ret (pe_op o_mod (pe_callTy c_int (by rfl) T.b_int (by decide +kernel) (pa_cons (pe_op o_fdiv (pc 6) pe_int) pa_nil)) (pc 1)))))))))))), ?_⟩
    -- what is left of a great cell
    refine ⟨_, _, .inl (SqL.of hp), rfl, fun h => ?_, fun _ => ?_⟩
    · have hg := of_decide_eq_true h
      have q0 : 0 ≤ g / many := Int.ediv_nonneg g0 (Int.le_of_lt hm)
      refine ⟨_, _, .inl (SqL.of hp), rfl, hm, _, _, .inl (SqL.of hp), rfl, wide_div hm hz (by decide) (by decide), p, _, _, 2, rfl, rfl, hp, rfl, ?_⟩
      have kk : Kp p H (upd H p (.lst [.ref l, .int c, .int (g / many)])) := Kp.refl.upd
      exact k (g % many) _ (Int.emod_nonneg _ (by omega)) (Int.emod_lt_of_pos _ hm) kk ⟨ns, c, _, Pp.put kk c0 q0 upd_same, by omega⟩
    · -- one more cell is begun
      refine ⟨_, _, .inl (SqL.of hp), rfl, fun σ G => σ = [some (.ref p), some (.int many), none, some (.int c), none, none, none] ∧ Kp p H G ∧ Pn G p l ns (c + 1) g, ?_, ?_⟩
      · exact ⟨p, _, _, 1, rfl, rfl, hp, rfl, rfl, Kp.refl.upd, Pp.put Kp.refl.upd (by omega) g0 upd_same⟩
      rintro σ H1 ⟨rfl, k1, P1⟩
      -- the cell, if there is one
      refine ⟨.inl (.inl ⟨by decide, by decide⟩), fun σ G => ∃ lone : Int, σ = [some (.ref p), some (.int many), none, some (.int c), some (.int lone), none, none] ∧ Kp p H G ∧ Pn G p l ns (c + 1) g, ?_, ?_⟩
      · refine ⟨_, _, .inl (SqL.of P1.at_), rfl, Nat.zero_le _, fun q nq => ?_⟩
        have k2 : Kp p H1 (upd H1 q (.lst [])) := Kp.refl.new nq
        have P2 : Pn (upd H1 q (.lst [])) p l ns (c + 1) g := P1.new nq
        have hq : upd H1 q (.lst []) q = some (.lst []) := upd_same
        refine ⟨.list (ns.map PyData.int), .list [], .lst (SqL.of P2.cel) (dp_ints ns), .lst (SqL.of hq) .nil, shaped_ints ns, rfl, ?_, ?_⟩
        · intro h
          have hn : ns ≠ [] := by
            intro e
            subst e
            cases h
          have hlen : 0 < (ns.length : Int) := by
            have := List.length_pos_iff.mpr hn
            omega
          obtain ⟨z, hzz⟩ := at_mod (ns := ns) c hlen
          refine ⟨_, _, .inl (SqL.of P2.at_), rfl, _, _, .inl (SqL.of P2.at_), rfl, _, .inl (SqL.of P2.cel), by rw [List.length_map]; exact hlen, _, .int z, .inl (SqL.of P2.cel), ?_, ?_⟩
          · rw [List.length_map]
            exact hzz
          · exact ⟨z, rfl, k1.trans k2, P2⟩
        · intro _
          exact ⟨_, rfl, k1.trans k2, P2⟩
      · rintro σ G ⟨lone, rfl, kG, PG⟩
        -- a great cell
        refine ⟨fun σ G' => σ = [some (.ref p), some (.int many), none, some (.int c), some (.int lone), none, none] ∧ Kp p H G' ∧ Pn G' p l ns (c + 1) g, ?_, ?_⟩
        · refine ⟨_, _, .inl (SqL.of PG.at_), rfl, _, .inl (SqL.of PG.cel), fun h1 => ?_, fun _ => ⟨fun z => Bool.noConfusion z, fun _ => ⟨rfl, kG, PG⟩⟩⟩
          refine ⟨⟨by decide, by decide, by decide⟩, fun h2 => ?_, fun _ => ⟨rfl, kG, PG⟩⟩
          have h2 := of_decide_eq_true h2
          refine ⟨⟨by decide, by decide, by decide⟩, .inl (.inl ⟨by decide, by decide⟩), wide_div hm hz (by decide) (by decide), p, _, _, 2, rfl, rfl, PG.at_, rfl, hm, ?_⟩
          have kk := kG.upd (p := p) (o := .lst [.ref l, .int (c + 1), .int ((2 * ((if lone < 0 then -lone else lone) - 10 ^ (18 : Int).toNat) + (if decide (lone < 0) = true then 1 else 0)) / many)])
          refine k _ _ (Int.emod_nonneg _ (by omega)) (Int.emod_lt_of_pos _ hm) kk ⟨ns, c + 1, _, Pp.put kk (by omega) ?_ upd_same, by omega⟩
          refine Int.ediv_nonneg ?_ (Int.le_of_lt hm)
          have z : (0 : Int) ≤ (if decide (lone < 0) = true then 1 else 0) := by split <;> decide
          omega
        · rintro σ' G' ⟨rfl, kG', PG'⟩
          -- a mix
          have e0 := fun b : Int => Int.emod_nonneg lone (b := b)
          have e1 := fun b : Int => Int.emod_lt_of_pos lone (b := b)
          refine ⟨fun σ G => ∃ m : Int, σ = [some (.ref p), some (.int many), none, some (.int c), some (.int lone), none, some (.int m)] ∧ G = G' ∧ 0 ≤ m ∧ m < 2147483648, ?_, ?_⟩
          · refine ⟨(by show (0 : Int) < _; decide), .inl (.inl ⟨by decide, by decide⟩), ⟨by decide, by decide, by omega⟩, (by show (0 : Int) < _; decide), _, rfl, rfl, Int.emod_nonneg _ (by decide), ?_⟩
            exact Int.lt_trans (Int.emod_lt_of_pos _ (by decide)) (by decide)
          rintro σ G2 ⟨m, rfl, rfl, m0, m1⟩
          refine ⟨fun σ G => ∃ m : Int, σ = [some (.ref p), some (.int many), none, some (.int c), some (.int lone), none, some (.int m)] ∧ G = G2 ∧ 0 ≤ m ∧ m < 2147483648, ?_, ?_⟩
          · have hb : ∀ a b d : Int, 0 ≤ a → a ≤ 1000 → 0 ≤ b → b ≤ 100000 → 0 ≤ d → d ≤ 1000 → (m * (2 * c + a) + b * c * c + d).natAbs < 2 ^ 64 := fun a b d h1 h2 h3 h4 h5 h6 => by
              have y1 := mul_lt (a := 2147483648) (b := 2002000) m0 m1 (show 0 ≤ 2 * c + a by omega) (by omega)
              have y2 := Int.mul_nonneg m0 (show 0 ≤ 2 * c + a by omega)
              have y3 := mul_lt (a := 100001) (b := 1000000) h3 (by omega) c0 hc
              have y4 := Int.mul_nonneg h3 c0
              have y5 := mul_lt (a := 100001000000) (b := 1000000) y4 (by omega) c0 hc
              have y6 := Int.mul_nonneg y4 c0
              omega
            have hb2 : ∀ b : Int, 0 ≤ b → b ≤ 100000 → CMulU (b * c) c := fun b h3 h4 => by
              have y3 := mul_lt (a := 100001) (b := 1000000) h3 (by omega) c0 hc
              have y4 := Int.mul_nonneg h3 c0
              exact .inl (.inl ⟨by omega, by omega⟩)
            refine ⟨.inl (.inl ⟨by decide, by decide⟩), .inl (.inl ⟨by omega, by omega⟩), .inl (.inl ⟨by decide, by decide⟩), hb2 _ (by decide) (by decide), ⟨by decide, by decide, ?_⟩, (by show (0 : Int) < _; decide), _, rfl, rfl, Int.emod_nonneg _ (by decide), ?_⟩
            · exact hb _ _ _ (by decide) (by decide) (by decide) (by decide) (by decide) (by decide)
            · exact Int.lt_trans (Int.emod_lt_of_pos _ (by decide)) (by decide)
          rintro σ G3 ⟨m, rfl, rfl, m0, m1⟩
          refine ⟨wide_div (b := 10) (by decide) (by decide) (by decide) (by decide), hm, ?_⟩
          exact k _ _ (Int.emod_nonneg _ (by omega)) (Int.emod_lt_of_pos _ hm) kG' ⟨ns, c + 1, g, PG', by omega⟩

theorem ok_pick {f : Addr} {fd : FuncData} {B : FuncData → Prop} (F : Fun K "_law_pick" "_law_pick" s__law_pick f fd) (T : Txt K mg) (cD : CalO P w K mg base "_law_draw" 1 ["_law_pen_here", "_law_many"] spDraw B) : FnOk P w K mg base CX0 2 f fd ["_law_pen_here", "_law_some"] (spPick K) := by
  refine F.ok sc__law_pick (fun vs H Q E h => ?_) (fun cdv A outer s H vs Q E hr h => ?_)
  · obtain ⟨p, l, c, x, rfl, _⟩ := h
    rfl
  · obtain ⟨p, l, c, x, rfl, Pp, hc, k⟩ := h
    refine ⟨_, (pss_one (ps_ret (p_ix (pc 1) (pe_cO cD (hr.mono (by decide)) (pa_cons (pc 0) (pa_cons (pe_callB c_len (by rfl) T.b_len (by decide +kernel) (pa_cons (pc 1) pa_nil)) pa_nil)))))), ?_⟩
    rcases k with ⟨z, rfl, h0, h1, k⟩ | ⟨a, xs, rfl, ne, hs, h0, h1, k⟩
    · refine ⟨Nat.le_trans h1 size_line_big, p, l, c, (z.length : Int), rfl, Pp, by omega, small_bits h1, hc, fun r H' r0 r1 kk P' => ?_⟩
      have e : z.length = z.cps.toList.length := by simp [Str.length]
      obtain ⟨ch, h2, h3⟩ := at_in (xs := z.cps.toList) r0 (by rw [← e]; exact r1)
      exact ⟨Nat.le_trans h1 size_line_big, ch, h2, k ch H' h3 kk P'⟩
    · refine ⟨xs, hs, p, l, c, (xs.length : Int), rfl, Pp, by omega, small_bits h1, hc, fun r H' r0 r1 kk P' => ?_⟩
      obtain ⟨v, h2, h3⟩ := at_in (xs := xs) r0 r1
      exact ⟨xs, v, hs.elim (fun z => .inl (kk.seq ne z)) (fun z => .inr (kk.seqT ne z)), h2, k v H' h3 kk P'⟩

theorem thing_d {H : Hp} {q1 q2 q3 q4 : Addr} {r : Int} {v : V} (g1 : H q1 = some (.tup [.int 1, .str "x"])) (g2 : H q2 = some (.lst [.non, .int 2])) (m2 : q2 ≠ sysModules) (g3 : H q3 = some (.dK (mergeK [] [(.inr "a", .int 1)]))) (g4 : H q4 = some (.tup []))
    (hr : 0 ≤ r ∧ r < 1000000000) (h : v ∈ [V.non, .bl true, .bl false, .int 0, .int (-1), .int (10 ^ (50 : Int).toNat), .str "", .str "a b", .ref q1, .ref q2, .ref q3, .ref q4, .int (0 - 10 ^ (59 : Int).toNat)] ++ [V.int r]) : ∃ d, Da H v d ∧ OkT d := by
  simp only [List.cons_append, List.nil_append, List.mem_cons, List.not_mem_nil, or_false] at h
  rcases h with rfl | rfl | rfl | rfl | rfl | rfl | rfl | rfl | rfl | rfl | rfl | rfl | rfl | rfl
  · exact ⟨.none, .non, okT_by (by decide +kernel)⟩
  · exact ⟨.bool true, .bl _, okT_by (by decide +kernel)⟩
  · exact ⟨.bool false, .bl _, okT_by (by decide +kernel)⟩
  · exact ⟨_, .int _, okT_int (by decide)⟩
  · exact ⟨_, .int _, okT_int (by decide)⟩
  · exact ⟨_, .int _, okT_int (by decide +kernel)⟩
  · exact ⟨_, .str _, okT_by (by decide +kernel)⟩
  · exact ⟨_, .str _, okT_by (by decide +kernel)⟩
  · exact ⟨.tuple [.int 1, .str "x"], .tup g1 (.cons (.int 1) (.cons (.str "x") .nil)), okT_by (by decide +kernel)⟩
  · exact ⟨.list [.none, .int 2], .lst g2 m2 (.cons .non (.cons (.int 2) .nil)), okT_by (by decide +kernel)⟩
  · exact ⟨.dict [(.str "a", .int 1)], .dic g3 (.cons (.int 1) .nil), okT_by (by decide +kernel)⟩
  · exact ⟨.tuple [], .tup g4 .nil, okT_by (by decide +kernel)⟩
  · exact ⟨_, .int _, okT_int (by decide +kernel)⟩
  · exact ⟨_, .int _, okT_int (by have : r.natAbs < 2 ^ 30 := by omega
                                  exact Nat.lt_of_lt_of_le this (by decide))⟩

def spThing : Sp := fun vs H Q _ => ∃ (p l : Addr) (c : Int), vs = [.ref p] ∧ Pe H p l c ∧ c < 999990 ∧ ∀ (v : V) (d : PyData) (H' : Hp), Kp p H H' → Pe H' p l (c + 2) → Da (Hd p H') v d → OkT d → Q v H'
theorem ok_thing {f : Addr} {fd : FuncData} {B : FuncData → Prop} (F : Fun K "_law_thing" "_law_thing" s__law_thing f fd) (T : Txt K mg) (cD : CalO P w K mg base "_law_draw" 1 ["_law_pen_here", "_law_many"] spDraw B) (cP : CalO P w K mg base "_law_pick" 2 ["_law_pen_here", "_law_some"] (spPick K) B) :
    FnOk P w K mg base CX0 3 f fd ["_law_pen_here"] spThing := by
  refine F.ok sc__law_thing (fun vs H Q E h => ?_) (fun cdv A outer s H vs Q E hr h => ?_)
  · obtain ⟨p, l, c, rfl, _⟩ := h
    rfl
  · obtain ⟨p, l, c, rfl, Pp, hc, k⟩ := h
    refine ⟨_, (pss_cons (ps_set (i := 1) sc__law_thing.nd rfl (Or.inl rfl) (pe_lstS (pa_cons pe_non (pa_cons pe_bl (pa_cons pe_bl (pa_cons pe_int (pa_cons (pe_un un_neg pe_int) (pa_cons (pe_op o_pow pe_int pe_int) (pa_cons pe_str (pa_cons pe_str (pa_cons (pe_tup (pa_cons pe_int (pa_cons pe_str pa_nil))) (pa_cons (pe_lstS (pa_cons pe_non (pa_cons pe_int pa_nil))) (pa_cons (pe_disp (pps_cons pe_str pe_int pps_nil) (by rfl) (by rfl) (fun z => by cases z) (by decide)) (pa_cons (pe_tup pa_nil) (pa_cons (pe_op o_sub pe_int (pe_op o_pow pe_int pe_int)) pa_nil)))))))))))))))
    (pss_one (ps_ret (pe_cO cP (hr.mono (by decide)) (pa_cons (pc 0) (pa_cons (pe_op op_cat (pc 1) (pe_lstS (pa_cons (pe_cO cD (hr.mono (by decide)) (pa_cons (pc 0) (pa_cons (pe_op o_pow pe_int pe_int) pa_nil))) pa_nil))) pa_nil)))))), ?_⟩
    refine ⟨_, rfl, ⟨by decide, by decide, by decide⟩, by show 2 ≤ sizeLine; decide, fun q1 n1 => ⟨by show 2 ≤ sizeLine; decide, fun q2 n2 m2 => fun q3 n3 => ⟨upd_same, [(.inr "a", .int 1)], rfl, by decide, ⟨by show 0 ≤ sizeLine; decide, fun q4 n4 => ⟨⟨by decide, by decide, by decide⟩, by show 13 ≤ sizeLine; decide, fun q5 n5 m5 => ?_⟩⟩⟩⟩⟩
    have PA := (((((Pp.new (o := .tup [.int 1, .str "x"]) n1).new (o := .lst [.non, .int 2]) n2).new (o := .dK []) n3).mut (o := .dK (mergeK [] [(.inr "a", .int 1)])) (((Pp.new n1).new n2).ne n3) (((Pp.new n1).new n2).neL n3)).new (o := .tup []) n4)
    have o1 := Pp.ne n1
    have o2 := (Pp.new (o := .tup [.int 1, .str "x"]) n1).ne n2
    have o3 := ((Pp.new (o := .tup [.int 1, .str "x"]) n1).new (o := .lst [.non, .int 2]) n2).ne n3
    have o4 := ((((Pp.new (o := .tup [.int 1, .str "x"]) n1).new (o := .lst [.non, .int 2]) n2).new (o := .dK []) n3).mut (o := .dK (mergeK [] [(.inr "a", .int 1)])) (((Pp.new n1).new n2).ne n3) (((Pp.new n1).new n2).neL n3)).ne n4
    have o5 := PA.ne n5
    refine ⟨⟨by decide, by decide, by decide⟩, p, l, _, _, rfl, PA.new n5, by decide, by decide, by omega, fun r G1 r0 r1 k1 P1 => ⟨by show 1 ≤ sizeLine; decide, fun q6 n6 m6 => ⟨q5, q6, _, _, rfl, rfl, kpN (k1 _ _ o5 upd_same) n6, upd_same, by show 14 ≤ sizeLine; decide, fun q7 n7 => ?_⟩⟩⟩
    refine ⟨p, l, _, .ref q7, rfl, (P1.new n6).new n7, by omega, .inr ⟨q7, _, rfl, (P1.new n6).ne n7, .inl (SqL.of upd_same), by show 0 < 14; decide, by show 14 ≤ 1000000; decide, fun v G2 hv k2 P2 => ?_⟩⟩
    have g1 := k2 _ _ o1 (kpN (o := .lst _) (kpN (o := .lst _) (k1 _ _ o1 (kpN (o := .lst _) (kpN (o := .tup []) (kp2 (o := .dK []) (o' := .dK (mergeK [] [(.inr "a", .int 1)])) (kpN (o := .lst [.non, .int 2]) (upd_same (H := H) (a := q1) (o := .tup [.int 1, .str "x"])) n2) n3) n4) n5)) n6) n7)
    have g2 := k2 _ _ o2 (kpN (o := .lst _) (kpN (o := .lst _) (k1 _ _ o2 (kpN (o := .lst _) (kpN (o := .tup []) (kp2 (o := .dK []) (o' := .dK (mergeK [] [(.inr "a", .int 1)])) (upd_same (o := .lst [.non, .int 2])) n3) n4) n5)) n6) n7)
    have g3 := k2 _ _ o3 (kpN (o := .lst _) (kpN (o := .lst _) (k1 _ _ o3 (kpN (o := .lst _) (kpN (o := .tup []) (upd_same (o := .dK (mergeK [] [(.inr "a", .int 1)]))) n4) n5)) n6) n7)
    have g4 := k2 _ _ o4 (kpN (o := .lst _) (kpN (o := .lst _) (k1 _ _ o4 (kpN (o := .lst _) (upd_same (o := .tup [])) n5)) n6) n7)
    have kA : Kp p H G2 := (((((((Kp.refl.new n1).new n2).new n3).mut ((Same.new (Same.new (Same.refl _) n1) n2).free n3)).new n4).new n5).trans (((k1).trans ((Kp.refl.new n6).new n7)).trans k2))
    obtain ⟨d, h1, h2⟩ := thing_d (Hd.at_ o1 g1) (Hd.at_ o2 g2) m2 (Hd.at_ o3 g3) (Hd.at_ o4 g4) (r := r) ⟨r0, Int.lt_of_lt_of_le r1 (by decide)⟩ hv
    exact k v d G2 kA (P2.mono (by omega)) h1 h2

def spIn (C : Nat → Addr) : Sp := fun vs H Q _ => ∃ (x y : V), vs = [x, y] ∧ ∀ (q : Addr) (rs : List V) (G : Hp), H q = none → Same H G → G q = some (.lst rs) → rs.length = 12 → RowsOk C G x y 0 rs → Q (.ref q) G
theorem ok_spIn {C : Nat → Addr} {S BI RF NA f : Addr} {fd : FuncData} (F : Fun K "_law_inputs" "_law_inputs" s__law_inputs f fd) (T : Txt K mg) (U : TxE P w K mg base C S BI RF NA) : FnOk P w K mg base CX0 3 f fd ["_law_one", "_law_two"] (spIn C) := by
  refine F.ok sc__law_inputs (fun vs H Q E h => ?_) (fun cdv A outer s H vs Q E hr h => ?_)
  · obtain ⟨x, y, rfl, _⟩ := h
    rfl
  · obtain ⟨x, y, rfl, k⟩ := h
    refine ⟨_, (pss_cons (ps_set (i := 2) sc__law_inputs.nd rfl (Or.inl rfl) (pe_lst (pa_cons (pe_tup (pa_cons pe_str (pa_cons (pe_e1 U.z0 (hr.mono (by decide)) (pa_cons (pc 0) pa_nil)) (pa_cons (pe_e1k U.z0 (hr.mono (by decide)) (pk_cons (pc 0) pk_nil)) pa_nil)))) (pa_cons (pe_tup (pa_cons pe_str (pa_cons (pe_e1 U.z1 (hr.mono (by decide)) (pa_cons (pc 0) pa_nil)) (pa_cons (pe_e1k U.z1 (hr.mono (by decide)) (pk_cons (pc 0) pk_nil)) pa_nil)))) pa_nil))))
    (pss_cons (ps_set (i := 2) sc__law_inputs.nd rfl (Or.inl rfl) (pe_op op_cat (pc 2) (pe_lst (pa_cons (pe_tup (pa_cons pe_str (pa_cons (pe_e1 U.z2 (hr.mono (by decide)) (pa_cons (pc 0) pa_nil)) (pa_cons (pe_e1k U.z2 (hr.mono (by decide)) (pk_cons (pc 0) pk_nil)) pa_nil)))) (pa_cons (pe_tup (pa_cons pe_str (pa_cons (pe_e1 U.z3 (hr.mono (by decide)) (pa_cons (pc 0) pa_nil)) (pa_cons (pe_e1k U.z3 (hr.mono (by decide)) (pk_cons (pc 0) pk_nil)) pa_nil)))) pa_nil)))))
    (pss_cons (ps_set (i := 2) sc__law_inputs.nd rfl (Or.inl rfl) (pe_op op_cat (pc 2) (pe_lst (pa_cons (pe_tup (pa_cons pe_str (pa_cons (pe_e1 U.z4 (hr.mono (by decide)) (pa_cons (pc 0) pa_nil)) (pa_cons (pe_e1k U.z4 (hr.mono (by decide)) (pk_cons (pc 0) pk_nil)) pa_nil)))) (pa_cons (pe_tup (pa_cons pe_str (pa_cons (pe_e1 U.z5 (hr.mono (by decide)) (pa_cons (pc 0) pa_nil)) (pa_cons (pe_e1k U.z5 (hr.mono (by decide)) (pk_cons (pc 0) pk_nil)) pa_nil)))) pa_nil)))))
    (pss_cons (ps_set (i := 2) sc__law_inputs.nd rfl (Or.inl rfl) (pe_op op_cat (pc 2) (pe_lst (pa_cons (pe_tup (pa_cons pe_str (pa_cons (pe_e1 U.z6 (hr.mono (by decide)) (pa_cons (pc 0) pa_nil)) (pa_cons (pe_e1k U.z6 (hr.mono (by decide)) (pk_cons (pc 0) pk_nil)) pa_nil)))) (pa_cons (pe_tup (pa_cons pe_str (pa_cons (pe_e1 U.z7 (hr.mono (by decide)) (pa_cons (pc 0) pa_nil)) (pa_cons (pe_e1k U.z7 (hr.mono (by decide)) (pk_cons (pc 0) pk_nil)) pa_nil)))) pa_nil)))))
    (pss_cons (ps_set (i := 2) sc__law_inputs.nd rfl (Or.inl rfl) (pe_op op_cat (pc 2) (pe_lst (pa_cons (pe_tup (pa_cons pe_str (pa_cons (pe_e1 U.z8 (hr.mono (by decide)) (pa_cons (pc 0) pa_nil)) (pa_cons (pe_e1k U.z8 (hr.mono (by decide)) (pk_cons (pc 0) pk_nil)) pa_nil)))) (pa_cons (pe_tup (pa_cons pe_str (pa_cons (pe_e1 U.z9 (hr.mono (by decide)) (pa_cons (pc 0) pa_nil)) (pa_cons (pe_e1k U.z9 (hr.mono (by decide)) (pk_cons (pc 0) pk_nil)) pa_nil)))) pa_nil)))))
    (pss_cons (ps_expr (pe_bm PySem.F.plainAttrs_list PySem.F.slot_list_append PySem.F.type_list_append mt_append (pc 2) (pa_cons (pe_tup (pa_cons pe_str (pa_cons (pe_e2 U.z10 (hr.mono (by decide)) (pa_cons (pc 0) (pa_cons (pc 1) pa_nil))) (pa_cons (pe_e2k U.z10 (hr.mono (by decide)) (pk_cons (pc 1) (pk_cons (pc 0) pk_nil))) pa_nil)))) pa_nil)))
    (pss_one (ps_ret (pe_op op_cat (pc 2) (pe_lst (pa_cons (pe_tup (pa_cons pe_str (pa_cons (pe_e1 U.z11 (hr.mono (by decide)) (pa_cons (pc 0) pa_nil)) (pa_cons (pe_e1k U.z11 (hr.mono (by decide)) (pk_cons (pc 0) pk_nil)) pa_nil)))) pa_nil))))))))))), ?_⟩
    refine ⟨_, rfl, fun a0 Ga0 sa0 na0 ra0 => ⟨_, rfl, fun b0 Gb0 sb0 nb0 rb0 => ⟨by show 3 ≤ sizeLine; decide, fun t0 nt0 => ⟨_, rfl, fun a1 Ga1 sa1 na1 ra1 => ⟨_, rfl, fun b1 Gb1 sb1 nb1 rb1 => ⟨by show 3 ≤ sizeLine; decide, fun t1 nt1 => ⟨by show 2 ≤ sizeLine; decide, fun l0 nl0 => ?_⟩⟩⟩⟩⟩⟩⟩
    have R0 : RowsOk C (L2.upd (L2.upd Gb1 t1 (.tup [.str (kd 1), .ref a1, .ref b1])) l0 (.lst [.ref t0, .ref t1])) x y 0 [.ref t0, .ref t1] := ⟨⟨t0, a0, b0, rfl, (sa1.trans (sb1.trans ((Same.new (o := .tup [.str (kd 1), .ref a1, .ref b1]) (Same.refl _) nt1).trans (Same.new (o := .lst [.ref t0, .ref t1]) (Same.refl _) nl0)))) _ _ upd_same, Er.mo (sb0.trans ((Same.new (o := .tup [.str (kd 0), .ref a0, .ref b0]) (Same.refl _) nt0).trans (sa1.trans (sb1.trans ((Same.new (o := .tup [.str (kd 1), .ref a1, .ref b1]) (Same.refl _) nt1).trans (Same.new (o := .lst [.ref t0, .ref t1]) (Same.refl _) nl0)))))) ra0, Er.mo ((Same.new (o := .tup [.str (kd 0), .ref a0, .ref b0]) (Same.refl _) nt0).trans (sa1.trans (sb1.trans ((Same.new (o := .tup [.str (kd 1), .ref a1, .ref b1]) (Same.refl _) nt1).trans (Same.new (o := .lst [.ref t0, .ref t1]) (Same.refl _) nl0))))) rb0⟩, ⟨t1, a1, b1, rfl, (Same.new (o := .lst [.ref t0, .ref t1]) (Same.refl _) nl0) _ _ upd_same, Er.mo (sb1.trans ((Same.new (o := .tup [.str (kd 1), .ref a1, .ref b1]) (Same.refl _) nt1).trans (Same.new (o := .lst [.ref t0, .ref t1]) (Same.refl _) nl0))) ra1, Er.mo ((Same.new (o := .tup [.str (kd 1), .ref a1, .ref b1]) (Same.refl _) nt1).trans (Same.new (o := .lst [.ref t0, .ref t1]) (Same.refl _) nl0)) rb1⟩, trivial⟩
    have S0 : Same H (L2.upd (L2.upd Gb1 t1 (.tup [.str (kd 1), .ref a1, .ref b1])) l0 (.lst [.ref t0, .ref t1])) := (sa0.trans (sb0.trans ((Same.new (o := .tup [.str (kd 0), .ref a0, .ref b0]) (Same.refl _) nt0).trans (sa1.trans (sb1.trans ((Same.new (o := .tup [.str (kd 1), .ref a1, .ref b1]) (Same.refl _) nt1).trans (Same.new (o := .lst [.ref t0, .ref t1]) (Same.refl _) nl0)))))))
    have hl0 : (L2.upd (L2.upd Gb1 t1 (.tup [.str (kd 1), .ref a1, .ref b1])) l0 (.lst [.ref t0, .ref t1])) l0 = some (.lst [.ref t0, .ref t1]) := upd_same
    have hz0 := (sa0.trans (sb0.trans ((Same.new (o := .tup [.str (kd 0), .ref a0, .ref b0]) (Same.refl _) nt0).trans (sa1.trans (sb1.trans (Same.new (o := .tup [.str (kd 1), .ref a1, .ref b1]) (Same.refl _) nt1)))))).free nl0
    refine ⟨_, rfl, fun a2 Ga2 sa2 na2 ra2 => ⟨_, rfl, fun b2 Gb2 sb2 nb2 rb2 => ⟨by show 3 ≤ sizeLine; decide, fun t2 nt2 => ⟨_, rfl, fun a3 Ga3 sa3 na3 ra3 => ⟨_, rfl, fun b3 Gb3 sb3 nb3 rb3 => ⟨by show 3 ≤ sizeLine; decide, fun t3 nt3 => ⟨by show 2 ≤ sizeLine; decide, fun m1 nm1 => ⟨l0, m1, _, _, rfl, rfl, (sa2.trans (sb2.trans ((Same.new (o := .tup [.str (kd 2), .ref a2, .ref b2]) (Same.refl _) nt2).trans (sa3.trans (sb3.trans ((Same.new (o := .tup [.str (kd 3), .ref a3, .ref b3]) (Same.refl _) nt3).trans (Same.new (o := .lst [.ref t2, .ref t3]) (Same.refl _) nm1))))))) _ _ hl0, upd_same, by show 4 ≤ sizeLine; decide, fun l1 nl1 => ?_⟩⟩⟩⟩⟩⟩⟩⟩
    have E1 := (Same.new (o := .lst [.ref t0, .ref t1, .ref t2, .ref t3]) (Same.refl (L2.upd (L2.upd Gb3 t3 (.tup [.str (kd 3), .ref a3, .ref b3])) m1 (.lst [.ref t2, .ref t3]))) nl1)
    have R1 := RowsOk.mo E1 (RowsOk.app (us := [.ref t2, .ref t3]) (RowsOk.mo (sa2.trans (sb2.trans ((Same.new (o := .tup [.str (kd 2), .ref a2, .ref b2]) (Same.refl _) nt2).trans (sa3.trans (sb3.trans ((Same.new (o := .tup [.str (kd 3), .ref a3, .ref b3]) (Same.refl _) nt3).trans (Same.new (o := .lst [.ref t2, .ref t3]) (Same.refl _) nm1))))))) R0) ⟨⟨t2, a2, b2, rfl, (sa3.trans (sb3.trans ((Same.new (o := .tup [.str (kd 3), .ref a3, .ref b3]) (Same.refl _) nt3).trans (Same.new (o := .lst [.ref t2, .ref t3]) (Same.refl _) nm1)))) _ _ upd_same, Er.mo (sb2.trans ((Same.new (o := .tup [.str (kd 2), .ref a2, .ref b2]) (Same.refl _) nt2).trans (sa3.trans (sb3.trans ((Same.new (o := .tup [.str (kd 3), .ref a3, .ref b3]) (Same.refl _) nt3).trans (Same.new (o := .lst [.ref t2, .ref t3]) (Same.refl _) nm1)))))) ra2, Er.mo ((Same.new (o := .tup [.str (kd 2), .ref a2, .ref b2]) (Same.refl _) nt2).trans (sa3.trans (sb3.trans ((Same.new (o := .tup [.str (kd 3), .ref a3, .ref b3]) (Same.refl _) nt3).trans (Same.new (o := .lst [.ref t2, .ref t3]) (Same.refl _) nm1))))) rb2⟩, ⟨t3, a3, b3, rfl, (Same.new (o := .lst [.ref t2, .ref t3]) (Same.refl _) nm1) _ _ upd_same, Er.mo (sb3.trans ((Same.new (o := .tup [.str (kd 3), .ref a3, .ref b3]) (Same.refl _) nt3).trans (Same.new (o := .lst [.ref t2, .ref t3]) (Same.refl _) nm1))) ra3, Er.mo ((Same.new (o := .tup [.str (kd 3), .ref a3, .ref b3]) (Same.refl _) nt3).trans (Same.new (o := .lst [.ref t2, .ref t3]) (Same.refl _) nm1)) rb3⟩, trivial⟩)
    have hz1 := (S0.trans (sa2.trans (sb2.trans ((Same.new (o := .tup [.str (kd 2), .ref a2, .ref b2]) (Same.refl _) nt2).trans (sa3.trans (sb3.trans ((Same.new (o := .tup [.str (kd 3), .ref a3, .ref b3]) (Same.refl _) nt3).trans (Same.new (o := .lst [.ref t2, .ref t3]) (Same.refl _) nm1)))))))).free nl1
    have S1 := (S0.trans (sa2.trans (sb2.trans ((Same.new (o := .tup [.str (kd 2), .ref a2, .ref b2]) (Same.refl _) nt2).trans (sa3.trans (sb3.trans ((Same.new (o := .tup [.str (kd 3), .ref a3, .ref b3]) (Same.refl _) nt3).trans (Same.new (o := .lst [.ref t2, .ref t3]) (Same.refl _) nm1)))))))).trans E1
    have hl1 : (L2.upd (L2.upd (L2.upd Gb3 t3 (.tup [.str (kd 3), .ref a3, .ref b3])) m1 (.lst [.ref t2, .ref t3])) l1 (.lst [.ref t0, .ref t1, .ref t2, .ref t3])) l1 = some (.lst [.ref t0, .ref t1, .ref t2, .ref t3]) := upd_same
    refine ⟨_, rfl, fun a4 Ga4 sa4 na4 ra4 => ⟨_, rfl, fun b4 Gb4 sb4 nb4 rb4 => ⟨by show 3 ≤ sizeLine; decide, fun t4 nt4 => ⟨_, rfl, fun a5 Ga5 sa5 na5 ra5 => ⟨_, rfl, fun b5 Gb5 sb5 nb5 rb5 => ⟨by show 3 ≤ sizeLine; decide, fun t5 nt5 => ⟨by show 2 ≤ sizeLine; decide, fun m2 nm2 => ⟨l1, m2, _, _, rfl, rfl, (sa4.trans (sb4.trans ((Same.new (o := .tup [.str (kd 4), .ref a4, .ref b4]) (Same.refl _) nt4).trans (sa5.trans (sb5.trans ((Same.new (o := .tup [.str (kd 5), .ref a5, .ref b5]) (Same.refl _) nt5).trans (Same.new (o := .lst [.ref t4, .ref t5]) (Same.refl _) nm2))))))) _ _ hl1, upd_same, by show 6 ≤ sizeLine; decide, fun l2 nl2 => ?_⟩⟩⟩⟩⟩⟩⟩⟩
    have E2 := (Same.new (o := .lst [.ref t0, .ref t1, .ref t2, .ref t3, .ref t4, .ref t5]) (Same.refl (L2.upd (L2.upd Gb5 t5 (.tup [.str (kd 5), .ref a5, .ref b5])) m2 (.lst [.ref t4, .ref t5]))) nl2)
    have R2 := RowsOk.mo E2 (RowsOk.app (us := [.ref t4, .ref t5]) (RowsOk.mo (sa4.trans (sb4.trans ((Same.new (o := .tup [.str (kd 4), .ref a4, .ref b4]) (Same.refl _) nt4).trans (sa5.trans (sb5.trans ((Same.new (o := .tup [.str (kd 5), .ref a5, .ref b5]) (Same.refl _) nt5).trans (Same.new (o := .lst [.ref t4, .ref t5]) (Same.refl _) nm2))))))) R1) ⟨⟨t4, a4, b4, rfl, (sa5.trans (sb5.trans ((Same.new (o := .tup [.str (kd 5), .ref a5, .ref b5]) (Same.refl _) nt5).trans (Same.new (o := .lst [.ref t4, .ref t5]) (Same.refl _) nm2)))) _ _ upd_same, Er.mo (sb4.trans ((Same.new (o := .tup [.str (kd 4), .ref a4, .ref b4]) (Same.refl _) nt4).trans (sa5.trans (sb5.trans ((Same.new (o := .tup [.str (kd 5), .ref a5, .ref b5]) (Same.refl _) nt5).trans (Same.new (o := .lst [.ref t4, .ref t5]) (Same.refl _) nm2)))))) ra4, Er.mo ((Same.new (o := .tup [.str (kd 4), .ref a4, .ref b4]) (Same.refl _) nt4).trans (sa5.trans (sb5.trans ((Same.new (o := .tup [.str (kd 5), .ref a5, .ref b5]) (Same.refl _) nt5).trans (Same.new (o := .lst [.ref t4, .ref t5]) (Same.refl _) nm2))))) rb4⟩, ⟨t5, a5, b5, rfl, (Same.new (o := .lst [.ref t4, .ref t5]) (Same.refl _) nm2) _ _ upd_same, Er.mo (sb5.trans ((Same.new (o := .tup [.str (kd 5), .ref a5, .ref b5]) (Same.refl _) nt5).trans (Same.new (o := .lst [.ref t4, .ref t5]) (Same.refl _) nm2))) ra5, Er.mo ((Same.new (o := .tup [.str (kd 5), .ref a5, .ref b5]) (Same.refl _) nt5).trans (Same.new (o := .lst [.ref t4, .ref t5]) (Same.refl _) nm2)) rb5⟩, trivial⟩)
    have hz2 := (S1.trans (sa4.trans (sb4.trans ((Same.new (o := .tup [.str (kd 4), .ref a4, .ref b4]) (Same.refl _) nt4).trans (sa5.trans (sb5.trans ((Same.new (o := .tup [.str (kd 5), .ref a5, .ref b5]) (Same.refl _) nt5).trans (Same.new (o := .lst [.ref t4, .ref t5]) (Same.refl _) nm2)))))))).free nl2
    have S2 := (S1.trans (sa4.trans (sb4.trans ((Same.new (o := .tup [.str (kd 4), .ref a4, .ref b4]) (Same.refl _) nt4).trans (sa5.trans (sb5.trans ((Same.new (o := .tup [.str (kd 5), .ref a5, .ref b5]) (Same.refl _) nt5).trans (Same.new (o := .lst [.ref t4, .ref t5]) (Same.refl _) nm2)))))))).trans E2
    have hl2 : (L2.upd (L2.upd (L2.upd Gb5 t5 (.tup [.str (kd 5), .ref a5, .ref b5])) m2 (.lst [.ref t4, .ref t5])) l2 (.lst [.ref t0, .ref t1, .ref t2, .ref t3, .ref t4, .ref t5])) l2 = some (.lst [.ref t0, .ref t1, .ref t2, .ref t3, .ref t4, .ref t5]) := upd_same
    refine ⟨_, rfl, fun a6 Ga6 sa6 na6 ra6 => ⟨_, rfl, fun b6 Gb6 sb6 nb6 rb6 => ⟨by show 3 ≤ sizeLine; decide, fun t6 nt6 => ⟨_, rfl, fun a7 Ga7 sa7 na7 ra7 => ⟨_, rfl, fun b7 Gb7 sb7 nb7 rb7 => ⟨by show 3 ≤ sizeLine; decide, fun t7 nt7 => ⟨by show 2 ≤ sizeLine; decide, fun m3 nm3 => ⟨l2, m3, _, _, rfl, rfl, (sa6.trans (sb6.trans ((Same.new (o := .tup [.str (kd 6), .ref a6, .ref b6]) (Same.refl _) nt6).trans (sa7.trans (sb7.trans ((Same.new (o := .tup [.str (kd 7), .ref a7, .ref b7]) (Same.refl _) nt7).trans (Same.new (o := .lst [.ref t6, .ref t7]) (Same.refl _) nm3))))))) _ _ hl2, upd_same, by show 8 ≤ sizeLine; decide, fun l3 nl3 => ?_⟩⟩⟩⟩⟩⟩⟩⟩
    have E3 := (Same.new (o := .lst [.ref t0, .ref t1, .ref t2, .ref t3, .ref t4, .ref t5, .ref t6, .ref t7]) (Same.refl (L2.upd (L2.upd Gb7 t7 (.tup [.str (kd 7), .ref a7, .ref b7])) m3 (.lst [.ref t6, .ref t7]))) nl3)
    have R3 := RowsOk.mo E3 (RowsOk.app (us := [.ref t6, .ref t7]) (RowsOk.mo (sa6.trans (sb6.trans ((Same.new (o := .tup [.str (kd 6), .ref a6, .ref b6]) (Same.refl _) nt6).trans (sa7.trans (sb7.trans ((Same.new (o := .tup [.str (kd 7), .ref a7, .ref b7]) (Same.refl _) nt7).trans (Same.new (o := .lst [.ref t6, .ref t7]) (Same.refl _) nm3))))))) R2) ⟨⟨t6, a6, b6, rfl, (sa7.trans (sb7.trans ((Same.new (o := .tup [.str (kd 7), .ref a7, .ref b7]) (Same.refl _) nt7).trans (Same.new (o := .lst [.ref t6, .ref t7]) (Same.refl _) nm3)))) _ _ upd_same, Er.mo (sb6.trans ((Same.new (o := .tup [.str (kd 6), .ref a6, .ref b6]) (Same.refl _) nt6).trans (sa7.trans (sb7.trans ((Same.new (o := .tup [.str (kd 7), .ref a7, .ref b7]) (Same.refl _) nt7).trans (Same.new (o := .lst [.ref t6, .ref t7]) (Same.refl _) nm3)))))) ra6, Er.mo ((Same.new (o := .tup [.str (kd 6), .ref a6, .ref b6]) (Same.refl _) nt6).trans (sa7.trans (sb7.trans ((Same.new (o := .tup [.str (kd 7), .ref a7, .ref b7]) (Same.refl _) nt7).trans (Same.new (o := .lst [.ref t6, .ref t7]) (Same.refl _) nm3))))) rb6⟩, ⟨t7, a7, b7, rfl, (Same.new (o := .lst [.ref t6, .ref t7]) (Same.refl _) nm3) _ _ upd_same, Er.mo (sb7.trans ((Same.new (o := .tup [.str (kd 7), .ref a7, .ref b7]) (Same.refl _) nt7).trans (Same.new (o := .lst [.ref t6, .ref t7]) (Same.refl _) nm3))) ra7, Er.mo ((Same.new (o := .tup [.str (kd 7), .ref a7, .ref b7]) (Same.refl _) nt7).trans (Same.new (o := .lst [.ref t6, .ref t7]) (Same.refl _) nm3)) rb7⟩, trivial⟩)
    have hz3 := (S2.trans (sa6.trans (sb6.trans ((Same.new (o := .tup [.str (kd 6), .ref a6, .ref b6]) (Same.refl _) nt6).trans (sa7.trans (sb7.trans ((Same.new (o := .tup [.str (kd 7), .ref a7, .ref b7]) (Same.refl _) nt7).trans (Same.new (o := .lst [.ref t6, .ref t7]) (Same.refl _) nm3)))))))).free nl3
    have S3 := (S2.trans (sa6.trans (sb6.trans ((Same.new (o := .tup [.str (kd 6), .ref a6, .ref b6]) (Same.refl _) nt6).trans (sa7.trans (sb7.trans ((Same.new (o := .tup [.str (kd 7), .ref a7, .ref b7]) (Same.refl _) nt7).trans (Same.new (o := .lst [.ref t6, .ref t7]) (Same.refl _) nm3)))))))).trans E3
    have hl3 : (L2.upd (L2.upd (L2.upd Gb7 t7 (.tup [.str (kd 7), .ref a7, .ref b7])) m3 (.lst [.ref t6, .ref t7])) l3 (.lst [.ref t0, .ref t1, .ref t2, .ref t3, .ref t4, .ref t5, .ref t6, .ref t7])) l3 = some (.lst [.ref t0, .ref t1, .ref t2, .ref t3, .ref t4, .ref t5, .ref t6, .ref t7]) := upd_same
    refine ⟨_, rfl, fun a8 Ga8 sa8 na8 ra8 => ⟨_, rfl, fun b8 Gb8 sb8 nb8 rb8 => ⟨by show 3 ≤ sizeLine; decide, fun t8 nt8 => ⟨_, rfl, fun a9 Ga9 sa9 na9 ra9 => ⟨_, rfl, fun b9 Gb9 sb9 nb9 rb9 => ⟨by show 3 ≤ sizeLine; decide, fun t9 nt9 => ⟨by show 2 ≤ sizeLine; decide, fun m4 nm4 => ⟨l3, m4, _, _, rfl, rfl, (sa8.trans (sb8.trans ((Same.new (o := .tup [.str (kd 8), .ref a8, .ref b8]) (Same.refl _) nt8).trans (sa9.trans (sb9.trans ((Same.new (o := .tup [.str (kd 9), .ref a9, .ref b9]) (Same.refl _) nt9).trans (Same.new (o := .lst [.ref t8, .ref t9]) (Same.refl _) nm4))))))) _ _ hl3, upd_same, by show 10 ≤ sizeLine; decide, fun l4 nl4 => ?_⟩⟩⟩⟩⟩⟩⟩⟩
    have E4 := (Same.new (o := .lst [.ref t0, .ref t1, .ref t2, .ref t3, .ref t4, .ref t5, .ref t6, .ref t7, .ref t8, .ref t9]) (Same.refl (L2.upd (L2.upd Gb9 t9 (.tup [.str (kd 9), .ref a9, .ref b9])) m4 (.lst [.ref t8, .ref t9]))) nl4)
    have R4 := RowsOk.mo E4 (RowsOk.app (us := [.ref t8, .ref t9]) (RowsOk.mo (sa8.trans (sb8.trans ((Same.new (o := .tup [.str (kd 8), .ref a8, .ref b8]) (Same.refl _) nt8).trans (sa9.trans (sb9.trans ((Same.new (o := .tup [.str (kd 9), .ref a9, .ref b9]) (Same.refl _) nt9).trans (Same.new (o := .lst [.ref t8, .ref t9]) (Same.refl _) nm4))))))) R3) ⟨⟨t8, a8, b8, rfl, (sa9.trans (sb9.trans ((Same.new (o := .tup [.str (kd 9), .ref a9, .ref b9]) (Same.refl _) nt9).trans (Same.new (o := .lst [.ref t8, .ref t9]) (Same.refl _) nm4)))) _ _ upd_same, Er.mo (sb8.trans ((Same.new (o := .tup [.str (kd 8), .ref a8, .ref b8]) (Same.refl _) nt8).trans (sa9.trans (sb9.trans ((Same.new (o := .tup [.str (kd 9), .ref a9, .ref b9]) (Same.refl _) nt9).trans (Same.new (o := .lst [.ref t8, .ref t9]) (Same.refl _) nm4)))))) ra8, Er.mo ((Same.new (o := .tup [.str (kd 8), .ref a8, .ref b8]) (Same.refl _) nt8).trans (sa9.trans (sb9.trans ((Same.new (o := .tup [.str (kd 9), .ref a9, .ref b9]) (Same.refl _) nt9).trans (Same.new (o := .lst [.ref t8, .ref t9]) (Same.refl _) nm4))))) rb8⟩, ⟨t9, a9, b9, rfl, (Same.new (o := .lst [.ref t8, .ref t9]) (Same.refl _) nm4) _ _ upd_same, Er.mo (sb9.trans ((Same.new (o := .tup [.str (kd 9), .ref a9, .ref b9]) (Same.refl _) nt9).trans (Same.new (o := .lst [.ref t8, .ref t9]) (Same.refl _) nm4))) ra9, Er.mo ((Same.new (o := .tup [.str (kd 9), .ref a9, .ref b9]) (Same.refl _) nt9).trans (Same.new (o := .lst [.ref t8, .ref t9]) (Same.refl _) nm4)) rb9⟩, trivial⟩)
    have hz4 := (S3.trans (sa8.trans (sb8.trans ((Same.new (o := .tup [.str (kd 8), .ref a8, .ref b8]) (Same.refl _) nt8).trans (sa9.trans (sb9.trans ((Same.new (o := .tup [.str (kd 9), .ref a9, .ref b9]) (Same.refl _) nt9).trans (Same.new (o := .lst [.ref t8, .ref t9]) (Same.refl _) nm4)))))))).free nl4
    have S4 := (S3.trans (sa8.trans (sb8.trans ((Same.new (o := .tup [.str (kd 8), .ref a8, .ref b8]) (Same.refl _) nt8).trans (sa9.trans (sb9.trans ((Same.new (o := .tup [.str (kd 9), .ref a9, .ref b9]) (Same.refl _) nt9).trans (Same.new (o := .lst [.ref t8, .ref t9]) (Same.refl _) nm4)))))))).trans E4
    have hl4 : (L2.upd (L2.upd (L2.upd Gb9 t9 (.tup [.str (kd 9), .ref a9, .ref b9])) m4 (.lst [.ref t8, .ref t9])) l4 (.lst [.ref t0, .ref t1, .ref t2, .ref t3, .ref t4, .ref t5, .ref t6, .ref t7, .ref t8, .ref t9])) l4 = some (.lst [.ref t0, .ref t1, .ref t2, .ref t3, .ref t4, .ref t5, .ref t6, .ref t7, .ref t8, .ref t9]) := upd_same
    refine ⟨.inl ⟨rfl, _, SqL.of hl4⟩, ⟨_, _, rfl, fun a10 Ga10 sa10 na10 ra10 => ⟨_, _, rfl, fun b10 Gb10 sb10 nb10 rb10 => ⟨by show 3 ≤ sizeLine; decide, fun t10 nt10 => ⟨l4, _, _, rfl, rfl, (sa10.trans (sb10.trans (Same.new (o := .tup [.str (kd 10), .ref a10, .ref b10]) (Same.refl _) nt10))) _ _ hl4, by show 10 < sizeLine; decide, ?_⟩⟩⟩⟩⟩
    have hm5 := (sa10.trans (sb10.trans (Same.new (o := .tup [.str (kd 10), .ref a10, .ref b10]) (Same.refl _) nt10))) _ _ hl4
    have R5 := RowsOk.upL (ys := [.ref t0, .ref t1, .ref t2, .ref t3, .ref t4, .ref t5, .ref t6, .ref t7, .ref t8, .ref t9, .ref t10]) hm5 (RowsOk.app (us := [.ref t10]) (RowsOk.mo (sa10.trans (sb10.trans (Same.new (o := .tup [.str (kd 10), .ref a10, .ref b10]) (Same.refl _) nt10))) R4) ⟨⟨t10, a10, b10, rfl, (Same.refl _) _ _ upd_same, Er.mo (sb10.trans (Same.new (o := .tup [.str (kd 10), .ref a10, .ref b10]) (Same.refl _) nt10)) ra10, Er.mo (Same.new (o := .tup [.str (kd 10), .ref a10, .ref b10]) (Same.refl _) nt10) rb10⟩, trivial⟩)
    have S5 := Same.upN (o := .lst [.ref t0, .ref t1, .ref t2, .ref t3, .ref t4, .ref t5, .ref t6, .ref t7, .ref t8, .ref t9, .ref t10]) (S4.trans (sa10.trans (sb10.trans (Same.new (o := .tup [.str (kd 10), .ref a10, .ref b10]) (Same.refl _) nt10)))) hz4
    have hl5 : (L2.upd (L2.upd Gb10 t10 (.tup [.str (kd 10), .ref a10, .ref b10])) l4 (.lst [.ref t0, .ref t1, .ref t2, .ref t3, .ref t4, .ref t5, .ref t6, .ref t7, .ref t8, .ref t9, .ref t10])) l4 = some (.lst [.ref t0, .ref t1, .ref t2, .ref t3, .ref t4, .ref t5, .ref t6, .ref t7, .ref t8, .ref t9, .ref t10]) := upd_same
    have hz5 := hz4
    -- the same list goes on under a further name
    refine ⟨_, rfl, fun a11 Ga11 sa11 na11 ra11 => ⟨_, rfl, fun b11 Gb11 sb11 nb11 rb11 => ⟨by show 3 ≤ sizeLine; decide, fun t11 nt11 => ⟨by show 1 ≤ sizeLine; decide, fun m6 nm6 => ⟨l4, m6, _, _, rfl, rfl, (sa11.trans (sb11.trans ((Same.new (o := .tup [.str (kd 11), .ref a11, .ref b11]) (Same.refl _) nt11).trans (Same.new (o := .lst [.ref t11]) (Same.refl _) nm6)))) _ _ hl5, upd_same, by show 12 ≤ sizeLine; decide, fun l6 nl6 => ?_⟩⟩⟩⟩⟩
    have E6 := (Same.new (o := .lst [.ref t0, .ref t1, .ref t2, .ref t3, .ref t4, .ref t5, .ref t6, .ref t7, .ref t8, .ref t9, .ref t10, .ref t11]) (Same.refl (L2.upd (L2.upd Gb11 t11 (.tup [.str (kd 11), .ref a11, .ref b11])) m6 (.lst [.ref t11]))) nl6)
    have R6 := RowsOk.mo E6 (RowsOk.app (us := [.ref t11]) (RowsOk.mo (sa11.trans (sb11.trans ((Same.new (o := .tup [.str (kd 11), .ref a11, .ref b11]) (Same.refl _) nt11).trans (Same.new (o := .lst [.ref t11]) (Same.refl _) nm6)))) R5) ⟨⟨t11, a11, b11, rfl, (Same.new (o := .lst [.ref t11]) (Same.refl _) nm6) _ _ upd_same, Er.mo (sb11.trans ((Same.new (o := .tup [.str (kd 11), .ref a11, .ref b11]) (Same.refl _) nt11).trans (Same.new (o := .lst [.ref t11]) (Same.refl _) nm6))) ra11, Er.mo ((Same.new (o := .tup [.str (kd 11), .ref a11, .ref b11]) (Same.refl _) nt11).trans (Same.new (o := .lst [.ref t11]) (Same.refl _) nm6)) rb11⟩, trivial⟩)
    have hz6 := (S5.trans (sa11.trans (sb11.trans ((Same.new (o := .tup [.str (kd 11), .ref a11, .ref b11]) (Same.refl _) nt11).trans (Same.new (o := .lst [.ref t11]) (Same.refl _) nm6))))).free nl6
    have S6 := (S5.trans (sa11.trans (sb11.trans ((Same.new (o := .tup [.str (kd 11), .ref a11, .ref b11]) (Same.refl _) nt11).trans (Same.new (o := .lst [.ref t11]) (Same.refl _) nm6))))).trans E6
    have hl6 : (L2.upd (L2.upd (L2.upd Gb11 t11 (.tup [.str (kd 11), .ref a11, .ref b11])) m6 (.lst [.ref t11])) l6 (.lst [.ref t0, .ref t1, .ref t2, .ref t3, .ref t4, .ref t5, .ref t6, .ref t7, .ref t8, .ref t9, .ref t10, .ref t11])) l6 = some (.lst [.ref t0, .ref t1, .ref t2, .ref t3, .ref t4, .ref t5, .ref t6, .ref t7, .ref t8, .ref t9, .ref t10, .ref t11]) := upd_same
    exact k l6 _ _ hz6 S6 hl6 rfl R6

def spOt (C : Nat → Addr) : Sp := fun vs H Q _ => ∃ (x y : V), vs = [x, y] ∧ ∀ (q : Addr) (rs : List V) (G : Hp), H q = none → Same H G → G q = some (.lst rs) → rs.length = 14 → RowsOk C G x y 12 rs → Q (.ref q) G
theorem ok_spOt {C : Nat → Addr} {S BI RF NA f : Addr} {fd : FuncData} (F : Fun K "_law_others" "_law_others" s__law_others f fd) (T : Txt K mg) (U : TxE P w K mg base C S BI RF NA) : FnOk P w K mg base CX0 3 f fd ["_law_one", "_law_two"] (spOt C) := by
  refine F.ok sc__law_others (fun vs H Q E h => ?_) (fun cdv A outer s H vs Q E hr h => ?_)
  · obtain ⟨x, y, rfl, _⟩ := h
    rfl
  · obtain ⟨x, y, rfl, k⟩ := h
    refine ⟨_, (pss_cons (ps_set (i := 2) sc__law_others.nd rfl (Or.inl rfl) (pe_lst (pa_cons (pe_tup (pa_cons pe_str (pa_cons (pe_e1 U.z12 (hr.mono (by decide)) (pa_cons (pc 0) pa_nil)) (pa_cons (pe_e1k U.z12 (hr.mono (by decide)) (pk_cons (pc 0) pk_nil)) pa_nil)))) (pa_cons (pe_tup (pa_cons pe_str (pa_cons (pe_e1 U.z13 (hr.mono (by decide)) (pa_cons (pc 0) pa_nil)) (pa_cons (pe_e1k U.z13 (hr.mono (by decide)) (pk_cons (pc 0) pk_nil)) pa_nil)))) pa_nil))))
    (pss_cons (ps_set (i := 2) sc__law_others.nd rfl (Or.inl rfl) (pe_op op_cat (pc 2) (pe_lst (pa_cons (pe_tup (pa_cons pe_str (pa_cons (pe_e1 U.z14 (hr.mono (by decide)) (pa_cons (pc 0) pa_nil)) (pa_cons (pe_e1k U.z14 (hr.mono (by decide)) (pk_cons (pc 0) pk_nil)) pa_nil)))) (pa_cons (pe_tup (pa_cons pe_str (pa_cons (pe_e1 U.z15 (hr.mono (by decide)) (pa_cons (pc 0) pa_nil)) (pa_cons (pe_e1k U.z15 (hr.mono (by decide)) (pk_cons (pc 0) pk_nil)) pa_nil)))) pa_nil)))))
    (pss_cons (ps_set (i := 2) sc__law_others.nd rfl (Or.inl rfl) (pe_op op_cat (pc 2) (pe_lst (pa_cons (pe_tup (pa_cons pe_str (pa_cons (pe_e1 U.z16 (hr.mono (by decide)) (pa_cons (pc 0) pa_nil)) (pa_cons (pe_e1k U.z16 (hr.mono (by decide)) (pk_cons (pc 0) pk_nil)) pa_nil)))) (pa_cons (pe_tup (pa_cons pe_str (pa_cons (pe_e1 U.z17 (hr.mono (by decide)) (pa_cons (pc 0) pa_nil)) (pa_cons (pe_e1k U.z17 (hr.mono (by decide)) (pk_cons (pc 0) pk_nil)) pa_nil)))) pa_nil)))))
    (pss_cons (ps_set (i := 2) sc__law_others.nd rfl (Or.inl rfl) (pe_op op_cat (pc 2) (pe_lst (pa_cons (pe_tup (pa_cons pe_str (pa_cons (pe_e1 U.z18 (hr.mono (by decide)) (pa_cons (pc 0) pa_nil)) (pa_cons (pe_e1k U.z18 (hr.mono (by decide)) (pk_cons (pc 0) pk_nil)) pa_nil)))) (pa_cons (pe_tup (pa_cons pe_str (pa_cons (pe_e1 U.z19 (hr.mono (by decide)) (pa_cons (pc 0) pa_nil)) (pa_cons (pe_e1k U.z19 (hr.mono (by decide)) (pk_cons (pc 0) pk_nil)) pa_nil)))) pa_nil)))))
    (pss_cons (ps_expr (pe_bm PySem.F.plainAttrs_list PySem.F.slot_list_append PySem.F.type_list_append mt_append (pc 2) (pa_cons (pe_tup (pa_cons pe_str (pa_cons (pe_e2 U.z20 (hr.mono (by decide)) (pa_cons (pc 0) (pa_cons (pc 1) pa_nil))) (pa_cons (pe_e2k U.z20 (hr.mono (by decide)) (pk_cons (pc 1) (pk_cons (pc 0) pk_nil))) pa_nil)))) pa_nil)))
    (pss_cons (ps_set (i := 2) sc__law_others.nd rfl (Or.inl rfl) (pe_op op_cat (pc 2) (pe_lst (pa_cons (pe_tup (pa_cons pe_str (pa_cons (pe_x0 PySem.F.excBase_ValueError U.z21 U.g_NoDivisor U.k21 rfl) (pa_cons (pe_x0 PySem.F.excBase_ValueError U.z21 U.g_NoDivisor U.k21 rfl) pa_nil)))) (pa_cons (pe_tup (pa_cons pe_str (pa_cons (pe_x0 PySem.F.excBase_ValueError U.z22 U.g_NoDeed U.k22 rfl) (pa_cons (pe_x0 PySem.F.excBase_ValueError U.z22 U.g_NoDeed U.k22 rfl) pa_nil)))) (pa_cons (pe_tup (pa_cons pe_str (pa_cons (pe_x0 PySem.F.excBase_ValueError U.z23 U.g_NoOffice U.k23 rfl) (pa_cons (pe_x0 PySem.F.excBase_ValueError U.z23 U.g_NoOffice U.k23 rfl) pa_nil)))) pa_nil))))))
    (pss_cons (ps_expr (pe_bm PySem.F.plainAttrs_list PySem.F.slot_list_append PySem.F.type_list_append mt_append (pc 2) (pa_cons (pe_tup (pa_cons pe_str (pa_cons (pe_x0 PySem.F.excBase_ValueError U.z24 U.g_NoBook U.k24 rfl) (pa_cons (pe_x0 PySem.F.excBase_ValueError U.z24 U.g_NoBook U.k24 rfl) pa_nil)))) pa_nil)))
    (pss_one (ps_ret (pe_op op_cat (pc 2) (pe_lst (pa_cons (pe_tup (pa_cons pe_str (pa_cons (pe_e2 U.z25 (hr.mono (by decide)) (pa_cons (pc 0) (pa_cons (pc 1) pa_nil))) (pa_cons (pe_e2k U.z25 (hr.mono (by decide)) (pk_cons (pc 1) (pk_cons (pc 0) pk_nil))) pa_nil)))) pa_nil)))))))))))), ?_⟩
    refine ⟨_, rfl, fun a12 Ga12 sa12 na12 ra12 => ⟨_, rfl, fun b12 Gb12 sb12 nb12 rb12 => ⟨by show 3 ≤ sizeLine; decide, fun t12 nt12 => ⟨_, rfl, fun a13 Ga13 sa13 na13 ra13 => ⟨_, rfl, fun b13 Gb13 sb13 nb13 rb13 => ⟨by show 3 ≤ sizeLine; decide, fun t13 nt13 => ⟨by show 2 ≤ sizeLine; decide, fun l0 nl0 => ?_⟩⟩⟩⟩⟩⟩⟩
    have R0 : RowsOk C (L2.upd (L2.upd Gb13 t13 (.tup [.str (kd 13), .ref a13, .ref b13])) l0 (.lst [.ref t12, .ref t13])) x y 12 [.ref t12, .ref t13] := ⟨⟨t12, a12, b12, rfl, (sa13.trans (sb13.trans ((Same.new (o := .tup [.str (kd 13), .ref a13, .ref b13]) (Same.refl _) nt13).trans (Same.new (o := .lst [.ref t12, .ref t13]) (Same.refl _) nl0)))) _ _ upd_same, Er.mo (sb12.trans ((Same.new (o := .tup [.str (kd 12), .ref a12, .ref b12]) (Same.refl _) nt12).trans (sa13.trans (sb13.trans ((Same.new (o := .tup [.str (kd 13), .ref a13, .ref b13]) (Same.refl _) nt13).trans (Same.new (o := .lst [.ref t12, .ref t13]) (Same.refl _) nl0)))))) ra12, Er.mo ((Same.new (o := .tup [.str (kd 12), .ref a12, .ref b12]) (Same.refl _) nt12).trans (sa13.trans (sb13.trans ((Same.new (o := .tup [.str (kd 13), .ref a13, .ref b13]) (Same.refl _) nt13).trans (Same.new (o := .lst [.ref t12, .ref t13]) (Same.refl _) nl0))))) rb12⟩, ⟨t13, a13, b13, rfl, (Same.new (o := .lst [.ref t12, .ref t13]) (Same.refl _) nl0) _ _ upd_same, Er.mo (sb13.trans ((Same.new (o := .tup [.str (kd 13), .ref a13, .ref b13]) (Same.refl _) nt13).trans (Same.new (o := .lst [.ref t12, .ref t13]) (Same.refl _) nl0))) ra13, Er.mo ((Same.new (o := .tup [.str (kd 13), .ref a13, .ref b13]) (Same.refl _) nt13).trans (Same.new (o := .lst [.ref t12, .ref t13]) (Same.refl _) nl0)) rb13⟩, trivial⟩
    have S0 : Same H (L2.upd (L2.upd Gb13 t13 (.tup [.str (kd 13), .ref a13, .ref b13])) l0 (.lst [.ref t12, .ref t13])) := (sa12.trans (sb12.trans ((Same.new (o := .tup [.str (kd 12), .ref a12, .ref b12]) (Same.refl _) nt12).trans (sa13.trans (sb13.trans ((Same.new (o := .tup [.str (kd 13), .ref a13, .ref b13]) (Same.refl _) nt13).trans (Same.new (o := .lst [.ref t12, .ref t13]) (Same.refl _) nl0)))))))
    have hl0 : (L2.upd (L2.upd Gb13 t13 (.tup [.str (kd 13), .ref a13, .ref b13])) l0 (.lst [.ref t12, .ref t13])) l0 = some (.lst [.ref t12, .ref t13]) := upd_same
    have hz0 := (sa12.trans (sb12.trans ((Same.new (o := .tup [.str (kd 12), .ref a12, .ref b12]) (Same.refl _) nt12).trans (sa13.trans (sb13.trans (Same.new (o := .tup [.str (kd 13), .ref a13, .ref b13]) (Same.refl _) nt13)))))).free nl0
    refine ⟨_, rfl, fun a14 Ga14 sa14 na14 ra14 => ⟨_, rfl, fun b14 Gb14 sb14 nb14 rb14 => ⟨by show 3 ≤ sizeLine; decide, fun t14 nt14 => ⟨_, rfl, fun a15 Ga15 sa15 na15 ra15 => ⟨_, rfl, fun b15 Gb15 sb15 nb15 rb15 => ⟨by show 3 ≤ sizeLine; decide, fun t15 nt15 => ⟨by show 2 ≤ sizeLine; decide, fun m1 nm1 => ⟨l0, m1, _, _, rfl, rfl, (sa14.trans (sb14.trans ((Same.new (o := .tup [.str (kd 14), .ref a14, .ref b14]) (Same.refl _) nt14).trans (sa15.trans (sb15.trans ((Same.new (o := .tup [.str (kd 15), .ref a15, .ref b15]) (Same.refl _) nt15).trans (Same.new (o := .lst [.ref t14, .ref t15]) (Same.refl _) nm1))))))) _ _ hl0, upd_same, by show 4 ≤ sizeLine; decide, fun l1 nl1 => ?_⟩⟩⟩⟩⟩⟩⟩⟩
    have E1 := (Same.new (o := .lst [.ref t12, .ref t13, .ref t14, .ref t15]) (Same.refl (L2.upd (L2.upd Gb15 t15 (.tup [.str (kd 15), .ref a15, .ref b15])) m1 (.lst [.ref t14, .ref t15]))) nl1)
    have R1 := RowsOk.mo E1 (RowsOk.app (us := [.ref t14, .ref t15]) (RowsOk.mo (sa14.trans (sb14.trans ((Same.new (o := .tup [.str (kd 14), .ref a14, .ref b14]) (Same.refl _) nt14).trans (sa15.trans (sb15.trans ((Same.new (o := .tup [.str (kd 15), .ref a15, .ref b15]) (Same.refl _) nt15).trans (Same.new (o := .lst [.ref t14, .ref t15]) (Same.refl _) nm1))))))) R0) ⟨⟨t14, a14, b14, rfl, (sa15.trans (sb15.trans ((Same.new (o := .tup [.str (kd 15), .ref a15, .ref b15]) (Same.refl _) nt15).trans (Same.new (o := .lst [.ref t14, .ref t15]) (Same.refl _) nm1)))) _ _ upd_same, Er.mo (sb14.trans ((Same.new (o := .tup [.str (kd 14), .ref a14, .ref b14]) (Same.refl _) nt14).trans (sa15.trans (sb15.trans ((Same.new (o := .tup [.str (kd 15), .ref a15, .ref b15]) (Same.refl _) nt15).trans (Same.new (o := .lst [.ref t14, .ref t15]) (Same.refl _) nm1)))))) ra14, Er.mo ((Same.new (o := .tup [.str (kd 14), .ref a14, .ref b14]) (Same.refl _) nt14).trans (sa15.trans (sb15.trans ((Same.new (o := .tup [.str (kd 15), .ref a15, .ref b15]) (Same.refl _) nt15).trans (Same.new (o := .lst [.ref t14, .ref t15]) (Same.refl _) nm1))))) rb14⟩, ⟨t15, a15, b15, rfl, (Same.new (o := .lst [.ref t14, .ref t15]) (Same.refl _) nm1) _ _ upd_same, Er.mo (sb15.trans ((Same.new (o := .tup [.str (kd 15), .ref a15, .ref b15]) (Same.refl _) nt15).trans (Same.new (o := .lst [.ref t14, .ref t15]) (Same.refl _) nm1))) ra15, Er.mo ((Same.new (o := .tup [.str (kd 15), .ref a15, .ref b15]) (Same.refl _) nt15).trans (Same.new (o := .lst [.ref t14, .ref t15]) (Same.refl _) nm1)) rb15⟩, trivial⟩)
    have hz1 := (S0.trans (sa14.trans (sb14.trans ((Same.new (o := .tup [.str (kd 14), .ref a14, .ref b14]) (Same.refl _) nt14).trans (sa15.trans (sb15.trans ((Same.new (o := .tup [.str (kd 15), .ref a15, .ref b15]) (Same.refl _) nt15).trans (Same.new (o := .lst [.ref t14, .ref t15]) (Same.refl _) nm1)))))))).free nl1
    have S1 := (S0.trans (sa14.trans (sb14.trans ((Same.new (o := .tup [.str (kd 14), .ref a14, .ref b14]) (Same.refl _) nt14).trans (sa15.trans (sb15.trans ((Same.new (o := .tup [.str (kd 15), .ref a15, .ref b15]) (Same.refl _) nt15).trans (Same.new (o := .lst [.ref t14, .ref t15]) (Same.refl _) nm1)))))))).trans E1
    have hl1 : (L2.upd (L2.upd (L2.upd Gb15 t15 (.tup [.str (kd 15), .ref a15, .ref b15])) m1 (.lst [.ref t14, .ref t15])) l1 (.lst [.ref t12, .ref t13, .ref t14, .ref t15])) l1 = some (.lst [.ref t12, .ref t13, .ref t14, .ref t15]) := upd_same
    refine ⟨_, rfl, fun a16 Ga16 sa16 na16 ra16 => ⟨_, rfl, fun b16 Gb16 sb16 nb16 rb16 => ⟨by show 3 ≤ sizeLine; decide, fun t16 nt16 => ⟨_, rfl, fun a17 Ga17 sa17 na17 ra17 => ⟨_, rfl, fun b17 Gb17 sb17 nb17 rb17 => ⟨by show 3 ≤ sizeLine; decide, fun t17 nt17 => ⟨by show 2 ≤ sizeLine; decide, fun m2 nm2 => ⟨l1, m2, _, _, rfl, rfl, (sa16.trans (sb16.trans ((Same.new (o := .tup [.str (kd 16), .ref a16, .ref b16]) (Same.refl _) nt16).trans (sa17.trans (sb17.trans ((Same.new (o := .tup [.str (kd 17), .ref a17, .ref b17]) (Same.refl _) nt17).trans (Same.new (o := .lst [.ref t16, .ref t17]) (Same.refl _) nm2))))))) _ _ hl1, upd_same, by show 6 ≤ sizeLine; decide, fun l2 nl2 => ?_⟩⟩⟩⟩⟩⟩⟩⟩
    have E2 := (Same.new (o := .lst [.ref t12, .ref t13, .ref t14, .ref t15, .ref t16, .ref t17]) (Same.refl (L2.upd (L2.upd Gb17 t17 (.tup [.str (kd 17), .ref a17, .ref b17])) m2 (.lst [.ref t16, .ref t17]))) nl2)
    have R2 := RowsOk.mo E2 (RowsOk.app (us := [.ref t16, .ref t17]) (RowsOk.mo (sa16.trans (sb16.trans ((Same.new (o := .tup [.str (kd 16), .ref a16, .ref b16]) (Same.refl _) nt16).trans (sa17.trans (sb17.trans ((Same.new (o := .tup [.str (kd 17), .ref a17, .ref b17]) (Same.refl _) nt17).trans (Same.new (o := .lst [.ref t16, .ref t17]) (Same.refl _) nm2))))))) R1) ⟨⟨t16, a16, b16, rfl, (sa17.trans (sb17.trans ((Same.new (o := .tup [.str (kd 17), .ref a17, .ref b17]) (Same.refl _) nt17).trans (Same.new (o := .lst [.ref t16, .ref t17]) (Same.refl _) nm2)))) _ _ upd_same, Er.mo (sb16.trans ((Same.new (o := .tup [.str (kd 16), .ref a16, .ref b16]) (Same.refl _) nt16).trans (sa17.trans (sb17.trans ((Same.new (o := .tup [.str (kd 17), .ref a17, .ref b17]) (Same.refl _) nt17).trans (Same.new (o := .lst [.ref t16, .ref t17]) (Same.refl _) nm2)))))) ra16, Er.mo ((Same.new (o := .tup [.str (kd 16), .ref a16, .ref b16]) (Same.refl _) nt16).trans (sa17.trans (sb17.trans ((Same.new (o := .tup [.str (kd 17), .ref a17, .ref b17]) (Same.refl _) nt17).trans (Same.new (o := .lst [.ref t16, .ref t17]) (Same.refl _) nm2))))) rb16⟩, ⟨t17, a17, b17, rfl, (Same.new (o := .lst [.ref t16, .ref t17]) (Same.refl _) nm2) _ _ upd_same, Er.mo (sb17.trans ((Same.new (o := .tup [.str (kd 17), .ref a17, .ref b17]) (Same.refl _) nt17).trans (Same.new (o := .lst [.ref t16, .ref t17]) (Same.refl _) nm2))) ra17, Er.mo ((Same.new (o := .tup [.str (kd 17), .ref a17, .ref b17]) (Same.refl _) nt17).trans (Same.new (o := .lst [.ref t16, .ref t17]) (Same.refl _) nm2)) rb17⟩, trivial⟩)
    have hz2 := (S1.trans (sa16.trans (sb16.trans ((Same.new (o := .tup [.str (kd 16), .ref a16, .ref b16]) (Same.refl _) nt16).trans (sa17.trans (sb17.trans ((Same.new (o := .tup [.str (kd 17), .ref a17, .ref b17]) (Same.refl _) nt17).trans (Same.new (o := .lst [.ref t16, .ref t17]) (Same.refl _) nm2)))))))).free nl2
    have S2 := (S1.trans (sa16.trans (sb16.trans ((Same.new (o := .tup [.str (kd 16), .ref a16, .ref b16]) (Same.refl _) nt16).trans (sa17.trans (sb17.trans ((Same.new (o := .tup [.str (kd 17), .ref a17, .ref b17]) (Same.refl _) nt17).trans (Same.new (o := .lst [.ref t16, .ref t17]) (Same.refl _) nm2)))))))).trans E2
    have hl2 : (L2.upd (L2.upd (L2.upd Gb17 t17 (.tup [.str (kd 17), .ref a17, .ref b17])) m2 (.lst [.ref t16, .ref t17])) l2 (.lst [.ref t12, .ref t13, .ref t14, .ref t15, .ref t16, .ref t17])) l2 = some (.lst [.ref t12, .ref t13, .ref t14, .ref t15, .ref t16, .ref t17]) := upd_same
    refine ⟨_, rfl, fun a18 Ga18 sa18 na18 ra18 => ⟨_, rfl, fun b18 Gb18 sb18 nb18 rb18 => ⟨by show 3 ≤ sizeLine; decide, fun t18 nt18 => ⟨_, rfl, fun a19 Ga19 sa19 na19 ra19 => ⟨_, rfl, fun b19 Gb19 sb19 nb19 rb19 => ⟨by show 3 ≤ sizeLine; decide, fun t19 nt19 => ⟨by show 2 ≤ sizeLine; decide, fun m3 nm3 => ⟨l2, m3, _, _, rfl, rfl, (sa18.trans (sb18.trans ((Same.new (o := .tup [.str (kd 18), .ref a18, .ref b18]) (Same.refl _) nt18).trans (sa19.trans (sb19.trans ((Same.new (o := .tup [.str (kd 19), .ref a19, .ref b19]) (Same.refl _) nt19).trans (Same.new (o := .lst [.ref t18, .ref t19]) (Same.refl _) nm3))))))) _ _ hl2, upd_same, by show 8 ≤ sizeLine; decide, fun l3 nl3 => ?_⟩⟩⟩⟩⟩⟩⟩⟩
    have E3 := (Same.new (o := .lst [.ref t12, .ref t13, .ref t14, .ref t15, .ref t16, .ref t17, .ref t18, .ref t19]) (Same.refl (L2.upd (L2.upd Gb19 t19 (.tup [.str (kd 19), .ref a19, .ref b19])) m3 (.lst [.ref t18, .ref t19]))) nl3)
    have R3 := RowsOk.mo E3 (RowsOk.app (us := [.ref t18, .ref t19]) (RowsOk.mo (sa18.trans (sb18.trans ((Same.new (o := .tup [.str (kd 18), .ref a18, .ref b18]) (Same.refl _) nt18).trans (sa19.trans (sb19.trans ((Same.new (o := .tup [.str (kd 19), .ref a19, .ref b19]) (Same.refl _) nt19).trans (Same.new (o := .lst [.ref t18, .ref t19]) (Same.refl _) nm3))))))) R2) ⟨⟨t18, a18, b18, rfl, (sa19.trans (sb19.trans ((Same.new (o := .tup [.str (kd 19), .ref a19, .ref b19]) (Same.refl _) nt19).trans (Same.new (o := .lst [.ref t18, .ref t19]) (Same.refl _) nm3)))) _ _ upd_same, Er.mo (sb18.trans ((Same.new (o := .tup [.str (kd 18), .ref a18, .ref b18]) (Same.refl _) nt18).trans (sa19.trans (sb19.trans ((Same.new (o := .tup [.str (kd 19), .ref a19, .ref b19]) (Same.refl _) nt19).trans (Same.new (o := .lst [.ref t18, .ref t19]) (Same.refl _) nm3)))))) ra18, Er.mo ((Same.new (o := .tup [.str (kd 18), .ref a18, .ref b18]) (Same.refl _) nt18).trans (sa19.trans (sb19.trans ((Same.new (o := .tup [.str (kd 19), .ref a19, .ref b19]) (Same.refl _) nt19).trans (Same.new (o := .lst [.ref t18, .ref t19]) (Same.refl _) nm3))))) rb18⟩, ⟨t19, a19, b19, rfl, (Same.new (o := .lst [.ref t18, .ref t19]) (Same.refl _) nm3) _ _ upd_same, Er.mo (sb19.trans ((Same.new (o := .tup [.str (kd 19), .ref a19, .ref b19]) (Same.refl _) nt19).trans (Same.new (o := .lst [.ref t18, .ref t19]) (Same.refl _) nm3))) ra19, Er.mo ((Same.new (o := .tup [.str (kd 19), .ref a19, .ref b19]) (Same.refl _) nt19).trans (Same.new (o := .lst [.ref t18, .ref t19]) (Same.refl _) nm3)) rb19⟩, trivial⟩)
    have hz3 := (S2.trans (sa18.trans (sb18.trans ((Same.new (o := .tup [.str (kd 18), .ref a18, .ref b18]) (Same.refl _) nt18).trans (sa19.trans (sb19.trans ((Same.new (o := .tup [.str (kd 19), .ref a19, .ref b19]) (Same.refl _) nt19).trans (Same.new (o := .lst [.ref t18, .ref t19]) (Same.refl _) nm3)))))))).free nl3
    have S3 := (S2.trans (sa18.trans (sb18.trans ((Same.new (o := .tup [.str (kd 18), .ref a18, .ref b18]) (Same.refl _) nt18).trans (sa19.trans (sb19.trans ((Same.new (o := .tup [.str (kd 19), .ref a19, .ref b19]) (Same.refl _) nt19).trans (Same.new (o := .lst [.ref t18, .ref t19]) (Same.refl _) nm3)))))))).trans E3
    have hl3 : (L2.upd (L2.upd (L2.upd Gb19 t19 (.tup [.str (kd 19), .ref a19, .ref b19])) m3 (.lst [.ref t18, .ref t19])) l3 (.lst [.ref t12, .ref t13, .ref t14, .ref t15, .ref t16, .ref t17, .ref t18, .ref t19])) l3 = some (.lst [.ref t12, .ref t13, .ref t14, .ref t15, .ref t16, .ref t17, .ref t18, .ref t19]) := upd_same
    refine ⟨.inl ⟨rfl, _, SqL.of hl3⟩, ⟨_, _, rfl, fun a20 Ga20 sa20 na20 ra20 => ⟨_, _, rfl, fun b20 Gb20 sb20 nb20 rb20 => ⟨by show 3 ≤ sizeLine; decide, fun t20 nt20 => ⟨l3, _, _, rfl, rfl, (sa20.trans (sb20.trans (Same.new (o := .tup [.str (kd 20), .ref a20, .ref b20]) (Same.refl _) nt20))) _ _ hl3, by show 8 < sizeLine; decide, ?_⟩⟩⟩⟩⟩
    have hm4 := (sa20.trans (sb20.trans (Same.new (o := .tup [.str (kd 20), .ref a20, .ref b20]) (Same.refl _) nt20))) _ _ hl3
    have R4 := RowsOk.upL (ys := [.ref t12, .ref t13, .ref t14, .ref t15, .ref t16, .ref t17, .ref t18, .ref t19, .ref t20]) hm4 (RowsOk.app (us := [.ref t20]) (RowsOk.mo (sa20.trans (sb20.trans (Same.new (o := .tup [.str (kd 20), .ref a20, .ref b20]) (Same.refl _) nt20))) R3) ⟨⟨t20, a20, b20, rfl, (Same.refl _) _ _ upd_same, Er.mo (sb20.trans (Same.new (o := .tup [.str (kd 20), .ref a20, .ref b20]) (Same.refl _) nt20)) ra20, Er.mo (Same.new (o := .tup [.str (kd 20), .ref a20, .ref b20]) (Same.refl _) nt20) rb20⟩, trivial⟩)
    have S4 := Same.upN (o := .lst [.ref t12, .ref t13, .ref t14, .ref t15, .ref t16, .ref t17, .ref t18, .ref t19, .ref t20]) (S3.trans (sa20.trans (sb20.trans (Same.new (o := .tup [.str (kd 20), .ref a20, .ref b20]) (Same.refl _) nt20)))) hz3
    have hl4 : (L2.upd (L2.upd Gb20 t20 (.tup [.str (kd 20), .ref a20, .ref b20])) l3 (.lst [.ref t12, .ref t13, .ref t14, .ref t15, .ref t16, .ref t17, .ref t18, .ref t19, .ref t20])) l3 = some (.lst [.ref t12, .ref t13, .ref t14, .ref t15, .ref t16, .ref t17, .ref t18, .ref t19, .ref t20]) := upd_same
    have hz4 := hz3
    -- the same list goes on under a further name
    refine fun a21 Ga21 sa21 na21 ra21 => fun b21 Gb21 sb21 nb21 rb21 => ⟨by show 3 ≤ sizeLine; decide, fun t21 nt21 => fun a22 Ga22 sa22 na22 ra22 => fun b22 Gb22 sb22 nb22 rb22 => ⟨by show 3 ≤ sizeLine; decide, fun t22 nt22 => fun a23 Ga23 sa23 na23 ra23 => fun b23 Gb23 sb23 nb23 rb23 => ⟨by show 3 ≤ sizeLine; decide, fun t23 nt23 => ⟨by show 3 ≤ sizeLine; decide, fun m5 nm5 => ⟨l3, m5, _, _, rfl, rfl, (sa21.trans (sb21.trans ((Same.new (o := .tup [.str (kd 21), .ref a21, .ref b21]) (Same.refl _) nt21).trans (sa22.trans (sb22.trans ((Same.new (o := .tup [.str (kd 22), .ref a22, .ref b22]) (Same.refl _) nt22).trans (sa23.trans (sb23.trans ((Same.new (o := .tup [.str (kd 23), .ref a23, .ref b23]) (Same.refl _) nt23).trans (Same.new (o := .lst [.ref t21, .ref t22, .ref t23]) (Same.refl _) nm5)))))))))) _ _ hl4, upd_same, by show 12 ≤ sizeLine; decide, fun l5 nl5 => ?_⟩⟩⟩⟩⟩
    have E5 := (Same.new (o := .lst [.ref t12, .ref t13, .ref t14, .ref t15, .ref t16, .ref t17, .ref t18, .ref t19, .ref t20, .ref t21, .ref t22, .ref t23]) (Same.refl (L2.upd (L2.upd Gb23 t23 (.tup [.str (kd 23), .ref a23, .ref b23])) m5 (.lst [.ref t21, .ref t22, .ref t23]))) nl5)
    have R5 := RowsOk.mo E5 (RowsOk.app (us := [.ref t21, .ref t22, .ref t23]) (RowsOk.mo (sa21.trans (sb21.trans ((Same.new (o := .tup [.str (kd 21), .ref a21, .ref b21]) (Same.refl _) nt21).trans (sa22.trans (sb22.trans ((Same.new (o := .tup [.str (kd 22), .ref a22, .ref b22]) (Same.refl _) nt22).trans (sa23.trans (sb23.trans ((Same.new (o := .tup [.str (kd 23), .ref a23, .ref b23]) (Same.refl _) nt23).trans (Same.new (o := .lst [.ref t21, .ref t22, .ref t23]) (Same.refl _) nm5)))))))))) R4) ⟨⟨t21, a21, b21, rfl, (sa22.trans (sb22.trans ((Same.new (o := .tup [.str (kd 22), .ref a22, .ref b22]) (Same.refl _) nt22).trans (sa23.trans (sb23.trans ((Same.new (o := .tup [.str (kd 23), .ref a23, .ref b23]) (Same.refl _) nt23).trans (Same.new (o := .lst [.ref t21, .ref t22, .ref t23]) (Same.refl _) nm5))))))) _ _ upd_same, Er.mo (sb21.trans ((Same.new (o := .tup [.str (kd 21), .ref a21, .ref b21]) (Same.refl _) nt21).trans (sa22.trans (sb22.trans ((Same.new (o := .tup [.str (kd 22), .ref a22, .ref b22]) (Same.refl _) nt22).trans (sa23.trans (sb23.trans ((Same.new (o := .tup [.str (kd 23), .ref a23, .ref b23]) (Same.refl _) nt23).trans (Same.new (o := .lst [.ref t21, .ref t22, .ref t23]) (Same.refl _) nm5))))))))) ra21, Er.mo ((Same.new (o := .tup [.str (kd 21), .ref a21, .ref b21]) (Same.refl _) nt21).trans (sa22.trans (sb22.trans ((Same.new (o := .tup [.str (kd 22), .ref a22, .ref b22]) (Same.refl _) nt22).trans (sa23.trans (sb23.trans ((Same.new (o := .tup [.str (kd 23), .ref a23, .ref b23]) (Same.refl _) nt23).trans (Same.new (o := .lst [.ref t21, .ref t22, .ref t23]) (Same.refl _) nm5)))))))) rb21⟩, ⟨t22, a22, b22, rfl, (sa23.trans (sb23.trans ((Same.new (o := .tup [.str (kd 23), .ref a23, .ref b23]) (Same.refl _) nt23).trans (Same.new (o := .lst [.ref t21, .ref t22, .ref t23]) (Same.refl _) nm5)))) _ _ upd_same, Er.mo (sb22.trans ((Same.new (o := .tup [.str (kd 22), .ref a22, .ref b22]) (Same.refl _) nt22).trans (sa23.trans (sb23.trans ((Same.new (o := .tup [.str (kd 23), .ref a23, .ref b23]) (Same.refl _) nt23).trans (Same.new (o := .lst [.ref t21, .ref t22, .ref t23]) (Same.refl _) nm5)))))) ra22, Er.mo ((Same.new (o := .tup [.str (kd 22), .ref a22, .ref b22]) (Same.refl _) nt22).trans (sa23.trans (sb23.trans ((Same.new (o := .tup [.str (kd 23), .ref a23, .ref b23]) (Same.refl _) nt23).trans (Same.new (o := .lst [.ref t21, .ref t22, .ref t23]) (Same.refl _) nm5))))) rb22⟩, ⟨t23, a23, b23, rfl, (Same.new (o := .lst [.ref t21, .ref t22, .ref t23]) (Same.refl _) nm5) _ _ upd_same, Er.mo (sb23.trans ((Same.new (o := .tup [.str (kd 23), .ref a23, .ref b23]) (Same.refl _) nt23).trans (Same.new (o := .lst [.ref t21, .ref t22, .ref t23]) (Same.refl _) nm5))) ra23, Er.mo ((Same.new (o := .tup [.str (kd 23), .ref a23, .ref b23]) (Same.refl _) nt23).trans (Same.new (o := .lst [.ref t21, .ref t22, .ref t23]) (Same.refl _) nm5)) rb23⟩, trivial⟩)
    have hz5 := (S4.trans (sa21.trans (sb21.trans ((Same.new (o := .tup [.str (kd 21), .ref a21, .ref b21]) (Same.refl _) nt21).trans (sa22.trans (sb22.trans ((Same.new (o := .tup [.str (kd 22), .ref a22, .ref b22]) (Same.refl _) nt22).trans (sa23.trans (sb23.trans ((Same.new (o := .tup [.str (kd 23), .ref a23, .ref b23]) (Same.refl _) nt23).trans (Same.new (o := .lst [.ref t21, .ref t22, .ref t23]) (Same.refl _) nm5))))))))))).free nl5
    have S5 := (S4.trans (sa21.trans (sb21.trans ((Same.new (o := .tup [.str (kd 21), .ref a21, .ref b21]) (Same.refl _) nt21).trans (sa22.trans (sb22.trans ((Same.new (o := .tup [.str (kd 22), .ref a22, .ref b22]) (Same.refl _) nt22).trans (sa23.trans (sb23.trans ((Same.new (o := .tup [.str (kd 23), .ref a23, .ref b23]) (Same.refl _) nt23).trans (Same.new (o := .lst [.ref t21, .ref t22, .ref t23]) (Same.refl _) nm5))))))))))).trans E5
    have hl5 : (L2.upd (L2.upd (L2.upd Gb23 t23 (.tup [.str (kd 23), .ref a23, .ref b23])) m5 (.lst [.ref t21, .ref t22, .ref t23])) l5 (.lst [.ref t12, .ref t13, .ref t14, .ref t15, .ref t16, .ref t17, .ref t18, .ref t19, .ref t20, .ref t21, .ref t22, .ref t23])) l5 = some (.lst [.ref t12, .ref t13, .ref t14, .ref t15, .ref t16, .ref t17, .ref t18, .ref t19, .ref t20, .ref t21, .ref t22, .ref t23]) := upd_same
    refine ⟨.inl ⟨rfl, _, SqL.of hl5⟩, fun a24 Ga24 sa24 na24 ra24 => fun b24 Gb24 sb24 nb24 rb24 => ⟨by show 3 ≤ sizeLine; decide, fun t24 nt24 => ⟨l5, _, _, rfl, rfl, (sa24.trans (sb24.trans (Same.new (o := .tup [.str (kd 24), .ref a24, .ref b24]) (Same.refl _) nt24))) _ _ hl5, by show 12 < sizeLine; decide, ?_⟩⟩⟩
    have hm6 := (sa24.trans (sb24.trans (Same.new (o := .tup [.str (kd 24), .ref a24, .ref b24]) (Same.refl _) nt24))) _ _ hl5
    have R6 := RowsOk.upL (ys := [.ref t12, .ref t13, .ref t14, .ref t15, .ref t16, .ref t17, .ref t18, .ref t19, .ref t20, .ref t21, .ref t22, .ref t23, .ref t24]) hm6 (RowsOk.app (us := [.ref t24]) (RowsOk.mo (sa24.trans (sb24.trans (Same.new (o := .tup [.str (kd 24), .ref a24, .ref b24]) (Same.refl _) nt24))) R5) ⟨⟨t24, a24, b24, rfl, (Same.refl _) _ _ upd_same, Er.mo (sb24.trans (Same.new (o := .tup [.str (kd 24), .ref a24, .ref b24]) (Same.refl _) nt24)) ra24, Er.mo (Same.new (o := .tup [.str (kd 24), .ref a24, .ref b24]) (Same.refl _) nt24) rb24⟩, trivial⟩)
    have S6 := Same.upN (o := .lst [.ref t12, .ref t13, .ref t14, .ref t15, .ref t16, .ref t17, .ref t18, .ref t19, .ref t20, .ref t21, .ref t22, .ref t23, .ref t24]) (S5.trans (sa24.trans (sb24.trans (Same.new (o := .tup [.str (kd 24), .ref a24, .ref b24]) (Same.refl _) nt24)))) hz5
    have hl6 : (L2.upd (L2.upd Gb24 t24 (.tup [.str (kd 24), .ref a24, .ref b24])) l5 (.lst [.ref t12, .ref t13, .ref t14, .ref t15, .ref t16, .ref t17, .ref t18, .ref t19, .ref t20, .ref t21, .ref t22, .ref t23, .ref t24])) l5 = some (.lst [.ref t12, .ref t13, .ref t14, .ref t15, .ref t16, .ref t17, .ref t18, .ref t19, .ref t20, .ref t21, .ref t22, .ref t23, .ref t24]) := upd_same
    have hz6 := hz5
    -- the same list goes on under a further name
    refine ⟨_, _, rfl, fun a25 Ga25 sa25 na25 ra25 => ⟨_, _, rfl, fun b25 Gb25 sb25 nb25 rb25 => ⟨by show 3 ≤ sizeLine; decide, fun t25 nt25 => ⟨by show 1 ≤ sizeLine; decide, fun m7 nm7 => ⟨l5, m7, _, _, rfl, rfl, (sa25.trans (sb25.trans ((Same.new (o := .tup [.str (kd 25), .ref a25, .ref b25]) (Same.refl _) nt25).trans (Same.new (o := .lst [.ref t25]) (Same.refl _) nm7)))) _ _ hl6, upd_same, by show 14 ≤ sizeLine; decide, fun l7 nl7 => ?_⟩⟩⟩⟩⟩
    have E7 := (Same.new (o := .lst [.ref t12, .ref t13, .ref t14, .ref t15, .ref t16, .ref t17, .ref t18, .ref t19, .ref t20, .ref t21, .ref t22, .ref t23, .ref t24, .ref t25]) (Same.refl (L2.upd (L2.upd Gb25 t25 (.tup [.str (kd 25), .ref a25, .ref b25])) m7 (.lst [.ref t25]))) nl7)
    have R7 := RowsOk.mo E7 (RowsOk.app (us := [.ref t25]) (RowsOk.mo (sa25.trans (sb25.trans ((Same.new (o := .tup [.str (kd 25), .ref a25, .ref b25]) (Same.refl _) nt25).trans (Same.new (o := .lst [.ref t25]) (Same.refl _) nm7)))) R6) ⟨⟨t25, a25, b25, rfl, (Same.new (o := .lst [.ref t25]) (Same.refl _) nm7) _ _ upd_same, Er.mo (sb25.trans ((Same.new (o := .tup [.str (kd 25), .ref a25, .ref b25]) (Same.refl _) nt25).trans (Same.new (o := .lst [.ref t25]) (Same.refl _) nm7))) ra25, Er.mo ((Same.new (o := .tup [.str (kd 25), .ref a25, .ref b25]) (Same.refl _) nt25).trans (Same.new (o := .lst [.ref t25]) (Same.refl _) nm7)) rb25⟩, trivial⟩)
    have hz7 := (S6.trans (sa25.trans (sb25.trans ((Same.new (o := .tup [.str (kd 25), .ref a25, .ref b25]) (Same.refl _) nt25).trans (Same.new (o := .lst [.ref t25]) (Same.refl _) nm7))))).free nl7
    have S7 := (S6.trans (sa25.trans (sb25.trans ((Same.new (o := .tup [.str (kd 25), .ref a25, .ref b25]) (Same.refl _) nt25).trans (Same.new (o := .lst [.ref t25]) (Same.refl _) nm7))))).trans E7
    have hl7 : (L2.upd (L2.upd (L2.upd Gb25 t25 (.tup [.str (kd 25), .ref a25, .ref b25])) m7 (.lst [.ref t25])) l7 (.lst [.ref t12, .ref t13, .ref t14, .ref t15, .ref t16, .ref t17, .ref t18, .ref t19, .ref t20, .ref t21, .ref t22, .ref t23, .ref t24, .ref t25])) l7 = some (.lst [.ref t12, .ref t13, .ref t14, .ref t15, .ref t16, .ref t17, .ref t18, .ref t19, .ref t20, .ref t21, .ref t22, .ref t23, .ref t24, .ref t25]) := upd_same
    exact k l7 _ _ hz7 S7 hl7 rfl R7

def kinds : List (Str × List Str) := [("value", ["value"]), ("part", ["part"]), ("at", ["at"]), ("line word", ["line", "word"]), ("word", ["word"]), ("name", ["name"]), ("day", ["day"]), ("what most", ["what", "most"]), ("", []), ("check amount", ["check", "amount"])]
theorem kinds_all : ∀ i, i < 26 → (kd i, fsT i) ∈ kinds := by decide +kernel
def spKept (C : Nat → Addr) : Sp := fun vs H Q _ => ∃ (e : Addr) (i : Nat) (x y : V), vs = [.str (kd i), .ref e] ∧ i < 26 ∧ Er H e (C i) (fl i x y) ∧ ∀ (q : Addr) (G : Hp), H q = none → q ≠ sysModules → Same H G → G q = some (.lst (fv i x y)) → Q (.ref q) G
theorem ok_kept {C : Nat → Addr} {S BI RF NA f : Addr} {fd : FuncData} (F : Fun K "_law_kept" "_law_kept" s__law_kept f fd) (T : Txt K mg) (U : TxE P w K mg base C S BI RF NA) : FnOk P w K mg base CX0 1 f fd ["_law_kind", "_law_error"] (spKept C) := by
  refine F.ok sc__law_kept (fun vs H Q E h => ?_) (fun cdv A outer s H vs Q E hr h => ?_)
  · obtain ⟨e, i, x, y, rfl, _⟩ := h
    rfl
  · obtain ⟨e, i, x, y, rfl, hi, he, k⟩ := h
    refine ⟨_, (pss_cons (s_if (t_cmp op_in_seq (pc 0) (pe_tup (pa_cons pe_str (pa_cons pe_str (pa_cons pe_str pa_nil))))) (pss_one (ps_ret (pe_lstS (pa_cons (e_if (t_cmp (o_eq hr.units) (pc 0) pe_str) (pe_exf (pc 1)) (e_if (t_cmp (o_eq hr.units) (pc 0) pe_str) (pe_exf (pc 1)) (pe_exf (pc 1)))) pa_nil)))) pss_nil)
    (pss_cons (s_if (t_cmp op_in_seq (pc 0) (pe_tup (pa_cons pe_str (pa_cons pe_str (pa_cons pe_str pa_nil))))) (pss_one (ps_ret (pe_lstS (pa_cons (e_if (t_cmp (o_eq hr.units) (pc 0) pe_str) (pe_exf (pc 1)) (e_if (t_cmp (o_eq hr.units) (pc 0) pe_str) (pe_exf (pc 1)) (pe_exf (pc 1)))) pa_nil)))) pss_nil)
    (pss_cons (s_if (t_cmp (o_eq hr.units) (pc 0) pe_str) (pss_one (ps_ret (pe_lstS (pa_cons (pe_exf (pc 1)) (pa_cons (pe_exf (pc 1)) pa_nil))))) pss_nil)
    (pss_cons (s_if (t_cmp (o_eq hr.units) (pc 0) pe_str) (pss_one (ps_ret (pe_lstS (pa_cons (pe_exf (pc 1)) (pa_cons (pe_exf (pc 1)) pa_nil))))) pss_nil)
    (pss_one (ps_ret (e_if (t_cmp (o_eq hr.units) (pc 0) pe_str) (pe_lstS (pa_cons (pe_exf (pc 1)) (pa_cons (pe_exf (pc 1)) pa_nil))) (pe_lstS pa_nil)))))))), ?_⟩
    have hm : (kd i, fsT i) ∈ kinds := kinds_all i hi
    unfold kinds at hm
    simp only [List.mem_cons, List.not_mem_nil, or_false] at hm
    rcases hm with hm | hm | hm | hm | hm | hm | hm | hm | hm | hm
    · obtain ⟨hk, hf⟩ : kd i = "value" ∧ fsT i = (["value"] : List Str) := Prod.mk.inj hm
      unfold fl at he
      unfold fv at k
      rw [hf] at he k
      rw [hk]
      obtain ⟨d, h1, h2⟩ := Er.at_ he (fun z => by cases z)
      exact ⟨by show 3 ≤ sizeLine; decide, fun p0 np0 => ⟨p0, _, rfl, .inr (SqT.of upd_same), rfl, rfl, ⟨fun _ => ⟨fun _ => ⟨e, C i, d, _, x, rfl, (Same.new (o := .tup [.str "value", .str "part", .str "at"]) (Same.refl _) np0) _ _ h1, (Same.new (o := .tup [.str "value", .str "part", .str "at"]) (Same.refl _) np0) _ _ h2, U.ex i hi, U.no i hi "value" (by rw [hf]; decide), rfl, by show 1 ≤ sizeLine; decide, fun q nq mq => k q _ ((Same.new (o := .tup [.str "value", .str "part", .str "at"]) (Same.refl _) np0).free nq) mq ((Same.new (o := .tup [.str "value", .str "part", .str "at"]) (Same.refl _) np0).trans (Same.new (o := .lst [x]) (Same.refl _) nq)) upd_same⟩, fun h => absurd h (by decide)⟩, fun h => absurd h (by decide)⟩⟩⟩
    · obtain ⟨hk, hf⟩ : kd i = "part" ∧ fsT i = (["part"] : List Str) := Prod.mk.inj hm
      unfold fl at he
      unfold fv at k
      rw [hf] at he k
      rw [hk]
      obtain ⟨d, h1, h2⟩ := Er.at_ he (fun z => by cases z)
      exact ⟨by show 3 ≤ sizeLine; decide, fun p0 np0 => ⟨p0, _, rfl, .inr (SqT.of upd_same), rfl, rfl, ⟨fun _ => ⟨fun h => absurd h (by decide), fun _ => ⟨fun _ => ⟨e, C i, d, _, x, rfl, (Same.new (o := .tup [.str "value", .str "part", .str "at"]) (Same.refl _) np0) _ _ h1, (Same.new (o := .tup [.str "value", .str "part", .str "at"]) (Same.refl _) np0) _ _ h2, U.ex i hi, U.no i hi "part" (by rw [hf]; decide), rfl, by show 1 ≤ sizeLine; decide, fun q nq mq => k q _ ((Same.new (o := .tup [.str "value", .str "part", .str "at"]) (Same.refl _) np0).free nq) mq ((Same.new (o := .tup [.str "value", .str "part", .str "at"]) (Same.refl _) np0).trans (Same.new (o := .lst [x]) (Same.refl _) nq)) upd_same⟩, fun h => absurd h (by decide)⟩⟩, fun h => absurd h (by decide)⟩⟩⟩
    · obtain ⟨hk, hf⟩ : kd i = "at" ∧ fsT i = (["at"] : List Str) := Prod.mk.inj hm
      unfold fl at he
      unfold fv at k
      rw [hf] at he k
      rw [hk]
      obtain ⟨d, h1, h2⟩ := Er.at_ he (fun z => by cases z)
      exact ⟨by show 3 ≤ sizeLine; decide, fun p0 np0 => ⟨p0, _, rfl, .inr (SqT.of upd_same), rfl, rfl, ⟨fun _ => ⟨fun h => absurd h (by decide), fun _ => ⟨fun h => absurd h (by decide), fun _ => ⟨e, C i, d, _, x, rfl, (Same.new (o := .tup [.str "value", .str "part", .str "at"]) (Same.refl _) np0) _ _ h1, (Same.new (o := .tup [.str "value", .str "part", .str "at"]) (Same.refl _) np0) _ _ h2, U.ex i hi, U.no i hi "at" (by rw [hf]; decide), rfl, by show 1 ≤ sizeLine; decide, fun q nq mq => k q _ ((Same.new (o := .tup [.str "value", .str "part", .str "at"]) (Same.refl _) np0).free nq) mq ((Same.new (o := .tup [.str "value", .str "part", .str "at"]) (Same.refl _) np0).trans (Same.new (o := .lst [x]) (Same.refl _) nq)) upd_same⟩⟩⟩, fun h => absurd h (by decide)⟩⟩⟩
    · obtain ⟨hk, hf⟩ : kd i = "line word" ∧ fsT i = (["line", "word"] : List Str) := Prod.mk.inj hm
      unfold fl at he
      unfold fv at k
      rw [hf] at he k
      rw [hk]
      obtain ⟨d, h1, h2⟩ := Er.at_ he (fun z => by cases z)
      exact ⟨by show 3 ≤ sizeLine; decide, fun p0 np0 => ⟨p0, _, rfl, .inr (SqT.of upd_same), rfl, rfl, ⟨fun h => absurd h (by decide), fun _ => ⟨by show 3 ≤ sizeLine; decide, fun p1 np1 => ⟨p1, _, rfl, .inr (SqT.of upd_same), rfl, rfl, ⟨fun h => absurd h (by decide), fun _ => ⟨fun _ => ⟨e, C i, d, _, x, rfl, ((Same.new (o := .tup [.str "value", .str "part", .str "at"]) (Same.refl _) np0).trans (Same.new (o := .tup [.str "name", .str "day", .str "word"]) (Same.refl _) np1)) _ _ h1, ((Same.new (o := .tup [.str "value", .str "part", .str "at"]) (Same.refl _) np0).trans (Same.new (o := .tup [.str "name", .str "day", .str "word"]) (Same.refl _) np1)) _ _ h2, U.ex i hi, U.no i hi "line" (by rw [hf]; decide), rfl, e, C i, d, _, y, rfl, ((Same.new (o := .tup [.str "value", .str "part", .str "at"]) (Same.refl _) np0).trans (Same.new (o := .tup [.str "name", .str "day", .str "word"]) (Same.refl _) np1)) _ _ h1, ((Same.new (o := .tup [.str "value", .str "part", .str "at"]) (Same.refl _) np0).trans (Same.new (o := .tup [.str "name", .str "day", .str "word"]) (Same.refl _) np1)) _ _ h2, U.ex i hi, U.no i hi "word" (by rw [hf]; decide), rfl, by show 2 ≤ sizeLine; decide, fun q nq mq => k q _ (((Same.new (o := .tup [.str "value", .str "part", .str "at"]) (Same.refl _) np0).trans (Same.new (o := .tup [.str "name", .str "day", .str "word"]) (Same.refl _) np1)).free nq) mq (((Same.new (o := .tup [.str "value", .str "part", .str "at"]) (Same.refl _) np0).trans (Same.new (o := .tup [.str "name", .str "day", .str "word"]) (Same.refl _) np1)).trans (Same.new (o := .lst [x, y]) (Same.refl _) nq)) upd_same⟩, fun h => absurd h (by decide)⟩⟩⟩⟩⟩⟩⟩
    · obtain ⟨hk, hf⟩ : kd i = "word" ∧ fsT i = (["word"] : List Str) := Prod.mk.inj hm
      unfold fl at he
      unfold fv at k
      rw [hf] at he k
      rw [hk]
      obtain ⟨d, h1, h2⟩ := Er.at_ he (fun z => by cases z)
      exact ⟨by show 3 ≤ sizeLine; decide, fun p0 np0 => ⟨p0, _, rfl, .inr (SqT.of upd_same), rfl, rfl, ⟨fun h => absurd h (by decide), fun _ => ⟨by show 3 ≤ sizeLine; decide, fun p1 np1 => ⟨p1, _, rfl, .inr (SqT.of upd_same), rfl, rfl, ⟨fun _ => ⟨fun h => absurd h (by decide), fun _ => ⟨fun h => absurd h (by decide), fun _ => ⟨e, C i, d, _, x, rfl, ((Same.new (o := .tup [.str "value", .str "part", .str "at"]) (Same.refl _) np0).trans (Same.new (o := .tup [.str "name", .str "day", .str "word"]) (Same.refl _) np1)) _ _ h1, ((Same.new (o := .tup [.str "value", .str "part", .str "at"]) (Same.refl _) np0).trans (Same.new (o := .tup [.str "name", .str "day", .str "word"]) (Same.refl _) np1)) _ _ h2, U.ex i hi, U.no i hi "word" (by rw [hf]; decide), rfl, by show 1 ≤ sizeLine; decide, fun q nq mq => k q _ (((Same.new (o := .tup [.str "value", .str "part", .str "at"]) (Same.refl _) np0).trans (Same.new (o := .tup [.str "name", .str "day", .str "word"]) (Same.refl _) np1)).free nq) mq (((Same.new (o := .tup [.str "value", .str "part", .str "at"]) (Same.refl _) np0).trans (Same.new (o := .tup [.str "name", .str "day", .str "word"]) (Same.refl _) np1)).trans (Same.new (o := .lst [x]) (Same.refl _) nq)) upd_same⟩⟩⟩, fun h => absurd h (by decide)⟩⟩⟩⟩⟩⟩
    · obtain ⟨hk, hf⟩ : kd i = "name" ∧ fsT i = (["name"] : List Str) := Prod.mk.inj hm
      unfold fl at he
      unfold fv at k
      rw [hf] at he k
      rw [hk]
      obtain ⟨d, h1, h2⟩ := Er.at_ he (fun z => by cases z)
      exact ⟨by show 3 ≤ sizeLine; decide, fun p0 np0 => ⟨p0, _, rfl, .inr (SqT.of upd_same), rfl, rfl, ⟨fun h => absurd h (by decide), fun _ => ⟨by show 3 ≤ sizeLine; decide, fun p1 np1 => ⟨p1, _, rfl, .inr (SqT.of upd_same), rfl, rfl, ⟨fun _ => ⟨fun _ => ⟨e, C i, d, _, x, rfl, ((Same.new (o := .tup [.str "value", .str "part", .str "at"]) (Same.refl _) np0).trans (Same.new (o := .tup [.str "name", .str "day", .str "word"]) (Same.refl _) np1)) _ _ h1, ((Same.new (o := .tup [.str "value", .str "part", .str "at"]) (Same.refl _) np0).trans (Same.new (o := .tup [.str "name", .str "day", .str "word"]) (Same.refl _) np1)) _ _ h2, U.ex i hi, U.no i hi "name" (by rw [hf]; decide), rfl, by show 1 ≤ sizeLine; decide, fun q nq mq => k q _ (((Same.new (o := .tup [.str "value", .str "part", .str "at"]) (Same.refl _) np0).trans (Same.new (o := .tup [.str "name", .str "day", .str "word"]) (Same.refl _) np1)).free nq) mq (((Same.new (o := .tup [.str "value", .str "part", .str "at"]) (Same.refl _) np0).trans (Same.new (o := .tup [.str "name", .str "day", .str "word"]) (Same.refl _) np1)).trans (Same.new (o := .lst [x]) (Same.refl _) nq)) upd_same⟩, fun h => absurd h (by decide)⟩, fun h => absurd h (by decide)⟩⟩⟩⟩⟩⟩
    · obtain ⟨hk, hf⟩ : kd i = "day" ∧ fsT i = (["day"] : List Str) := Prod.mk.inj hm
      unfold fl at he
      unfold fv at k
      rw [hf] at he k
      rw [hk]
      obtain ⟨d, h1, h2⟩ := Er.at_ he (fun z => by cases z)
      exact ⟨by show 3 ≤ sizeLine; decide, fun p0 np0 => ⟨p0, _, rfl, .inr (SqT.of upd_same), rfl, rfl, ⟨fun h => absurd h (by decide), fun _ => ⟨by show 3 ≤ sizeLine; decide, fun p1 np1 => ⟨p1, _, rfl, .inr (SqT.of upd_same), rfl, rfl, ⟨fun _ => ⟨fun h => absurd h (by decide), fun _ => ⟨fun _ => ⟨e, C i, d, _, x, rfl, ((Same.new (o := .tup [.str "value", .str "part", .str "at"]) (Same.refl _) np0).trans (Same.new (o := .tup [.str "name", .str "day", .str "word"]) (Same.refl _) np1)) _ _ h1, ((Same.new (o := .tup [.str "value", .str "part", .str "at"]) (Same.refl _) np0).trans (Same.new (o := .tup [.str "name", .str "day", .str "word"]) (Same.refl _) np1)) _ _ h2, U.ex i hi, U.no i hi "day" (by rw [hf]; decide), rfl, by show 1 ≤ sizeLine; decide, fun q nq mq => k q _ (((Same.new (o := .tup [.str "value", .str "part", .str "at"]) (Same.refl _) np0).trans (Same.new (o := .tup [.str "name", .str "day", .str "word"]) (Same.refl _) np1)).free nq) mq (((Same.new (o := .tup [.str "value", .str "part", .str "at"]) (Same.refl _) np0).trans (Same.new (o := .tup [.str "name", .str "day", .str "word"]) (Same.refl _) np1)).trans (Same.new (o := .lst [x]) (Same.refl _) nq)) upd_same⟩, fun h => absurd h (by decide)⟩⟩, fun h => absurd h (by decide)⟩⟩⟩⟩⟩⟩
    · obtain ⟨hk, hf⟩ : kd i = "what most" ∧ fsT i = (["what", "most"] : List Str) := Prod.mk.inj hm
      unfold fl at he
      unfold fv at k
      rw [hf] at he k
      rw [hk]
      obtain ⟨d, h1, h2⟩ := Er.at_ he (fun z => by cases z)
      exact ⟨by show 3 ≤ sizeLine; decide, fun p0 np0 => ⟨p0, _, rfl, .inr (SqT.of upd_same), rfl, rfl, ⟨fun h => absurd h (by decide), fun _ => ⟨by show 3 ≤ sizeLine; decide, fun p1 np1 => ⟨p1, _, rfl, .inr (SqT.of upd_same), rfl, rfl, ⟨fun h => absurd h (by decide), fun _ => ⟨fun h => absurd h (by decide), fun _ => ⟨fun _ => ⟨e, C i, d, _, x, rfl, ((Same.new (o := .tup [.str "value", .str "part", .str "at"]) (Same.refl _) np0).trans (Same.new (o := .tup [.str "name", .str "day", .str "word"]) (Same.refl _) np1)) _ _ h1, ((Same.new (o := .tup [.str "value", .str "part", .str "at"]) (Same.refl _) np0).trans (Same.new (o := .tup [.str "name", .str "day", .str "word"]) (Same.refl _) np1)) _ _ h2, U.ex i hi, U.no i hi "what" (by rw [hf]; decide), rfl, e, C i, d, _, y, rfl, ((Same.new (o := .tup [.str "value", .str "part", .str "at"]) (Same.refl _) np0).trans (Same.new (o := .tup [.str "name", .str "day", .str "word"]) (Same.refl _) np1)) _ _ h1, ((Same.new (o := .tup [.str "value", .str "part", .str "at"]) (Same.refl _) np0).trans (Same.new (o := .tup [.str "name", .str "day", .str "word"]) (Same.refl _) np1)) _ _ h2, U.ex i hi, U.no i hi "most" (by rw [hf]; decide), rfl, by show 2 ≤ sizeLine; decide, fun q nq mq => k q _ (((Same.new (o := .tup [.str "value", .str "part", .str "at"]) (Same.refl _) np0).trans (Same.new (o := .tup [.str "name", .str "day", .str "word"]) (Same.refl _) np1)).free nq) mq (((Same.new (o := .tup [.str "value", .str "part", .str "at"]) (Same.refl _) np0).trans (Same.new (o := .tup [.str "name", .str "day", .str "word"]) (Same.refl _) np1)).trans (Same.new (o := .lst [x, y]) (Same.refl _) nq)) upd_same⟩, fun h => absurd h (by decide)⟩⟩⟩⟩⟩⟩⟩⟩
    · obtain ⟨hk, hf⟩ : kd i = "" ∧ fsT i = ([] : List Str) := Prod.mk.inj hm
      unfold fl at he
      unfold fv at k
      rw [hf] at he k
      rw [hk]
      exact ⟨by show 3 ≤ sizeLine; decide, fun p0 np0 => ⟨p0, _, rfl, .inr (SqT.of upd_same), rfl, rfl, ⟨fun h => absurd h (by decide), fun _ => ⟨by show 3 ≤ sizeLine; decide, fun p1 np1 => ⟨p1, _, rfl, .inr (SqT.of upd_same), rfl, rfl, ⟨fun h => absurd h (by decide), fun _ => ⟨fun h => absurd h (by decide), fun _ => ⟨fun h => absurd h (by decide), fun _ => ⟨fun h => absurd h (by decide), fun _ => ⟨by show 0 ≤ sizeLine; decide, fun q nq mq => k q _ (((Same.new (o := .tup [.str "value", .str "part", .str "at"]) (Same.refl _) np0).trans (Same.new (o := .tup [.str "name", .str "day", .str "word"]) (Same.refl _) np1)).free nq) mq (((Same.new (o := .tup [.str "value", .str "part", .str "at"]) (Same.refl _) np0).trans (Same.new (o := .tup [.str "name", .str "day", .str "word"]) (Same.refl _) np1)).trans (Same.new (o := .lst []) (Same.refl _) nq)) upd_same⟩⟩⟩⟩⟩⟩⟩⟩⟩⟩
    · obtain ⟨hk, hf⟩ : kd i = "check amount" ∧ fsT i = (["check", "amount"] : List Str) := Prod.mk.inj hm
      unfold fl at he
      unfold fv at k
      rw [hf] at he k
      rw [hk]
      obtain ⟨d, h1, h2⟩ := Er.at_ he (fun z => by cases z)
      exact ⟨by show 3 ≤ sizeLine; decide, fun p0 np0 => ⟨p0, _, rfl, .inr (SqT.of upd_same), rfl, rfl, ⟨fun h => absurd h (by decide), fun _ => ⟨by show 3 ≤ sizeLine; decide, fun p1 np1 => ⟨p1, _, rfl, .inr (SqT.of upd_same), rfl, rfl, ⟨fun h => absurd h (by decide), fun _ => ⟨fun h => absurd h (by decide), fun _ => ⟨fun h => absurd h (by decide), fun _ => ⟨fun _ => ⟨e, C i, d, _, x, rfl, ((Same.new (o := .tup [.str "value", .str "part", .str "at"]) (Same.refl _) np0).trans (Same.new (o := .tup [.str "name", .str "day", .str "word"]) (Same.refl _) np1)) _ _ h1, ((Same.new (o := .tup [.str "value", .str "part", .str "at"]) (Same.refl _) np0).trans (Same.new (o := .tup [.str "name", .str "day", .str "word"]) (Same.refl _) np1)) _ _ h2, U.ex i hi, U.no i hi "check" (by rw [hf]; decide), rfl, e, C i, d, _, y, rfl, ((Same.new (o := .tup [.str "value", .str "part", .str "at"]) (Same.refl _) np0).trans (Same.new (o := .tup [.str "name", .str "day", .str "word"]) (Same.refl _) np1)) _ _ h1, ((Same.new (o := .tup [.str "value", .str "part", .str "at"]) (Same.refl _) np0).trans (Same.new (o := .tup [.str "name", .str "day", .str "word"]) (Same.refl _) np1)) _ _ h2, U.ex i hi, U.no i hi "amount" (by rw [hf]; decide), rfl, by show 2 ≤ sizeLine; decide, fun q nq mq => k q _ (((Same.new (o := .tup [.str "value", .str "part", .str "at"]) (Same.refl _) np0).trans (Same.new (o := .tup [.str "name", .str "day", .str "word"]) (Same.refl _) np1)).free nq) mq (((Same.new (o := .tup [.str "value", .str "part", .str "at"]) (Same.refl _) np0).trans (Same.new (o := .tup [.str "name", .str "day", .str "word"]) (Same.refl _) np1)).trans (Same.new (o := .lst [x, y]) (Same.refl _) nq)) upd_same⟩, fun h => absurd h (by decide)⟩⟩⟩⟩⟩⟩⟩⟩⟩

def spClasses (C : Nat → Addr) : Sp := fun vs H Q _ => ∃ (e : Addr) (i : Nat) (fs : List (Str × V)), vs = [.ref e] ∧ i < 26 ∧ Er H e (C i) fs ∧ ∀ (q : Addr) (G : Hp), H q = none → Same H G → G q = some (.lst ((List.range 26).map fun j => .bl (i == j))) → Q (.ref q) G
theorem ok_classes {C : Nat → Addr} {S BI RF NA f : Addr} {fd : FuncData} (F : Fun K "_law_classes" "_law_classes" s__law_classes f fd) (T : Txt K mg) (U : TxE P w K mg base C S BI RF NA) : FnOk P w K mg base CX0 1 f fd ["_law_error"] (spClasses C) := by
  refine F.ok sc__law_classes (fun vs H Q E h => ?_) (fun cdv A outer s H vs Q E hr h => ?_)
  · obtain ⟨e, i, fs, rfl, _⟩ := h
    rfl
  · obtain ⟨e, i, fs, rfl, hi, he, k⟩ := h
    refine ⟨_, (pss_cons (ps_set (i := 1) sc__law_classes.nd rfl (Or.inl rfl) (pe_lst (pa_cons (pe_callB call_isE (by rfl) T.b_isinstance (by decide +kernel) (pa_cons (pc 0) (pa_cons (p_gc U.g_BadName) pa_nil))) (pa_cons (pe_callB call_isE (by rfl) T.b_isinstance (by decide +kernel) (pa_cons (pc 0) (pa_cons (p_gc U.g_BadAmount) pa_nil))) (pa_cons (pe_callB call_isE (by rfl) T.b_isinstance (by decide +kernel) (pa_cons (pc 0) (pa_cons (p_gc U.g_BadDay) pa_nil))) pa_nil)))))
    (pss_cons (ps_set (i := 1) sc__law_classes.nd rfl (Or.inl rfl) (pe_op op_cat (pc 1) (pe_lst (pa_cons (pe_callB call_isE (by rfl) T.b_isinstance (by decide +kernel) (pa_cons (pc 0) (pa_cons (p_gc U.g_BadItem) pa_nil))) (pa_cons (pe_callB call_isE (by rfl) T.b_isinstance (by decide +kernel) (pa_cons (pc 0) (pa_cons (p_gc U.g_BadOffice) pa_nil))) (pa_cons (pe_callB call_isE (by rfl) T.b_isinstance (by decide +kernel) (pa_cons (pc 0) (pa_cons (p_gc U.g_BadGaps) pa_nil))) pa_nil))))))
    (pss_cons (ps_set (i := 1) sc__law_classes.nd rfl (Or.inl rfl) (pe_op op_cat (pc 1) (pe_lst (pa_cons (pe_callB call_isE (by rfl) T.b_isinstance (by decide +kernel) (pa_cons (pc 0) (pa_cons (p_gc U.g_BadRow) pa_nil))) (pa_cons (pe_callB call_isE (by rfl) T.b_isinstance (by decide +kernel) (pa_cons (pc 0) (pa_cons (p_gc U.g_BadBound) pa_nil))) (pa_cons (pe_callB call_isE (by rfl) T.b_isinstance (by decide +kernel) (pa_cons (pc 0) (pa_cons (p_gc U.g_BadLook) pa_nil))) pa_nil))))))
    (pss_cons (ps_set (i := 1) sc__law_classes.nd rfl (Or.inl rfl) (pe_op op_cat (pc 1) (pe_lst (pa_cons (pe_callB call_isE (by rfl) T.b_isinstance (by decide +kernel) (pa_cons (pc 0) (pa_cons (p_gc U.g_BadMenu) pa_nil))) (pa_cons (pe_callB call_isE (by rfl) T.b_isinstance (by decide +kernel) (pa_cons (pc 0) (pa_cons (p_gc U.g_BadText) pa_nil))) (pa_cons (pe_callB call_isE (by rfl) T.b_isinstance (by decide +kernel) (pa_cons (pc 0) (pa_cons (p_gc U.g_BadLine) pa_nil))) pa_nil))))))
    (pss_cons (ps_set (i := 1) sc__law_classes.nd rfl (Or.inl rfl) (pe_op op_cat (pc 1) (pe_lst (pa_cons (pe_callB call_isE (by rfl) T.b_isinstance (by decide +kernel) (pa_cons (pc 0) (pa_cons (p_gc U.g_NoAccount) pa_nil))) (pa_cons (pe_callB call_isE (by rfl) T.b_isinstance (by decide +kernel) (pa_cons (pc 0) (pa_cons (p_gc U.g_NoItem) pa_nil))) (pa_cons (pe_callB call_isE (by rfl) T.b_isinstance (by decide +kernel) (pa_cons (pc 0) (pa_cons (p_gc U.g_NoKind) pa_nil))) pa_nil))))))
    (pss_cons (ps_set (i := 1) sc__law_classes.nd rfl (Or.inl rfl) (pe_op op_cat (pc 1) (pe_lst (pa_cons (pe_callB call_isE (by rfl) T.b_isinstance (by decide +kernel) (pa_cons (pc 0) (pa_cons (p_gc U.g_NoCheck) pa_nil))) (pa_cons (pe_callB call_isE (by rfl) T.b_isinstance (by decide +kernel) (pa_cons (pc 0) (pa_cons (p_gc U.g_InUse) pa_nil))) (pa_cons (pe_callB call_isE (by rfl) T.b_isinstance (by decide +kernel) (pa_cons (pc 0) (pa_cons (p_gc U.g_Clash) pa_nil))) pa_nil))))))
    (pss_cons (ps_set (i := 1) sc__law_classes.nd rfl (Or.inl rfl) (pe_op op_cat (pc 1) (pe_lst (pa_cons (pe_callB call_isE (by rfl) T.b_isinstance (by decide +kernel) (pa_cons (pc 0) (pa_cons (p_gc U.g_Unlike) pa_nil))) (pa_cons (pe_callB call_isE (by rfl) T.b_isinstance (by decide +kernel) (pa_cons (pc 0) (pa_cons (p_gc U.g_Seen) pa_nil))) (pa_cons (pe_callB call_isE (by rfl) T.b_isinstance (by decide +kernel) (pa_cons (pc 0) (pa_cons (p_gc U.g_TooMany) pa_nil))) pa_nil))))))
    (pss_cons (ps_set (i := 1) sc__law_classes.nd rfl (Or.inl rfl) (pe_op op_cat (pc 1) (pe_lst (pa_cons (pe_callB call_isE (by rfl) T.b_isinstance (by decide +kernel) (pa_cons (pc 0) (pa_cons (p_gc U.g_NoDivisor) pa_nil))) (pa_cons (pe_callB call_isE (by rfl) T.b_isinstance (by decide +kernel) (pa_cons (pc 0) (pa_cons (p_gc U.g_NoDeed) pa_nil))) (pa_cons (pe_callB call_isE (by rfl) T.b_isinstance (by decide +kernel) (pa_cons (pc 0) (pa_cons (p_gc U.g_NoOffice) pa_nil))) pa_nil))))))
    (pss_one (ps_ret (pe_op op_cat (pc 1) (pe_lst (pa_cons (pe_callB call_isE (by rfl) T.b_isinstance (by decide +kernel) (pa_cons (pc 0) (pa_cons (p_gc U.g_NoBook) pa_nil))) (pa_cons (pe_callB call_isE (by rfl) T.b_isinstance (by decide +kernel) (pa_cons (pc 0) (pa_cons (p_gc U.g_Looked) pa_nil))) pa_nil)))))))))))))), ?_⟩
    have S0 := Same.refl H
    refine ⟨e, C i, fs, _, .ref (C 0), (i == 0), rfl, Er.mo S0 he, U.ex i hi, (fun u r => r), U.kt i 0 hi (by decide), e, C i, fs, _, .ref (C 1), (i == 1), rfl, Er.mo S0 he, U.ex i hi, (fun u r => r), U.kt i 1 hi (by decide), e, C i, fs, _, .ref (C 2), (i == 2), rfl, Er.mo S0 he, U.ex i hi, (fun u r => r), U.kt i 2 hi (by decide), by show 3 ≤ sizeLine; decide, fun l0 nl0 => ?_⟩
    have S1 := Same.new (o := .lst [.bl (i == 0), .bl (i == 1), .bl (i == 2)]) S0 nl0
    refine ⟨e, C i, fs, _, .ref (C 3), (i == 3), rfl, Er.mo S1 he, U.ex i hi, (fun u r => r), U.kt i 3 hi (by decide), e, C i, fs, _, .ref (C 4), (i == 4), rfl, Er.mo S1 he, U.ex i hi, (fun u r => r), U.kt i 4 hi (by decide), e, C i, fs, _, .ref (C 5), (i == 5), rfl, Er.mo S1 he, U.ex i hi, (fun u r => r), U.kt i 5 hi (by decide), by show 3 ≤ sizeLine; decide, fun m1 nm1 => ⟨l0, m1, _, _, rfl, rfl, kpN (u := .lst [.bl (i == 0), .bl (i == 1), .bl (i == 2)]) upd_same nm1, upd_same, by show 6 ≤ sizeLine; decide, fun l1 nl1 => ?_⟩⟩
    have S2 := Same.new (o := .lst [.bl (i == 0), .bl (i == 1), .bl (i == 2), .bl (i == 3), .bl (i == 4), .bl (i == 5)]) (Same.new (o := .lst [.bl (i == 3), .bl (i == 4), .bl (i == 5)]) S1 nm1) nl1
    refine ⟨e, C i, fs, _, .ref (C 6), (i == 6), rfl, Er.mo S2 he, U.ex i hi, (fun u r => r), U.kt i 6 hi (by decide), e, C i, fs, _, .ref (C 7), (i == 7), rfl, Er.mo S2 he, U.ex i hi, (fun u r => r), U.kt i 7 hi (by decide), e, C i, fs, _, .ref (C 8), (i == 8), rfl, Er.mo S2 he, U.ex i hi, (fun u r => r), U.kt i 8 hi (by decide), by show 3 ≤ sizeLine; decide, fun m2 nm2 => ⟨l1, m2, _, _, rfl, rfl, kpN (u := .lst [.bl (i == 0), .bl (i == 1), .bl (i == 2), .bl (i == 3), .bl (i == 4), .bl (i == 5)]) upd_same nm2, upd_same, by show 9 ≤ sizeLine; decide, fun l2 nl2 => ?_⟩⟩
    have S3 := Same.new (o := .lst [.bl (i == 0), .bl (i == 1), .bl (i == 2), .bl (i == 3), .bl (i == 4), .bl (i == 5), .bl (i == 6), .bl (i == 7), .bl (i == 8)]) (Same.new (o := .lst [.bl (i == 6), .bl (i == 7), .bl (i == 8)]) S2 nm2) nl2
    refine ⟨e, C i, fs, _, .ref (C 9), (i == 9), rfl, Er.mo S3 he, U.ex i hi, (fun u r => r), U.kt i 9 hi (by decide), e, C i, fs, _, .ref (C 10), (i == 10), rfl, Er.mo S3 he, U.ex i hi, (fun u r => r), U.kt i 10 hi (by decide), e, C i, fs, _, .ref (C 11), (i == 11), rfl, Er.mo S3 he, U.ex i hi, (fun u r => r), U.kt i 11 hi (by decide), by show 3 ≤ sizeLine; decide, fun m3 nm3 => ⟨l2, m3, _, _, rfl, rfl, kpN (u := .lst [.bl (i == 0), .bl (i == 1), .bl (i == 2), .bl (i == 3), .bl (i == 4), .bl (i == 5), .bl (i == 6), .bl (i == 7), .bl (i == 8)]) upd_same nm3, upd_same, by show 12 ≤ sizeLine; decide, fun l3 nl3 => ?_⟩⟩
    have S4 := Same.new (o := .lst [.bl (i == 0), .bl (i == 1), .bl (i == 2), .bl (i == 3), .bl (i == 4), .bl (i == 5), .bl (i == 6), .bl (i == 7), .bl (i == 8), .bl (i == 9), .bl (i == 10), .bl (i == 11)]) (Same.new (o := .lst [.bl (i == 9), .bl (i == 10), .bl (i == 11)]) S3 nm3) nl3
    refine ⟨e, C i, fs, _, .ref (C 12), (i == 12), rfl, Er.mo S4 he, U.ex i hi, (fun u r => r), U.kt i 12 hi (by decide), e, C i, fs, _, .ref (C 13), (i == 13), rfl, Er.mo S4 he, U.ex i hi, (fun u r => r), U.kt i 13 hi (by decide), e, C i, fs, _, .ref (C 14), (i == 14), rfl, Er.mo S4 he, U.ex i hi, (fun u r => r), U.kt i 14 hi (by decide), by show 3 ≤ sizeLine; decide, fun m4 nm4 => ⟨l3, m4, _, _, rfl, rfl, kpN (u := .lst [.bl (i == 0), .bl (i == 1), .bl (i == 2), .bl (i == 3), .bl (i == 4), .bl (i == 5), .bl (i == 6), .bl (i == 7), .bl (i == 8), .bl (i == 9), .bl (i == 10), .bl (i == 11)]) upd_same nm4, upd_same, by show 15 ≤ sizeLine; decide, fun l4 nl4 => ?_⟩⟩
    have S5 := Same.new (o := .lst [.bl (i == 0), .bl (i == 1), .bl (i == 2), .bl (i == 3), .bl (i == 4), .bl (i == 5), .bl (i == 6), .bl (i == 7), .bl (i == 8), .bl (i == 9), .bl (i == 10), .bl (i == 11), .bl (i == 12), .bl (i == 13), .bl (i == 14)]) (Same.new (o := .lst [.bl (i == 12), .bl (i == 13), .bl (i == 14)]) S4 nm4) nl4
    refine ⟨e, C i, fs, _, .ref (C 15), (i == 15), rfl, Er.mo S5 he, U.ex i hi, (fun u r => r), U.kt i 15 hi (by decide), e, C i, fs, _, .ref (C 16), (i == 16), rfl, Er.mo S5 he, U.ex i hi, (fun u r => r), U.kt i 16 hi (by decide), e, C i, fs, _, .ref (C 17), (i == 17), rfl, Er.mo S5 he, U.ex i hi, (fun u r => r), U.kt i 17 hi (by decide), by show 3 ≤ sizeLine; decide, fun m5 nm5 => ⟨l4, m5, _, _, rfl, rfl, kpN (u := .lst [.bl (i == 0), .bl (i == 1), .bl (i == 2), .bl (i == 3), .bl (i == 4), .bl (i == 5), .bl (i == 6), .bl (i == 7), .bl (i == 8), .bl (i == 9), .bl (i == 10), .bl (i == 11), .bl (i == 12), .bl (i == 13), .bl (i == 14)]) upd_same nm5, upd_same, by show 18 ≤ sizeLine; decide, fun l5 nl5 => ?_⟩⟩
    have S6 := Same.new (o := .lst [.bl (i == 0), .bl (i == 1), .bl (i == 2), .bl (i == 3), .bl (i == 4), .bl (i == 5), .bl (i == 6), .bl (i == 7), .bl (i == 8), .bl (i == 9), .bl (i == 10), .bl (i == 11), .bl (i == 12), .bl (i == 13), .bl (i == 14), .bl (i == 15), .bl (i == 16), .bl (i == 17)]) (Same.new (o := .lst [.bl (i == 15), .bl (i == 16), .bl (i == 17)]) S5 nm5) nl5
    refine ⟨e, C i, fs, _, .ref (C 18), (i == 18), rfl, Er.mo S6 he, U.ex i hi, (fun u r => r), U.kt i 18 hi (by decide), e, C i, fs, _, .ref (C 19), (i == 19), rfl, Er.mo S6 he, U.ex i hi, (fun u r => r), U.kt i 19 hi (by decide), e, C i, fs, _, .ref (C 20), (i == 20), rfl, Er.mo S6 he, U.ex i hi, (fun u r => r), U.kt i 20 hi (by decide), by show 3 ≤ sizeLine; decide, fun m6 nm6 => ⟨l5, m6, _, _, rfl, rfl, kpN (u := .lst [.bl (i == 0), .bl (i == 1), .bl (i == 2), .bl (i == 3), .bl (i == 4), .bl (i == 5), .bl (i == 6), .bl (i == 7), .bl (i == 8), .bl (i == 9), .bl (i == 10), .bl (i == 11), .bl (i == 12), .bl (i == 13), .bl (i == 14), .bl (i == 15), .bl (i == 16), .bl (i == 17)]) upd_same nm6, upd_same, by show 21 ≤ sizeLine; decide, fun l6 nl6 => ?_⟩⟩
    have S7 := Same.new (o := .lst [.bl (i == 0), .bl (i == 1), .bl (i == 2), .bl (i == 3), .bl (i == 4), .bl (i == 5), .bl (i == 6), .bl (i == 7), .bl (i == 8), .bl (i == 9), .bl (i == 10), .bl (i == 11), .bl (i == 12), .bl (i == 13), .bl (i == 14), .bl (i == 15), .bl (i == 16), .bl (i == 17), .bl (i == 18), .bl (i == 19), .bl (i == 20)]) (Same.new (o := .lst [.bl (i == 18), .bl (i == 19), .bl (i == 20)]) S6 nm6) nl6
    refine ⟨e, C i, fs, _, .ref (C 21), (i == 21), rfl, Er.mo S7 he, U.ex i hi, (fun u r => r), U.kt i 21 hi (by decide), e, C i, fs, _, .ref (C 22), (i == 22), rfl, Er.mo S7 he, U.ex i hi, (fun u r => r), U.kt i 22 hi (by decide), e, C i, fs, _, .ref (C 23), (i == 23), rfl, Er.mo S7 he, U.ex i hi, (fun u r => r), U.kt i 23 hi (by decide), by show 3 ≤ sizeLine; decide, fun m7 nm7 => ⟨l6, m7, _, _, rfl, rfl, kpN (u := .lst [.bl (i == 0), .bl (i == 1), .bl (i == 2), .bl (i == 3), .bl (i == 4), .bl (i == 5), .bl (i == 6), .bl (i == 7), .bl (i == 8), .bl (i == 9), .bl (i == 10), .bl (i == 11), .bl (i == 12), .bl (i == 13), .bl (i == 14), .bl (i == 15), .bl (i == 16), .bl (i == 17), .bl (i == 18), .bl (i == 19), .bl (i == 20)]) upd_same nm7, upd_same, by show 24 ≤ sizeLine; decide, fun l7 nl7 => ?_⟩⟩
    have S8 := Same.new (o := .lst [.bl (i == 0), .bl (i == 1), .bl (i == 2), .bl (i == 3), .bl (i == 4), .bl (i == 5), .bl (i == 6), .bl (i == 7), .bl (i == 8), .bl (i == 9), .bl (i == 10), .bl (i == 11), .bl (i == 12), .bl (i == 13), .bl (i == 14), .bl (i == 15), .bl (i == 16), .bl (i == 17), .bl (i == 18), .bl (i == 19), .bl (i == 20), .bl (i == 21), .bl (i == 22), .bl (i == 23)]) (Same.new (o := .lst [.bl (i == 21), .bl (i == 22), .bl (i == 23)]) S7 nm7) nl7
    refine ⟨e, C i, fs, _, .ref (C 24), (i == 24), rfl, Er.mo S8 he, U.ex i hi, (fun u r => r), U.kt i 24 hi (by decide), e, C i, fs, _, .ref (C 25), (i == 25), rfl, Er.mo S8 he, U.ex i hi, (fun u r => r), U.kt i 25 hi (by decide), by show 2 ≤ sizeLine; decide, fun m8 nm8 => ⟨l7, m8, _, _, rfl, rfl, kpN (u := .lst [.bl (i == 0), .bl (i == 1), .bl (i == 2), .bl (i == 3), .bl (i == 4), .bl (i == 5), .bl (i == 6), .bl (i == 7), .bl (i == 8), .bl (i == 9), .bl (i == 10), .bl (i == 11), .bl (i == 12), .bl (i == 13), .bl (i == 14), .bl (i == 15), .bl (i == 16), .bl (i == 17), .bl (i == 18), .bl (i == 19), .bl (i == 20), .bl (i == 21), .bl (i == 22), .bl (i == 23)]) upd_same nm8, upd_same, by show 26 ≤ sizeLine; decide, fun l8 nl8 => ?_⟩⟩
    have S9 := Same.new (o := .lst [.bl (i == 0), .bl (i == 1), .bl (i == 2), .bl (i == 3), .bl (i == 4), .bl (i == 5), .bl (i == 6), .bl (i == 7), .bl (i == 8), .bl (i == 9), .bl (i == 10), .bl (i == 11), .bl (i == 12), .bl (i == 13), .bl (i == 14), .bl (i == 15), .bl (i == 16), .bl (i == 17), .bl (i == 18), .bl (i == 19), .bl (i == 20), .bl (i == 21), .bl (i == 22), .bl (i == 23), .bl (i == 24), .bl (i == 25)]) (Same.new (o := .lst [.bl (i == 24), .bl (i == 25)]) S8 nm8) nl8
    exact k l8 _ ((Same.new (o := .lst [.bl (i == 24), .bl (i == 25)]) S8 nm8).free nl8) S9 upd_same

def spBases : Sp := fun vs H Q _ => ∃ (i : Nat), vs = [.int i] ∧ ∀ (q : Addr) (G : Hp), H q = none → Same H G → G q = some (.lst [.bl (decide (i < 12)), .bl (decide (12 ≤ i) && decide (i < 21)), .bl (decide (21 ≤ i) && decide (i < 25))]) → Q (.ref q) G
theorem ok_bases {f : Addr} {fd : FuncData} (F : Fun K "_law_bases" "_law_bases" s__law_bases f fd) (T : Txt K mg) : FnOk P w K mg base CX0 1 f fd ["_law_spot"] spBases := by
  refine F.ok sc__law_bases (fun vs H Q E h => ?_) (fun cdv A outer s H vs Q E hr h => ?_)
  · obtain ⟨i, rfl, _⟩ := h
    rfl
  · obtain ⟨i, rfl, k⟩ := h
    refine ⟨_, (pss_one (ps_ret (pe_lst (pa_cons (p_cmp o_lt (pc 0) pe_int) (pa_cons (e_chain o_le o_lt pe_int (pc 0) pe_int) (pa_cons (e_chain o_le o_lt pe_int (pc 0) pe_int) pa_nil)))))), ?_⟩
    have d1 : decide ((i : Int) < 12) = decide (i < 12) := decide_eq_decide.mpr (by omega)
    have fin : ∀ b2 b3 : Bool, b2 = (decide (12 ≤ i) && decide (i < 21)) → b3 = (decide (21 ≤ i) && decide (i < 25)) → [V.bl (decide ((i : Int) < 12)), .bl b2, .bl b3].length ≤ sizeLine ∧
        ∀ p, H p = none → Q (.ref p) (L2.upd H p (.lst [.bl (decide ((i : Int) < 12)), .bl b2, .bl b3])) := fun b2 b3 e2 e3 => ⟨by show 3 ≤ sizeLine; decide, fun q nq => k q _ nq (Same.new (Same.refl _) nq) (by rw [upd_same, d1, e2, e3])⟩
    refine ⟨fun c1 => ⟨fun c2 => ?_, fun c2 => ?_⟩, fun c1 => ⟨fun c2 => ?_, fun c2 => ?_⟩⟩
    all_goals simp only [decide_eq_true_eq, decide_eq_false_iff_not] at c1 c2
    all_goals refine fin _ _ ?_ ?_
    all_goals (rw [Bool.eq_iff_iff]; simp; omega)

end
end LW
set_option Elab.async false
set_option linter.all false
set_option maxRecDepth 100000
set_option maxHeartbeats 4000000
namespace LW
open PySem PySem.Spec PyProof.Rows L2 HX
section
variable {P : Program} {w : World} {K : PySem.W.Frag} {mg : Str → Option Value} {base : Heap}

theorem dp_bls {K : PySem.W.Frag} {H : Hp} : ∀ bs : List Bool, DpAll K H (bs.map V.bl) (bs.map PyData.bool)
  | [] => .nil
  | b :: bs => .cons (.bl b) (dp_bls bs)
theorem can_bls : ∀ bs : List Bool, PyData.canLayAll0 (bs.map PyData.bool) = true
  | [] => rfl
  | b :: bs => by
    rw [List.map_cons, PyData.canLayAll0, PyData.canLay0, can_bls bs]
    rfl
theorem depth_bls : ∀ bs : List Bool, PyData.depthAll (bs.map PyData.bool) = 0
  | [] => by simp [PyData.depthAll]
  | b :: bs => by
    have := depth_bls bs
    simp [PyData.depthAll, PyData.depth, this]
theorem shaped_bls (bs : List Bool) : SeqAt.shaped (.list (bs.map PyData.bool)) = true := by
  unfold SeqAt.shaped
  rw [PyData.canLay0, can_bls, PyData.depth, depth_bls]
  rfl
theorem eqv_bls (bs : List Bool) : PyData.eqv (.list (bs.map PyData.bool)) (.list (bs.map PyData.bool)) = true := PySem.SeqAt.eqv_refl _ (by rw [PyData.canLay0, can_bls])
/-- != of equal lists of bools -/
theorem ne_bls {K : PySem.W.Frag} {H : Hp} {a b : Addr} (bs : List Bool) {Q : VK} (ha : H a = some (.lst (bs.map V.bl))) (hb : H b = some (.lst (bs.map V.bl))) (h : Q (.bl false) H) : rEq2 K true (.ref a) (.ref b) H Q := by
  unfold rEq2
  exact ⟨_, _, .lst (SqL.of ha) (dp_bls bs), .lst (SqL.of hb) (dp_bls bs), shaped_bls bs, shaped_bls bs, by rw [eqv_bls]; exact h⟩
theorem words_kd : ∀ j, j < 26 → (Txt.words (kd j)).length = (fsT j).length := by decide +kernel
theorem len_fs : ∀ j, j < 26 → (fsT j).length ≤ 2 := by decide +kernel
theorem len_kd : ∀ j, j < 26 → (kd j).length ≤ 20 := by decide +kernel
theorem cut_xy (x y : V) : ∀ n : Nat, n ≤ 2 → cutV [x, y] none (some (n : Int)) = [x, y].take n
  | 0, _ => rfl
  | 1, _ => rfl
  | 2, _ => rfl
theorem das_xy {H : Hp} {x y : V} {d e : PyData} (h : Da H x d) (k : Da H y e) : ∀ n : Nat, n ≤ 2 → Das H ([x, y].take n) ([d, e].take n)
  | 0, _ => .nil
  | 1, _ => .cons h .nil
  | 2, _ => .cons h (.cons k .nil)
theorem okD_xy {d e : PyData} (h : OkT d) (k : OkT e) : ∀ n : Nat, n ≤ 2 → OkD (.list ([d, e].take n))
  | 0, _ => okD_nil
  | 1, _ => h.l1
  | 2, _ => h.l2 k

def spLaw (K : PySem.W.Frag) : Sp := fun vs H Q _ => ∃ (a : Addr) (ns : List Int), vs = [.ref a] ∧ SqL K H a (ns.map V.int) ∧ ∀ H', Q (.bl true) H'
theorem ok_law {C : Nat → Addr} {S BI RF NA f : Addr} {fd : FuncData} {B : FuncData → Prop} (F : Fun K "law" "law" s_law f fd) (T : Txt K mg) (U : TxE P w K mg base C S BI RF NA) (cPn : CalO P w K mg base "_law_pen" 1 ["_law_script"] (spPen K) B)
    (cT : CalO P w K mg base "_law_thing" 3 ["_law_pen_here"] spThing B) (cI : CalO P w K mg base "_law_inputs" 3 ["_law_one", "_law_two"] (spIn C) B) (cO : CalO P w K mg base "_law_others" 3 ["_law_one", "_law_two"] (spOt C) B)
    (cK : CalO P w K mg base "_law_kept" 1 ["_law_kind", "_law_error"] (spKept C) B) (cC : CalO P w K mg base "_law_classes" 1 ["_law_error"] (spClasses C) B) (cB : CalO P w K mg base "_law_bases" 1 ["_law_spot"] spBases B) :
    FnG P w K mg base CX0 4 f fd ["_law_script"] (spLaw K) := by
  refine fun_okG F sc_law (fun vs H Q E h => ?_) (fun cdv A outer s H vs Q E gd hr h => ?_)
  · obtain ⟨a, ns, rfl, _⟩ := h
    rfl
  · obtain ⟨a, ns, rfl, hs, k⟩ := h
    refine ⟨_, (pss_cons (ps_set (i := 1) sc_law.nd rfl (Or.inl rfl) (pe_cO cPn (hr.mono (by decide)) (pa_cons (pc 0) pa_nil)))
    (pss_cons (ps_for PassesOwn.never rfl (pi_range1 (by rfl) T.b_range (pa_cons pe_int pa_nil)) (pg_name (i := 2) sc_law.nd rfl (Or.inl rfl)) (pss_cons (ps_par (i := 3) (j := 4) (by rfl) sc_law.nd rfl rfl (by decide) rfl rfl (pa_cons (pe_cO cT (hr.mono (by decide)) (pa_cons (pc 1) pa_nil)) (pa_cons (pe_cO cT (hr.mono (by decide)) (pa_cons (pc 1) pa_nil)) pa_nil)) (by rfl))
    (pss_one (ps_for PassesOwn.never rfl (pi_enum (by rfl) T.b_enumerate (pa_cons (pe_op op_cat (pe_cO cI (hr.mono (by decide)) (pa_cons (pc 3) (pa_cons (pc 4) pa_nil))) (pe_cO cO (hr.mono (by decide)) (pa_cons (pc 3) (pa_cons (pc 4) pa_nil)))) pa_nil)) (pg_tup rfl (pgs_cons (pg_name (i := 5) sc_law.nd rfl (Or.inr rfl)) (pgs_cons (pg_name (i := 6) sc_law.nd rfl (Or.inl rfl)) pgs_nil))) (pss_one (ps_for PassesOwn.never rfl (pi_tup (pe_slice sl_tup (pc 6) (po_some pe_int) po_none)) (pg_name (i := 7) sc_law.nd rfl (Or.inl rfl)) (pss_cons (s_if (t_cmp (o_ne hr.units) (pe_callB (call_reprD gd hr.units) (by rfl) T.b_repr (by decide +kernel) (pa_cons (pe_cO cK (hr.mono (by decide)) (pa_cons (p_ix (pc 6) pe_int) (pa_cons (pc 7) pa_nil))) pa_nil)) (pe_callB (call_reprD gd hr.units) (by rfl) T.b_repr (by decide +kernel) (pa_cons (pe_slice sl_listS (pe_lstS (pa_cons (pc 3) (pa_cons (pc 4) pa_nil))) po_none (po_some (pe_callB c_len (by rfl) T.b_len (by decide +kernel) (pa_cons (pe_words (p_ix (pc 6) pe_int)) pa_nil)))) pa_nil))) (pss_one (ps_ret pe_bl)) pss_nil)
    (pss_cons (s_if (PW.pt (w_or (pt_not (t_val (pe_callB call_isE (by rfl) T.b_isinstance (by decide +kernel) (pa_cons (pc 7) (pa_cons (p_gc U.g_ShiftError) pa_nil))))) (pw_or1 (pt_not (t_val (pe_callB call_isE (by rfl) T.b_isinstance (by decide +kernel) (pa_cons (pc 7) (pa_cons (pe_bltn (v := .ty "ValueError") (u := .type "ValueError") (by rfl) T.b_ValueError (by decide +kernel) rfl) pa_nil)))))))) (pss_one (ps_ret pe_bl)) pss_nil)
    (pss_cons (s_if (PW.pt (w_or (t_val (pe_callB call_isE (by rfl) T.b_isinstance (by decide +kernel) (pa_cons (pc 7) (pa_cons (pe_bltn (v := .ty "KeyError") (u := .type "KeyError") (by rfl) T.b_KeyError (by decide +kernel) rfl) pa_nil)))) (pw_or1 (t_val (pe_callB call_isE (by rfl) T.b_isinstance (by decide +kernel) (pa_cons (pc 7) (pa_cons (pe_bltn (v := .ty "ArithmeticError") (u := .type "ArithmeticError") (by rfl) T.b_ArithmeticError (by decide +kernel) rfl) pa_nil))))))) (pss_one (ps_ret pe_bl)) pss_nil)
    (pss_cons (s_if (PW.pt (w_or (t_val (pe_callB call_isE (by rfl) T.b_isinstance (by decide +kernel) (pa_cons (pc 7) (pa_cons (pe_bltn (v := .ty "IndexError") (u := .type "IndexError") (by rfl) T.b_IndexError (by decide +kernel) rfl) pa_nil)))) (pw_or1 (t_val (pe_callB call_isE (by rfl) T.b_isinstance (by decide +kernel) (pa_cons (pc 7) (pa_cons (pe_bltn (v := .ty "TypeError") (u := .type "TypeError") (by rfl) T.b_TypeError (by decide +kernel) rfl) pa_nil))))))) (pss_one (ps_ret pe_bl)) pss_nil)
    (pss_cons (ps_set (i := 8) sc_law.nd rfl (Or.inl rfl) (pe_lstS (pa_cons (pe_callB call_isE (by rfl) T.b_isinstance (by decide +kernel) (pa_cons (pc 7) (pa_cons (p_gc U.g_BadInput) pa_nil))) (pa_cons (pe_callB call_isE (by rfl) T.b_isinstance (by decide +kernel) (pa_cons (pc 7) (pa_cons (p_gc U.g_Refused) pa_nil))) (pa_cons (pe_callB call_isE (by rfl) T.b_isinstance (by decide +kernel) (pa_cons (pc 7) (pa_cons (p_gc U.g_NoAnswer) pa_nil))) pa_nil)))))
    (pss_one (s_if (PW.pt (w_or (t_cmp (o_ne hr.units) (pc 8) (pe_cO cB (hr.mono (by decide)) (pa_cons (pc 5) pa_nil))) (pw_or1 (t_cmp (o_ne hr.units) (pe_cO cC (hr.mono (by decide)) (pa_cons (pc 7) pa_nil)) (pe_lc (own := [("_law_other", 9)]) (g := gName 9) (tt := tYes) rfl sc_law.nd (pi_range1 (by rfl) T.b_range (pa_cons pe_int pa_nil)) (blkOk_by (own := [("_law_other", 9)]) (N := n_law) (sc := defScope s_law) (by decide +kernel)) (fun _ _ _ _ _ => pg_name (i := 9) sc_law.nd rfl (Or.inl rfl)) (fun _ _ _ _ _ => pts_nil) (fun _ _ _ _ _ => (p_cmp op_eq (pc 9) (pc 5)))))))) (pss_one (ps_ret pe_bl)) pss_nil)))))))))))))
    (pss_one (ps_ret pe_bl)))), ?_⟩
    refine ⟨a, ns, rfl, hs, fun p l H1 np s1 P1 => ⟨_, rfl, by decide, by decide, for_range (lo := 0) (n := 4) (fun i σ G => ∃ t o1 o2 o3 o4 o5 o6 o7 : Option V, σ = [some (.ref a), some (.ref p), t, o1, o2, o3, o4, o5, o6, o7] ∧ Pe G p l (4 * i)) ⟨none, none, none, none, none, none, none, none, rfl, P1.mono (by simp)⟩ ?_ ?_⟩⟩
    · rintro i σ G hi ⟨t, o1, o2, o3, o4, o5, o6, o7, rfl, Pp⟩
      refine ⟨p, l, _, rfl, Pp, by omega, fun x dx G1 k1 P1 hx okx => ⟨p, l, _, rfl, P1, by omega, fun y dy G2 k2 P2 hy oky => ?_⟩⟩
      have hx2 : Da G2 x dx := (hx.mo k2.hd).mo Hd.sub
      have hy2 : Da G2 y dy := hy.mo Hd.sub
      refine ⟨x, y, rfl, x, y, rfl, fun q1 r1 G3 nq1 s3 hl1 len1 R1 => ⟨x, y, rfl, fun q2 r2 G4 nq2 s4 hl2 len2 R2 => ⟨q1, q2, _, _, rfl, rfl, s4 _ _ hl1, hl2, by rw [len1, len2]; decide, fun q3 nq3 => ⟨q3, r1 ++ r2, rfl, SqL.of upd_same, ?_⟩⟩⟩⟩
      have E5 : Same G4 (L2.upd G4 q3 (.lst (r1 ++ r2))) := Same.new (Same.refl _) nq3
      have RR : RowsOk C (L2.upd G4 q3 (.lst (r1 ++ r2))) x y 0 (r1 ++ r2) := RowsOk.mo E5 (RowsOk.app (RowsOk.mo s4 R1) (by rw [len1]; exact R2))
      have hx5 := hx2.mo ((s3.trans s4).trans E5)
      have hy5 := hy2.mo ((s3.trans s4).trans E5)
      have P5 := P2.same ((s3.trans s4).trans E5)
      have len5 : (r1 ++ r2).length = 26 := by rw [List.length_append, len1, len2]
      have hq5 : L2.upd G4 q3 (.lst (r1 ++ r2)) q3 = some (.lst (r1 ++ r2)) := upd_same
      generalize L2.upd G4 q3 (.lst (r1 ++ r2)) = G5 at RR hx5 hy5 P5 hq5 ⊢
      refine for_it (walk_enum (xs := r1 ++ r2)) (fun j σ G => ∃ w5 w6 w7 w8 w9 : Option V, σ = [some (.ref a), some (.ref p), some (.int (0 + i)), some x, some y, w5, w6, w7, w8, w9] ∧ Same G5 G)
        ⟨o3, o4, o5, o6, o7, rfl, Same.refl _⟩ (fun j σ G _ ⟨_, _, _, _, _, _, s⟩ => SqL.of (s _ _ hq5)) ?_ ?_
      · rintro j v σ G6 G7 hj ⟨w5, w6, w7, w8, w9, rfl, s6⟩ ⟨T1, xx, r, rfl, nT1, rfl, e1, e2⟩
        cases e1
        rw [len5] at hj
        obtain ⟨t, c1, c2, rfl, ht, ra, rb⟩ := RR.at_ e2
        rw [Nat.zero_add] at ht ra rb
        have s7 : Same G5 (L2.upd G6 T1 (.tup [.int (j : Nat), .ref t])) := Same.new s6 nT1
        refine ⟨T1, _, rfl, SqT.of upd_same, rfl, _, _, rfl, _, _, rfl, rfl, ?_⟩
        refine ⟨1, rfl, t, _, rfl, SqT.of (s7 _ _ ht), by show ¬(HT.sIx 3 0 (some 1) = 0 ∧ HT.sIx 3 3 none = 3); decide, fun p5 n5 => ⟨p5, rfl, ⟨_, SqT.of upd_same⟩, ?_⟩⟩
        have s8 : Same G5 (L2.upd (L2.upd G6 T1 (.tup [.int (j : Nat), .ref t])) p5 (.tup [.ref c1, .ref c2])) := Same.new s7 n5
        have hp8 : L2.upd (L2.upd G6 T1 (.tup [.int (j : Nat), .ref t])) p5 (.tup [.ref c1, .ref c2]) p5 = some (.tup [.ref c1, .ref c2]) := upd_same
        obtain ⟨G8, eG8⟩ : ∃ G8, G8 = L2.upd (L2.upd G6 T1 (.tup [.int (j : Nat), .ref t])) p5 (.tup [.ref c1, .ref c2]) := ⟨_, rfl⟩
        rw [← eG8] at s8 hp8
        replace ht := s8 _ _ ht
        replace ra := ra.mo s8
        replace rb := rb.mo s8
        have hx8 := hx5.mo s8
        have hy8 := hy5.mo s8
        refine for_it (walk_tup (xs := [.ref c1, .ref c2])) (fun m σ G => ∃ w7 w8 w9 : Option V, σ = [some (.ref a), some (.ref p), some (.int (0 + i)), some x, some y, some (.int (j : Nat)), some (.ref t), w7, w8, w9] ∧ Same G8 G)
          ⟨w7, w8, w9, rfl, by rw [eG8]; exact Same.refl _⟩ (fun m σ G _ ⟨_, _, _, _, h⟩ => SqT.of (h _ _ hp8)) ?_ ?_
        · rintro m v σ G9 _ hm ⟨w7, w8, w9, rfl, s9⟩ ⟨rfl, em⟩
          obtain ⟨e, rfl, er5⟩ : ∃ e, v = .ref e ∧ Er G8 e (C j) (fl j x y) := by
            match m, em with
            | 0, em => exact ⟨c1, (Option.some.inj em).symm, ra⟩
            | 1, em => exact ⟨c2, (Option.some.inj em).symm, rb⟩
          have hn := len_fs j hj
          have er := er5.mo s9
          -- repr of the fields
          refine ⟨_, _, .inr (SqT.of (s9 _ _ ht)), rfl, e, j, x, y, rfl, hj, er, fun q G10 nq mq s10 hq => ?_⟩
          refine ⟨q, .list ([dx, dy].take (fsT j).length), rfl, .lst hq mq (das_xy (hx8.mo (s9.trans s10)) (hy8.mo (s9.trans s10)) _ hn), okD_xy okx oky _ hn, ?_⟩
          have hcut : cutV [x, y] none (some (((Txt.words (kd j)).map V.str).length : Int)) = [x, y].take (fsT j).length := by
            rw [List.length_map, words_kd j hj]
            exact cut_xy x y _ hn
          have s10' := s9.trans s10
          refine ⟨by show 2 ≤ sizeLine; decide, fun q4 n4 m4 => ⟨_, _, .inr (SqT.of (Same.new s10' n4 _ _ ht)), rfl, ⟨_, rfl⟩, _, rfl, rfl, by have := len_kd j hj; rw [sizeLine_eq]; omega, fun q5 n5 => ⟨_, .inl (SqL.of upd_same), _, rfl, q4, [x, y], rfl, SqL.of (kpN (o := .lst ((Txt.words (kd j)).map V.str)) upd_same n5), fun q6 n6 m6 => ?_⟩⟩⟩
          have s11 : Same G8 (L2.upd (L2.upd (L2.upd G10 q4 (.lst [x, y])) q5 (.lst ((Txt.words (kd j)).map V.str))) q6 (.lst (cutV [x, y] none (some (((Txt.words (kd j)).map V.str).length : Int))))) := Same.new (Same.new (Same.new s10' n4) n5) n6
          refine ⟨q6, .list ([dx, dy].take (fsT j).length), rfl, .lst (by rw [upd_same, hcut]) m6 (das_xy (hx8.mo s11) (hy8.mo s11) _ hn), okD_xy okx oky _ hn, ⟨fun h => absurd h (by simp), fun _ => ?_⟩⟩
          have er2 := er5.mo s11
          generalize L2.upd (L2.upd (L2.upd G10 q4 (.lst [x, y])) q5 (.lst ((Txt.words (kd j)).map V.str))) q6 (.lst (cutV [x, y] none (some (((Txt.words (kd j)).map V.str).length : Int)))) = G11 at s11 er2 ⊢
          -- below what it stands, below what not
          refine ⟨e, C j, _, .ref S, .ref S, true, rfl, er2, U.ex j hj, (fun u r => r), U.kS j hj, ⟨fun h => absurd h (by decide), fun _ => ⟨e, C j, _, .ty "ValueError", .type "ValueError", true, rfl, er2, U.ex j hj, (fun u r => r), U.kVE j hj, ⟨fun h => absurd h (by decide), fun _ => ?_⟩⟩⟩⟩
          refine ⟨e, C j, _, .ty "KeyError", .type "KeyError", false, rfl, er2, U.ex j hj, (fun u r => r), U.kKeyError j hj, ⟨fun h => absurd h (by decide), fun _ => ⟨e, C j, _, .ty "ArithmeticError", .type "ArithmeticError", false, rfl, er2, U.ex j hj, (fun u r => r), U.kArithmeticError j hj, ⟨fun h => absurd h (by decide), fun _ => ?_⟩⟩⟩⟩
          refine ⟨e, C j, _, .ty "IndexError", .type "IndexError", false, rfl, er2, U.ex j hj, (fun u r => r), U.kIndexError j hj, ⟨fun h => absurd h (by decide), fun _ => ⟨e, C j, _, .ty "TypeError", .type "TypeError", false, rfl, er2, U.ex j hj, (fun u r => r), U.kTypeError j hj, ⟨fun h => absurd h (by decide), fun _ => ?_⟩⟩⟩⟩
          -- the bases
          refine ⟨e, C j, _, .ref BI, .ref BI, _, rfl, er2, U.ex j hj, (fun u r => r), U.kBI j hj, e, C j, _, .ref RF, .ref RF, _, rfl, er2, U.ex j hj, (fun u r => r), U.kRF j hj, e, C j, _, .ref NA, .ref NA, _, rfl, er2, U.ex j hj, (fun u r => r), U.kNA j hj, by show 3 ≤ sizeLine; decide, fun qb nb mb => ?_⟩
          have s12 : Same G8 (L2.upd G11 qb (.lst [.bl (decide (j < 12)), .bl (decide (12 ≤ j) && decide (j < 21)), .bl (decide (21 ≤ j) && decide (j < 25))])) := Same.new s11 nb
          refine ⟨j, rfl, fun q7 G12 n7 s13 h7 => ?_⟩
          refine ne_bls [decide (j < 12), decide (12 ≤ j) && decide (j < 21), decide (21 ≤ j) && decide (j < 25)] (s13 _ _ upd_same) h7 ?_
          refine ⟨fun h => absurd h (by decide), fun _ => ?_⟩
          refine ⟨e, j, _, rfl, hj, er5.mo (s12.trans s13), fun q8 G13 n8 s14 h8 => ?_⟩
          have s15 := (s12.trans s13).trans s14
          refine ⟨26, rfl, by decide, by decide, fun D nD => lc_range (lo := 0) (n := 26) (fun m G => G D = some (.lst ((List.range m).map fun z => V.bl (j == z))) ∧ Same G13 G) ⟨upd_same, Same.new (Same.refl _) nD⟩
            (fun m G hm ⟨eg, sg⟩ => ⟨rfl, rfl, _, eg, by rw [List.length_map, List.length_range, sizeLine_eq]; omega, ?_, Same.upN sg nD⟩) (fun G ⟨eg, sg⟩ => ?_)⟩
          · rw [upd_same, List.range_succ, List.map_append]
            have ed : decide (V.int (0 + (m : Nat)) = V.int (j : Nat)) = (j == m) := by
              rw [Bool.eq_iff_iff]
              simp only [decide_eq_true_eq, beq_iff_eq, V.int.injEq]
              omega
            rw [ed]
            rfl
          · refine ne_bls ((List.range 26).map fun z => j == z) (by rw [List.map_map]; exact sg _ _ h8) (by rw [List.map_map]; exact eg) ?_
            refine ⟨fun h => absurd h (by decide), fun _ => ?_⟩
            exact ⟨_, _, _, rfl, s15.trans sg⟩
        · rintro σ G9 ⟨w7, w8, w9, rfl, s9⟩
          exact ⟨_, _, _, _, _, rfl, s8.trans s9⟩
      · rintro σ G6 ⟨w5, w6, w7, w8, w9, rfl, s6⟩
        exact ⟨_, _, _, _, _, _, _, _, rfl, (P5.same s6).mono (by omega)⟩
    · rintro σ G ⟨t, o1, o2, o3, o4, o5, o6, o7, rfl, Pp⟩
      exact k _

end
end LW
set_option Elab.async false
set_option linter.all false
set_option maxRecDepth 100000
set_option maxHeartbeats 40000000
namespace LW
open PySem PySem.Spec PyProof.Rows L2 HX
/-- what holds of each error's class -/
def tabX (K : PySem.W.Frag) (Cs : List Addr) : Bool := (List.range 26).all fun i => PySem.W.findIn K (.ref (Cs.getD i 0)) "__getattribute__" == some (some (.builtin "BaseException.__getattribute__")) && (PySem.W.findIn K (.ref (Cs.getD i 0)) "__getattr__" == some none &&
  (PySem.W.subIn K (.ref (Cs.getD i 0)) (.type "BaseException") == some true && (PySem.W.hasDictIn K (Cs.getD i 0) && (PySem.W.findIn K (.ref (Cs.getD i 0)) "__class__" == some (some (.builtin "object.__class__")) && (PySem.W.mroIn K (Cs.getD i 0) (.type "object") == some true &&
  (PySem.W.findIn K (.ref (Cs.getD i 0)) "__setattr__" == some (some (.builtin "object.__setattr__")) && (PySem.W.typeIn K (.ref (Cs.getD i 0)) == some (.type "type") && (PySem.W.keepIn K (.ref (Cs.getD i 0)) && (fsT i).all fun f => PySem.W.findIn K (.ref (Cs.getD i 0)) f == some none))))))))
theorem tabX_at {K : PySem.W.Frag} {Cs : List Addr} (h : tabX K Cs = true) (i : Nat) (hi : i < 26) : PySem.W.findIn K (.ref (Cs.getD i 0)) "__getattribute__" = some (some (.builtin "BaseException.__getattribute__")) ∧ PySem.W.findIn K (.ref (Cs.getD i 0)) "__getattr__" = some none ∧
    PySem.W.subIn K (.ref (Cs.getD i 0)) (.type "BaseException") = some true ∧ PySem.W.hasDictIn K (Cs.getD i 0) = true ∧ PySem.W.findIn K (.ref (Cs.getD i 0)) "__class__" = some (some (.builtin "object.__class__")) ∧ PySem.W.mroIn K (Cs.getD i 0) (.type "object") = some true ∧
    PySem.W.findIn K (.ref (Cs.getD i 0)) "__setattr__" = some (some (.builtin "object.__setattr__")) ∧ PySem.W.typeIn K (.ref (Cs.getD i 0)) = some (.type "type") ∧ PySem.W.keepIn K (.ref (Cs.getD i 0)) = true ∧ ∀ f, f ∈ fsT i → PySem.W.findIn K (.ref (Cs.getD i 0)) f = some none := by
  have z := List.all_eq_true.mp h i (List.mem_range.mpr hi)
  simp only [Bool.and_eq_true, beq_iff_eq, List.all_eq_true] at z
  exact z
/-- .. and below what it stands -/
def tabT (K : PySem.W.Frag) (Cs : List Addr) (S BI RF NA : Addr) : Bool := (List.range 26).all fun i => ((List.range 26).all fun j => PySem.W.kitOne K (.ref (Cs.getD i 0)) (.ref (Cs.getD j 0)) == some (i == j)) && (PySem.W.kitOne K (.ref (Cs.getD i 0)) (.ref S) == some true &&
  (PySem.W.kitOne K (.ref (Cs.getD i 0)) (.ref BI) == some (decide (i < 12)) && (PySem.W.kitOne K (.ref (Cs.getD i 0)) (.ref RF) == some (decide (12 ≤ i) && decide (i < 21)) && (PySem.W.kitOne K (.ref (Cs.getD i 0)) (.ref NA) == some (decide (21 ≤ i) && decide (i < 25)) &&
  (PySem.W.kitOne K (.ref (Cs.getD i 0)) (.type "ValueError") == some true && (PySem.W.kitOne K (.ref (Cs.getD i 0)) (.type "KeyError") == some false && (PySem.W.kitOne K (.ref (Cs.getD i 0)) (.type "ArithmeticError") == some false &&
  (PySem.W.kitOne K (.ref (Cs.getD i 0)) (.type "IndexError") == some false && PySem.W.kitOne K (.ref (Cs.getD i 0)) (.type "TypeError") == some false))))))))
theorem tabT_at {K : PySem.W.Frag} {Cs : List Addr} {S BI RF NA : Addr} (h : tabT K Cs S BI RF NA = true) (i : Nat) (hi : i < 26) : (∀ j, j < 26 → PySem.W.kitOne K (.ref (Cs.getD i 0)) (.ref (Cs.getD j 0)) = some (i == j)) ∧ PySem.W.kitOne K (.ref (Cs.getD i 0)) (.ref S) = some true ∧
    PySem.W.kitOne K (.ref (Cs.getD i 0)) (.ref BI) = some (decide (i < 12)) ∧ PySem.W.kitOne K (.ref (Cs.getD i 0)) (.ref RF) = some (decide (12 ≤ i) && decide (i < 21)) ∧ PySem.W.kitOne K (.ref (Cs.getD i 0)) (.ref NA) = some (decide (21 ≤ i) && decide (i < 25)) ∧
    PySem.W.kitOne K (.ref (Cs.getD i 0)) (.type "ValueError") = some true ∧ PySem.W.kitOne K (.ref (Cs.getD i 0)) (.type "KeyError") = some false ∧ PySem.W.kitOne K (.ref (Cs.getD i 0)) (.type "ArithmeticError") = some false ∧
    PySem.W.kitOne K (.ref (Cs.getD i 0)) (.type "IndexError") = some false ∧ PySem.W.kitOne K (.ref (Cs.getD i 0)) (.type "TypeError") = some false := by
  have z := List.all_eq_true.mp h i (List.mem_range.mpr hi)
  simp only [Bool.and_eq_true, beq_iff_eq, List.all_eq_true, List.mem_range] at z
  exact z
theorem all_mk {l : PySem.W.OpenLaw} {w : World} {K : PySem.W.Frag} {h : Heap} {mg : Str → Option Value} {fa : Addr} (X : K.In h) (G : h.Ns mainGlobals mg) (hfa : mg "law" = some (.ref fa))
    {S : Addr}
    {BI : Addr}
    {RF : Addr}
    {NA : Addr}
    {C0 : Addr}
    {nm_C0 q_C0 : Str} {N_C0 : Addr} {bs_C0 : List Value} {sn_C0 : List Str} {sub_C0 : List Value} {ab_C0 : Bool} {col_C0 : Option Bool} {dd_C0 : Option Addr} {m0_C0 m1_C0 m2_C0 m3_C0 m5_C0 : Option Value}
    {f_IC0 : Addr} {od_IC0 an_IC0 : Option Addr} {sl_IC0 : Array (Option Value)} {oc_IC0 kV_IC0 dc_IC0 pm_IC0 cd_IC0 ct_IC0 : Value}
    {C1 : Addr}
    {nm_C1 q_C1 : Str} {N_C1 : Addr} {bs_C1 : List Value} {sn_C1 : List Str} {sub_C1 : List Value} {ab_C1 : Bool} {col_C1 : Option Bool} {dd_C1 : Option Addr} {m0_C1 m1_C1 m2_C1 m3_C1 m5_C1 : Option Value}
    {f_IC1 : Addr} {od_IC1 an_IC1 : Option Addr} {sl_IC1 : Array (Option Value)} {oc_IC1 kV_IC1 dc_IC1 pm_IC1 cd_IC1 ct_IC1 : Value}
    {C2 : Addr}
    {nm_C2 q_C2 : Str} {N_C2 : Addr} {bs_C2 : List Value} {sn_C2 : List Str} {sub_C2 : List Value} {ab_C2 : Bool} {col_C2 : Option Bool} {dd_C2 : Option Addr} {m0_C2 m1_C2 m2_C2 m3_C2 m5_C2 : Option Value}
    {f_IC2 : Addr} {od_IC2 an_IC2 : Option Addr} {sl_IC2 : Array (Option Value)} {oc_IC2 kV_IC2 dc_IC2 pm_IC2 cd_IC2 ct_IC2 : Value}
    {C3 : Addr}
    {nm_C3 q_C3 : Str} {N_C3 : Addr} {bs_C3 : List Value} {sn_C3 : List Str} {sub_C3 : List Value} {ab_C3 : Bool} {col_C3 : Option Bool} {dd_C3 : Option Addr} {m0_C3 m1_C3 m2_C3 m3_C3 m5_C3 : Option Value}
    {f_IC3 : Addr} {od_IC3 an_IC3 : Option Addr} {sl_IC3 : Array (Option Value)} {oc_IC3 kV_IC3 dc_IC3 pm_IC3 cd_IC3 ct_IC3 : Value}
    {C4 : Addr}
    {nm_C4 q_C4 : Str} {N_C4 : Addr} {bs_C4 : List Value} {sn_C4 : List Str} {sub_C4 : List Value} {ab_C4 : Bool} {col_C4 : Option Bool} {dd_C4 : Option Addr} {m0_C4 m1_C4 m2_C4 m3_C4 m5_C4 : Option Value}
    {f_IC4 : Addr} {od_IC4 an_IC4 : Option Addr} {sl_IC4 : Array (Option Value)} {oc_IC4 kV_IC4 dc_IC4 pm_IC4 cd_IC4 ct_IC4 : Value}
    {C5 : Addr}
    {nm_C5 q_C5 : Str} {N_C5 : Addr} {bs_C5 : List Value} {sn_C5 : List Str} {sub_C5 : List Value} {ab_C5 : Bool} {col_C5 : Option Bool} {dd_C5 : Option Addr} {m0_C5 m1_C5 m2_C5 m3_C5 m5_C5 : Option Value}
    {f_IC5 : Addr} {od_IC5 an_IC5 : Option Addr} {sl_IC5 : Array (Option Value)} {oc_IC5 kV_IC5 dc_IC5 pm_IC5 cd_IC5 ct_IC5 : Value}
    {C6 : Addr}
    {nm_C6 q_C6 : Str} {N_C6 : Addr} {bs_C6 : List Value} {sn_C6 : List Str} {sub_C6 : List Value} {ab_C6 : Bool} {col_C6 : Option Bool} {dd_C6 : Option Addr} {m0_C6 m1_C6 m2_C6 m3_C6 m5_C6 : Option Value}
    {f_IC6 : Addr} {od_IC6 an_IC6 : Option Addr} {sl_IC6 : Array (Option Value)} {oc_IC6 kV_IC6 dc_IC6 pm_IC6 cd_IC6 ct_IC6 : Value}
    {C7 : Addr}
    {nm_C7 q_C7 : Str} {N_C7 : Addr} {bs_C7 : List Value} {sn_C7 : List Str} {sub_C7 : List Value} {ab_C7 : Bool} {col_C7 : Option Bool} {dd_C7 : Option Addr} {m0_C7 m1_C7 m2_C7 m3_C7 m5_C7 : Option Value}
    {f_IC7 : Addr} {od_IC7 an_IC7 : Option Addr} {sl_IC7 : Array (Option Value)} {oc_IC7 kV_IC7 dc_IC7 pm_IC7 cd_IC7 ct_IC7 : Value}
    {C8 : Addr}
    {nm_C8 q_C8 : Str} {N_C8 : Addr} {bs_C8 : List Value} {sn_C8 : List Str} {sub_C8 : List Value} {ab_C8 : Bool} {col_C8 : Option Bool} {dd_C8 : Option Addr} {m0_C8 m1_C8 m2_C8 m3_C8 m5_C8 : Option Value}
    {f_IC8 : Addr} {od_IC8 an_IC8 : Option Addr} {sl_IC8 : Array (Option Value)} {oc_IC8 kV_IC8 dc_IC8 pm_IC8 cd_IC8 ct_IC8 : Value}
    {C9 : Addr}
    {nm_C9 q_C9 : Str} {N_C9 : Addr} {bs_C9 : List Value} {sn_C9 : List Str} {sub_C9 : List Value} {ab_C9 : Bool} {col_C9 : Option Bool} {dd_C9 : Option Addr} {m0_C9 m1_C9 m2_C9 m3_C9 m5_C9 : Option Value}
    {f_IC9 : Addr} {od_IC9 an_IC9 : Option Addr} {sl_IC9 : Array (Option Value)} {oc_IC9 kV_IC9 dc_IC9 pm_IC9 cd_IC9 ct_IC9 : Value}
    {C10 : Addr}
    {nm_C10 q_C10 : Str} {N_C10 : Addr} {bs_C10 : List Value} {sn_C10 : List Str} {sub_C10 : List Value} {ab_C10 : Bool} {col_C10 : Option Bool} {dd_C10 : Option Addr} {m0_C10 m1_C10 m2_C10 m3_C10 m5_C10 : Option Value}
    {f_IC10 : Addr} {od_IC10 an_IC10 : Option Addr} {sl_IC10 : Array (Option Value)} {oc_IC10 kV_IC10 dc_IC10 pm_IC10 cd_IC10 ct_IC10 : Value}
    {C11 : Addr}
    {nm_C11 q_C11 : Str} {N_C11 : Addr} {bs_C11 : List Value} {sn_C11 : List Str} {sub_C11 : List Value} {ab_C11 : Bool} {col_C11 : Option Bool} {dd_C11 : Option Addr} {m0_C11 m1_C11 m2_C11 m3_C11 m5_C11 : Option Value}
    {f_IC11 : Addr} {od_IC11 an_IC11 : Option Addr} {sl_IC11 : Array (Option Value)} {oc_IC11 kV_IC11 dc_IC11 pm_IC11 cd_IC11 ct_IC11 : Value}
    {C12 : Addr}
    {nm_C12 q_C12 : Str} {N_C12 : Addr} {bs_C12 : List Value} {sn_C12 : List Str} {sub_C12 : List Value} {ab_C12 : Bool} {col_C12 : Option Bool} {dd_C12 : Option Addr} {m0_C12 m1_C12 m2_C12 m3_C12 m5_C12 : Option Value}
    {f_IC12 : Addr} {od_IC12 an_IC12 : Option Addr} {sl_IC12 : Array (Option Value)} {oc_IC12 kV_IC12 dc_IC12 pm_IC12 cd_IC12 ct_IC12 : Value}
    {C13 : Addr}
    {nm_C13 q_C13 : Str} {N_C13 : Addr} {bs_C13 : List Value} {sn_C13 : List Str} {sub_C13 : List Value} {ab_C13 : Bool} {col_C13 : Option Bool} {dd_C13 : Option Addr} {m0_C13 m1_C13 m2_C13 m3_C13 m5_C13 : Option Value}
    {f_IC13 : Addr} {od_IC13 an_IC13 : Option Addr} {sl_IC13 : Array (Option Value)} {oc_IC13 kV_IC13 dc_IC13 pm_IC13 cd_IC13 ct_IC13 : Value}
    {C14 : Addr}
    {nm_C14 q_C14 : Str} {N_C14 : Addr} {bs_C14 : List Value} {sn_C14 : List Str} {sub_C14 : List Value} {ab_C14 : Bool} {col_C14 : Option Bool} {dd_C14 : Option Addr} {m0_C14 m1_C14 m2_C14 m3_C14 m5_C14 : Option Value}
    {f_IC14 : Addr} {od_IC14 an_IC14 : Option Addr} {sl_IC14 : Array (Option Value)} {oc_IC14 kV_IC14 dc_IC14 pm_IC14 cd_IC14 ct_IC14 : Value}
    {C15 : Addr}
    {nm_C15 q_C15 : Str} {N_C15 : Addr} {bs_C15 : List Value} {sn_C15 : List Str} {sub_C15 : List Value} {ab_C15 : Bool} {col_C15 : Option Bool} {dd_C15 : Option Addr} {m0_C15 m1_C15 m2_C15 m3_C15 m5_C15 : Option Value}
    {f_IC15 : Addr} {od_IC15 an_IC15 : Option Addr} {sl_IC15 : Array (Option Value)} {oc_IC15 kV_IC15 dc_IC15 pm_IC15 cd_IC15 ct_IC15 : Value}
    {C16 : Addr}
    {nm_C16 q_C16 : Str} {N_C16 : Addr} {bs_C16 : List Value} {sn_C16 : List Str} {sub_C16 : List Value} {ab_C16 : Bool} {col_C16 : Option Bool} {dd_C16 : Option Addr} {m0_C16 m1_C16 m2_C16 m3_C16 m5_C16 : Option Value}
    {f_IC16 : Addr} {od_IC16 an_IC16 : Option Addr} {sl_IC16 : Array (Option Value)} {oc_IC16 kV_IC16 dc_IC16 pm_IC16 cd_IC16 ct_IC16 : Value}
    {C17 : Addr}
    {nm_C17 q_C17 : Str} {N_C17 : Addr} {bs_C17 : List Value} {sn_C17 : List Str} {sub_C17 : List Value} {ab_C17 : Bool} {col_C17 : Option Bool} {dd_C17 : Option Addr} {m0_C17 m1_C17 m2_C17 m3_C17 m5_C17 : Option Value}
    {f_IC17 : Addr} {od_IC17 an_IC17 : Option Addr} {sl_IC17 : Array (Option Value)} {oc_IC17 kV_IC17 dc_IC17 pm_IC17 cd_IC17 ct_IC17 : Value}
    {C18 : Addr}
    {nm_C18 q_C18 : Str} {N_C18 : Addr} {bs_C18 : List Value} {sn_C18 : List Str} {sub_C18 : List Value} {ab_C18 : Bool} {col_C18 : Option Bool} {dd_C18 : Option Addr} {m0_C18 m1_C18 m2_C18 m3_C18 m5_C18 : Option Value}
    {f_IC18 : Addr} {od_IC18 an_IC18 : Option Addr} {sl_IC18 : Array (Option Value)} {oc_IC18 kV_IC18 dc_IC18 pm_IC18 cd_IC18 ct_IC18 : Value}
    {C19 : Addr}
    {nm_C19 q_C19 : Str} {N_C19 : Addr} {bs_C19 : List Value} {sn_C19 : List Str} {sub_C19 : List Value} {ab_C19 : Bool} {col_C19 : Option Bool} {dd_C19 : Option Addr} {m0_C19 m1_C19 m2_C19 m3_C19 m5_C19 : Option Value}
    {f_IC19 : Addr} {od_IC19 an_IC19 : Option Addr} {sl_IC19 : Array (Option Value)} {oc_IC19 kV_IC19 dc_IC19 pm_IC19 cd_IC19 ct_IC19 : Value}
    {C20 : Addr}
    {nm_C20 q_C20 : Str} {N_C20 : Addr} {bs_C20 : List Value} {sn_C20 : List Str} {sub_C20 : List Value} {ab_C20 : Bool} {col_C20 : Option Bool} {dd_C20 : Option Addr} {m0_C20 m1_C20 m2_C20 m3_C20 m5_C20 : Option Value}
    {f_IC20 : Addr} {od_IC20 an_IC20 : Option Addr} {sl_IC20 : Array (Option Value)} {oc_IC20 kV_IC20 dc_IC20 pm_IC20 cd_IC20 ct_IC20 : Value}
    {C21 : Addr}
    {C22 : Addr}
    {C23 : Addr}
    {C24 : Addr}
    {C25 : Addr}
    {nm_C25 q_C25 : Str} {N_C25 : Addr} {bs_C25 : List Value} {sn_C25 : List Str} {sub_C25 : List Value} {ab_C25 : Bool} {col_C25 : Option Bool} {dd_C25 : Option Addr} {m0_C25 m1_C25 m2_C25 m3_C25 m5_C25 : Option Value}
    {f_IC25 : Addr} {od_IC25 an_IC25 : Option Addr} {sl_IC25 : Array (Option Value)} {oc_IC25 kV_IC25 dc_IC25 pm_IC25 cd_IC25 ct_IC25 : Value}
    {f_pen : Addr} {od_pen an_pen : Option Addr} {sl_pen : Array (Option Value)} {oc_pen kV_pen dc_pen pm_pen cd_pen ct_pen : Value}
    {f_draw : Addr} {od_draw an_draw : Option Addr} {sl_draw : Array (Option Value)} {oc_draw kV_draw dc_draw pm_draw cd_draw ct_draw : Value}
    {f_pick : Addr} {od_pick an_pick : Option Addr} {sl_pick : Array (Option Value)} {oc_pick kV_pick dc_pick pm_pick cd_pick ct_pick : Value}
    {f_thing : Addr} {od_thing an_thing : Option Addr} {sl_thing : Array (Option Value)} {oc_thing kV_thing dc_thing pm_thing cd_thing ct_thing : Value}
    {f_inp : Addr} {od_inp an_inp : Option Addr} {sl_inp : Array (Option Value)} {oc_inp kV_inp dc_inp pm_inp cd_inp ct_inp : Value}
    {f_oth : Addr} {od_oth an_oth : Option Addr} {sl_oth : Array (Option Value)} {oc_oth kV_oth dc_oth pm_oth cd_oth ct_oth : Value}
    {f_kept : Addr} {od_kept an_kept : Option Addr} {sl_kept : Array (Option Value)} {oc_kept kV_kept dc_kept pm_kept cd_kept ct_kept : Value}
    {f_cla : Addr} {od_cla an_cla : Option Addr} {sl_cla : Array (Option Value)} {oc_cla kV_cla dc_cla pm_cla cd_cla ct_cla : Value}
    {f_bas : Addr} {od_bas an_bas : Option Addr} {sl_bas : Array (Option Value)} {oc_bas kV_bas dc_bas pm_bas cd_bas ct_bas : Value}
    {f_law : Addr} {od_law an_law : Option Addr} {sl_law : Array (Option Value)} {oc_law kV_law dc_law pm_law cd_law ct_law : Value}
    (n_int : PySem.W.nsIn K mainGlobals "int" = some none)
    (n_len : PySem.W.nsIn K mainGlobals "len" = some none)
    (n_abs : PySem.W.nsIn K mainGlobals "abs" = some none)
    (n_list : PySem.W.nsIn K mainGlobals "list" = some none)
    (n_range : PySem.W.nsIn K mainGlobals "range" = some none)
    (n_isinstance : PySem.W.nsIn K mainGlobals "isinstance" = some none)
    (n_repr : PySem.W.nsIn K mainGlobals "repr" = some none)
    (n_enumerate : PySem.W.nsIn K mainGlobals "enumerate" = some none)
    (n_ValueError : PySem.W.nsIn K mainGlobals "ValueError" = some none)
    (n_KeyError : PySem.W.nsIn K mainGlobals "KeyError" = some none)
    (n_ArithmeticError : PySem.W.nsIn K mainGlobals "ArithmeticError" = some none)
    (n_IndexError : PySem.W.nsIn K mainGlobals "IndexError" = some none)
    (n_TypeError : PySem.W.nsIn K mainGlobals "TypeError" = some none)
    (a_S : PySem.W.nsIn K mainGlobals "ShiftError" = some (some (.ref S)))
    (a_BI : PySem.W.nsIn K mainGlobals "BadInput" = some (some (.ref BI)))
    (a_RF : PySem.W.nsIn K mainGlobals "Refused" = some (some (.ref RF)))
    (a_NA : PySem.W.nsIn K mainGlobals "NoAnswer" = some (some (.ref NA)))
    (a_C0 : PySem.W.nsIn K mainGlobals "BadName" = some (some (.ref C0)))
    (xL_C0 : K.lookup C0 = some (excClassObj nm_C0 q_C0 C0 N_C0 bs_C0 [.ref BI, .ref S, .type "ValueError", .type "Exception", .type "BaseException", .type "object"] true sn_C0 sub_C0 ab_C0 col_C0 dd_C0 m0_C0 m1_C0 m2_C0 m3_C0 m5_C0 "ValueError.__new__"))
    (a_IC0 : PySem.W.findIn K (.ref C0) "__init__" = some (some (.ref f_IC0)))
    (t_IC0 : PySem.W.typeIn K (.ref f_IC0) = some (.type "function"))
    (l_IC0 : K.lookup f_IC0 = some ⟨oc_IC0, od_IC0, .func (PySem.W.fnOf "__init__" "BadName.__init__" (defArgs s_BadName_init) (defBody s_BadName_init) (defScope s_BadName_init) .none kV_IC0 dc_IC0 pm_IC0 an_IC0 cd_IC0 ct_IC0), sl_IC0⟩)
    (c_IC0 : PySem.W.codeIn K cd_IC0 "BadName.__init__" = true)
    (k_IC0 : PySem.W.keepIn K (.ref f_IC0) = true)
    (a_C1 : PySem.W.nsIn K mainGlobals "BadAmount" = some (some (.ref C1)))
    (xL_C1 : K.lookup C1 = some (excClassObj nm_C1 q_C1 C1 N_C1 bs_C1 [.ref BI, .ref S, .type "ValueError", .type "Exception", .type "BaseException", .type "object"] true sn_C1 sub_C1 ab_C1 col_C1 dd_C1 m0_C1 m1_C1 m2_C1 m3_C1 m5_C1 "ValueError.__new__"))
    (a_IC1 : PySem.W.findIn K (.ref C1) "__init__" = some (some (.ref f_IC1)))
    (t_IC1 : PySem.W.typeIn K (.ref f_IC1) = some (.type "function"))
    (l_IC1 : K.lookup f_IC1 = some ⟨oc_IC1, od_IC1, .func (PySem.W.fnOf "__init__" "BadAmount.__init__" (defArgs s_BadAmount_init) (defBody s_BadAmount_init) (defScope s_BadAmount_init) .none kV_IC1 dc_IC1 pm_IC1 an_IC1 cd_IC1 ct_IC1), sl_IC1⟩)
    (c_IC1 : PySem.W.codeIn K cd_IC1 "BadAmount.__init__" = true)
    (k_IC1 : PySem.W.keepIn K (.ref f_IC1) = true)
    (a_C2 : PySem.W.nsIn K mainGlobals "BadDay" = some (some (.ref C2)))
    (xL_C2 : K.lookup C2 = some (excClassObj nm_C2 q_C2 C2 N_C2 bs_C2 [.ref BI, .ref S, .type "ValueError", .type "Exception", .type "BaseException", .type "object"] true sn_C2 sub_C2 ab_C2 col_C2 dd_C2 m0_C2 m1_C2 m2_C2 m3_C2 m5_C2 "ValueError.__new__"))
    (a_IC2 : PySem.W.findIn K (.ref C2) "__init__" = some (some (.ref f_IC2)))
    (t_IC2 : PySem.W.typeIn K (.ref f_IC2) = some (.type "function"))
    (l_IC2 : K.lookup f_IC2 = some ⟨oc_IC2, od_IC2, .func (PySem.W.fnOf "__init__" "BadDay.__init__" (defArgs s_BadDay_init) (defBody s_BadDay_init) (defScope s_BadDay_init) .none kV_IC2 dc_IC2 pm_IC2 an_IC2 cd_IC2 ct_IC2), sl_IC2⟩)
    (c_IC2 : PySem.W.codeIn K cd_IC2 "BadDay.__init__" = true)
    (k_IC2 : PySem.W.keepIn K (.ref f_IC2) = true)
    (a_C3 : PySem.W.nsIn K mainGlobals "BadItem" = some (some (.ref C3)))
    (xL_C3 : K.lookup C3 = some (excClassObj nm_C3 q_C3 C3 N_C3 bs_C3 [.ref BI, .ref S, .type "ValueError", .type "Exception", .type "BaseException", .type "object"] true sn_C3 sub_C3 ab_C3 col_C3 dd_C3 m0_C3 m1_C3 m2_C3 m3_C3 m5_C3 "ValueError.__new__"))
    (a_IC3 : PySem.W.findIn K (.ref C3) "__init__" = some (some (.ref f_IC3)))
    (t_IC3 : PySem.W.typeIn K (.ref f_IC3) = some (.type "function"))
    (l_IC3 : K.lookup f_IC3 = some ⟨oc_IC3, od_IC3, .func (PySem.W.fnOf "__init__" "BadItem.__init__" (defArgs s_BadItem_init) (defBody s_BadItem_init) (defScope s_BadItem_init) .none kV_IC3 dc_IC3 pm_IC3 an_IC3 cd_IC3 ct_IC3), sl_IC3⟩)
    (c_IC3 : PySem.W.codeIn K cd_IC3 "BadItem.__init__" = true)
    (k_IC3 : PySem.W.keepIn K (.ref f_IC3) = true)
    (a_C4 : PySem.W.nsIn K mainGlobals "BadOffice" = some (some (.ref C4)))
    (xL_C4 : K.lookup C4 = some (excClassObj nm_C4 q_C4 C4 N_C4 bs_C4 [.ref BI, .ref S, .type "ValueError", .type "Exception", .type "BaseException", .type "object"] true sn_C4 sub_C4 ab_C4 col_C4 dd_C4 m0_C4 m1_C4 m2_C4 m3_C4 m5_C4 "ValueError.__new__"))
    (a_IC4 : PySem.W.findIn K (.ref C4) "__init__" = some (some (.ref f_IC4)))
    (t_IC4 : PySem.W.typeIn K (.ref f_IC4) = some (.type "function"))
    (l_IC4 : K.lookup f_IC4 = some ⟨oc_IC4, od_IC4, .func (PySem.W.fnOf "__init__" "BadOffice.__init__" (defArgs s_BadOffice_init) (defBody s_BadOffice_init) (defScope s_BadOffice_init) .none kV_IC4 dc_IC4 pm_IC4 an_IC4 cd_IC4 ct_IC4), sl_IC4⟩)
    (c_IC4 : PySem.W.codeIn K cd_IC4 "BadOffice.__init__" = true)
    (k_IC4 : PySem.W.keepIn K (.ref f_IC4) = true)
    (a_C5 : PySem.W.nsIn K mainGlobals "BadGaps" = some (some (.ref C5)))
    (xL_C5 : K.lookup C5 = some (excClassObj nm_C5 q_C5 C5 N_C5 bs_C5 [.ref BI, .ref S, .type "ValueError", .type "Exception", .type "BaseException", .type "object"] true sn_C5 sub_C5 ab_C5 col_C5 dd_C5 m0_C5 m1_C5 m2_C5 m3_C5 m5_C5 "ValueError.__new__"))
    (a_IC5 : PySem.W.findIn K (.ref C5) "__init__" = some (some (.ref f_IC5)))
    (t_IC5 : PySem.W.typeIn K (.ref f_IC5) = some (.type "function"))
    (l_IC5 : K.lookup f_IC5 = some ⟨oc_IC5, od_IC5, .func (PySem.W.fnOf "__init__" "BadGaps.__init__" (defArgs s_BadGaps_init) (defBody s_BadGaps_init) (defScope s_BadGaps_init) .none kV_IC5 dc_IC5 pm_IC5 an_IC5 cd_IC5 ct_IC5), sl_IC5⟩)
    (c_IC5 : PySem.W.codeIn K cd_IC5 "BadGaps.__init__" = true)
    (k_IC5 : PySem.W.keepIn K (.ref f_IC5) = true)
    (a_C6 : PySem.W.nsIn K mainGlobals "BadRow" = some (some (.ref C6)))
    (xL_C6 : K.lookup C6 = some (excClassObj nm_C6 q_C6 C6 N_C6 bs_C6 [.ref BI, .ref S, .type "ValueError", .type "Exception", .type "BaseException", .type "object"] true sn_C6 sub_C6 ab_C6 col_C6 dd_C6 m0_C6 m1_C6 m2_C6 m3_C6 m5_C6 "ValueError.__new__"))
    (a_IC6 : PySem.W.findIn K (.ref C6) "__init__" = some (some (.ref f_IC6)))
    (t_IC6 : PySem.W.typeIn K (.ref f_IC6) = some (.type "function"))
    (l_IC6 : K.lookup f_IC6 = some ⟨oc_IC6, od_IC6, .func (PySem.W.fnOf "__init__" "BadRow.__init__" (defArgs s_BadRow_init) (defBody s_BadRow_init) (defScope s_BadRow_init) .none kV_IC6 dc_IC6 pm_IC6 an_IC6 cd_IC6 ct_IC6), sl_IC6⟩)
    (c_IC6 : PySem.W.codeIn K cd_IC6 "BadRow.__init__" = true)
    (k_IC6 : PySem.W.keepIn K (.ref f_IC6) = true)
    (a_C7 : PySem.W.nsIn K mainGlobals "BadBound" = some (some (.ref C7)))
    (xL_C7 : K.lookup C7 = some (excClassObj nm_C7 q_C7 C7 N_C7 bs_C7 [.ref BI, .ref S, .type "ValueError", .type "Exception", .type "BaseException", .type "object"] true sn_C7 sub_C7 ab_C7 col_C7 dd_C7 m0_C7 m1_C7 m2_C7 m3_C7 m5_C7 "ValueError.__new__"))
    (a_IC7 : PySem.W.findIn K (.ref C7) "__init__" = some (some (.ref f_IC7)))
    (t_IC7 : PySem.W.typeIn K (.ref f_IC7) = some (.type "function"))
    (l_IC7 : K.lookup f_IC7 = some ⟨oc_IC7, od_IC7, .func (PySem.W.fnOf "__init__" "BadBound.__init__" (defArgs s_BadBound_init) (defBody s_BadBound_init) (defScope s_BadBound_init) .none kV_IC7 dc_IC7 pm_IC7 an_IC7 cd_IC7 ct_IC7), sl_IC7⟩)
    (c_IC7 : PySem.W.codeIn K cd_IC7 "BadBound.__init__" = true)
    (k_IC7 : PySem.W.keepIn K (.ref f_IC7) = true)
    (a_C8 : PySem.W.nsIn K mainGlobals "BadLook" = some (some (.ref C8)))
    (xL_C8 : K.lookup C8 = some (excClassObj nm_C8 q_C8 C8 N_C8 bs_C8 [.ref BI, .ref S, .type "ValueError", .type "Exception", .type "BaseException", .type "object"] true sn_C8 sub_C8 ab_C8 col_C8 dd_C8 m0_C8 m1_C8 m2_C8 m3_C8 m5_C8 "ValueError.__new__"))
    (a_IC8 : PySem.W.findIn K (.ref C8) "__init__" = some (some (.ref f_IC8)))
    (t_IC8 : PySem.W.typeIn K (.ref f_IC8) = some (.type "function"))
    (l_IC8 : K.lookup f_IC8 = some ⟨oc_IC8, od_IC8, .func (PySem.W.fnOf "__init__" "BadLook.__init__" (defArgs s_BadLook_init) (defBody s_BadLook_init) (defScope s_BadLook_init) .none kV_IC8 dc_IC8 pm_IC8 an_IC8 cd_IC8 ct_IC8), sl_IC8⟩)
    (c_IC8 : PySem.W.codeIn K cd_IC8 "BadLook.__init__" = true)
    (k_IC8 : PySem.W.keepIn K (.ref f_IC8) = true)
    (a_C9 : PySem.W.nsIn K mainGlobals "BadMenu" = some (some (.ref C9)))
    (xL_C9 : K.lookup C9 = some (excClassObj nm_C9 q_C9 C9 N_C9 bs_C9 [.ref BI, .ref S, .type "ValueError", .type "Exception", .type "BaseException", .type "object"] true sn_C9 sub_C9 ab_C9 col_C9 dd_C9 m0_C9 m1_C9 m2_C9 m3_C9 m5_C9 "ValueError.__new__"))
    (a_IC9 : PySem.W.findIn K (.ref C9) "__init__" = some (some (.ref f_IC9)))
    (t_IC9 : PySem.W.typeIn K (.ref f_IC9) = some (.type "function"))
    (l_IC9 : K.lookup f_IC9 = some ⟨oc_IC9, od_IC9, .func (PySem.W.fnOf "__init__" "BadMenu.__init__" (defArgs s_BadMenu_init) (defBody s_BadMenu_init) (defScope s_BadMenu_init) .none kV_IC9 dc_IC9 pm_IC9 an_IC9 cd_IC9 ct_IC9), sl_IC9⟩)
    (c_IC9 : PySem.W.codeIn K cd_IC9 "BadMenu.__init__" = true)
    (k_IC9 : PySem.W.keepIn K (.ref f_IC9) = true)
    (a_C10 : PySem.W.nsIn K mainGlobals "BadText" = some (some (.ref C10)))
    (xL_C10 : K.lookup C10 = some (excClassObj nm_C10 q_C10 C10 N_C10 bs_C10 [.ref BI, .ref S, .type "ValueError", .type "Exception", .type "BaseException", .type "object"] true sn_C10 sub_C10 ab_C10 col_C10 dd_C10 m0_C10 m1_C10 m2_C10 m3_C10 m5_C10 "ValueError.__new__"))
    (a_IC10 : PySem.W.findIn K (.ref C10) "__init__" = some (some (.ref f_IC10)))
    (t_IC10 : PySem.W.typeIn K (.ref f_IC10) = some (.type "function"))
    (l_IC10 : K.lookup f_IC10 = some ⟨oc_IC10, od_IC10, .func (PySem.W.fnOf "__init__" "BadText.__init__" (defArgs s_BadText_init) (defBody s_BadText_init) (defScope s_BadText_init) .none kV_IC10 dc_IC10 pm_IC10 an_IC10 cd_IC10 ct_IC10), sl_IC10⟩)
    (c_IC10 : PySem.W.codeIn K cd_IC10 "BadText.__init__" = true)
    (k_IC10 : PySem.W.keepIn K (.ref f_IC10) = true)
    (a_C11 : PySem.W.nsIn K mainGlobals "BadLine" = some (some (.ref C11)))
    (xL_C11 : K.lookup C11 = some (excClassObj nm_C11 q_C11 C11 N_C11 bs_C11 [.ref BI, .ref S, .type "ValueError", .type "Exception", .type "BaseException", .type "object"] true sn_C11 sub_C11 ab_C11 col_C11 dd_C11 m0_C11 m1_C11 m2_C11 m3_C11 m5_C11 "ValueError.__new__"))
    (a_IC11 : PySem.W.findIn K (.ref C11) "__init__" = some (some (.ref f_IC11)))
    (t_IC11 : PySem.W.typeIn K (.ref f_IC11) = some (.type "function"))
    (l_IC11 : K.lookup f_IC11 = some ⟨oc_IC11, od_IC11, .func (PySem.W.fnOf "__init__" "BadLine.__init__" (defArgs s_BadLine_init) (defBody s_BadLine_init) (defScope s_BadLine_init) .none kV_IC11 dc_IC11 pm_IC11 an_IC11 cd_IC11 ct_IC11), sl_IC11⟩)
    (c_IC11 : PySem.W.codeIn K cd_IC11 "BadLine.__init__" = true)
    (k_IC11 : PySem.W.keepIn K (.ref f_IC11) = true)
    (a_C12 : PySem.W.nsIn K mainGlobals "NoAccount" = some (some (.ref C12)))
    (xL_C12 : K.lookup C12 = some (excClassObj nm_C12 q_C12 C12 N_C12 bs_C12 [.ref RF, .ref S, .type "ValueError", .type "Exception", .type "BaseException", .type "object"] true sn_C12 sub_C12 ab_C12 col_C12 dd_C12 m0_C12 m1_C12 m2_C12 m3_C12 m5_C12 "ValueError.__new__"))
    (a_IC12 : PySem.W.findIn K (.ref C12) "__init__" = some (some (.ref f_IC12)))
    (t_IC12 : PySem.W.typeIn K (.ref f_IC12) = some (.type "function"))
    (l_IC12 : K.lookup f_IC12 = some ⟨oc_IC12, od_IC12, .func (PySem.W.fnOf "__init__" "NoAccount.__init__" (defArgs s_NoAccount_init) (defBody s_NoAccount_init) (defScope s_NoAccount_init) .none kV_IC12 dc_IC12 pm_IC12 an_IC12 cd_IC12 ct_IC12), sl_IC12⟩)
    (c_IC12 : PySem.W.codeIn K cd_IC12 "NoAccount.__init__" = true)
    (k_IC12 : PySem.W.keepIn K (.ref f_IC12) = true)
    (a_C13 : PySem.W.nsIn K mainGlobals "NoItem" = some (some (.ref C13)))
    (xL_C13 : K.lookup C13 = some (excClassObj nm_C13 q_C13 C13 N_C13 bs_C13 [.ref RF, .ref S, .type "ValueError", .type "Exception", .type "BaseException", .type "object"] true sn_C13 sub_C13 ab_C13 col_C13 dd_C13 m0_C13 m1_C13 m2_C13 m3_C13 m5_C13 "ValueError.__new__"))
    (a_IC13 : PySem.W.findIn K (.ref C13) "__init__" = some (some (.ref f_IC13)))
    (t_IC13 : PySem.W.typeIn K (.ref f_IC13) = some (.type "function"))
    (l_IC13 : K.lookup f_IC13 = some ⟨oc_IC13, od_IC13, .func (PySem.W.fnOf "__init__" "NoItem.__init__" (defArgs s_NoItem_init) (defBody s_NoItem_init) (defScope s_NoItem_init) .none kV_IC13 dc_IC13 pm_IC13 an_IC13 cd_IC13 ct_IC13), sl_IC13⟩)
    (c_IC13 : PySem.W.codeIn K cd_IC13 "NoItem.__init__" = true)
    (k_IC13 : PySem.W.keepIn K (.ref f_IC13) = true)
    (a_C14 : PySem.W.nsIn K mainGlobals "NoKind" = some (some (.ref C14)))
    (xL_C14 : K.lookup C14 = some (excClassObj nm_C14 q_C14 C14 N_C14 bs_C14 [.ref RF, .ref S, .type "ValueError", .type "Exception", .type "BaseException", .type "object"] true sn_C14 sub_C14 ab_C14 col_C14 dd_C14 m0_C14 m1_C14 m2_C14 m3_C14 m5_C14 "ValueError.__new__"))
    (a_IC14 : PySem.W.findIn K (.ref C14) "__init__" = some (some (.ref f_IC14)))
    (t_IC14 : PySem.W.typeIn K (.ref f_IC14) = some (.type "function"))
    (l_IC14 : K.lookup f_IC14 = some ⟨oc_IC14, od_IC14, .func (PySem.W.fnOf "__init__" "NoKind.__init__" (defArgs s_NoKind_init) (defBody s_NoKind_init) (defScope s_NoKind_init) .none kV_IC14 dc_IC14 pm_IC14 an_IC14 cd_IC14 ct_IC14), sl_IC14⟩)
    (c_IC14 : PySem.W.codeIn K cd_IC14 "NoKind.__init__" = true)
    (k_IC14 : PySem.W.keepIn K (.ref f_IC14) = true)
    (a_C15 : PySem.W.nsIn K mainGlobals "NoCheck" = some (some (.ref C15)))
    (xL_C15 : K.lookup C15 = some (excClassObj nm_C15 q_C15 C15 N_C15 bs_C15 [.ref RF, .ref S, .type "ValueError", .type "Exception", .type "BaseException", .type "object"] true sn_C15 sub_C15 ab_C15 col_C15 dd_C15 m0_C15 m1_C15 m2_C15 m3_C15 m5_C15 "ValueError.__new__"))
    (a_IC15 : PySem.W.findIn K (.ref C15) "__init__" = some (some (.ref f_IC15)))
    (t_IC15 : PySem.W.typeIn K (.ref f_IC15) = some (.type "function"))
    (l_IC15 : K.lookup f_IC15 = some ⟨oc_IC15, od_IC15, .func (PySem.W.fnOf "__init__" "NoCheck.__init__" (defArgs s_NoCheck_init) (defBody s_NoCheck_init) (defScope s_NoCheck_init) .none kV_IC15 dc_IC15 pm_IC15 an_IC15 cd_IC15 ct_IC15), sl_IC15⟩)
    (c_IC15 : PySem.W.codeIn K cd_IC15 "NoCheck.__init__" = true)
    (k_IC15 : PySem.W.keepIn K (.ref f_IC15) = true)
    (a_C16 : PySem.W.nsIn K mainGlobals "InUse" = some (some (.ref C16)))
    (xL_C16 : K.lookup C16 = some (excClassObj nm_C16 q_C16 C16 N_C16 bs_C16 [.ref RF, .ref S, .type "ValueError", .type "Exception", .type "BaseException", .type "object"] true sn_C16 sub_C16 ab_C16 col_C16 dd_C16 m0_C16 m1_C16 m2_C16 m3_C16 m5_C16 "ValueError.__new__"))
    (a_IC16 : PySem.W.findIn K (.ref C16) "__init__" = some (some (.ref f_IC16)))
    (t_IC16 : PySem.W.typeIn K (.ref f_IC16) = some (.type "function"))
    (l_IC16 : K.lookup f_IC16 = some ⟨oc_IC16, od_IC16, .func (PySem.W.fnOf "__init__" "InUse.__init__" (defArgs s_InUse_init) (defBody s_InUse_init) (defScope s_InUse_init) .none kV_IC16 dc_IC16 pm_IC16 an_IC16 cd_IC16 ct_IC16), sl_IC16⟩)
    (c_IC16 : PySem.W.codeIn K cd_IC16 "InUse.__init__" = true)
    (k_IC16 : PySem.W.keepIn K (.ref f_IC16) = true)
    (a_C17 : PySem.W.nsIn K mainGlobals "Clash" = some (some (.ref C17)))
    (xL_C17 : K.lookup C17 = some (excClassObj nm_C17 q_C17 C17 N_C17 bs_C17 [.ref RF, .ref S, .type "ValueError", .type "Exception", .type "BaseException", .type "object"] true sn_C17 sub_C17 ab_C17 col_C17 dd_C17 m0_C17 m1_C17 m2_C17 m3_C17 m5_C17 "ValueError.__new__"))
    (a_IC17 : PySem.W.findIn K (.ref C17) "__init__" = some (some (.ref f_IC17)))
    (t_IC17 : PySem.W.typeIn K (.ref f_IC17) = some (.type "function"))
    (l_IC17 : K.lookup f_IC17 = some ⟨oc_IC17, od_IC17, .func (PySem.W.fnOf "__init__" "Clash.__init__" (defArgs s_Clash_init) (defBody s_Clash_init) (defScope s_Clash_init) .none kV_IC17 dc_IC17 pm_IC17 an_IC17 cd_IC17 ct_IC17), sl_IC17⟩)
    (c_IC17 : PySem.W.codeIn K cd_IC17 "Clash.__init__" = true)
    (k_IC17 : PySem.W.keepIn K (.ref f_IC17) = true)
    (a_C18 : PySem.W.nsIn K mainGlobals "Unlike" = some (some (.ref C18)))
    (xL_C18 : K.lookup C18 = some (excClassObj nm_C18 q_C18 C18 N_C18 bs_C18 [.ref RF, .ref S, .type "ValueError", .type "Exception", .type "BaseException", .type "object"] true sn_C18 sub_C18 ab_C18 col_C18 dd_C18 m0_C18 m1_C18 m2_C18 m3_C18 m5_C18 "ValueError.__new__"))
    (a_IC18 : PySem.W.findIn K (.ref C18) "__init__" = some (some (.ref f_IC18)))
    (t_IC18 : PySem.W.typeIn K (.ref f_IC18) = some (.type "function"))
    (l_IC18 : K.lookup f_IC18 = some ⟨oc_IC18, od_IC18, .func (PySem.W.fnOf "__init__" "Unlike.__init__" (defArgs s_Unlike_init) (defBody s_Unlike_init) (defScope s_Unlike_init) .none kV_IC18 dc_IC18 pm_IC18 an_IC18 cd_IC18 ct_IC18), sl_IC18⟩)
    (c_IC18 : PySem.W.codeIn K cd_IC18 "Unlike.__init__" = true)
    (k_IC18 : PySem.W.keepIn K (.ref f_IC18) = true)
    (a_C19 : PySem.W.nsIn K mainGlobals "Seen" = some (some (.ref C19)))
    (xL_C19 : K.lookup C19 = some (excClassObj nm_C19 q_C19 C19 N_C19 bs_C19 [.ref RF, .ref S, .type "ValueError", .type "Exception", .type "BaseException", .type "object"] true sn_C19 sub_C19 ab_C19 col_C19 dd_C19 m0_C19 m1_C19 m2_C19 m3_C19 m5_C19 "ValueError.__new__"))
    (a_IC19 : PySem.W.findIn K (.ref C19) "__init__" = some (some (.ref f_IC19)))
    (t_IC19 : PySem.W.typeIn K (.ref f_IC19) = some (.type "function"))
    (l_IC19 : K.lookup f_IC19 = some ⟨oc_IC19, od_IC19, .func (PySem.W.fnOf "__init__" "Seen.__init__" (defArgs s_Seen_init) (defBody s_Seen_init) (defScope s_Seen_init) .none kV_IC19 dc_IC19 pm_IC19 an_IC19 cd_IC19 ct_IC19), sl_IC19⟩)
    (c_IC19 : PySem.W.codeIn K cd_IC19 "Seen.__init__" = true)
    (k_IC19 : PySem.W.keepIn K (.ref f_IC19) = true)
    (a_C20 : PySem.W.nsIn K mainGlobals "TooMany" = some (some (.ref C20)))
    (xL_C20 : K.lookup C20 = some (excClassObj nm_C20 q_C20 C20 N_C20 bs_C20 [.ref RF, .ref S, .type "ValueError", .type "Exception", .type "BaseException", .type "object"] true sn_C20 sub_C20 ab_C20 col_C20 dd_C20 m0_C20 m1_C20 m2_C20 m3_C20 m5_C20 "ValueError.__new__"))
    (a_IC20 : PySem.W.findIn K (.ref C20) "__init__" = some (some (.ref f_IC20)))
    (t_IC20 : PySem.W.typeIn K (.ref f_IC20) = some (.type "function"))
    (l_IC20 : K.lookup f_IC20 = some ⟨oc_IC20, od_IC20, .func (PySem.W.fnOf "__init__" "TooMany.__init__" (defArgs s_TooMany_init) (defBody s_TooMany_init) (defScope s_TooMany_init) .none kV_IC20 dc_IC20 pm_IC20 an_IC20 cd_IC20 ct_IC20), sl_IC20⟩)
    (c_IC20 : PySem.W.codeIn K cd_IC20 "TooMany.__init__" = true)
    (k_IC20 : PySem.W.keepIn K (.ref f_IC20) = true)
    (a_C21 : PySem.W.nsIn K mainGlobals "NoDivisor" = some (some (.ref C21)))
    (x_C21 : PySem.W.excIn K C21 [.type "ValueError", .type "Exception", .type "BaseException", .type "object"] "ValueError.__new__" = true)
    (a_C22 : PySem.W.nsIn K mainGlobals "NoDeed" = some (some (.ref C22)))
    (x_C22 : PySem.W.excIn K C22 [.type "ValueError", .type "Exception", .type "BaseException", .type "object"] "ValueError.__new__" = true)
    (a_C23 : PySem.W.nsIn K mainGlobals "NoOffice" = some (some (.ref C23)))
    (x_C23 : PySem.W.excIn K C23 [.type "ValueError", .type "Exception", .type "BaseException", .type "object"] "ValueError.__new__" = true)
    (a_C24 : PySem.W.nsIn K mainGlobals "NoBook" = some (some (.ref C24)))
    (x_C24 : PySem.W.excIn K C24 [.type "ValueError", .type "Exception", .type "BaseException", .type "object"] "ValueError.__new__" = true)
    (a_C25 : PySem.W.nsIn K mainGlobals "Looked" = some (some (.ref C25)))
    (xL_C25 : K.lookup C25 = some (excClassObj nm_C25 q_C25 C25 N_C25 bs_C25 [.ref S, .type "ValueError", .type "Exception", .type "BaseException", .type "object"] true sn_C25 sub_C25 ab_C25 col_C25 dd_C25 m0_C25 m1_C25 m2_C25 m3_C25 m5_C25 "ValueError.__new__"))
    (a_IC25 : PySem.W.findIn K (.ref C25) "__init__" = some (some (.ref f_IC25)))
    (t_IC25 : PySem.W.typeIn K (.ref f_IC25) = some (.type "function"))
    (l_IC25 : K.lookup f_IC25 = some ⟨oc_IC25, od_IC25, .func (PySem.W.fnOf "__init__" "Looked.__init__" (defArgs s_Looked_init) (defBody s_Looked_init) (defScope s_Looked_init) .none kV_IC25 dc_IC25 pm_IC25 an_IC25 cd_IC25 ct_IC25), sl_IC25⟩)
    (c_IC25 : PySem.W.codeIn K cd_IC25 "Looked.__init__" = true)
    (k_IC25 : PySem.W.keepIn K (.ref f_IC25) = true)
    (hn : PySem.W.specialIn K (.builtin "object.__class__") "__get__" = some (some (.builtin "getset_descriptor.__get__")))
    (ht : PySem.W.takesIn K (.builtin "object.__class__") = some true)
    (tX : tabX K [C0, C1, C2, C3, C4, C5, C6, C7, C8, C9, C10, C11, C12, C13, C14, C15, C16, C17, C18, C19, C20, C21, C22, C23, C24, C25] = true)
    (tT : tabT K [C0, C1, C2, C3, C4, C5, C6, C7, C8, C9, C10, C11, C12, C13, C14, C15, C16, C17, C18, C19, C20, C21, C22, C23, C24, C25] S BI RF NA = true)
    (a_pen : PySem.W.nsIn K mainGlobals "_law_pen" = some (some (.ref f_pen)))
    (l_pen : K.lookup f_pen = some ⟨oc_pen, od_pen, .func (PySem.W.fnOf "_law_pen" "_law_pen" (defArgs s__law_pen) (defBody s__law_pen) (defScope s__law_pen) .none kV_pen dc_pen pm_pen an_pen cd_pen ct_pen), sl_pen⟩)
    (c_pen : PySem.W.codeIn K cd_pen "_law_pen" = true)
    (k_pen : PySem.W.keepIn K (.ref f_pen) = true)
    (a_draw : PySem.W.nsIn K mainGlobals "_law_draw" = some (some (.ref f_draw)))
    (l_draw : K.lookup f_draw = some ⟨oc_draw, od_draw, .func (PySem.W.fnOf "_law_draw" "_law_draw" (defArgs s__law_draw) (defBody s__law_draw) (defScope s__law_draw) .none kV_draw dc_draw pm_draw an_draw cd_draw ct_draw), sl_draw⟩)
    (c_draw : PySem.W.codeIn K cd_draw "_law_draw" = true)
    (k_draw : PySem.W.keepIn K (.ref f_draw) = true)
    (a_pick : PySem.W.nsIn K mainGlobals "_law_pick" = some (some (.ref f_pick)))
    (l_pick : K.lookup f_pick = some ⟨oc_pick, od_pick, .func (PySem.W.fnOf "_law_pick" "_law_pick" (defArgs s__law_pick) (defBody s__law_pick) (defScope s__law_pick) .none kV_pick dc_pick pm_pick an_pick cd_pick ct_pick), sl_pick⟩)
    (c_pick : PySem.W.codeIn K cd_pick "_law_pick" = true)
    (k_pick : PySem.W.keepIn K (.ref f_pick) = true)
    (a_thing : PySem.W.nsIn K mainGlobals "_law_thing" = some (some (.ref f_thing)))
    (l_thing : K.lookup f_thing = some ⟨oc_thing, od_thing, .func (PySem.W.fnOf "_law_thing" "_law_thing" (defArgs s__law_thing) (defBody s__law_thing) (defScope s__law_thing) .none kV_thing dc_thing pm_thing an_thing cd_thing ct_thing), sl_thing⟩)
    (c_thing : PySem.W.codeIn K cd_thing "_law_thing" = true)
    (k_thing : PySem.W.keepIn K (.ref f_thing) = true)
    (a_inp : PySem.W.nsIn K mainGlobals "_law_inputs" = some (some (.ref f_inp)))
    (l_inp : K.lookup f_inp = some ⟨oc_inp, od_inp, .func (PySem.W.fnOf "_law_inputs" "_law_inputs" (defArgs s__law_inputs) (defBody s__law_inputs) (defScope s__law_inputs) .none kV_inp dc_inp pm_inp an_inp cd_inp ct_inp), sl_inp⟩)
    (c_inp : PySem.W.codeIn K cd_inp "_law_inputs" = true)
    (k_inp : PySem.W.keepIn K (.ref f_inp) = true)
    (a_oth : PySem.W.nsIn K mainGlobals "_law_others" = some (some (.ref f_oth)))
    (l_oth : K.lookup f_oth = some ⟨oc_oth, od_oth, .func (PySem.W.fnOf "_law_others" "_law_others" (defArgs s__law_others) (defBody s__law_others) (defScope s__law_others) .none kV_oth dc_oth pm_oth an_oth cd_oth ct_oth), sl_oth⟩)
    (c_oth : PySem.W.codeIn K cd_oth "_law_others" = true)
    (k_oth : PySem.W.keepIn K (.ref f_oth) = true)
    (a_kept : PySem.W.nsIn K mainGlobals "_law_kept" = some (some (.ref f_kept)))
    (l_kept : K.lookup f_kept = some ⟨oc_kept, od_kept, .func (PySem.W.fnOf "_law_kept" "_law_kept" (defArgs s__law_kept) (defBody s__law_kept) (defScope s__law_kept) .none kV_kept dc_kept pm_kept an_kept cd_kept ct_kept), sl_kept⟩)
    (c_kept : PySem.W.codeIn K cd_kept "_law_kept" = true)
    (k_kept : PySem.W.keepIn K (.ref f_kept) = true)
    (a_cla : PySem.W.nsIn K mainGlobals "_law_classes" = some (some (.ref f_cla)))
    (l_cla : K.lookup f_cla = some ⟨oc_cla, od_cla, .func (PySem.W.fnOf "_law_classes" "_law_classes" (defArgs s__law_classes) (defBody s__law_classes) (defScope s__law_classes) .none kV_cla dc_cla pm_cla an_cla cd_cla ct_cla), sl_cla⟩)
    (c_cla : PySem.W.codeIn K cd_cla "_law_classes" = true)
    (k_cla : PySem.W.keepIn K (.ref f_cla) = true)
    (a_bas : PySem.W.nsIn K mainGlobals "_law_bases" = some (some (.ref f_bas)))
    (l_bas : K.lookup f_bas = some ⟨oc_bas, od_bas, .func (PySem.W.fnOf "_law_bases" "_law_bases" (defArgs s__law_bases) (defBody s__law_bases) (defScope s__law_bases) .none kV_bas dc_bas pm_bas an_bas cd_bas ct_bas), sl_bas⟩)
    (c_bas : PySem.W.codeIn K cd_bas "_law_bases" = true)
    (k_bas : PySem.W.keepIn K (.ref f_bas) = true)
    (a_law : PySem.W.nsIn K mainGlobals "law" = some (some (.ref f_law)))
    (l_law : K.lookup f_law = some ⟨oc_law, od_law, .func (PySem.W.fnOf "law" "law" (defArgs s_law) (defBody s_law) (defScope s_law) .none kV_law dc_law pm_law an_law cd_law ct_law), sl_law⟩)
    (c_law : PySem.W.codeIn K cd_law "law" = true)
    (k_law : PySem.W.keepIn K (.ref f_law) = true) :
    ∃ fd : FuncData, (∀ (s : Shared) (v : Value), BindsTo s fd ⟨[v], []⟩ [("_law_script", v)]) ∧ ∀ base : Heap, K.In base → base.Ns mainGlobals mg → FnG l.prog w K mg base CX0 4 fa fd ["_law_script"] (spLaw K) := by
  have e := hfa.symm.trans (PySem.W.mg_of X G a_law)
  cases e
  have mn_int := PySem.W.mg_none_of X G n_int
  have mn_len := PySem.W.mg_none_of X G n_len
  have mn_abs := PySem.W.mg_none_of X G n_abs
  have mn_list := PySem.W.mg_none_of X G n_list
  have mn_range := PySem.W.mg_none_of X G n_range
  have mn_isinstance := PySem.W.mg_none_of X G n_isinstance
  have mn_repr := PySem.W.mg_none_of X G n_repr
  have mn_enumerate := PySem.W.mg_none_of X G n_enumerate
  have mn_ValueError := PySem.W.mg_none_of X G n_ValueError
  have mn_KeyError := PySem.W.mg_none_of X G n_KeyError
  have mn_ArithmeticError := PySem.W.mg_none_of X G n_ArithmeticError
  have mn_IndexError := PySem.W.mg_none_of X G n_IndexError
  have mn_TypeError := PySem.W.mg_none_of X G n_TypeError
  have m_S := PySem.W.mg_of X G a_S
  have m_BI := PySem.W.mg_of X G a_BI
  have m_RF := PySem.W.mg_of X G a_RF
  have m_NA := PySem.W.mg_of X G a_NA
  have m_C0 := PySem.W.mg_of X G a_C0
  have m_C1 := PySem.W.mg_of X G a_C1
  have m_C2 := PySem.W.mg_of X G a_C2
  have m_C3 := PySem.W.mg_of X G a_C3
  have m_C4 := PySem.W.mg_of X G a_C4
  have m_C5 := PySem.W.mg_of X G a_C5
  have m_C6 := PySem.W.mg_of X G a_C6
  have m_C7 := PySem.W.mg_of X G a_C7
  have m_C8 := PySem.W.mg_of X G a_C8
  have m_C9 := PySem.W.mg_of X G a_C9
  have m_C10 := PySem.W.mg_of X G a_C10
  have m_C11 := PySem.W.mg_of X G a_C11
  have m_C12 := PySem.W.mg_of X G a_C12
  have m_C13 := PySem.W.mg_of X G a_C13
  have m_C14 := PySem.W.mg_of X G a_C14
  have m_C15 := PySem.W.mg_of X G a_C15
  have m_C16 := PySem.W.mg_of X G a_C16
  have m_C17 := PySem.W.mg_of X G a_C17
  have m_C18 := PySem.W.mg_of X G a_C18
  have m_C19 := PySem.W.mg_of X G a_C19
  have m_C20 := PySem.W.mg_of X G a_C20
  have m_C21 := PySem.W.mg_of X G a_C21
  have m_C22 := PySem.W.mg_of X G a_C22
  have m_C23 := PySem.W.mg_of X G a_C23
  have m_C24 := PySem.W.mg_of X G a_C24
  have m_C25 := PySem.W.mg_of X G a_C25
  have F_pen := fun_mk (st := s__law_pen) l_pen c_pen k_pen
  have b_pen := F_pen.binds (ps := ["_law_script"]) fun _ _ _ _ _ _ us hl => match us, hl with | [_], _ => rfl
  have m_pen := PySem.W.mg_of X G a_pen
  have F_draw := fun_mk (st := s__law_draw) l_draw c_draw k_draw
  have b_draw := F_draw.binds (ps := ["_law_pen_here", "_law_many"]) fun _ _ _ _ _ _ us hl => match us, hl with | [_, _], _ => rfl
  have m_draw := PySem.W.mg_of X G a_draw
  have F_pick := fun_mk (st := s__law_pick) l_pick c_pick k_pick
  have b_pick := F_pick.binds (ps := ["_law_pen_here", "_law_some"]) fun _ _ _ _ _ _ us hl => match us, hl with | [_, _], _ => rfl
  have m_pick := PySem.W.mg_of X G a_pick
  have F_thing := fun_mk (st := s__law_thing) l_thing c_thing k_thing
  have b_thing := F_thing.binds (ps := ["_law_pen_here"]) fun _ _ _ _ _ _ us hl => match us, hl with | [_], _ => rfl
  have m_thing := PySem.W.mg_of X G a_thing
  have F_inp := fun_mk (st := s__law_inputs) l_inp c_inp k_inp
  have b_inp := F_inp.binds (ps := ["_law_one", "_law_two"]) fun _ _ _ _ _ _ us hl => match us, hl with | [_, _], _ => rfl
  have m_inp := PySem.W.mg_of X G a_inp
  have F_oth := fun_mk (st := s__law_others) l_oth c_oth k_oth
  have b_oth := F_oth.binds (ps := ["_law_one", "_law_two"]) fun _ _ _ _ _ _ us hl => match us, hl with | [_, _], _ => rfl
  have m_oth := PySem.W.mg_of X G a_oth
  have F_kept := fun_mk (st := s__law_kept) l_kept c_kept k_kept
  have b_kept := F_kept.binds (ps := ["_law_kind", "_law_error"]) fun _ _ _ _ _ _ us hl => match us, hl with | [_, _], _ => rfl
  have m_kept := PySem.W.mg_of X G a_kept
  have F_cla := fun_mk (st := s__law_classes) l_cla c_cla k_cla
  have b_cla := F_cla.binds (ps := ["_law_error"]) fun _ _ _ _ _ _ us hl => match us, hl with | [_], _ => rfl
  have m_cla := PySem.W.mg_of X G a_cla
  have F_bas := fun_mk (st := s__law_bases) l_bas c_bas k_bas
  have b_bas := F_bas.binds (ps := ["_law_spot"]) fun _ _ _ _ _ _ us hl => match us, hl with | [_], _ => rfl
  have m_bas := PySem.W.mg_of X G a_bas
  have F_law := fun_mk (st := s_law) l_law c_law k_law
  have b_law := F_law.binds (ps := ["_law_script"]) fun _ _ _ _ _ _ us hl => match us, hl with | [_], _ => rfl
  have m_law := PySem.W.mg_of X G a_law
  obtain ⟨y1_0, y2_0, y3_0, y4_0, y5_0, y6_0, y7_0, y8_0, y9_0, y10_0⟩ := tabX_at tX 0 (by decide)
  have ox_C0 : OexC K C0 := ⟨⟨nm_C0, q_C0, N_C0, bs_C0, _, sn_C0, sub_C0, ab_C0, col_C0, dd_C0, m0_C0, m1_C0, m2_C0, m3_C0, m5_C0, xL_C0, by rfl⟩, y7_0, y3_0, y8_0, y9_0⟩
  have F_IC0 := fun_mk (st := s_BadName_init) l_IC0 c_IC0 k_IC0
  have b_IC0 := F_IC0.binds (ps := ["self", "value"]) fun _ _ _ _ _ _ us hl => match us, hl with | [_, _], _ => rfl
  have rx_C0 : RxC K mg "BadName" C0 f_IC0 := ⟨ox_C0, a_IC0, t_IC0, m_C0⟩
  have zE_C0 : ∀ base : Heap, Er1 l.prog w K mg base "BadName" C0 "value" := fun base => ⟨f_IC0, _, rx_C0, ok_init1 F_IC0 ox_C0 (y10_0 "value" (by decide)) sc_BadName_init ⟨_, _, _, _, rfl⟩, b_IC0, ⟨fun s us ws _ l1 l2 => match us, ws, l1, l2 with | [_], [_], _, _ => .of_eq rfl, fun r1 r2 => r1.append r2⟩⟩
  obtain ⟨y1_1, y2_1, y3_1, y4_1, y5_1, y6_1, y7_1, y8_1, y9_1, y10_1⟩ := tabX_at tX 1 (by decide)
  have ox_C1 : OexC K C1 := ⟨⟨nm_C1, q_C1, N_C1, bs_C1, _, sn_C1, sub_C1, ab_C1, col_C1, dd_C1, m0_C1, m1_C1, m2_C1, m3_C1, m5_C1, xL_C1, by rfl⟩, y7_1, y3_1, y8_1, y9_1⟩
  have F_IC1 := fun_mk (st := s_BadAmount_init) l_IC1 c_IC1 k_IC1
  have b_IC1 := F_IC1.binds (ps := ["self", "value"]) fun _ _ _ _ _ _ us hl => match us, hl with | [_, _], _ => rfl
  have rx_C1 : RxC K mg "BadAmount" C1 f_IC1 := ⟨ox_C1, a_IC1, t_IC1, m_C1⟩
  have zE_C1 : ∀ base : Heap, Er1 l.prog w K mg base "BadAmount" C1 "value" := fun base => ⟨f_IC1, _, rx_C1, ok_init1 F_IC1 ox_C1 (y10_1 "value" (by decide)) sc_BadAmount_init ⟨_, _, _, _, rfl⟩, b_IC1, ⟨fun s us ws _ l1 l2 => match us, ws, l1, l2 with | [_], [_], _, _ => .of_eq rfl, fun r1 r2 => r1.append r2⟩⟩
  obtain ⟨y1_2, y2_2, y3_2, y4_2, y5_2, y6_2, y7_2, y8_2, y9_2, y10_2⟩ := tabX_at tX 2 (by decide)
  have ox_C2 : OexC K C2 := ⟨⟨nm_C2, q_C2, N_C2, bs_C2, _, sn_C2, sub_C2, ab_C2, col_C2, dd_C2, m0_C2, m1_C2, m2_C2, m3_C2, m5_C2, xL_C2, by rfl⟩, y7_2, y3_2, y8_2, y9_2⟩
  have F_IC2 := fun_mk (st := s_BadDay_init) l_IC2 c_IC2 k_IC2
  have b_IC2 := F_IC2.binds (ps := ["self", "value"]) fun _ _ _ _ _ _ us hl => match us, hl with | [_, _], _ => rfl
  have rx_C2 : RxC K mg "BadDay" C2 f_IC2 := ⟨ox_C2, a_IC2, t_IC2, m_C2⟩
  have zE_C2 : ∀ base : Heap, Er1 l.prog w K mg base "BadDay" C2 "value" := fun base => ⟨f_IC2, _, rx_C2, ok_init1 F_IC2 ox_C2 (y10_2 "value" (by decide)) sc_BadDay_init ⟨_, _, _, _, rfl⟩, b_IC2, ⟨fun s us ws _ l1 l2 => match us, ws, l1, l2 with | [_], [_], _, _ => .of_eq rfl, fun r1 r2 => r1.append r2⟩⟩
  obtain ⟨y1_3, y2_3, y3_3, y4_3, y5_3, y6_3, y7_3, y8_3, y9_3, y10_3⟩ := tabX_at tX 3 (by decide)
  have ox_C3 : OexC K C3 := ⟨⟨nm_C3, q_C3, N_C3, bs_C3, _, sn_C3, sub_C3, ab_C3, col_C3, dd_C3, m0_C3, m1_C3, m2_C3, m3_C3, m5_C3, xL_C3, by rfl⟩, y7_3, y3_3, y8_3, y9_3⟩
  have F_IC3 := fun_mk (st := s_BadItem_init) l_IC3 c_IC3 k_IC3
  have b_IC3 := F_IC3.binds (ps := ["self", "part"]) fun _ _ _ _ _ _ us hl => match us, hl with | [_, _], _ => rfl
  have rx_C3 : RxC K mg "BadItem" C3 f_IC3 := ⟨ox_C3, a_IC3, t_IC3, m_C3⟩
  have zE_C3 : ∀ base : Heap, Er1 l.prog w K mg base "BadItem" C3 "part" := fun base => ⟨f_IC3, _, rx_C3, ok_init1 F_IC3 ox_C3 (y10_3 "part" (by decide)) sc_BadItem_init ⟨_, _, _, _, rfl⟩, b_IC3, ⟨fun s us ws _ l1 l2 => match us, ws, l1, l2 with | [_], [_], _, _ => .of_eq rfl, fun r1 r2 => r1.append r2⟩⟩
  obtain ⟨y1_4, y2_4, y3_4, y4_4, y5_4, y6_4, y7_4, y8_4, y9_4, y10_4⟩ := tabX_at tX 4 (by decide)
  have ox_C4 : OexC K C4 := ⟨⟨nm_C4, q_C4, N_C4, bs_C4, _, sn_C4, sub_C4, ab_C4, col_C4, dd_C4, m0_C4, m1_C4, m2_C4, m3_C4, m5_C4, xL_C4, by rfl⟩, y7_4, y3_4, y8_4, y9_4⟩
  have F_IC4 := fun_mk (st := s_BadOffice_init) l_IC4 c_IC4 k_IC4
  have b_IC4 := F_IC4.binds (ps := ["self", "part"]) fun _ _ _ _ _ _ us hl => match us, hl with | [_, _], _ => rfl
  have rx_C4 : RxC K mg "BadOffice" C4 f_IC4 := ⟨ox_C4, a_IC4, t_IC4, m_C4⟩
  have zE_C4 : ∀ base : Heap, Er1 l.prog w K mg base "BadOffice" C4 "part" := fun base => ⟨f_IC4, _, rx_C4, ok_init1 F_IC4 ox_C4 (y10_4 "part" (by decide)) sc_BadOffice_init ⟨_, _, _, _, rfl⟩, b_IC4, ⟨fun s us ws _ l1 l2 => match us, ws, l1, l2 with | [_], [_], _, _ => .of_eq rfl, fun r1 r2 => r1.append r2⟩⟩
  obtain ⟨y1_5, y2_5, y3_5, y4_5, y5_5, y6_5, y7_5, y8_5, y9_5, y10_5⟩ := tabX_at tX 5 (by decide)
  have ox_C5 : OexC K C5 := ⟨⟨nm_C5, q_C5, N_C5, bs_C5, _, sn_C5, sub_C5, ab_C5, col_C5, dd_C5, m0_C5, m1_C5, m2_C5, m3_C5, m5_C5, xL_C5, by rfl⟩, y7_5, y3_5, y8_5, y9_5⟩
  have F_IC5 := fun_mk (st := s_BadGaps_init) l_IC5 c_IC5 k_IC5
  have b_IC5 := F_IC5.binds (ps := ["self", "value"]) fun _ _ _ _ _ _ us hl => match us, hl with | [_, _], _ => rfl
  have rx_C5 : RxC K mg "BadGaps" C5 f_IC5 := ⟨ox_C5, a_IC5, t_IC5, m_C5⟩
  have zE_C5 : ∀ base : Heap, Er1 l.prog w K mg base "BadGaps" C5 "value" := fun base => ⟨f_IC5, _, rx_C5, ok_init1 F_IC5 ox_C5 (y10_5 "value" (by decide)) sc_BadGaps_init ⟨_, _, _, _, rfl⟩, b_IC5, ⟨fun s us ws _ l1 l2 => match us, ws, l1, l2 with | [_], [_], _, _ => .of_eq rfl, fun r1 r2 => r1.append r2⟩⟩
  obtain ⟨y1_6, y2_6, y3_6, y4_6, y5_6, y6_6, y7_6, y8_6, y9_6, y10_6⟩ := tabX_at tX 6 (by decide)
  have ox_C6 : OexC K C6 := ⟨⟨nm_C6, q_C6, N_C6, bs_C6, _, sn_C6, sub_C6, ab_C6, col_C6, dd_C6, m0_C6, m1_C6, m2_C6, m3_C6, m5_C6, xL_C6, by rfl⟩, y7_6, y3_6, y8_6, y9_6⟩
  have F_IC6 := fun_mk (st := s_BadRow_init) l_IC6 c_IC6 k_IC6
  have b_IC6 := F_IC6.binds (ps := ["self", "part"]) fun _ _ _ _ _ _ us hl => match us, hl with | [_, _], _ => rfl
  have rx_C6 : RxC K mg "BadRow" C6 f_IC6 := ⟨ox_C6, a_IC6, t_IC6, m_C6⟩
  have zE_C6 : ∀ base : Heap, Er1 l.prog w K mg base "BadRow" C6 "part" := fun base => ⟨f_IC6, _, rx_C6, ok_init1 F_IC6 ox_C6 (y10_6 "part" (by decide)) sc_BadRow_init ⟨_, _, _, _, rfl⟩, b_IC6, ⟨fun s us ws _ l1 l2 => match us, ws, l1, l2 with | [_], [_], _, _ => .of_eq rfl, fun r1 r2 => r1.append r2⟩⟩
  obtain ⟨y1_7, y2_7, y3_7, y4_7, y5_7, y6_7, y7_7, y8_7, y9_7, y10_7⟩ := tabX_at tX 7 (by decide)
  have ox_C7 : OexC K C7 := ⟨⟨nm_C7, q_C7, N_C7, bs_C7, _, sn_C7, sub_C7, ab_C7, col_C7, dd_C7, m0_C7, m1_C7, m2_C7, m3_C7, m5_C7, xL_C7, by rfl⟩, y7_7, y3_7, y8_7, y9_7⟩
  have F_IC7 := fun_mk (st := s_BadBound_init) l_IC7 c_IC7 k_IC7
  have b_IC7 := F_IC7.binds (ps := ["self", "value"]) fun _ _ _ _ _ _ us hl => match us, hl with | [_, _], _ => rfl
  have rx_C7 : RxC K mg "BadBound" C7 f_IC7 := ⟨ox_C7, a_IC7, t_IC7, m_C7⟩
  have zE_C7 : ∀ base : Heap, Er1 l.prog w K mg base "BadBound" C7 "value" := fun base => ⟨f_IC7, _, rx_C7, ok_init1 F_IC7 ox_C7 (y10_7 "value" (by decide)) sc_BadBound_init ⟨_, _, _, _, rfl⟩, b_IC7, ⟨fun s us ws _ l1 l2 => match us, ws, l1, l2 with | [_], [_], _, _ => .of_eq rfl, fun r1 r2 => r1.append r2⟩⟩
  obtain ⟨y1_8, y2_8, y3_8, y4_8, y5_8, y6_8, y7_8, y8_8, y9_8, y10_8⟩ := tabX_at tX 8 (by decide)
  have ox_C8 : OexC K C8 := ⟨⟨nm_C8, q_C8, N_C8, bs_C8, _, sn_C8, sub_C8, ab_C8, col_C8, dd_C8, m0_C8, m1_C8, m2_C8, m3_C8, m5_C8, xL_C8, by rfl⟩, y7_8, y3_8, y8_8, y9_8⟩
  have F_IC8 := fun_mk (st := s_BadLook_init) l_IC8 c_IC8 k_IC8
  have b_IC8 := F_IC8.binds (ps := ["self", "at"]) fun _ _ _ _ _ _ us hl => match us, hl with | [_, _], _ => rfl
  have rx_C8 : RxC K mg "BadLook" C8 f_IC8 := ⟨ox_C8, a_IC8, t_IC8, m_C8⟩
  have zE_C8 : ∀ base : Heap, Er1 l.prog w K mg base "BadLook" C8 "at" := fun base => ⟨f_IC8, _, rx_C8, ok_init1 F_IC8 ox_C8 (y10_8 "at" (by decide)) sc_BadLook_init ⟨_, _, _, _, rfl⟩, b_IC8, ⟨fun s us ws _ l1 l2 => match us, ws, l1, l2 with | [_], [_], _, _ => .of_eq rfl, fun r1 r2 => r1.append r2⟩⟩
  obtain ⟨y1_9, y2_9, y3_9, y4_9, y5_9, y6_9, y7_9, y8_9, y9_9, y10_9⟩ := tabX_at tX 9 (by decide)
  have ox_C9 : OexC K C9 := ⟨⟨nm_C9, q_C9, N_C9, bs_C9, _, sn_C9, sub_C9, ab_C9, col_C9, dd_C9, m0_C9, m1_C9, m2_C9, m3_C9, m5_C9, xL_C9, by rfl⟩, y7_9, y3_9, y8_9, y9_9⟩
  have F_IC9 := fun_mk (st := s_BadMenu_init) l_IC9 c_IC9 k_IC9
  have b_IC9 := F_IC9.binds (ps := ["self", "at"]) fun _ _ _ _ _ _ us hl => match us, hl with | [_, _], _ => rfl
  have rx_C9 : RxC K mg "BadMenu" C9 f_IC9 := ⟨ox_C9, a_IC9, t_IC9, m_C9⟩
  have zE_C9 : ∀ base : Heap, Er1 l.prog w K mg base "BadMenu" C9 "at" := fun base => ⟨f_IC9, _, rx_C9, ok_init1 F_IC9 ox_C9 (y10_9 "at" (by decide)) sc_BadMenu_init ⟨_, _, _, _, rfl⟩, b_IC9, ⟨fun s us ws _ l1 l2 => match us, ws, l1, l2 with | [_], [_], _, _ => .of_eq rfl, fun r1 r2 => r1.append r2⟩⟩
  obtain ⟨y1_10, y2_10, y3_10, y4_10, y5_10, y6_10, y7_10, y8_10, y9_10, y10_10⟩ := tabX_at tX 10 (by decide)
  have ox_C10 : OexC K C10 := ⟨⟨nm_C10, q_C10, N_C10, bs_C10, _, sn_C10, sub_C10, ab_C10, col_C10, dd_C10, m0_C10, m1_C10, m2_C10, m3_C10, m5_C10, xL_C10, by rfl⟩, y7_10, y3_10, y8_10, y9_10⟩
  have F_IC10 := fun_mk (st := s_BadText_init) l_IC10 c_IC10 k_IC10
  have b_IC10 := F_IC10.binds (ps := ["self", "line", "word"]) fun _ _ _ _ _ _ us hl => match us, hl with | [_, _, _], _ => rfl
  have rx_C10 : RxC K mg "BadText" C10 f_IC10 := ⟨ox_C10, a_IC10, t_IC10, m_C10⟩
  have zE_C10 : ∀ base : Heap, Er2 l.prog w K mg base "BadText" C10 "line" "word" := fun base => ⟨f_IC10, _, rx_C10, ok_init2 F_IC10 ox_C10 (y10_10 "line" (by decide)) (y10_10 "word" (by decide)) sc_BadText_init ⟨_, _, _, _, _, _, _, _, rfl⟩, b_IC10, ⟨fun s us ws _ l1 l2 => match us, ws, l1, l2 with | [_], [_, _], _, _ => .of_eq rfl, fun r1 r2 => r1.append (sw_vals r2)⟩⟩
  obtain ⟨y1_11, y2_11, y3_11, y4_11, y5_11, y6_11, y7_11, y8_11, y9_11, y10_11⟩ := tabX_at tX 11 (by decide)
  have ox_C11 : OexC K C11 := ⟨⟨nm_C11, q_C11, N_C11, bs_C11, _, sn_C11, sub_C11, ab_C11, col_C11, dd_C11, m0_C11, m1_C11, m2_C11, m3_C11, m5_C11, xL_C11, by rfl⟩, y7_11, y3_11, y8_11, y9_11⟩
  have F_IC11 := fun_mk (st := s_BadLine_init) l_IC11 c_IC11 k_IC11
  have b_IC11 := F_IC11.binds (ps := ["self", "word"]) fun _ _ _ _ _ _ us hl => match us, hl with | [_, _], _ => rfl
  have rx_C11 : RxC K mg "BadLine" C11 f_IC11 := ⟨ox_C11, a_IC11, t_IC11, m_C11⟩
  have zE_C11 : ∀ base : Heap, Er1 l.prog w K mg base "BadLine" C11 "word" := fun base => ⟨f_IC11, _, rx_C11, ok_init1 F_IC11 ox_C11 (y10_11 "word" (by decide)) sc_BadLine_init ⟨_, _, _, _, rfl⟩, b_IC11, ⟨fun s us ws _ l1 l2 => match us, ws, l1, l2 with | [_], [_], _, _ => .of_eq rfl, fun r1 r2 => r1.append r2⟩⟩
  obtain ⟨y1_12, y2_12, y3_12, y4_12, y5_12, y6_12, y7_12, y8_12, y9_12, y10_12⟩ := tabX_at tX 12 (by decide)
  have ox_C12 : OexC K C12 := ⟨⟨nm_C12, q_C12, N_C12, bs_C12, _, sn_C12, sub_C12, ab_C12, col_C12, dd_C12, m0_C12, m1_C12, m2_C12, m3_C12, m5_C12, xL_C12, by rfl⟩, y7_12, y3_12, y8_12, y9_12⟩
  have F_IC12 := fun_mk (st := s_NoAccount_init) l_IC12 c_IC12 k_IC12
  have b_IC12 := F_IC12.binds (ps := ["self", "name"]) fun _ _ _ _ _ _ us hl => match us, hl with | [_, _], _ => rfl
  have rx_C12 : RxC K mg "NoAccount" C12 f_IC12 := ⟨ox_C12, a_IC12, t_IC12, m_C12⟩
  have zE_C12 : ∀ base : Heap, Er1 l.prog w K mg base "NoAccount" C12 "name" := fun base => ⟨f_IC12, _, rx_C12, ok_init1 F_IC12 ox_C12 (y10_12 "name" (by decide)) sc_NoAccount_init ⟨_, _, _, _, rfl⟩, b_IC12, ⟨fun s us ws _ l1 l2 => match us, ws, l1, l2 with | [_], [_], _, _ => .of_eq rfl, fun r1 r2 => r1.append r2⟩⟩
  obtain ⟨y1_13, y2_13, y3_13, y4_13, y5_13, y6_13, y7_13, y8_13, y9_13, y10_13⟩ := tabX_at tX 13 (by decide)
  have ox_C13 : OexC K C13 := ⟨⟨nm_C13, q_C13, N_C13, bs_C13, _, sn_C13, sub_C13, ab_C13, col_C13, dd_C13, m0_C13, m1_C13, m2_C13, m3_C13, m5_C13, xL_C13, by rfl⟩, y7_13, y3_13, y8_13, y9_13⟩
  have F_IC13 := fun_mk (st := s_NoItem_init) l_IC13 c_IC13 k_IC13
  have b_IC13 := F_IC13.binds (ps := ["self", "name"]) fun _ _ _ _ _ _ us hl => match us, hl with | [_, _], _ => rfl
  have rx_C13 : RxC K mg "NoItem" C13 f_IC13 := ⟨ox_C13, a_IC13, t_IC13, m_C13⟩
  have zE_C13 : ∀ base : Heap, Er1 l.prog w K mg base "NoItem" C13 "name" := fun base => ⟨f_IC13, _, rx_C13, ok_init1 F_IC13 ox_C13 (y10_13 "name" (by decide)) sc_NoItem_init ⟨_, _, _, _, rfl⟩, b_IC13, ⟨fun s us ws _ l1 l2 => match us, ws, l1, l2 with | [_], [_], _, _ => .of_eq rfl, fun r1 r2 => r1.append r2⟩⟩
  obtain ⟨y1_14, y2_14, y3_14, y4_14, y5_14, y6_14, y7_14, y8_14, y9_14, y10_14⟩ := tabX_at tX 14 (by decide)
  have ox_C14 : OexC K C14 := ⟨⟨nm_C14, q_C14, N_C14, bs_C14, _, sn_C14, sub_C14, ab_C14, col_C14, dd_C14, m0_C14, m1_C14, m2_C14, m3_C14, m5_C14, xL_C14, by rfl⟩, y7_14, y3_14, y8_14, y9_14⟩
  have F_IC14 := fun_mk (st := s_NoKind_init) l_IC14 c_IC14 k_IC14
  have b_IC14 := F_IC14.binds (ps := ["self", "name"]) fun _ _ _ _ _ _ us hl => match us, hl with | [_, _], _ => rfl
  have rx_C14 : RxC K mg "NoKind" C14 f_IC14 := ⟨ox_C14, a_IC14, t_IC14, m_C14⟩
  have zE_C14 : ∀ base : Heap, Er1 l.prog w K mg base "NoKind" C14 "name" := fun base => ⟨f_IC14, _, rx_C14, ok_init1 F_IC14 ox_C14 (y10_14 "name" (by decide)) sc_NoKind_init ⟨_, _, _, _, rfl⟩, b_IC14, ⟨fun s us ws _ l1 l2 => match us, ws, l1, l2 with | [_], [_], _, _ => .of_eq rfl, fun r1 r2 => r1.append r2⟩⟩
  obtain ⟨y1_15, y2_15, y3_15, y4_15, y5_15, y6_15, y7_15, y8_15, y9_15, y10_15⟩ := tabX_at tX 15 (by decide)
  have ox_C15 : OexC K C15 := ⟨⟨nm_C15, q_C15, N_C15, bs_C15, _, sn_C15, sub_C15, ab_C15, col_C15, dd_C15, m0_C15, m1_C15, m2_C15, m3_C15, m5_C15, xL_C15, by rfl⟩, y7_15, y3_15, y8_15, y9_15⟩
  have F_IC15 := fun_mk (st := s_NoCheck_init) l_IC15 c_IC15 k_IC15
  have b_IC15 := F_IC15.binds (ps := ["self", "name"]) fun _ _ _ _ _ _ us hl => match us, hl with | [_, _], _ => rfl
  have rx_C15 : RxC K mg "NoCheck" C15 f_IC15 := ⟨ox_C15, a_IC15, t_IC15, m_C15⟩
  have zE_C15 : ∀ base : Heap, Er1 l.prog w K mg base "NoCheck" C15 "name" := fun base => ⟨f_IC15, _, rx_C15, ok_init1 F_IC15 ox_C15 (y10_15 "name" (by decide)) sc_NoCheck_init ⟨_, _, _, _, rfl⟩, b_IC15, ⟨fun s us ws _ l1 l2 => match us, ws, l1, l2 with | [_], [_], _, _ => .of_eq rfl, fun r1 r2 => r1.append r2⟩⟩
  obtain ⟨y1_16, y2_16, y3_16, y4_16, y5_16, y6_16, y7_16, y8_16, y9_16, y10_16⟩ := tabX_at tX 16 (by decide)
  have ox_C16 : OexC K C16 := ⟨⟨nm_C16, q_C16, N_C16, bs_C16, _, sn_C16, sub_C16, ab_C16, col_C16, dd_C16, m0_C16, m1_C16, m2_C16, m3_C16, m5_C16, xL_C16, by rfl⟩, y7_16, y3_16, y8_16, y9_16⟩
  have F_IC16 := fun_mk (st := s_InUse_init) l_IC16 c_IC16 k_IC16
  have b_IC16 := F_IC16.binds (ps := ["self", "day"]) fun _ _ _ _ _ _ us hl => match us, hl with | [_, _], _ => rfl
  have rx_C16 : RxC K mg "InUse" C16 f_IC16 := ⟨ox_C16, a_IC16, t_IC16, m_C16⟩
  have zE_C16 : ∀ base : Heap, Er1 l.prog w K mg base "InUse" C16 "day" := fun base => ⟨f_IC16, _, rx_C16, ok_init1 F_IC16 ox_C16 (y10_16 "day" (by decide)) sc_InUse_init ⟨_, _, _, _, rfl⟩, b_IC16, ⟨fun s us ws _ l1 l2 => match us, ws, l1, l2 with | [_], [_], _, _ => .of_eq rfl, fun r1 r2 => r1.append r2⟩⟩
  obtain ⟨y1_17, y2_17, y3_17, y4_17, y5_17, y6_17, y7_17, y8_17, y9_17, y10_17⟩ := tabX_at tX 17 (by decide)
  have ox_C17 : OexC K C17 := ⟨⟨nm_C17, q_C17, N_C17, bs_C17, _, sn_C17, sub_C17, ab_C17, col_C17, dd_C17, m0_C17, m1_C17, m2_C17, m3_C17, m5_C17, xL_C17, by rfl⟩, y7_17, y3_17, y8_17, y9_17⟩
  have F_IC17 := fun_mk (st := s_Clash_init) l_IC17 c_IC17 k_IC17
  have b_IC17 := F_IC17.binds (ps := ["self", "name"]) fun _ _ _ _ _ _ us hl => match us, hl with | [_, _], _ => rfl
  have rx_C17 : RxC K mg "Clash" C17 f_IC17 := ⟨ox_C17, a_IC17, t_IC17, m_C17⟩
  have zE_C17 : ∀ base : Heap, Er1 l.prog w K mg base "Clash" C17 "name" := fun base => ⟨f_IC17, _, rx_C17, ok_init1 F_IC17 ox_C17 (y10_17 "name" (by decide)) sc_Clash_init ⟨_, _, _, _, rfl⟩, b_IC17, ⟨fun s us ws _ l1 l2 => match us, ws, l1, l2 with | [_], [_], _, _ => .of_eq rfl, fun r1 r2 => r1.append r2⟩⟩
  obtain ⟨y1_18, y2_18, y3_18, y4_18, y5_18, y6_18, y7_18, y8_18, y9_18, y10_18⟩ := tabX_at tX 18 (by decide)
  have ox_C18 : OexC K C18 := ⟨⟨nm_C18, q_C18, N_C18, bs_C18, _, sn_C18, sub_C18, ab_C18, col_C18, dd_C18, m0_C18, m1_C18, m2_C18, m3_C18, m5_C18, xL_C18, by rfl⟩, y7_18, y3_18, y8_18, y9_18⟩
  have F_IC18 := fun_mk (st := s_Unlike_init) l_IC18 c_IC18 k_IC18
  have b_IC18 := F_IC18.binds (ps := ["self", "part"]) fun _ _ _ _ _ _ us hl => match us, hl with | [_, _], _ => rfl
  have rx_C18 : RxC K mg "Unlike" C18 f_IC18 := ⟨ox_C18, a_IC18, t_IC18, m_C18⟩
  have zE_C18 : ∀ base : Heap, Er1 l.prog w K mg base "Unlike" C18 "part" := fun base => ⟨f_IC18, _, rx_C18, ok_init1 F_IC18 ox_C18 (y10_18 "part" (by decide)) sc_Unlike_init ⟨_, _, _, _, rfl⟩, b_IC18, ⟨fun s us ws _ l1 l2 => match us, ws, l1, l2 with | [_], [_], _, _ => .of_eq rfl, fun r1 r2 => r1.append r2⟩⟩
  obtain ⟨y1_19, y2_19, y3_19, y4_19, y5_19, y6_19, y7_19, y8_19, y9_19, y10_19⟩ := tabX_at tX 19 (by decide)
  have ox_C19 : OexC K C19 := ⟨⟨nm_C19, q_C19, N_C19, bs_C19, _, sn_C19, sub_C19, ab_C19, col_C19, dd_C19, m0_C19, m1_C19, m2_C19, m3_C19, m5_C19, xL_C19, by rfl⟩, y7_19, y3_19, y8_19, y9_19⟩
  have F_IC19 := fun_mk (st := s_Seen_init) l_IC19 c_IC19 k_IC19
  have b_IC19 := F_IC19.binds (ps := ["self", "day"]) fun _ _ _ _ _ _ us hl => match us, hl with | [_, _], _ => rfl
  have rx_C19 : RxC K mg "Seen" C19 f_IC19 := ⟨ox_C19, a_IC19, t_IC19, m_C19⟩
  have zE_C19 : ∀ base : Heap, Er1 l.prog w K mg base "Seen" C19 "day" := fun base => ⟨f_IC19, _, rx_C19, ok_init1 F_IC19 ox_C19 (y10_19 "day" (by decide)) sc_Seen_init ⟨_, _, _, _, rfl⟩, b_IC19, ⟨fun s us ws _ l1 l2 => match us, ws, l1, l2 with | [_], [_], _, _ => .of_eq rfl, fun r1 r2 => r1.append r2⟩⟩
  obtain ⟨y1_20, y2_20, y3_20, y4_20, y5_20, y6_20, y7_20, y8_20, y9_20, y10_20⟩ := tabX_at tX 20 (by decide)
  have ox_C20 : OexC K C20 := ⟨⟨nm_C20, q_C20, N_C20, bs_C20, _, sn_C20, sub_C20, ab_C20, col_C20, dd_C20, m0_C20, m1_C20, m2_C20, m3_C20, m5_C20, xL_C20, by rfl⟩, y7_20, y3_20, y8_20, y9_20⟩
  have F_IC20 := fun_mk (st := s_TooMany_init) l_IC20 c_IC20 k_IC20
  have b_IC20 := F_IC20.binds (ps := ["self", "what", "most"]) fun _ _ _ _ _ _ us hl => match us, hl with | [_, _, _], _ => rfl
  have rx_C20 : RxC K mg "TooMany" C20 f_IC20 := ⟨ox_C20, a_IC20, t_IC20, m_C20⟩
  have zE_C20 : ∀ base : Heap, Er2 l.prog w K mg base "TooMany" C20 "what" "most" := fun base => ⟨f_IC20, _, rx_C20, ok_init2 F_IC20 ox_C20 (y10_20 "what" (by decide)) (y10_20 "most" (by decide)) sc_TooMany_init ⟨_, _, _, _, _, _, _, _, rfl⟩, b_IC20, ⟨fun s us ws _ l1 l2 => match us, ws, l1, l2 with | [_], [_, _], _, _ => .of_eq rfl, fun r1 r2 => r1.append (sw_vals r2)⟩⟩
  obtain ⟨y1_25, y2_25, y3_25, y4_25, y5_25, y6_25, y7_25, y8_25, y9_25, y10_25⟩ := tabX_at tX 25 (by decide)
  have ox_C25 : OexC K C25 := ⟨⟨nm_C25, q_C25, N_C25, bs_C25, _, sn_C25, sub_C25, ab_C25, col_C25, dd_C25, m0_C25, m1_C25, m2_C25, m3_C25, m5_C25, xL_C25, by rfl⟩, y7_25, y3_25, y8_25, y9_25⟩
  have F_IC25 := fun_mk (st := s_Looked_init) l_IC25 c_IC25 k_IC25
  have b_IC25 := F_IC25.binds (ps := ["self", "check", "amount"]) fun _ _ _ _ _ _ us hl => match us, hl with | [_, _, _], _ => rfl
  have rx_C25 : RxC K mg "Looked" C25 f_IC25 := ⟨ox_C25, a_IC25, t_IC25, m_C25⟩
  have zE_C25 : ∀ base : Heap, Er2 l.prog w K mg base "Looked" C25 "check" "amount" := fun base => ⟨f_IC25, _, rx_C25, ok_init2 F_IC25 ox_C25 (y10_25 "check" (by decide)) (y10_25 "amount" (by decide)) sc_Looked_init ⟨_, _, _, _, _, _, _, _, rfl⟩, b_IC25, ⟨fun s us ws _ l1 l2 => match us, ws, l1, l2 with | [_], [_, _], _, _ => .of_eq rfl, fun r1 r2 => r1.append (sw_vals r2)⟩⟩
  refine ⟨PySem.W.fnOf "law" "law" (defArgs s_law) (defBody s_law) (defScope s_law) .none kV_law dc_law pm_law an_law cd_law ct_law, fun s v => .of_eq rfl, fun base _ _ => ?_⟩
  have T : Txt K mg := ⟨mn_int, mn_len, mn_abs, mn_list, mn_range, mn_isinstance, mn_repr, mn_enumerate, mn_ValueError, mn_KeyError, mn_ArithmeticError, mn_IndexError, mn_TypeError⟩
  have U : TxE l.prog w K mg base (fun i => ([C0, C1, C2, C3, C4, C5, C6, C7, C8, C9, C10, C11, C12, C13, C14, C15, C16, C17, C18, C19, C20, C21, C22, C23, C24, C25] : List Addr).getD i 0) S BI RF NA := ⟨m_C0, m_C1, m_C2, m_C3, m_C4, m_C5, m_C6, m_C7, m_C8, m_C9, m_C10, m_C11, m_C12, m_C13, m_C14, m_C15, m_C16, m_C17, m_C18, m_C19, m_C20, m_C21, m_C22, m_C23, m_C24, m_C25, m_S, m_BI, m_RF, m_NA, zE_C0 base, zE_C1 base, zE_C2 base, zE_C3 base, zE_C4 base, zE_C5 base, zE_C6 base, zE_C7 base, zE_C8 base, zE_C9 base, zE_C10 base, zE_C11 base, zE_C12 base, zE_C13 base, zE_C14 base, zE_C15 base, zE_C16 base, zE_C17 base, zE_C18 base, zE_C19 base, zE_C20 base, x_C21, (tabX_at tX 21 (by decide)).2.2.2.2.2.2.2.2.1, x_C22, (tabX_at tX 22 (by decide)).2.2.2.2.2.2.2.2.1, x_C23, (tabX_at tX 23 (by decide)).2.2.2.2.2.2.2.2.1, x_C24, (tabX_at tX 24 (by decide)).2.2.2.2.2.2.2.2.1, zE_C25 base, fun i hi => let t := tabX_at tX i hi; ⟨t.1, t.2.1, t.2.2.1, t.2.2.2.1, t.2.2.2.2.1, hn, ht, t.2.2.2.2.2.1⟩, fun i hi => (tabX_at tX i hi).2.2.2.2.2.2.2.2.2, fun i j hi hj => (tabT_at tT i hi).1 j hj, fun i hi => (tabT_at tT i hi).2.1, fun i hi => (tabT_at tT i hi).2.2.1, fun i hi => (tabT_at tT i hi).2.2.2.1, fun i hi => (tabT_at tT i hi).2.2.2.2.1, fun i hi => (tabT_at tT i hi).2.2.2.2.2.1, fun i hi => (tabT_at tT i hi).2.2.2.2.2.2.1, fun i hi => (tabT_at tT i hi).2.2.2.2.2.2.2.1, fun i hi => (tabT_at tT i hi).2.2.2.2.2.2.2.2.1, fun i hi => (tabT_at tT i hi).2.2.2.2.2.2.2.2.2⟩
  have cPn : CalO l.prog w K mg base "_law_pen" 1 ["_law_script"] (spPen K) (fun _ => True) := ⟨_, _, ok_pen F_pen T, m_pen, k_pen, b_pen, trivial⟩
  have cD : CalO l.prog w K mg base "_law_draw" 1 ["_law_pen_here", "_law_many"] spDraw (fun _ => True) := ⟨_, _, ok_draw F_draw T, m_draw, k_draw, b_draw, trivial⟩
  have cP : CalO l.prog w K mg base "_law_pick" 2 ["_law_pen_here", "_law_some"] (spPick K) (fun _ => True) := ⟨_, _, ok_pick F_pick T cD, m_pick, k_pick, b_pick, trivial⟩
  have cT : CalO l.prog w K mg base "_law_thing" 3 ["_law_pen_here"] spThing (fun _ => True) := ⟨_, _, ok_thing F_thing T cD cP, m_thing, k_thing, b_thing, trivial⟩
  have cI : CalO l.prog w K mg base "_law_inputs" 3 ["_law_one", "_law_two"] (spIn (fun i => ([C0, C1, C2, C3, C4, C5, C6, C7, C8, C9, C10, C11, C12, C13, C14, C15, C16, C17, C18, C19, C20, C21, C22, C23, C24, C25] : List Addr).getD i 0)) (fun _ => True) := ⟨_, _, ok_spIn F_inp T U, m_inp, k_inp, b_inp, trivial⟩
  have cO : CalO l.prog w K mg base "_law_others" 3 ["_law_one", "_law_two"] (spOt (fun i => ([C0, C1, C2, C3, C4, C5, C6, C7, C8, C9, C10, C11, C12, C13, C14, C15, C16, C17, C18, C19, C20, C21, C22, C23, C24, C25] : List Addr).getD i 0)) (fun _ => True) := ⟨_, _, ok_spOt F_oth T U, m_oth, k_oth, b_oth, trivial⟩
  have cK : CalO l.prog w K mg base "_law_kept" 1 ["_law_kind", "_law_error"] (spKept (fun i => ([C0, C1, C2, C3, C4, C5, C6, C7, C8, C9, C10, C11, C12, C13, C14, C15, C16, C17, C18, C19, C20, C21, C22, C23, C24, C25] : List Addr).getD i 0)) (fun _ => True) := ⟨_, _, ok_kept F_kept T U, m_kept, k_kept, b_kept, trivial⟩
  have cC : CalO l.prog w K mg base "_law_classes" 1 ["_law_error"] (spClasses (fun i => ([C0, C1, C2, C3, C4, C5, C6, C7, C8, C9, C10, C11, C12, C13, C14, C15, C16, C17, C18, C19, C20, C21, C22, C23, C24, C25] : List Addr).getD i 0)) (fun _ => True) := ⟨_, _, ok_classes F_cla T U, m_cla, k_cla, b_cla, trivial⟩
  have cB : CalO l.prog w K mg base "_law_bases" 1 ["_law_spot"] spBases (fun _ => True) := ⟨_, _, ok_bases F_bas T, m_bas, k_bas, b_bas, trivial⟩
  exact ok_law F_law T U cPn cT cI cO cK cC cB
theorem sp_law_of (K : PySem.W.Frag) (H : Hp) (a : Addr) (ns : List Int) (hl : ns.length ≤ 63) (ho : Only H) (h : SqL K H a (ns.map V.int)) : spLaw K [.ref a] H (fun v _ => v = .bl true) fun _ _ _ => False := ⟨a, ns, rfl, h, fun _ => rfl⟩
end LW
open HX
open PySem PySem.W PyProof.Rows
set_option maxRecDepth 100000 in
set_option maxHeartbeats 0 in
theorem PySem.Challenge.cw_holeshift_k01_errors_kept_holds : PySem.Challenge.rw_holeshift_k01_errors_kept.Holds := by
  w_on; o_law; k_head; (case hw => w_witness2)
  k_fill
  refine walkG (l := PySem.Challenge.rw_holeshift_k01_errors_kept) (n := 63) (k := 4) (x := "_law_script") (sp := LW.spLaw) rfl (by decide) rfl ⟨rfl, by decide, by decide⟩ (fun w h Y => PySem.W.kIn_of Y) ?F (fun K H a ns hl ho h => LW.sp_law_of K H a ns hl ho h)
  case F =>
    intro w mg fa h KX G hmg
    refine' LW.all_mk KX G hmg ?n_int ?n_len ?n_abs ?n_list ?n_range ?n_isinstance ?n_repr ?n_enumerate ?n_ValueError ?n_KeyError ?n_ArithmeticError ?n_IndexError ?n_TypeError ?a_S ?a_BI ?a_RF ?a_NA ?a_C0 ?xL_C0 ?a_IC0 ?t_IC0 ?l_IC0 ?c_IC0 ?k_IC0 ?a_C1 ?xL_C1 ?a_IC1 ?t_IC1 ?l_IC1 ?c_IC1 ?k_IC1 ?a_C2 ?xL_C2 ?a_IC2 ?t_IC2 ?l_IC2 ?c_IC2 ?k_IC2 ?a_C3 ?xL_C3 ?a_IC3 ?t_IC3 ?l_IC3 ?c_IC3 ?k_IC3 ?a_C4 ?xL_C4 ?a_IC4 ?t_IC4 ?l_IC4 ?c_IC4 ?k_IC4 ?a_C5 ?xL_C5 ?a_IC5 ?t_IC5 ?l_IC5 ?c_IC5 ?k_IC5 ?a_C6 ?xL_C6 ?a_IC6 ?t_IC6 ?l_IC6 ?c_IC6 ?k_IC6 ?a_C7 ?xL_C7 ?a_IC7 ?t_IC7 ?l_IC7 ?c_IC7 ?k_IC7 ?a_C8 ?xL_C8 ?a_IC8 ?t_IC8 ?l_IC8 ?c_IC8 ?k_IC8 ?a_C9 ?xL_C9 ?a_IC9 ?t_IC9 ?l_IC9 ?c_IC9 ?k_IC9 ?a_C10 ?xL_C10 ?a_IC10 ?t_IC10 ?l_IC10 ?c_IC10 ?k_IC10 ?a_C11 ?xL_C11 ?a_IC11 ?t_IC11 ?l_IC11 ?c_IC11 ?k_IC11 ?a_C12 ?xL_C12 ?a_IC12 ?t_IC12 ?l_IC12 ?c_IC12 ?k_IC12 ?a_C13 ?xL_C13 ?a_IC13 ?t_IC13 ?l_IC13 ?c_IC13 ?k_IC13 ?a_C14 ?xL_C14 ?a_IC14 ?t_IC14 ?l_IC14 ?c_IC14 ?k_IC14 ?a_C15 ?xL_C15 ?a_IC15 ?t_IC15 ?l_IC15 ?c_IC15 ?k_IC15 ?a_C16 ?xL_C16 ?a_IC16 ?t_IC16 ?l_IC16 ?c_IC16 ?k_IC16 ?a_C17 ?xL_C17 ?a_IC17 ?t_IC17 ?l_IC17 ?c_IC17 ?k_IC17 ?a_C18 ?xL_C18 ?a_IC18 ?t_IC18 ?l_IC18 ?c_IC18 ?k_IC18 ?a_C19 ?xL_C19 ?a_IC19 ?t_IC19 ?l_IC19 ?c_IC19 ?k_IC19 ?a_C20 ?xL_C20 ?a_IC20 ?t_IC20 ?l_IC20 ?c_IC20 ?k_IC20 ?a_C21 ?x_C21 ?a_C22 ?x_C22 ?a_C23 ?x_C23 ?a_C24 ?x_C24 ?a_C25 ?xL_C25 ?a_IC25 ?t_IC25 ?l_IC25 ?c_IC25 ?k_IC25 ?hn ?ht ?tX ?tT ?a_pen ?l_pen ?c_pen ?k_pen ?a_draw ?l_draw ?c_draw ?k_draw ?a_pick ?l_pick ?c_pick ?k_pick ?a_thing ?l_thing ?c_thing ?k_thing ?a_inp ?l_inp ?c_inp ?k_inp ?a_oth ?l_oth ?c_oth ?k_oth ?a_kept ?l_kept ?c_kept ?k_kept ?a_cla ?l_cla ?c_cla ?k_cla ?a_bas ?l_bas ?c_bas ?k_bas ?a_law ?l_law ?c_law ?k_law
    (case n_int => k_is)
    (case n_len => k_is)
    (case n_abs => k_is)
    (case n_list => k_is)
    (case n_range => k_is)
    (case n_isinstance => k_is)
    (case n_repr => k_is)
    (case n_enumerate => k_is)
    (case n_ValueError => k_is)
    (case n_KeyError => k_is)
    (case n_ArithmeticError => k_is)
    (case n_IndexError => k_is)
    (case n_TypeError => k_is)
    (case a_S => k_is)
    (case a_BI => k_is)
    (case a_RF => k_is)
    (case a_NA => k_is)
    (case a_C0 => k_is)
    (case xL_C0 => k_is)
    (case a_IC0 => k_is)
    (case t_IC0 => k_is)
    (case l_IC0 => k_is)
    (case c_IC0 => k_is)
    (case k_IC0 => k_is)
    (case a_C1 => k_is)
    (case xL_C1 => k_is)
    (case a_IC1 => k_is)
    (case t_IC1 => k_is)
    (case l_IC1 => k_is)
    (case c_IC1 => k_is)
    (case k_IC1 => k_is)
    (case a_C2 => k_is)
    (case xL_C2 => k_is)
    (case a_IC2 => k_is)
    (case t_IC2 => k_is)
    (case l_IC2 => k_is)
    (case c_IC2 => k_is)
    (case k_IC2 => k_is)
    (case a_C3 => k_is)
    (case xL_C3 => k_is)
    (case a_IC3 => k_is)
    (case t_IC3 => k_is)
    (case l_IC3 => k_is)
    (case c_IC3 => k_is)
    (case k_IC3 => k_is)
    (case a_C4 => k_is)
    (case xL_C4 => k_is)
    (case a_IC4 => k_is)
    (case t_IC4 => k_is)
    (case l_IC4 => k_is)
    (case c_IC4 => k_is)
    (case k_IC4 => k_is)
    (case a_C5 => k_is)
    (case xL_C5 => k_is)
    (case a_IC5 => k_is)
    (case t_IC5 => k_is)
    (case l_IC5 => k_is)
    (case c_IC5 => k_is)
    (case k_IC5 => k_is)
    (case a_C6 => k_is)
    (case xL_C6 => k_is)
    (case a_IC6 => k_is)
    (case t_IC6 => k_is)
    (case l_IC6 => k_is)
    (case c_IC6 => k_is)
    (case k_IC6 => k_is)
    (case a_C7 => k_is)
    (case xL_C7 => k_is)
    (case a_IC7 => k_is)
    (case t_IC7 => k_is)
    (case l_IC7 => k_is)
    (case c_IC7 => k_is)
    (case k_IC7 => k_is)
    (case a_C8 => k_is)
    (case xL_C8 => k_is)
    (case a_IC8 => k_is)
    (case t_IC8 => k_is)
    (case l_IC8 => k_is)
    (case c_IC8 => k_is)
    (case k_IC8 => k_is)
    (case a_C9 => k_is)
    (case xL_C9 => k_is)
    (case a_IC9 => k_is)
    (case t_IC9 => k_is)
    (case l_IC9 => k_is)
    (case c_IC9 => k_is)
    (case k_IC9 => k_is)
    (case a_C10 => k_is)
    (case xL_C10 => k_is)
    (case a_IC10 => k_is)
    (case t_IC10 => k_is)
    (case l_IC10 => k_is)
    (case c_IC10 => k_is)
    (case k_IC10 => k_is)
    (case a_C11 => k_is)
    (case xL_C11 => k_is)
    (case a_IC11 => k_is)
    (case t_IC11 => k_is)
    (case l_IC11 => k_is)
    (case c_IC11 => k_is)
    (case k_IC11 => k_is)
    (case a_C12 => k_is)
    (case xL_C12 => k_is)
    (case a_IC12 => k_is)
    (case t_IC12 => k_is)
    (case l_IC12 => k_is)
    (case c_IC12 => k_is)
    (case k_IC12 => k_is)
    (case a_C13 => k_is)
    (case xL_C13 => k_is)
    (case a_IC13 => k_is)
    (case t_IC13 => k_is)
    (case l_IC13 => k_is)
    (case c_IC13 => k_is)
    (case k_IC13 => k_is)
    (case a_C14 => k_is)
    (case xL_C14 => k_is)
    (case a_IC14 => k_is)
    (case t_IC14 => k_is)
    (case l_IC14 => k_is)
    (case c_IC14 => k_is)
    (case k_IC14 => k_is)
    (case a_C15 => k_is)
    (case xL_C15 => k_is)
    (case a_IC15 => k_is)
    (case t_IC15 => k_is)
    (case l_IC15 => k_is)
    (case c_IC15 => k_is)
    (case k_IC15 => k_is)
    (case a_C16 => k_is)
    (case xL_C16 => k_is)
    (case a_IC16 => k_is)
    (case t_IC16 => k_is)
    (case l_IC16 => k_is)
    (case c_IC16 => k_is)
    (case k_IC16 => k_is)
    (case a_C17 => k_is)
    (case xL_C17 => k_is)
    (case a_IC17 => k_is)
    (case t_IC17 => k_is)
    (case l_IC17 => k_is)
    (case c_IC17 => k_is)
    (case k_IC17 => k_is)
    (case a_C18 => k_is)
    (case xL_C18 => k_is)
    (case a_IC18 => k_is)
    (case t_IC18 => k_is)
    (case l_IC18 => k_is)
    (case c_IC18 => k_is)
    (case k_IC18 => k_is)
    (case a_C19 => k_is)
    (case xL_C19 => k_is)
    (case a_IC19 => k_is)
    (case t_IC19 => k_is)
    (case l_IC19 => k_is)
    (case c_IC19 => k_is)
    (case k_IC19 => k_is)
    (case a_C20 => k_is)
    (case xL_C20 => k_is)
    (case a_IC20 => k_is)
    (case t_IC20 => k_is)
    (case l_IC20 => k_is)
    (case c_IC20 => k_is)
    (case k_IC20 => k_is)
    (case a_C21 => k_is)
    (case x_C21 => exact (by kernel_rfl))
    (case a_C22 => k_is)
    (case x_C22 => exact (by kernel_rfl))
    (case a_C23 => k_is)
    (case x_C23 => exact (by kernel_rfl))
    (case a_C24 => k_is)
    (case x_C24 => exact (by kernel_rfl))
    (case a_C25 => k_is)
    (case xL_C25 => k_is)
    (case a_IC25 => k_is)
    (case t_IC25 => k_is)
    (case l_IC25 => k_is)
    (case c_IC25 => k_is)
    (case k_IC25 => k_is)
    (case hn => k_is)
    (case ht => k_is)
    (case tX => exact (by kernel_rfl))
    (case tT => exact (by kernel_rfl))
    (case a_pen => k_is)
    (case l_pen => k_is)
    (case c_pen => k_is)
    (case k_pen => k_is)
    (case a_draw => k_is)
    (case l_draw => k_is)
    (case c_draw => k_is)
    (case k_draw => k_is)
    (case a_pick => k_is)
    (case l_pick => k_is)
    (case c_pick => k_is)
    (case k_pick => k_is)
    (case a_thing => k_is)
    (case l_thing => k_is)
    (case c_thing => k_is)
    (case k_thing => k_is)
    (case a_inp => k_is)
    (case l_inp => k_is)
    (case c_inp => k_is)
    (case k_inp => k_is)
    (case a_oth => k_is)
    (case l_oth => k_is)
    (case c_oth => k_is)
    (case k_oth => k_is)
    (case a_kept => k_is)
    (case l_kept => k_is)
    (case c_kept => k_is)
    (case k_kept => k_is)
    (case a_cla => k_is)
    (case l_cla => k_is)
    (case c_cla => k_is)
    (case k_cla => k_is)
    (case a_bas => k_is)
    (case l_bas => k_is)
    (case c_bas => k_is)
    (case k_bas => k_is)
    (case a_law => k_is)
    (case l_law => k_is)
    (case c_law => k_is)
    (case k_law => k_is)
