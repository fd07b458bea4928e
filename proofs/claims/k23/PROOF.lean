import PyProof.Rows.All
import Wide.All
import OpenK.AllK
import Wide.FinOn
import HandS.ForMost
import HandS.ForExc
import HandS.ExcInit
import HandS.Wide
import PyProof.ReprRoads
import PyProof.ReprLen
import HandS.ExcField
import HandS.ExcIs
import KE.KExcIs
import HandS.IsInst
import HandS.Defaults
import HandS.AnyAll
import HandS.Walk
import HandS.Text
import HandS.ExcValue
import HandS.Iter
import HandS.ClsMeth
import HandS.MakeKw
import HandS.Gcd
import HandS.StrMore
import KE.IntTextLaws
import HandS.Property
import HandS.FStr
import KE.KCallOwn
import HandS.RaiseMore
import KE.DataFind
import PySem.Challenge.RW_holeshift_k23_whole_amounts_as_a_field
set_option Elab.async false
set_option linter.all false
set_option maxRecDepth 100000
set_option maxHeartbeats 2000000
namespace HX
open PySem PySem.Spec PyProof.Rows L2

/-- a def's promise where nothing is being shown (no repr runs around it) -/
structure FnG (P : Program) (w : World) (K : PySem.W.Frag) (mg : Str → Option Value) (base : Heap) (CX : CXT) (k : Nat) (f : Addr) (fd : FuncData) (ps : List Str) (sp : Sp) : Prop where
  len : ∀ vs H Q E, sp vs H Q E → vs.length = ps.length
  go : ∀ (A : Around) (out : List Env) (s : Shared) (H : Hp) (ar : Args) (us : List Value) (vs : List V) (Q : VK) (E : XK),
    A.guards = some [] → Room k A → Env0 P w K mg base A out s H → BindsTo s fd ar (ps.zip us) → Vals vs us → sp vs H Q E →
      codeAny (model P w) A (.call (.ref f) ar) (CR CX out P w H s Q E) s

section
variable {P : Program} {w : World} {K : PySem.W.Frag} {mg : Str → Option Value} {base : Heap} {CX : CXT} {k : Nat} {f : Addr} {fd : FuncData} {ps : List Str} {sp : Sp}
theorem FnG.of (F : FnOk P w K mg base CX k f fd ps sp) : FnG P w K mg base CX k f fd ps sp :=
  ⟨F.len, fun A out s H ar us vs Q E _ r e b v h => F.run A out s H ar us vs Q E r e b v h⟩
theorem FnG.mono {j : Nat} (F : FnG P w K mg base CX j f fd ps sp) (h : j ≤ k) : FnG P w K mg base CX k f fd ps sp :=
  ⟨F.len, fun A out s H ar us vs Q E g r => F.go A out s H ar us vs Q E g (r.mono h)⟩

/-- a def by its body -/
theorem fnG_of {nm qual : Str} {prm : Arguments} {body : List Stmt} {sc : Scope} {dV kV doc pm cdv ct oc : Value} {an od : Option Addr} {osl : Array (Option Value)} {N : List Str}
    (lk : K.lookup f = some ⟨oc, od, .func (PySem.W.fnOf nm qual prm body sc dV kV doc pm an cdv ct), osl⟩)
    (hcd : PySem.W.codeIn K cdv qual = true) (S : FnScope N ps sc) (ln : ∀ vs H Q E, sp vs H Q E → vs.length = ps.length)
    (hb : ∀ (A : Around) (out : List Env) (s : Shared) (H : Hp) (vs : List V) (Q : VK) (E : XK), A.guards = some [] →
      Room k (A.deeper (envOfC qual sc s.heap.objs.size f cdv)) → sp vs H Q E →
        ∃ t, PSs (cxOf CX P w K mg base N qual sc f cdv A out s H E) body t ∧ t { nx := fun _ G => Q .non G, rt := Q } (start N vs) H) :
    FnG P w K mg base CX (k + 1) f (PySem.W.fnOf nm qual prm body sc dV kV doc pm an cdv ct) ps sp := by
  refine ⟨ln, fun A out s H ar us vs Q E hgd hr e0 bd rv hsp => ?_⟩
  have n0 := ln _ _ _ _ hsp
  have stay : ∀ b o, base.get? b = some o → s.heap.get? b = some o := fun b o z => (e0.bs b o z).1
  have kin : K.In s.heap := e0.mod.kin.keeps stay
  have lim : s.heap.NoLimit := e0.mod.nolimit.keeps stay
  refine codeAny_call_function hr.depth (kin _ _ lk) rfl S.co S.gen rfl (PySem.W.codeRec_of kin hcd) (bd _ _ _ _ ?_)
  refine wpAny_newFunctionEnv_cells S.kind (fun ⟨x, u⟩ hx => ?_) fun env he s1 ic => ?_
  · rcases S.par x (List.of_mem_zip hx).1 with z | z
    · exact .inl z
    · exact .inr ⟨z, PySem.W.cellsFrom_some _ _ _ (.inl z)⟩
  · subst he
    refine ⟨lim.keeps ic.toInCall.keep, codeAny_func ?_⟩
    obtain ⟨t, pt, go⟩ := hb A out s H vs Q E hgd (hr.deeper _) hsp
    refine wpAny_mono (pt.run [] s1 _ H _ (inv_start S hr.hd e0 n0 rv ic) go) (fun fl s' q => ?_) fun _ _ z => z
    cases fl with
    | ret u =>
      obtain ⟨v, _, G, J, r, z⟩ := q
      exact ⟨v, G, J.os, J.bare, J.base, J.hok, r, z⟩
    | next =>
      obtain ⟨_, G, J, z⟩ := q
      exact ⟨V.non, G, J.os, J.bare, J.base, J.hok, rfl, z⟩
    | brk => exact False.elim (let ⟨_, _, _, z⟩ := q; z)
    | cont => exact False.elim (let ⟨_, _, _, z⟩ := q; z)

theorem fun_okG {x qual : Str} {st : Stmt} {N : List Str} (F : Fun K x qual st f fd) (S : FnScope N ps (defScope st)) (ln : ∀ vs H Q E, sp vs H Q E → vs.length = ps.length)
    (hb : ∀ (cdv : Value) (A : Around) (out : List Env) (s : Shared) (H : Hp) (vs : List V) (Q : VK) (E : XK), A.guards = some [] →
      Room k (A.deeper (envOfC qual (defScope st) s.heap.objs.size f cdv)) → sp vs H Q E →
        ∃ t, PSs (cxOf CX0 P w K mg base N qual (defScope st) f cdv A out s H E).nox (defBody st) t ∧ t { nx := fun _ G => Q .non G, rt := Q } (start N vs) H) :
    FnG P w K mg base CX0 (k + 1) f fd ps sp := by
  obtain ⟨_, _, _, _, _, _, cdv, _, _, rfl, lk, hcd⟩ := F.ex
  refine fnG_of lk hcd S ln fun A out s H vs Q E g hr hs => ?_
  obtain ⟨t, p, q⟩ := hb cdv A out s H vs Q E g hr hs
  exact ⟨t, p.nox, q⟩
end

section
variable {X : Cx} {CX : CXT} {k : Nat} {f : Addr} {fd : FuncData} {ps : List Str} {sp : Sp} {dvs : List V} {ds : List Value} {E : XK} {x : Str} {p pos : Pos} {e : Expr} {es : List Expr} {t : TA}
theorem run_fnG {pins : List (Addr × Obj)} {σ : L2.St} {H : Hp} {s : Shared} {Q : VK} {us : List Value} {vs : List V} (F : FnG X.prog X.w X.K X.mg X.base CX k f fd ps sp) (gd : X.A.guards = some []) (hr : Room k X.A)
    (hb : Binds X.K fd ps ds) (hd : Vals dvs ds) (hx : Passes CX X E) (I : Inv X pins σ H s) (r : Vals vs us) (h : sp (vs ++ dvs) H Q E) :
    wpAny (model X.prog X.w) X.A (call (.ref f) us) (EP X pins σ Q) X.xe s := by
  have rr : Vals (vs ++ dvs) (us ++ ds) := r.append hd
  have n0 : (us ++ ds).length = ps.length := rr.length.symm.trans (F.len _ _ _ _ h)
  have run := F.go X.A X.stack s H ⟨us, []⟩ (us ++ ds) (vs ++ dvs) Q E gd hr I.env0 (hb s us I.kIn n0) rr h
  refine wpAny_call (codeAny_mono run fun r s' q => ?_)
  match r, q with
  | .error e, q => exact hx pins σ H s e s' I q
  | .ok (.ret u), q => exact I.after q
  | .ok .next, q => exact False.elim q
  | .ok .brk, q => exact False.elim q
  | .ok .cont, q => exact False.elim q
theorem pe_callG (F : FnG X.prog X.w X.K X.mg X.base CX k f fd ps sp) (gd : X.A.guards = some []) (hr : Room k X.A) (hg : Gl X x) (hm : X.mg x = some (.ref f)) (hk : PySem.W.keepIn X.K (.ref f) = true)
    (hb : Binds X.K fd ps ds) (hd : Vals dvs ds) (hx : Passes CX X E) (ha : PA X (e :: es) t) (hdb : (x == ("__debug__" : Str)) = false := by decide)
    (he : starEach (e :: es) X.env = (false, eval e X.env) :: starEach es X.env := by rfl) (hpl : (backTo pos (starEach es X.env)).any (·.1) = false := by rfl) :
    PE X (.Call (.Name x p) (e :: es) [] pos) (tCall sp dvs E t) :=
  ⟨fun pins s σ H Q I h => wpAny_Call_Name_kw (ld_glob I hg hm (PySem.W.callWith_K (h₀ := X.base) I.ok.mod.kin hk
    (thn (ha.run pos pins s σ H _ I h) fun us s1 ⟨vs, H1, I1, r, q⟩ => ⟨I1.kIn, run_fnG F gd hr hb hd hx I1 r q⟩) he hpl) hdb)⟩
end
end HX

set_option Elab.async false
set_option linter.all false
set_option maxRecDepth 100000
set_option maxHeartbeats 2000000
namespace HX
open PySem PySem.Spec PyProof.Rows L2

/-- the heap that knows the script alone, locked -/
def scr (a : Addr) (o : Obj) (ns : List Int) : Hp := fun b => if b = a then some (.frz o (.lst (ns.map V.int))) else none

section
variable {P : Program} {w : World} {K : PySem.W.Frag} {mg mb : Str → Option Value} {CX : CXT} {k : Nat} {fa a : Addr} {fd : FuncData} {x : Str} {sp : Sp} {s : Shared} {vs : List Value} {ns : List Int}
theorem law_goG (kin : K.In s.heap) (hn : s.heap.Ns mainGlobals mg) (hb : s.heap.Ns builtinsNs mb) (hbb : ∀ y : Str, y ≠ "__name__" → mb y = bootBuiltins y) (lim : s.heap.NoLimit) (hg : s.gens = #[])
    (H : Hp) (only : Only H) (hok : HOk P w H s.heap) (at1 : ∀ b, H b ≠ none → s.heap.get? b = some { cls := .type "list", data := .seq vs.toArray } ∧ K.lookup b = none)
    (hr : Room k callerA) (F : ∀ base : Heap, K.In base → base.Ns mainGlobals mg → FnG P w K mg base CX k fa fd [x] sp)
    (bind1 : ∀ (s : Shared) (u : Value), BindsTo s fd ⟨[u], []⟩ [(x, u)])
    (hsp : sp [.ref a] H (fun v _ => v = .bl true) fun _ _ _ => False) (hCX : ∀ e s', CX [] H s (fun _ _ _ => False) e s' → False) :
    codeAny (model P w) callerA (.call (.ref fa) ⟨[.ref a], []⟩) (fun r s' => r = .ok (.ret (.bool true)) ∧ OldK s.heap s'.heap ∧ s'.os = s.os ∧ AllBare s'.gens) s := by
  have untr : ∀ b o, s.heap.get? b = some o → (o ≠ { cls := .type "list", data := .seq vs.toArray } ∨ K.lookup b ≠ none) → H b = none := fun b o e d => by
    cases q : H b with
    | none => rfl
    | some u =>
      obtain ⟨z1, z2⟩ := at1 b (by rw [q]; exact fun z => nomatch z)
      rcases d with d | d
      · exact absurd (Option.some.inj (e.symm.trans z1)) d
      · exact absurd z2 d
  have isNs : ∀ {b : Addr} {m : Str → Option Value}, s.heap.Ns b m → (hidT s.heap H).Ns b m := fun {b m} z => by
    obtain ⟨o, es, ep, e, d, r⟩ := z
    refine ⟨o, es, ep, hidT_get e (untr b o e (.inl fun z => ?_)), d, r⟩
    rw [z] at d
    cases d
  have kinB : K.In (hidT s.heap H) := fun b o e => hidT_get (kin b o e) (untr b o (kin b o e) (.inr (by rw [e]; exact fun z => nomatch z)))
  have md : Mod K mg (hidT s.heap H) := ⟨kinB, isNs hn, ⟨mb, isNs hb, hbb⟩, let ⟨m, z1, z2⟩ := lim; ⟨m, isNs z1, z2⟩⟩
  have e0 : Env0 P w K mg (hidT s.heap H) callerA [] s H :=
    ⟨rfl, md, fun _ _ e => of_hidT e, Nat.le_of_eq (hidT_size _ _), trivial, fun b z => absurd (show b ∈ ([] : List Addr) from z) List.not_mem_nil, hok, AllBare.of_eq hg⟩
  have run := (F _ kinB (isNs hn)).go callerA [] s H ⟨[.ref a], []⟩ [.ref a] [.ref a] (fun v _ => v = .bl true) (fun _ _ _ => False) rfl hr e0 (bind1 s (.ref a)) (.cons rfl .nil) hsp
  refine codeAny_mono run fun r s' q => ?_
  match r, q with
  | .error e, q => exact (hCX e s' q).elim
  | .ok .next, q => exact False.elim q
  | .ok .brk, q => exact False.elim q
  | .ok .cont, q => exact False.elim q
  | .ok (.ret u), q =>
    obtain ⟨v, G, os, bare, un, hok', rv, ev⟩ := q
    subst ev
    obtain rfl : u = Value.bool true := rv
    refine ⟨rfl, OldK.of_keep fun b o e => ?_, os, bare⟩
    rcases only b with n | ⟨ob, xs, n⟩
    · exact un.keep b o e n (fun z => absurd (show b ∈ ([] : List Addr) from z) List.not_mem_nil) List.not_mem_nil
    · have y1 := (hok b _ n).1
      have y2 := (hok' b _ (un.frzs b ob _ n)).1
      exact (y2.trans y1.symm).trans e
end

/-- the end of a law whose def keeps an FnG promise -/
theorem walkG {l : PySem.W.OpenLaw} {n k : Nat} {q : Program} {loose : List Str} {XP : (Str → Option Value) → Heap → Prop} {YP : World → Heap → Prop} {d : DefRec} {K : Params → PySem.W.Frag} {sp : PySem.W.Frag → Sp} {x : Str}
    (hm : l.most = some n) (hn : n ≤ sizeLine) (hdf : d.params.defaults = []) (hr : Room k callerA) (hY : ∀ (w : World) (h : Heap), YP w h → (K w.params).In h)
    (F : ∀ (w : World) (mg : Str → Option Value) (fa : Addr) (h : Heap), (K w.params).In h → h.Ns mainGlobals mg → mg d.name = some (.ref fa) →
      ∃ fd : FuncData, (∀ (s : Shared) (u : Value), BindsTo s fd ⟨[u], []⟩ [(x, u)]) ∧
        ∀ base : Heap, (K w.params).In base → base.Ns mainGlobals mg → FnG l.prog w (K w.params) mg base CX0 k fa fd [x] (sp (K w.params)))
    (hsp : ∀ (K : PySem.W.Frag) (H : Hp) (a : Addr) (ns : List Int), ns.length ≤ n → Only H → SqL K H a (ns.map V.int) → sp K [.ref a] H (fun v _ => v = .bl true) fun _ _ _ => False) :
    PySem.W.WalkO q loose XP YP l.row.toRowW d [] (fun f vs => PySem.call f vs) := by
  refine Att.attach_call hm hdf fun w s₀ s mg mb fa o pm cd doc a vs ns G Y ho hd hcd hmg hobj hi hlen hg => ?_
  have kin := hY w _ Y
  obtain ⟨fd, b1, f1⟩ := F w mg fa _ kin G.T.g hmg
  have rv := vals_ints hi
  have lv := hi.length
  cases e : (K w.params).lookup a with
  | some ob =>
    have z := kin a ob e
    rw [hobj] at z
    cases z
    refine law_goG (vs := vs) kin G.T.g G.T.b G.T.builtins G.T.nolimit hg (fun _ => none) (fun _ => .inl rfl) (fun _ _ z => nomatch z) (fun _ z => absurd rfl z) hr f1 b1 ?_ fun _ _ z => z
    refine hsp _ _ a ns hlen (fun _ => .inl rfl) (.inr ⟨_, vs.toArray, _, e, rfl, rfl, rfl, ?_, by simpa using rv⟩)
    rw [List.size_toArray, lv]
    exact Nat.le_trans hlen hn
  | none =>
    have at_ : ∀ b u, scr a { cls := .type "list", data := .seq vs.toArray } ns b = some u → b = a ∧ u = .frz { cls := .type "list", data := .seq vs.toArray } (.lst (ns.map V.int)) := fun b u z => by
      unfold scr at z
      split at z
      · rename_i hb
        exact ⟨hb, (Option.some.inj z).symm⟩
      · cases z
    refine law_goG (vs := vs) kin G.T.g G.T.b G.T.builtins G.T.nolimit hg (scr a { cls := .type "list", data := .seq vs.toArray } ns) (fun b => ?_) (fun b u z => ?_) (fun b z => ?_) hr f1 b1 ?_ fun _ _ z => z
    · cases z : scr a { cls := .type "list", data := .seq vs.toArray } ns b with
      | none => exact .inl rfl
      | some u => exact .inr ⟨_, _, by rw [(at_ b u z).2]⟩
    · obtain ⟨rfl, rfl⟩ := at_ b u z
      exact ⟨hobj, by rw [List.length_map]; exact Nat.le_trans hlen hn, vs, _, rv, hobj⟩
    · cases y : scr a { cls := .type "list", data := .seq vs.toArray } ns b with
      | none => exact absurd y z
      | some u =>
        obtain ⟨rfl, _⟩ := at_ b u y
        exact ⟨hobj, e⟩
    · refine hsp _ _ a ns hlen (fun b => ?_) (.inl (.inr ⟨_, if_pos rfl⟩))
      cases z : scr a { cls := .type "list", data := .seq vs.toArray } ns b with
      | none => exact .inl rfl
      | some u => exact .inr ⟨_, _, by rw [(at_ b u z).2]⟩
end HX

set_option Elab.async false
set_option linter.all false
set_option maxRecDepth 100000
set_option maxHeartbeats 2000000
namespace HX
open PySem PySem.Spec PyProof.Rows L2

/-! ### what a value tells as data: None, bools, ints, texts, lists, tuples, dicts with int and text keys -/
def keyD : Key → PyData
  | .inl i => .int i
  | .inr x => .str x
mutual
inductive Da (H : Hp) : V → PyData → Prop
  | non : Da H .non .none
  | bl (b : Bool) : Da H (.bl b) (.bool b)
  | int (i : Int) : Da H (.int i) (.int i)
  | str (x : Str) : Da H (.str x) (.str x)
  | lst {a : Addr} {xs : List V} {ds : List PyData} : H a = some (.lst xs) → a ≠ sysModules → Das H xs ds → Da H (.ref a) (.list ds)
  | tup {a : Addr} {xs : List V} {ds : List PyData} : H a = some (.tup xs) → Das H xs ds → Da H (.ref a) (.tuple ds)
  | dic {a : Addr} {kvs : List (Key × V)} {ps : List (PyData × PyData)} : H a = some (.dK kvs) → Dks H kvs ps → Da H (.ref a) (.dict ps)
inductive Das (H : Hp) : List V → List PyData → Prop
  | nil : Das H [] []
  | cons {v : V} {vs : List V} {d : PyData} {ds : List PyData} : Da H v d → Das H vs ds → Das H (v :: vs) (d :: ds)
inductive Dks (H : Hp) : List (Key × V) → List (PyData × PyData) → Prop
  | nil : Dks H [] []
  | cons {k : Key} {v : V} {kvs : List (Key × V)} {d : PyData} {ps : List (PyData × PyData)} : Da H v d → Dks H kvs ps → Dks H ((k, v) :: kvs) ((keyD k, d) :: ps)
end
theorem Das.len {H : Hp} : ∀ {vs : List V} {ds : List PyData}, Das H vs ds → vs.length = ds.length
  | _, _, .nil => rfl
  | _, _, .cons _ t => by rw [List.length_cons, List.length_cons, t.len]
theorem Das.get {H : Hp} : ∀ {vs : List V} {ds : List PyData} {i : Nat} {v : V}, Das H vs ds → vs[i]? = some v → ∃ d, ds[i]? = some d ∧ Da H v d
  | _, _, _, _, .nil, e => by simp at e
  | _, _, 0, v, .cons h _, e => by
    simp at e
    subst e
    exact ⟨_, rfl, h⟩
  | _, _, i + 1, v, .cons _ t, e => by
    obtain ⟨d, h1, h2⟩ := t.get (i := i) (v := v) (by simpa using e)
    exact ⟨d, by simpa using h1, h2⟩
theorem Das.app {H : Hp} : ∀ {vs us : List V} {ds es : List PyData}, Das H vs ds → Das H us es → Das H (vs ++ us) (ds ++ es)
  | _, _, _, _, .nil, t => t
  | _, _, _, _, .cons h t, t2 => .cons h (t.app t2)
mutual
theorem Da.mo {H H' : Hp} (m : Same H H') : ∀ {d : PyData} {v : V}, Da H v d → Da H' v d
  | _, _, .non => .non
  | _, _, .bl b => .bl b
  | _, _, .int i => .int i
  | _, _, .str x => .str x
  | _, _, .lst s n t => .lst (m _ _ s) n (Das.mo m t)
  | _, _, .tup s t => .tup (m _ _ s) (Das.mo m t)
  | _, _, .dic s t => .dic (m _ _ s) (Dks.mo m t)
theorem Das.mo {H H' : Hp} (m : Same H H') : ∀ {ds : List PyData} {vs : List V}, Das H vs ds → Das H' vs ds
  | _, _, .nil => .nil
  | _, _, .cons h t => .cons (Da.mo m h) (Das.mo m t)
theorem Dks.mo {H H' : Hp} (m : Same H H') : ∀ {ps : List (PyData × PyData)} {kvs : List (Key × V)}, Dks H kvs ps → Dks H' kvs ps
  | _, _, .nil => .nil
  | _, _, .cons h t => .cons (Da.mo m h) (Dks.mo m t)
end
section
variable {X : Cx} {pins : List (Addr × Obj)} {σ : L2.St} {H : Hp} {s : Shared}
theorem key_reads {h : Heap} {k : Key} {v : Value} (e : keyIs k v = true) : Reads h v (keyD k) [] := by
  rcases keyIs_shape e with ⟨i, t, rfl, rfl⟩ | ⟨x, t, rfl, rfl⟩
  · exact .int i t
  · exact .str x t
mutual
/-- .. as it stands in the heap; of the addresses that are read, none is sys.modules -/
theorem Da.reads (I : Inv X pins σ H s) : ∀ {d : PyData} {v : V} {u : Value}, Da H v d → RelV v u → ∃ as, Reads s.heap u d as ∧ sysModules ∉ as
  | _, _, _, .non, r => by cases r; exact ⟨_, .none, fun z => nomatch z⟩
  | _, _, _, .bl b, r => by cases r; exact ⟨_, .bool b, fun z => nomatch z⟩
  | _, _, _, .int i, r => by obtain ⟨t, rfl⟩ := r; exact ⟨_, .int i t, fun z => nomatch z⟩
  | _, _, _, .str x, r => by obtain ⟨t, rfl⟩ := r; exact ⟨_, .str x t, fun z => nomatch z⟩
  | _, _, _, .lst h nz t, r => by
    cases r
    obtain ⟨its, rv, ⟨o, n, ho, hc, _, hd⟩, _⟩ := I.list (SqL.of h)
    obtain ⟨as, hr, qs⟩ := Das.reads I t rv
    exact ⟨_, .list ho hc hd (by simpa using hr), fun z => (List.mem_cons.mp z).elim (fun e => nz e.symm) qs⟩
  | _, _, _, .tup h t, r => by
    cases r
    obtain ⟨its, rv, ⟨o, ho, hc, n, hd⟩, _⟩ := I.tuple (SqT.of h)
    obtain ⟨as, hr, q⟩ := Das.reads I t rv
    exact ⟨_, .tuple ho hc hd (by simpa using hr), q⟩
  | _, _, _, .dic (a := a) (kvs := kvs) h t, r => by
    cases r
    obtain ⟨_, nsys, vs, kv, o, es, ep, ho, hx, hd, _, hp, _⟩ := (show ObjOk X.prog X.w H s.heap a (.dK kvs) from I.hok a _ h)
    obtain ⟨bs, hr1, hr2, q⟩ := Dks.reads I t kv hp
    refine ⟨_, .dict (as := []) (bs := bs) ho hx.1 hd hr1 hr2, fun hm => ?_⟩
    rcases List.mem_cons.mp hm with e | hm
    · rw [← e] at nsys
      simp at nsys
    · exact q (by simpa using hm)
theorem Das.reads (I : Inv X pins σ H s) : ∀ {ds : List PyData} {vs : List V} {us : List Value}, Das H vs ds → Vals vs us → ∃ as, ReadsAll s.heap us ds as ∧ sysModules ∉ as
  | _, _, _, .nil, r => by cases r; exact ⟨_, .nil, fun z => nomatch z⟩
  | _, _, _, .cons h t, r => by
    cases r with
    | cons r1 r2 =>
      obtain ⟨as, h1, q1⟩ := Da.reads I h r1
      obtain ⟨bs, h2, q2⟩ := Das.reads I t r2
      exact ⟨_, .cons h1 h2, fun hm => (List.mem_append.mp hm).elim q1 q2⟩
theorem Dks.reads (I : Inv X pins σ H s) : ∀ {ps : List (PyData × PyData)} {kvs : List (Key × V)} {vs : List (Key × Value)} {es : List DictEntry}, Dks H kvs ps → KV kvs vs → Pairs (mixKind X.prog X.w) es vs →
    ∃ bs, ReadsAll s.heap (es.map (·.key)) (ps.map (·.1)) [] ∧ ReadsAll s.heap (es.map (·.val)) (ps.map (·.2)) bs ∧ sysModules ∉ bs
  | _, _, _, _, .nil, r, p => by cases r; cases p; exact ⟨_, .nil, .nil, fun z => nomatch z⟩
  | _, _, _, _, .cons h t, r, p => by
    cases r with
    | cons r1 r2 =>
      cases p with
      | cons p1 p2 p3 =>
        obtain ⟨e1, e2⟩ := r1
        obtain ⟨as, h1, q1⟩ := Da.reads I h e2
        obtain ⟨bs, h2, h3, q2⟩ := Dks.reads I t r2 p3
        rw [← e1] at p1
        refine ⟨as ++ bs, .cons (key_reads p1) h2, .cons (by show Reads s.heap (DictEntry.val _) _ _; rw [p2]; exact h1) h3, fun hm => (List.mem_append.mp hm).elim q1 q2⟩
end
/-- data that repr can show: not deep, not long -/
structure OkD (d : PyData) : Prop where
  sh : d.showable = true
  dp : d.depth ≤ 60
  lv : d.leavesShort 1000 = true
  wt : d.weight ≤ 10000
theorem OkD.len {d : PyData} (h : OkD d) : d.shown.length ≤ sizeLine := by
  have e := PyData.shown_le 1000 (by decide) d h.lv
  have w := h.wt
  rw [sizeLine_eq]
  omega
/-- repr of a list, a tuple, a dict -/
def rRepr : List V → Hp → VK → Prop := fun xs H Q => ∃ (a : Addr) (d : PyData), xs = [.ref a] ∧ Da H (.ref a) d ∧ OkD d ∧ Q (.str d.shown) H
theorem call_reprD (gd : X.A.guards = some []) (hu : X.A.units + 64 < cLine) : CallR X (.builtin "repr") rRepr := by
  intro pins s σ H xs us Q I r h
  obtain ⟨a, d, rfl, hd, ok, q⟩ := h
  obtain ⟨u, rfl, ru⟩ := vals1 r
  obtain ⟨as, hr, hsys⟩ := Da.reads I hd ru
  cases ru
  have hz := ok.dp
  exact repr_of_reads' hr ok.sh (fun _ => hsys) gd (by omega) (fun _ _ e => e) (fun h' t tk k => ⟨.str d.shown, H, I.kept k, ⟨_, rfl⟩, q⟩) ok.len
end
end HX

set_option Elab.async false
set_option linter.all false
set_option maxRecDepth 100000
set_option maxHeartbeats 2000000
namespace HX
open PySem PySem.Spec PyProof.Rows L2

/-! ### an exception that was caught, kept as a value: at a, of the class cls, its own dict at d -/
def exT (a : Addr) (cls : Value) (d : Option Addr) : HO := .ext fun h => ∃ oe vs, h.get? a = some oe ∧ Zc cls d oe ∧ oe.data = .fields vs
theorem exT_ok {P : Program} {w : World} {H : Hp} {h : Heap} {a : Addr} {cls : Value} {d : Option Addr} {oe : Obj} {vs : Array Value} (e : h.get? a = some oe) (z : Zc cls d oe) (q : oe.data = .fields vs) : ObjOk P w H h a (exT a cls d) :=
  ⟨⟨oe, vs, e, z, q⟩, ⟨oe, e⟩, fun _ _ ⟨o, us, x1, x2⟩ k => ⟨o, us, k o x1, x2⟩⟩
theorem exT_at {P : Program} {w : World} {H : Hp} {h : Heap} {a : Addr} {cls : Value} {d : Option Addr} (ok : HOk P w H h) (e : H a = some (exT a cls d)) : ∃ oe vs, h.get? a = some oe ∧ Zc cls d oe ∧ oe.data = .fields vs := by
  have x : ObjOk P w H h a (.ext fun h => ∃ oe vs, h.get? a = some oe ∧ Zc cls d oe ∧ oe.data = .fields vs) := ok a _ e
  exact x.1

section
variable {X : Cx} {pins : List (Addr × Obj)} {σ : L2.St} {H : Hp} {sI s' s : Shared} {B : Heap}
/-- back on the ground, the exception tracked -/
theorem landedK {a : Addr} {cls : Value} {d : Option Addr} {oe : Obj} {vs : Array Value} (I : Inv X pins σ H sI) (nb : ∀ b o, sI.heap.get? b = some o → b ∉ frs X.stack → B.get? b = some o) (st : B.StaysIn s'.heap)
    (up : sI.heap.UpToSlots s'.heap) (os : s'.os = sI.os) (ag : AllBare s'.gens) (na : H a = none) (nB : B.get? a = none) (nf : a ∉ frs X.stack) (he : s'.heap.get? a = some oe) (hz : Zc cls d oe) (hd : oe.data = .fields vs) :
    Inv X pins σ (upd H a (exT a cls d)) s' := by
  have nI : ∀ b o, sI.heap.get? b = some o → b ≠ a := fun b o e z => by
    subst z
    rw [nb b o e nf] at nB
    cases nB
  have fr : ∀ b ∈ frs X.stack, ∀ o, sI.heap.get? b = some o → ∃ sl, s'.heap.get? b = some { o with slots := sl } := fun b hb o e => by
    obtain ⟨_, o', e', q⟩ := I.stack.mem hb
    rw [e] at e'
    cases e'
    exact up b o e q
  have hk : HOk X.prog X.w H s'.heap := (I.inGround nb).kept st
  have hok : HOk X.prog X.w (upd H a (exT a cls d)) s'.heap := fun b u e => by
    by_cases hb : b = a
    · subst hb
      rw [upd_same] at e
      cases e
      exact exT_ok he hz hd
    · rw [upd_ne hb] at e
      exact (hk b u e).stay (fun _ _ _ z => z) (fun c z => by rw [upd_ne (ne_of_none z na)]; exact z) fun c xs z => by rw [upd_ne (ne_of_none z na)]; exact z
  have un : Un (frs X.stack) [] H (upd H a (exT a cls d)) sI.heap s'.heap := {
    keep := fun b o e _ hb _ => st b o (nb b o e hb)
    slot := fun b o e _ hb _ => fr b hb o e
    free := fun b o e n _ => by rw [upd_ne (nI b o e)]; exact n
    there := fun b o e _ => by
      by_cases hb : b ∈ frs X.stack
      · obtain ⟨sl, q⟩ := fr b hb o e
        exact ⟨_, q⟩
      · exact ⟨o, st b o (nb b o e hb)⟩
    tups := fun b xs e => by rw [upd_ne (ne_of_none e na)]; exact e
    frzs := fun b o u e => by rw [upd_ne (ne_of_none e na)]; exact e
    tbls := fun b ps e => ⟨#[], by rw [upd_ne (ne_of_none e na), e]; simp⟩ }
  exact I.call' (ch := []) os un hok ag fun _ z => nomatch z
theorem inSuite (I : Inv X pins σ H s) (a : Addr) : Inv (X.suite a (X.pn ++ pins)) [] σ H s :=
  ⟨I.ok.suite _ _, I.os, I.bare, I.base, I.loc, I.cell, I.free, I.freeC, fun p hp => I.pin p (by rw [List.append_nil] at hp; exact hp), I.hok, I.len⟩
theorem outSuite {a : Addr} {pn' : List (Addr × Obj)} (I : Inv (X.suite a (X.pn ++ pins)) pn' σ H s) (ok : X.Ok) : Inv X pins σ H s :=
  ⟨ok, I.os, I.bare, I.base, I.loc, I.cell, I.free, I.freeC, fun p hp => I.pin p (List.mem_append_left _ hp), I.hok, I.len⟩
end

/-- what 'except x as n' wishes of an exception of the body, where the suite keeps it as a value -/
def wKeep (K : PySem.W.Frag) (c : Value) (i : Nat) (ts : TS) (Wout : WX) (D : Ends) : WX := fun cls d σ H =>
  ∃ b, PySem.W.exmOne K cls c = some b ∧
    (b = true → ∀ a, H a = none → ts { nx := fun σ' G => D.nx (σ'.set i none) G, rt := D.rt, bk := fun σ' G => D.bk (σ'.set i none) G, ct := fun σ' G => D.ct (σ'.set i none) G } (σ.set i (some (.ref a))) (upd H a (exT a cls d))) ∧
    (b = false → Wout cls d σ H)

section
variable {X : Cx} {x n : Str} {c : Value} {i : Nat} {body rest : List Stmt} {b₀ : Stmt} {np pos pos' : Pos} {tb : WX → TS} {ts : TS} {Wout : WX}
theorem ps_try_keep (hs : X.stack = X.env :: X.outer) (hf : X.env.frame = some X.env.locals) (hN : X.N.Nodup) (hi : X.N[i]? = some n) (hln : X.env.kindOf n = some .local) (hc : Names X x c) (tk : Takes X Wout)
    (hb : ∀ (W : WX) (pn : List (Addr × Obj)) (xe : Value → Shared → Prop), Takes (X.tr pn xe) W → PassesOwn (model X.prog X.w) X.A X.env xe → PSs (X.tr pn xe) body (tb W))
    (hsu : ∀ (a : Addr) (pn : List (Addr × Obj)), PSs (X.suite a pn) (b₀ :: rest) ts) :
    PS X (.Try body [.ExceptHandler (some (.Name x np)) (some n) (b₀ :: rest) pos'] [] [] pos) (fun D σ H => tb (wKeep X.K c i ts Wout D) D σ H) := by
  refine ⟨fun pins s σ H D I h => ?_⟩
  have ok := I.ok
  have hfr : X.A.frames = some (X.env :: X.outer) := by rw [ok.frames, hs]
  have hloc : Loc X.env.scope n := .inl hln
  refine wpAny_Try_except ?_
  refine wpAny_mono ((hb (wKeep X.K c i ts Wout D) (X.pn ++ pins)
    (fun e s₁ => wpAny (model X.prog X.w) X.A (noteFrame e X.env) (fun _ s₂ => wpAny (model X.prog X.w) X.A (setFlight e none)
      (fun _ s₃ => wpAny (model X.prog X.w) X.A (handleBy e X.env [.ExceptHandler (some (.Name x np)) (some n) (b₀ :: rest) pos']) (SP X pins D) X.xe s₃) X.xe s₂) X.xe s₁)
    (fun u s' xx => ?_) PassesOwn.looking).run [] s σ H D (I.toTry _) h) (fun f s1 q => ?_) (fun _ _ z => z)
  · obtain ⟨a, B, sI, pins', σ', G, cls, d, rfl, J', nb, up, sky, na, os, ag, b, hb1, yes, no⟩ := xx
    have J : Inv X pins σ' G sI := J'.ofTry ok
    have sky2 : Sky B (X.env :: X.outer) a (Zc cls d) X.env.locals s'.heap := by rw [← hs]; exact sky
    show wpAny (model X.prog X.w) X.A (noteFrame (.ref a) X.env) _ _ _
    refine Sky.land Zc.steady hfr hf sky2 fun h3 fl3 up3 => ?_
    obtain ⟨oe3, vs3, he3, hz3, hd3⟩ := fl3.there
    have nfr : a ∉ frs X.stack := by
      rw [hs]
      intro hm
      obtain ⟨_, o, e, q⟩ := fl3.2.2.1.mem hm
      rw [he3] at e
      cases e
      exact q _ hd3
    have J3 := landedK (s' := { s' with heap := h3 }) J nb fl3.1 (up.trans up3) os ag na fl3.2.1 nfr he3 hz3 hd3
    have S3 := inSuite J3 a
    refine wpAny_handleBy_cons (codeAny_handlers_test ?_) (by intro q; cases q)
    have LT : PySem.W.Looks (model X.prog X.w) h3 (typeOf (.ref a)) cls := fun A Q E s k q => wpAny_typeOf_ref (k _ _ he3) (by rw [hz3.1]; exact q)
    have LM := PySem.W.exm_one (M := model X.prog X.w) J3.kIn LT hb1
    have test : ∀ {Q : Value → Shared → Prop} {E : Value → Shared → Prop}, Q c { s' with heap := h3 } → wpAny (model X.prog X.w) (X.A.mark (some (.ref a))) (eval (.Name x np) X.env) Q E { s' with heap := h3 } := fun {Q E} q => by
      obtain ⟨z1, z2, z3 | ⟨z3, z4, z5⟩⟩ := hc
      · exact ld_glob S3 z1 z3 q z2
      · exact ld_blt S3 z1 z3 z4 q z5 z2
    refine test (LM.here ?_)
    cases b with
    | true =>
      refine codeAny_handlers_suite_as ?_
      refine HandSPX.lands_againZ fl3 fun h4 fl4 up4 => ?_
      obtain ⟨oe4, vs4, he4, hz4, hd4⟩ := fl4.there
      have J4 := landedK (s' := { s' with heap := h4 }) J nb fl4.1 ((up.trans up3).trans up4) os ag na fl4.2.1 nfr he4 hz4 hd4
      refine store_ok (X := X.suite a (X.pn ++ pins)) (v := .ref a) (inSuite J4 a) hN hi hloc rfl (fun s5 S5 => ?_) (.inr hln)
      have leave : ∀ {σ6 : L2.St} {G6 : Hp} {s6 : Shared} {Q : Shared → Prop}, Inv (X.suite a (X.pn ++ pins)) [] σ6 G6 s6 → (∀ s7, Inv X pins (σ6.set i none) G6 s7 → Q s7) →
          wpAny (model X.prog X.w) X.A (do bindName X.env n .none; unbindBehindTheSuite X.env n pos') (fun _ s7 => Q s7) X.xe s6 := fun S6 hq => gone_ok (outSuite S6 ok) hN hi hln hq
      refine wpAny_mono ((hsu a (X.pn ++ pins)).run [] s5 _ _ _ S5 (yes rfl a na)) (fun f s6 q => ?_) (fun _ _ z => False.elim z)
      match f, q with
      | .next, ⟨σ6, G6, S6, q6⟩ => exact leave S6 fun s7 J7 => ⟨_, _, J7, q6⟩
      | .brk, ⟨σ6, G6, S6, q6⟩ => exact leave S6 fun s7 J7 => ⟨_, _, J7, q6⟩
      | .cont, ⟨σ6, G6, S6, q6⟩ => exact leave S6 fun s7 J7 => ⟨_, _, J7, q6⟩
      | .ret u, ⟨v6, σ6, G6, S6, r6, q6⟩ => exact leave S6 fun s7 J7 => ⟨_, _, _, J7, r6, q6⟩
    | false =>
      show wpAny _ X.A (handleBy (.ref a) X.env []) _ _ _
      refine wpAny_handleBy_nil ?_
      obtain ⟨k1, k2, k3, oe, vs, T, oT, ts', he, hz, hd, h1, hr⟩ := id fl3
      unfold PySem.passOn
      refine wpAny_bind (wpAny_field he hd h1 ?_)
      rw [if_neg (show ¬ ((Value.ref T == Value.none) = true) from by simp)]
      have fin : wpAny (model X.prog X.w) X.A (setFlight (.ref a) X.env.frame) (fun _ s4 => wpAny (model X.prog X.w) X.A (throw (.ref a) : Sem Flow) (SP X pins D) X.xe s4) X.xe { s' with heap := h3 } := by
        rw [hf]
        refine HandSPX.setFlight_upZ fl3 fun h4 hh4 up4 => wpAny_throw (tk _ _ ?_)
        exact ⟨a, B, sI, pins, σ', G, cls, d, rfl, J, nb, (up.trans up3).trans up4, .inr (.inr (by rw [hs]; exact hh4)), na, os, ag, no rfl⟩
      first
        | exact wpAny_bind (wpAny_pure (wpAny_bind fin))
        | exact wpAny_bind fin
  · match f, q with
    | .next, ⟨σ', G, J', z⟩ => exact wpAny_execs_nil ⟨σ', G, J'.ofTry ok, z⟩
    | .brk, ⟨σ', G, J', z⟩ => exact ⟨σ', G, J'.ofTry ok, z⟩
    | .cont, ⟨σ', G, J', z⟩ => exact ⟨σ', G, J'.ofTry ok, z⟩
    | .ret u, ⟨v, σ', G, J', r, z⟩ => exact ⟨v, σ', G, J'.ofTry ok, r, z⟩
end

/-! ### such a value's class and fields -/
/-- what an own exception class must have -/
structure ExC (K : PySem.W.Frag) (C : Addr) : Prop where
  ga : PySem.W.findIn K (.ref C) "__getattribute__" = some (some (.builtin "BaseException.__getattribute__"))
  gg : PySem.W.findIn K (.ref C) "__getattr__" = some none
  sub : PySem.W.subIn K (.ref C) (.type "BaseException") = some true
  hd : PySem.W.hasDictIn K C = true
  ha : PySem.W.findIn K (.ref C) "__class__" = some (some (.builtin "object.__class__"))
  hn : PySem.W.specialIn K (.builtin "object.__class__") "__get__" = some (some (.builtin "getset_descriptor.__get__"))
  ht : PySem.W.takesIn K (.builtin "object.__class__") = some true
  hm : PySem.W.mroIn K C (.type "object") = some true
theorem instAt_of {h : Heap} {a C : Addr} {oe od : Obj} {vs : Array Value} {d : Addr} (he : h.get? a = some oe) (hz : Zc (.ref C) (some d) oe) (hf : oe.data = .fields vs) (ho : h.get? d = some od) : PySem.W.InstAt h a oe C (some od) := by
  obtain ⟨c1, d1, dt, sl⟩ := oe
  obtain ⟨rfl, rfl⟩ := hz
  dsimp only at hf
  subst hf
  exact ⟨he, rfl, rfl, ho⟩
theorem instAt_of0 {h : Heap} {a C : Addr} {oe : Obj} {vs : Array Value} (he : h.get? a = some oe) (hz : Zc (.ref C) none oe) (hf : oe.data = .fields vs) : PySem.W.InstAt h a oe C none := by
  obtain ⟨c1, d1, dt, sl⟩ := oe
  obtain ⟨rfl, rfl⟩ := hz
  dsimp only at hf
  subst hf
  exact ⟨he, rfl, rfl, trivial⟩
section
variable {X : Cx} {e : Expr} {te : TE} {f : Str} {pos : Pos}
/-- e.f -/
def tExf (K : PySem.W.Frag) (f : Str) (te : TE) : TE := fun σ H Q => te σ H fun x G => ∃ (a C d : Addr) (fs : List (Str × V)) (v : V), x = .ref a ∧ G a = some (exT a (.ref C) (some d)) ∧ G d = some (.xd fs) ∧ ExC K C ∧ PySem.W.findIn K (.ref C) f = some none ∧ fs.lookup f = some v ∧ Q v G
theorem pe_exf (he : PE X e te) (hb : attributeBase e f X.env (eval e X.env) = eval e X.env := by rfl) : PE X (.Attribute e f pos) (tExf X.K f te) := by
  refine ⟨fun pins s σ H Q I h => attr_of hb (thn (he.run pins s σ H _ I h) fun u s1 ⟨x, G, I1, rx, a, C, d, fs, v, ex, ea, ed, T, no, l, q⟩ => ?_)⟩
  subst ex
  obtain rfl : u = Value.ref a := rx
  obtain ⟨oe, vs, z1, z2, z3⟩ := exT_at I1.hok ea
  obtain ⟨mA, hns, hr⟩ := (show ObjOk X.prog X.w G s1.heap d (.xd fs) from I1.hok d _ ed)
  obtain ⟨od, ho, hl⟩ := lookIn_ns hns
  obtain ⟨w', hu, ru⟩ := RelO.some_of (v := v) (o := mA f) (by rw [← l]; exact hr f)
  exact HandSPX.exc_get I1.kIn (instAt_of z1 z2 z3 ho) T.ga T.gg T.sub (PySem.W.findObj_own T.hd no rfl (by rw [hl, hu])) (handed_of ru) ⟨v, G, I1.tok _, ru, q⟩
/-- isinstance(e, c) -/
def rIsX (K : PySem.W.Frag) : List V → Hp → VK → Prop := fun xs H Q => ∃ (a D : Addr) (d : Option Addr) (c : V) (cv : Value) (b : Bool), xs = [.ref a, c] ∧ H a = some (exT a (.ref D) d) ∧ (∀ dd, d = some dd → ∃ fs, H dd = some (.xd fs)) ∧ ExC K D ∧ (∀ u, RelV c u → u = cv) ∧
  PySem.W.kitOne K (.ref D) cv = some b ∧ Q (.bl b) H
theorem call_isX : CallR X (.builtin "isinstance") (rIsX X.K) := by
  intro pins s σ H xs us Q I r h
  obtain ⟨a, D, d, c, cv, b, rfl, ea, ed, T, hc, hk, q⟩ := h
  obtain ⟨u, u2, rfl, r1, r2⟩ := vals2 r
  cases r1
  have e2 := hc _ r2
  subst e2
  obtain ⟨oe, vs, z1, z2, z3⟩ := exT_at I.hok ea
  have hcl : (PySem.W.clsIn X.K D).isSome = true := by
    obtain ⟨cd, z, _⟩ := PySem.W.any_some T.hd
    rw [z]
    rfl
  cases d with
  | none => exact PySem.W.kia_one (PySem.W.kitx_exc hcl T.ga T.gg T.sub T.ha T.hn T.ht T.hm) I.kIn (instAt_of0 z1 z2 z3) hk (fun z => nomatch z) fun tk => ⟨.bl b, H, I.kept (t' := tk) fun _ _ z => z, rfl, q⟩
  | some dd =>
    obtain ⟨fs, ed⟩ := ed dd rfl
    obtain ⟨mA, ⟨od, _, _, ho, _⟩, _⟩ := (show ObjOk X.prog X.w H s.heap dd (.xd fs) from I.hok dd _ ed)
    exact PySem.W.kia_one (PySem.W.kitx_exc hcl T.ga T.gg T.sub T.ha T.hn T.ht T.hm) I.kIn (instAt_of z1 z2 z3 ho) hk (fun z => nomatch z) fun tk => ⟨.bl b, H, I.kept (t' := tk) fun _ _ z => z, rfl, q⟩
end
end HX

set_option Elab.async false
set_option linter.all false
set_option maxRecDepth 100000
set_option maxHeartbeats 2000000
namespace HX
open PySem PySem.Spec PyProof.Rows L2

/-! ### own error classes whose __init__ keeps one field, two fields -/
def spI1 (C : Addr) (f : Str) : Sp := fun vs H Q _ => ∃ (a : Addr) (v : V), vs = [.ref a, v] ∧ H a = some (exo a C none) ∧
  ∀ dx, H dx = none → dx ≠ a → Q .non (upd (upd H dx (exd dx [(f, v)])) a (exo a C (some dx)))
def spI2 (C : Addr) (f g : Str) : Sp := fun vs H Q _ => ∃ (a : Addr) (v u : V), vs = [.ref a, v, u] ∧ H a = some (exo a C none) ∧
  ∀ dx, H dx = none → dx ≠ a → Q .non (upd (upd (upd H dx (exd dx [(f, v)])) a (exo a C (some dx))) dx (exd dx [(g, u), (f, v)]))
/-- what the written part says of such a class -/
structure RxC (K : PySem.W.Frag) (mg : Str → Option Value) (x : Str) (C fI : Addr) : Prop where
  o : OexC K C
  iC : PySem.W.findIn K (.ref C) "__init__" = some (some (.ref fI))
  tI : PySem.W.typeIn K (.ref fI) = some (.type "function")
  gC : mg x = some (.ref C)
section
variable {P : Program} {w : World} {K : PySem.W.Frag} {mg : Str → Option Value} {base : Heap} {C fI : Addr} {fd : FuncData} {qual f g : Str} {st : Stmt}
theorem ok_init1 (F : Fun K "__init__" qual st fI fd) (T : OexC K C) (no : PySem.W.findIn K (.ref C) f = some none) (S : FnScope ["self", f] ["self", f] (defScope st))
    (hb : ∃ p1 p2 p3 p4, defBody st = [.Assign [.Attribute (.Name "self" p1) f p2] (.Name f p3) p4])
    (v0 : Vis (defScope st) "self" := by exact Or.inl rfl) (v1 : Vis (defScope st) f := by exact Or.inl rfl)
    (hd : (f == ("__debug__" : Str)) = false := by decide) (hcd : (f == ("__classdict__" : Str)) = false := by decide) : FnOk P w K mg base CX0 1 fI fd ["self", f] (spI1 C f) := by
  obtain ⟨p1, p2, p3, p4, eb⟩ := hb
  refine F.ok S (fun vs H Q E h => ?_) (fun cdv A outer s H vs Q E hr h => ?_)
  · obtain ⟨a, v, rfl, _⟩ := h
    rfl
  · obtain ⟨a, v, rfl, ha, k⟩ := h
    rw [eb]
    refine ⟨_, pss_one (ps_ost (pe_var (i := 0) rfl v0) (pe_var (i := 1) rfl v1 hd hcd)), ?_⟩
    exact ⟨v, rfl, _, rfl, a, C, rfl, T, no, .inl ⟨ha, fun dx n ne => k dx n ne⟩⟩
theorem ok_init2 (F : Fun K "__init__" qual st fI fd) (T : OexC K C) (no : PySem.W.findIn K (.ref C) f = some none) (no2 : PySem.W.findIn K (.ref C) g = some none) (S : FnScope ["self", f, g] ["self", f, g] (defScope st))
    (hb : ∃ p1 p2 p3 p4 q1 q2 q3 q4, defBody st = [.Assign [.Attribute (.Name "self" p1) f p2] (.Name f p3) p4, .Assign [.Attribute (.Name "self" q1) g q2] (.Name g q3) q4])
    (v0 : Vis (defScope st) "self" := by exact Or.inl rfl) (v1 : Vis (defScope st) f := by exact Or.inl rfl) (v2 : Vis (defScope st) g := by exact Or.inl rfl)
    (hd : (f == ("__debug__" : Str)) = false := by decide) (hcd : (f == ("__classdict__" : Str)) = false := by decide)
    (hd2 : (g == ("__debug__" : Str)) = false := by decide) (hcd2 : (g == ("__classdict__" : Str)) = false := by decide) : FnOk P w K mg base CX0 1 fI fd ["self", f, g] (spI2 C f g) := by
  obtain ⟨p1, p2, p3, p4, q1, q2, q3, q4, eb⟩ := hb
  refine F.ok S (fun vs H Q E h => ?_) (fun cdv A outer s H vs Q E hr h => ?_)
  · obtain ⟨a, v, u, rfl, _⟩ := h
    rfl
  · obtain ⟨a, v, u, rfl, ha, k⟩ := h
    rw [eb]
    refine ⟨_, pss_cons (ps_ost (pe_var (i := 0) rfl v0) (pe_var (i := 1) rfl v1 hd hcd)) (pss_one (ps_ost (pe_var (i := 0) rfl v0) (pe_var (i := 2) rfl v2 hd2 hcd2))), ?_⟩
    refine ⟨v, rfl, _, rfl, a, C, rfl, T, no, .inl ⟨ha, fun dx n ne => ?_⟩⟩
    exact ⟨u, rfl, _, rfl, a, C, rfl, T, no2, .inr ⟨dx, [(f, v)], upd_same, by rw [upd_ne ne, upd_same], by show 1 ≤ 900; decide, k dx n ne⟩⟩
end

theorem lay_gone {H : Hp} {a dx : Addr} {o1 o2 o3 u : HO} (na : H a = none) (ne : dx ≠ a) : upd (del (upd (upd (upd H a o1) dx o2) a o3) a) dx u = upd H dx u := by
  funext b
  by_cases h1 : b = dx
  · rw [h1, upd_same, upd_same]
  · rw [upd_ne h1, upd_ne h1]
    by_cases h2 : b = a
    · rw [h2, del_same, na]
    · rw [del_ne h2, upd_ne h2, upd_ne h1, upd_ne h2]
theorem lay_gone2 {H : Hp} {a dx : Addr} {o1 o2 o3 o4 u : HO} (na : H a = none) (ne : dx ≠ a) : upd (del (upd (upd (upd (upd H a o1) dx o2) a o3) dx o4) a) dx u = upd H dx u := by
  funext b
  by_cases h1 : b = dx
  · rw [h1, upd_same, upd_same]
  · rw [upd_ne h1, upd_ne h1]
    by_cases h2 : b = a
    · rw [h2, del_same, na]
    · rw [del_ne h2, upd_ne h1, upd_ne h2, upd_ne h1, upd_ne h2]

/-- the answer where such an error is made: its own dict d is new and holds the field -/
theorem mk1_ans {H : Hp} {C : Addr} {f : Str} {v : V} {Q : XK} (h : ∀ d, H d = none → Q (.ref C) (some d) (upd H d (.xd [(f, v)]))) :
    [v].length ≤ 1000 ∧ ∀ a, H a = none → spI1 C f (.ref a :: ([v] ++ [])) (upd H a (exo a C none))
      (fun u G => u = .non ∧ ∃ (d : Addr) (fs : List (Str × V)), G a = some (exo a C (some d)) ∧ G d = some (exd d fs) ∧ H d = none ∧ Q (.ref C) (some d) (upd (del G a) d (.xd fs))) (fun _ _ _ => False) := by
  refine ⟨by show 1 ≤ 1000; decide, fun a na => ⟨a, v, rfl, upd_same, fun dx nx ne => ?_⟩⟩
  rw [upd_ne ne] at nx
  exact ⟨rfl, dx, _, upd_same, by rw [upd_ne ne, upd_same], nx, by rw [lay_gone na ne]; exact h dx nx⟩
theorem mk2_ans {H : Hp} {C : Addr} {f g : Str} {v u : V} {Q : XK} (h : ∀ d, H d = none → Q (.ref C) (some d) (upd H d (.xd [(g, u), (f, v)]))) :
    [v, u].length ≤ 1000 ∧ ∀ a, H a = none → spI2 C f g (.ref a :: ([v, u] ++ [])) (upd H a (exo a C none))
      (fun z G => z = .non ∧ ∃ (d : Addr) (fs : List (Str × V)), G a = some (exo a C (some d)) ∧ G d = some (exd d fs) ∧ H d = none ∧ Q (.ref C) (some d) (upd (del G a) d (.xd fs))) (fun _ _ _ => False) := by
  refine ⟨by show 2 ≤ 1000; decide, fun a na => ⟨a, v, u, rfl, upd_same, fun dx nx ne => ?_⟩⟩
  rw [upd_ne ne] at nx
  exact ⟨rfl, dx, _, by rw [upd_ne (Ne.symm ne), upd_same], upd_same, nx, by rw [lay_gone2 na ne]; exact h dx nx⟩
section
variable {X : Cx} {x f g : Str} {C fI : Addr} {fd : FuncData} {k : Nat} {e : Expr} {es : List Expr} {ta : TA} {W : WX} {p pos pos2 : Pos} {ps : List Str} {sp : Sp}
/-- raise C(e, ..) -/
theorem ps_raiseO (hc : X.calm = true) (T : RxC X.K X.mg x C fI) (F : FnOk X.prog X.w X.K X.mg X.base CX0 k fI fd ps sp) (b : Binds X.K fd ps []) (hr : Room (k + 1) X.A) (tk : Takes X W) (he : PA X (e :: es) ta) (hg : Gl X x)
    (hdb : (x == ("__debug__" : Str)) = false := by decide) (hs : starEach (e :: es) X.env = (false, eval e X.env) :: starEach es X.env := by rfl) (hpl : (backTo pos (starEach es X.env)).any (·.1) = false := by rfl) :
    PS X (.Raise (some (.Call (.Name x p) (e :: es) [] pos)) none pos2) (fun _ σ H => tMkO C sp [] ta σ H fun cls d G => W cls d σ G) :=
  ps_raise hc tk (pmk_oex T.o T.iC T.tI F hr b .nil (fun _ _ _ _ _ _ _ z => z.elim) hg T.gC he hdb hs hpl)
end
end HX

set_option Elab.async false
set_option linter.all false
set_option maxRecDepth 100000
set_option maxHeartbeats 2000000
namespace HX
open PySem PySem.Spec PyProof.Rows L2

/-! ### readings that reckon: a name, a test, operators by the values' kinds -/
def cV (i : Nat) : TE := fun σ H Q => match σ[i]? with
  | some (some v) => Q v H
  | _ => False
def cT (te : TE) : TT := fun σ H Q => te σ H fun x G => match x with
  | .bl k => Q k G
  | _ => False
def rI2 (C : Int → Int → Prop) (g : Int → Int → V) : R2 := fun x y H Q => match x, y with
  | .int i, .int j => C i j ∧ Q (g i j) H
  | _, _ => False
/-- one factor below 2 ^ 64, or both together below a million bits -/
def CMulU (i j : Int) : Prop := CMul i j ∨ CMulW i j
def rI1 (g : Int → Int → V) : R2 := fun x y H Q => match x, y with
  | .int i, .int j => Q (g i j) H
  | _, _ => False
def rAdd2 : R2 := fun x y H Q => match x, y with
  | .int i, .int j => Q (.int (i + j)) H
  | .str a, .str b => a.length + b.length ≤ sizeLine ∧ Q (.str (a ++ b)) H
  | _, _ => False
def eqD2 (K : PySem.W.Frag) (a b : Addr) (H : Hp) (Q : Bool → Prop) : Prop := ∃ d e, Dp K H (.ref a) d ∧ Dp K H (.ref b) e ∧ SeqAt.shaped d = true ∧ SeqAt.shaped e = true ∧ Q (PyData.eqv d e)
def rEq2 (K : PySem.W.Frag) (neg : Bool) : R2 := fun x y H Q => match x, y with
  | .int i, .int j => Q (.bl (xor neg (decide (i = j)))) H
  | .str i, .str j => Q (.bl (xor neg (decide (i = j)))) H
  | .bl i, .bl j => Q (.bl (xor neg (decide (i = j)))) H
  | .non, .non => Q (.bl (xor neg true)) H
  | .non, .int _ => Q (.bl neg) H
  | .int _, .non => Q (.bl neg) H
  | .non, .str _ => Q (.bl neg) H
  | .str _, .non => Q (.bl neg) H
  | .int _, .str _ => Q (.bl neg) H
  | .str _, .int _ => Q (.bl neg) H
  | .ref a, .ref b => eqD2 K a b H fun k => Q (.bl (xor neg k)) H
  | _, _ => False
def rOrd2 (g : Int → Int → Bool) (h : Str → Str → Bool) : R2 := fun x y H Q => match x, y with
  | .int i, .int j => Q (.bl (g i j)) H
  | .str i, .str j => Q (.bl (h i j)) H
  | _, _ => False
def rIs2 (neg : Bool) : R2 := fun x y H Q => match y with
  | .non => Q (.bl (xor neg (decide (x = .non)))) H
  | _ => False
/-- t[i]: of lists, tuples, texts, dicts with text keys -/
def rIx2 (K : PySem.W.Frag) : R2 := fun x y H Q => match x, y with
  | .ref p, .int i => ∃ xs v, (SqL K H p xs ∨ SqT K H p xs) ∧ atI xs i = some v ∧ Q v H
  | .str z, .int i => z.length ≤ sizeLine ∧ ∃ c, atI z.cps.toList i = some c ∧ Q (.str ⟨#[c]⟩) H
  | _, _ => False
section
variable {X : Cx} {a b e : Expr} {ta tb te : TE} {pos : Pos} {f : Value → Value → Sem Value}
theorem pc (i : Nat) {x : Str} (hN : X.N[i]? = some x := by rfl) (hv : Vis X.env.scope x := by first | exact Or.inl rfl | exact Or.inr (Or.inl rfl) | exact Or.inr (Or.inr rfl)) (hd : (x == ("__debug__" : Str)) = false := by decide)
    (hcd : (x == ("__classdict__" : Str)) = false := by decide) : PE X (.Name x pos) (cV i) := by
  refine ⟨fun pins s σ H Q I h => ?_⟩
  refine (pe_var hN hv hd hcd).run pins s σ H Q I ?_
  unfold cV at h
  split at h
  · rename_i v e
    exact ⟨v, e, h⟩
  · exact h.elim
theorem opC {C : Int → Int → Prop} {g : Int → Int → V} (h : OpR X f (rI C g)) : OpR X f (rI2 C g) := fun pins s σ H x y v u Q I rx ry q => by
  unfold rI2 at q
  split at q
  · exact h pins s σ H _ _ v u Q I rx ry ⟨_, _, rfl, rfl, q.1, q.2⟩
  · exact q.elim
theorem opC0 {g : Int → Int → V} (h : OpR X f (rI0 g)) : OpR X f (rI1 g) := fun pins s σ H x y v u Q I rx ry q => by
  unfold rI1 at q
  split at q
  · exact h pins s σ H _ _ v u Q I rx ry ⟨_, _, rfl, rfl, q⟩
  · exact q.elim
theorem o_add : OpR X (binaryOp .Add) rAdd2 := fun pins s σ H x y v u Q I rx ry q => by
  unfold rAdd2 at q
  split at q
  · exact op_add pins s σ H _ _ v u Q I rx ry ⟨_, _, rfl, rfl, q⟩
  · exact op_add_str pins s σ H _ _ v u Q I rx ry ⟨_, _, rfl, rfl, q.1, q.2⟩
  · exact q.elim
theorem o_sub : OpR X (binaryOp .Sub) (rI1 fun i j => .int (i - j)) := opC0 op_sub
theorem o_mul : OpR X (binaryOp .Mult) (rI2 CMulU fun i j => .int (i * j)) := fun pins s σ H x y v u Q I rx ry q => by
  unfold rI2 at q
  split at q
  · rcases q.1 with c | c
    · exact op_mul pins s σ H _ _ v u Q I rx ry ⟨_, _, rfl, rfl, c, q.2⟩
    · exact op_mulW pins s σ H _ _ v u Q I rx ry ⟨_, _, rfl, rfl, c, q.2⟩
  · exact q.elim
theorem o_fdiv : OpR X (binaryOp .FloorDiv) (rI2 CDivW fun i j => .int (i / j)) := opC op_fdivW
theorem o_mod : OpR X (binaryOp .Mod) (rI2 (fun _ j => 0 < j) fun i j => .int (i % j)) := opC op_mod
theorem o_pow : OpR X (binaryOp .Pow) (rI2 CPow fun i j => .int (i ^ j.toNat)) := opC op_pow
theorem o_lt : OpR X (compareOp .Lt) (rOrd2 (fun i j => decide (i < j)) fun i j => decide (i.cps.toList < j.cps.toList)) := fun pins s σ H x y v u Q I rx ry q => by
  unfold rOrd2 at q
  split at q
  · exact op_lt pins s σ H _ _ v u Q I rx ry ⟨_, _, rfl, rfl, q⟩
  · exact op_lt_str pins s σ H _ _ v u Q I rx ry ⟨_, _, rfl, rfl, q⟩
  · exact q.elim
theorem o_le : OpR X (compareOp .LtE) (rI1 fun i j => .bl (decide (i ≤ j))) := opC0 op_le
theorem o_gt : OpR X (compareOp .Gt) (rI1 fun i j => .bl (decide (j < i))) := opC0 op_gt
theorem o_ge : OpR X (compareOp .GtE) (rI1 fun i j => .bl (decide (j ≤ i))) := opC0 op_ge
theorem o_is : OpR X (compareOp .Is) (rIs2 false) := fun pins s σ H x y v u Q I rx ry q => by
  unfold rIs2 at q
  split at q
  · exact op_isN pins s σ H _ _ v u Q I rx ry ⟨rfl, by simpa using q⟩
  · exact q.elim
theorem o_isnot : OpR X (compareOp .IsNot) (rIs2 true) := fun pins s σ H x y v u Q I rx ry q => by
  unfold rIs2 at q
  split at q
  · exact op_notN pins s σ H _ _ v u Q I rx ry ⟨rfl, by simpa using q⟩
  · exact q.elim
theorem o_eq (hu : X.A.units + 64 < cLine) : OpR X (compareOp .Eq) (rEq2 X.K false) := fun pins s σ H x y v u Q I rx ry q => by
  unfold rEq2 at q
  split at q
  case h_11 =>
    obtain ⟨d, e, q1, q2, q3, q4, q5⟩ := q
    exact op_eqD hu pins s σ H _ _ v u Q I rx ry ⟨d, e, q1, q2, q3, q4, by simpa using q5⟩
  case h_12 => exact q.elim
  all_goals exact op_eq pins s σ H _ _ v u Q I rx ry ⟨rfl, by simpa [dec_int, dec_bl, dec_str] using q⟩
theorem o_ne (hu : X.A.units + 64 < cLine) : OpR X (compareOp .NotEq) (rEq2 X.K true) := fun pins s σ H x y v u Q I rx ry q => by
  unfold rEq2 at q
  split at q
  case h_11 =>
    obtain ⟨d, e, q1, q2, q3, q4, q5⟩ := q
    exact op_neD hu pins s σ H _ _ v u Q I rx ry ⟨d, e, q1, q2, q3, q4, by simpa using q5⟩
  case h_12 => exact q.elim
  all_goals exact op_ne pins s σ H _ _ v u Q I rx ry ⟨rfl, by simpa [dec_int, dec_bl, dec_str] using q⟩
theorem ix2 : IxR X (rIx2 X.K) := fun ve se pins s σ H x y v u Q I rx ry q hs => by
  unfold rIx2 at q
  split at q
  · obtain ⟨xs, w', z | z, h1, h2⟩ := q
    · exact ix_list ve se pins s σ H _ _ v u Q I rx ry ⟨_, xs, _, w', rfl, rfl, z, h1, h2⟩ hs
    · exact ix_tup ve se pins s σ H _ _ v u Q I rx ry ⟨_, xs, _, w', rfl, rfl, z, h1, h2⟩ hs
  · obtain ⟨h1, c, h2, h3⟩ := q
    exact ix_str ve se pins s σ H _ _ v u Q I rx ry ⟨_, _, c, rfl, rfl, h1, h2, h3⟩ hs
  · exact q.elim
theorem p_ix (ha : PE X a ta) (hb : PE X b tb) (hs : PlainIx b := by exact fun _ _ => rfl) : PE X (.Subscript a b pos) (tOp (rIx2 X.K) ta tb) := pe_ix ix2 ha hb hs
theorem p_cmp {op : CmpOp} {r : R2} (ho : OpR X (compareOp op) r) (ha : PE X a ta) (hb : PE X b tb) (hm : behindInMarks op b = false := by first | exact nomark _ | rfl) : PE X (.Compare a [op] [b] pos) (tOp r ta tb) := pe_cmpR ho ha hb hm
theorem tT_of {te : TE} {σ : L2.St} {H : Hp} {Q : Bool → Hp → Prop} (mono : ∀ {R R' : VK}, (∀ v G, R v G → R' v G) → te σ H R → te σ H R') (h : cT te σ H Q) : tTest te σ H Q :=
  mono (fun v G q => by
    split at q
    · exact ⟨_, rfl, q⟩
    · exact q.elim) h
/-- a value that is True or False as a test -/
theorem t_val (h : PE X e te) (he : ∀ whole, isTrue e X.env whole = (do let v ← whole; standAt e.pos; holding [v] (truthy v)) := by intro _; rfl) : PT X e (cT te) := by
  refine ⟨fun pins s σ H Q I hw => isTrue_plain (thn (h.run pins s σ H _ I hw) fun v s1 ⟨x, G, I1, r1, q1⟩ => ?_) (he _)⟩
  dsimp only at q1
  split at q1
  · cases r1
    exact wpAny_truthy_bool ⟨G, I1, q1⟩
  · exact q1.elim
theorem t_cmp {op : CmpOp} {r : R2} (ho : OpR X (compareOp op) r) (ha : PE X a ta) (hb : PE X b tb) (hm : behindInMarks op b = false := by first | exact nomark _ | rfl) : PT X (.Compare a [op] [b] pos) (cT (tOp r ta tb)) := by
  refine ⟨fun pins s σ H Q I h => wpAny_isTrue_Compare1 (thn (ha.run pins s σ H _ I h) fun v s1 ⟨x, H1, I1, r1, q1⟩ => thn (hb.run pins s1 σ H1 _ I1 q1) fun u s2 ⟨y, H2, I2, r2, q2⟩ =>
    thn (ho pins s2 σ H2 x y v u _ I2 r1 r2 q2) fun c s3 ⟨z, H3, I3, r3, q3⟩ => ?_) hm⟩
  dsimp only at q3
  split at q3
  · cases r3
    exact wpAny_truthy_bool ⟨H3, I3, q3⟩
  · exact q3.elim
/-! ### ways: each under its own answer -/
def cIfS (c : TT) (t u : TS) : TS := fun D σ H => c σ H fun b G => (b = true → t D σ G) ∧ (b = false → u D σ G)
theorem s_if {c : Expr} {p q : List Stmt} {tc : TT} {t u : TS} (hc : PT X c tc) (hp : PSs X p t) (hq : PSs X q u) : PS X (.If c p q pos) (cIfS tc t u) := by
  refine ⟨fun pins s σ H D I h => wpAny_If (thn (hc.run pins s σ H _ I h) fun d s1 ⟨G, I1, z⟩ => ?_)⟩
  cases d with
  | true => exact hp.run pins s1 σ G D I1 (z.1 rfl)
  | false => exact hq.run pins s1 σ G D I1 (z.2 rfl)
def cIfE (t : TT) (ta tb : TE) : TE := fun σ H Q => t σ H fun c G => (c = true → ta σ G Q) ∧ (c = false → tb σ G Q)
theorem e_if {c : Expr} {tc : TT} (hc : PT X c tc) (ha : PE X a ta) (hb : PE X b tb) : PE X (.IfExp c a b pos) (cIfE tc ta tb) := by
  refine ⟨fun pins s σ H Q I h => wpAny_IfExp (thn (hc.run pins s σ H _ I h) fun d s1 ⟨G, I1, z⟩ => ?_)⟩
  cases d with
  | true => exact ha.run pins s1 σ G Q I1 (z.1 rfl)
  | false => exact hb.run pins s1 σ G Q I1 (z.2 rfl)
def cAnd (t u : TT) : TT := fun σ H Q => t σ H fun c G => (c = true → u σ G Q) ∧ (c = false → Q false G)
def cOr (t u : TT) : TT := fun σ H Q => t σ H fun c G => (c = true → Q true G) ∧ (c = false → u σ G Q)
theorem w_and {rest : List Expr} {t u : TT} (ha : PT X a t) (hb : PW X (.BoolOp .And (b :: rest) pos) u) : PW X (.BoolOp .And (a :: b :: rest) pos) (cAnd t u) := by
  refine ⟨fun wh pins s σ H Q I h => isTrue_and (thn (ha.run pins s σ H _ I h) fun c s1 ⟨G, I1, z⟩ => ?_)⟩
  cases c with
  | true => exact hb.run wh pins s1 σ G Q I1 (z.1 rfl)
  | false => exact ⟨G, I1, z.2 rfl⟩
theorem w_or {rest : List Expr} {t u : TT} (ha : PT X a t) (hb : PW X (.BoolOp .Or (b :: rest) pos) u) : PW X (.BoolOp .Or (a :: b :: rest) pos) (cOr t u) := by
  refine ⟨fun wh pins s σ H Q I h => isTrue_or (thn (ha.run pins s σ H _ I h) fun c s1 ⟨G, I1, z⟩ => ?_)⟩
  cases c with
  | true => exact ⟨G, I1, z.1 rfl⟩
  | false => exact hb.run wh pins s1 σ G Q I1 (z.2 rfl)
/-- and, or, not as values, of True and False -/
def cAndV (ta tb : TE) : TE := fun σ H Q => ta σ H fun x G => match x with
  | .bl c => (c = true → tb σ G Q) ∧ (c = false → Q (.bl false) G)
  | _ => False
def cOrV (ta tb : TE) : TE := fun σ H Q => ta σ H fun x G => match x with
  | .bl c => (c = true → Q (.bl true) G) ∧ (c = false → tb σ G Q)
  | _ => False
def cNotV (ta : TE) : TE := fun σ H Q => ta σ H fun x G => match x with
  | .bl c => Q (.bl (!c)) G
  | _ => False
theorem e_and {rest : List Expr} (ha : PE X a ta) (hb : PE X (.BoolOp .And (b :: rest) pos) tb) : PE X (.BoolOp .And (a :: b :: rest) pos) (cAndV ta tb) := by
  refine ⟨fun pins s σ H Q I h => BoolOp_and (thn (ha.run pins s σ H _ I h) fun v s1 ⟨x, G, I1, r1, z⟩ => ?_)⟩
  dsimp only at z
  split at z
  · rename_i c
    cases r1
    refine wpAny_truthy_bool ?_
    cases c with
    | true => exact hb.run pins s1 σ G Q I1 (z.1 rfl)
    | false => exact ⟨.bl false, G, I1, rfl, z.2 rfl⟩
  · exact z.elim
theorem e_or {rest : List Expr} (ha : PE X a ta) (hb : PE X (.BoolOp .Or (b :: rest) pos) tb) : PE X (.BoolOp .Or (a :: b :: rest) pos) (cOrV ta tb) := by
  refine ⟨fun pins s σ H Q I h => BoolOp_or (thn (ha.run pins s σ H _ I h) fun v s1 ⟨x, G, I1, r1, z⟩ => ?_)⟩
  dsimp only at z
  split at z
  · rename_i c
    cases r1
    refine wpAny_truthy_bool ?_
    cases c with
    | false => exact hb.run pins s1 σ G Q I1 (z.2 rfl)
    | true => exact ⟨.bl true, G, I1, rfl, z.1 rfl⟩
  · exact z.elim
theorem e_not (ha : PE X a ta) : PE X (.UnaryOp .Not a pos) (cNotV ta) := by
  refine ⟨fun pins s σ H Q I h => UnaryOp_ (thn (ha.run pins s σ H _ I h) fun v s1 ⟨x, G, I1, r1, z⟩ => ?_)⟩
  dsimp only at z
  split at z
  · cases r1
    exact not_of (wpAny_truthy_bool ⟨.bl _, G, I1, rfl, z⟩)
  · exact z.elim
/-- a op b op' c, as a test, as a value -/
def cChain (r r' : R2) (ta tb tc : TE) : TE := fun σ H Q => ta σ H fun x H1 => tb σ H1 fun y H2 => r x y H2 fun z H3 => match z with
  | .bl k => (k = true → tc σ H3 fun u H4 => r' y u H4 Q) ∧ (k = false → Q (.bl false) H3)
  | _ => False
theorem t_chain {c : Expr} {tc : TE} {op op' : CmpOp} {r r' : R2} (ho : OpR X (compareOp op) r) (ho' : OpR X (compareOp op') r') (ha : PE X a ta) (hb : PE X b tb) (hc : PE X c tc)
    (hm : lastMarks [op, op'] [b, c] = false := by with_unfolding_all rfl) : PT X (.Compare a [op, op'] [b, c] pos) (cT (cChain r r' ta tb tc)) := by
  refine ⟨fun pins s σ H Q I h => isTrue_chain (thn (ha.run pins s σ H _ I h) fun v s1 ⟨x, H1, I1, r1, q1⟩ => test_link (thn (hb.run pins s1 σ H1 _ I1 q1) fun u s2 ⟨y, H2, I2, r2, q2⟩ =>
    thn (ho pins s2 σ H2 x y v u _ I2 r1 r2 q2) fun d s3 ⟨z, H3, I3, r3, q3⟩ => ?_)) hm⟩
  dsimp only at q3
  split at q3
  · rename_i k
    cases r3
    refine wpAny_truthy_bool ?_
    cases k with
    | false => exact ite_ff ⟨H3, I3, q3.2 rfl⟩
    | true =>
      refine ite_tt (test_last (thn (hc.run pins s3 σ H3 _ I3 (q3.1 rfl)) fun w4 s4 ⟨z4, H4, I4, r4, q4⟩ => thn (ho' pins s4 σ H4 y z4 u w4 _ I4 r2 r4 q4) fun d' s5 ⟨z5, H5, I5, r5, q5⟩ => ?_))
      dsimp only at q5
      split at q5
      · cases r5
        exact wpAny_truthy_bool ⟨H5, I5, q5⟩
      · exact q5.elim
  · exact q3.elim
theorem e_chain {c : Expr} {tc : TE} {op op' : CmpOp} {r r' : R2} (ho : OpR X (compareOp op) r) (ho' : OpR X (compareOp op') r') (ha : PE X a ta) (hb : PE X b tb) (hc : PE X c tc)
    (hm : lastMarks [op, op'] [b, c] = false := by with_unfolding_all rfl) : PE X (.Compare a [op, op'] [b, c] pos) (cChain r r' ta tb tc) := by
  refine ⟨fun pins s σ H Q I h => Compare_chain (thn (ha.run pins s σ H _ I h) fun v s1 ⟨x, H1, I1, r1, q1⟩ => chain_link (thn (hb.run pins s1 σ H1 _ I1 q1) fun u s2 ⟨y, H2, I2, r2, q2⟩ =>
    thn (ho pins s2 σ H2 x y v u _ I2 r1 r2 q2) fun d s3 ⟨z, H3, I3, r3, q3⟩ => ?_)) hm⟩
  dsimp only at q3
  split at q3
  · rename_i k
    cases r3
    refine wpAny_truthy_bool ?_
    cases k with
    | false => exact ite_ff ⟨.bl false, H3, I3, rfl, q3.2 rfl⟩
    | true => exact ite_tt (chain_last (thn (hc.run pins s3 σ H3 _ I3 (q3.1 rfl)) fun w4 s4 ⟨z4, H4, I4, r4, q4⟩ => ho' pins s4 σ H4 y z4 u w4 Q I4 r2 r4 q4))
  · exact q3.elim
/-- two statements with a word of one's own between them -/
def cCut (t u : TS) : TS := fun D σ H => ∃ M : L2.St → Hp → Prop, t { D with nx := M } σ H ∧ ∀ σ' G, M σ' G → u D σ' G
theorem s_cut {st : Stmt} {rest : List Stmt} {t u : TS} (h1 : PS X st t) (h2 : PSs X rest u) : PSs X (st :: rest) (cCut t u) := by
  refine ⟨fun pins s σ H D I ⟨M, h, k⟩ => wpAny_execs_cons (thn (h1.run pins s σ H { D with nx := M } I h) fun f s1 q => ?_)⟩
  match f, q with
  | .next, ⟨σ', G, I', q⟩ => exact h2.run pins s1 σ' G D I' (k σ' G q)
  | .ret v, q => exact q
  | .brk, q => exact q
  | .cont, q => exact q
theorem eqs {α : Type} [DecidableEq α] {a : α} {R : Bool → Prop} (h : R true) : R (xor false (decide (a = a))) := by
  rw [decide_eq_true rfl]
  exact h
end
end HX

set_option Elab.async false
set_option linter.all false
set_option maxRecDepth 100000
set_option maxHeartbeats 2000000
namespace HX
open PySem PySem.Spec PyProof.Rows L2

/-! ### the defs of the text, as their callers see them: by the module's name x -/
section
variable (P : Program) (w : World) (K : PySem.W.Frag) (mg : Str → Option Value) (base : Heap)
/-- raises nothing -/
def CalO (x : Str) (k : Nat) (ps : List Str) (sp : Sp) (B : FuncData → Prop) : Prop := ∃ (f : Addr) (fd : FuncData), FnOk P w K mg base CX0 k f fd ps sp ∧ mg x = some (.ref f) ∧ PySem.W.keepIn K (.ref f) = true ∧ Binds K fd ps [] ∧ B fd
/-- raises nothing, where nothing is being shown -/
def CalG (x : Str) (k : Nat) (ps : List Str) (sp : Sp) (B : FuncData → Prop) : Prop := ∃ (f : Addr) (fd : FuncData), FnG P w K mg base CX0 k f fd ps sp ∧ mg x = some (.ref f) ∧ PySem.W.keepIn K (.ref f) = true ∧ Binds K fd ps [] ∧ B fd
/-- may raise -/
def CalX (x : Str) (k : Nat) (ps : List Str) (sp : Sp) (B : FuncData → Prop) : Prop := ∃ (f : Addr) (fd : FuncData), FnOk P w K mg base (CX P w) k f fd ps sp ∧ mg x = some (.ref f) ∧ PySem.W.keepIn K (.ref f) = true ∧ Binds K fd ps [] ∧ B fd
end
section
variable {X : Cx} {k : Nat} {ps : List Str} {sp : Sp} {x : Str} {p pos : Pos} {e : Expr} {es : List Expr} {t tk' : TA} {W : WX} {B : FuncData → Prop} {ks : List Str} {kws : List Keyword} {g : List Value → List Value → List Value} {gV : List V → List V → List V}
theorem pe_cO (C : CalO X.prog X.w X.K X.mg X.base x k ps sp B) (hr : Room k X.A) (ha : PA X (e :: es) t) (hg : Gl X x := by rfl) (hdb : (x == ("__debug__" : Str)) = false := by decide)
    (he : starEach (e :: es) X.env = (false, eval e X.env) :: starEach es X.env := by rfl) (hpl : (backTo pos (starEach es X.env)).any (·.1) = false := by rfl) : PE X (.Call (.Name x p) (e :: es) [] pos) (tCall sp [] E0 t) := by
  obtain ⟨f, fd, F, hm, hk, hb, _⟩ := C
  exact pe_call F hr hg hm hk hb .nil pass0 ha hdb he hpl
theorem pe_cG (C : CalG X.prog X.w X.K X.mg X.base x k ps sp B) (gd : X.A.guards = some []) (hr : Room k X.A) (ha : PA X (e :: es) t) (hg : Gl X x := by rfl) (hdb : (x == ("__debug__" : Str)) = false := by decide)
    (he : starEach (e :: es) X.env = (false, eval e X.env) :: starEach es X.env := by rfl) (hpl : (backTo pos (starEach es X.env)).any (·.1) = false := by rfl) : PE X (.Call (.Name x p) (e :: es) [] pos) (tCall sp [] E0 t) := by
  obtain ⟨f, fd, F, hm, hk, hb, _⟩ := C
  exact pe_callG F gd hr hg hm hk hb .nil pass0 ha hdb he hpl
theorem pe_cX (C : CalX X.prog X.w X.K X.mg X.base x k ps sp B) (hr : Room k X.A) (tk : Takes X W) (ha : PA X (e :: es) t) (hg : Gl X x := by rfl) (hdb : (x == ("__debug__" : Str)) = false := by decide)
    (he : starEach (e :: es) X.env = (false, eval e X.env) :: starEach es X.env := by rfl) (hpl : (backTo pos (starEach es X.env)).any (·.1) = false := by rfl) : PE X (.Call (.Name x p) (e :: es) [] pos) (tCallS sp (WE W) t) := by
  obtain ⟨f, fd, F, hm, hk, hb, _⟩ := C
  exact pe_callS F hr hg hm hk hb (fun σ => passAt tk σ) ha hdb he hpl
end
/-! ### calls by keywords alone -/
section
variable {X : Cx} {k : Nat} {ps : List Str} {sp : Sp} {x : Str} {p pos : Pos} {t : TA} {W : WX} {B : FuncData → Prop} {ks : List Str} {kws : List Keyword} {g : List Value → List Value → List Value} {gV : List V → List V → List V} {CY : CXT} {f : Addr} {fd : FuncData} {E : XK}
theorem run_kw {pins : List (Addr × Obj)} {σ : L2.St} {H : Hp} {s : Shared} {Q : VK} {ws : List Value} {zs : List V} (F : FnOk X.prog X.w X.K X.mg X.base CY k f fd ps sp) (hr : Room k X.A) (hb : KBn X.K fd ps 0 ks g gV)
    (hx : ∀ e s', CY X.stack H s E e s' → X.xe e s') (I : Inv X pins σ H s) (rz : Vals zs ws) (l2 : zs.length = ks.length) (h : sp (gV [] zs) H Q E) : wpAny (model X.prog X.w) X.A (call (.ref f) [] (ks.zip ws)) (EP X pins σ Q) X.xe s := by
  have l3 : ws.length = ks.length := rz.length.symm.trans l2
  have run := F.run X.A X.stack s H ⟨[], ks.zip ws⟩ (g [] ws) (gV [] zs) Q E hr I.env0 (hb.to s [] ws I.kIn rfl l3) (hb.rel .nil rz) h
  refine wpAny_call (codeAny_mono run fun r s' q => ?_)
  match r, q with
  | .error e, q => exact hx e s' q
  | .ok (.ret u), q => exact I.after q
  | .ok .next, q => exact False.elim q
  | .ok .brk, q => exact False.elim q
  | .ok .cont, q => exact False.elim q
/-- f(k = e, ..) -/
def cKw (m : Nat) (sp : Sp) (gV : List V → List V → List V) (E : L2.St → XK) (t : TA) : TE := fun σ H Q => t σ H fun zs G => zs.length = m ∧ sp (gV [] zs) G Q (E σ)
theorem pe_kO (C : CalO X.prog X.w X.K X.mg X.base x k ps sp B) (hB : ∀ fd, B fd → KBn X.K fd ps 0 ks g gV) (hr : Room k X.A) (hkw : PK X kws t) (hg : Gl X x := by rfl)
    (hall : (backToKw pos (keywordEach kws X.env)).all (·.1.isSome) = true := by rfl) (hks : (backToKw pos (keywordEach kws X.env)).filterMap (·.1) = ks := by rfl) (hdb : (x == ("__debug__" : Str)) = false := by decide)
    (hpl : ((backTo pos (starEach [] X.env)).any (·.1) || (backToKw pos (keywordEach kws X.env)).any (·.1.isNone)) = false := by rfl) : PE X (.Call (.Name x p) [] kws pos) (cKw ks.length sp gV (fun _ => E0) t) := by
  obtain ⟨f, fd, F, hm, hk, _, hb⟩ := C
  refine ⟨fun pins s σ H Q I h => wpAny_Call_Name_kw (ld_glob I hg hm ?_ hdb)⟩
  refine PySem.W.callWith_KW0 (h₀ := X.base) I.ok.mod.kin hk hall (thn (hkw.run pos pins s σ H _ I h) fun ws s2 ⟨zs, G, I2, rz, l2, q⟩ => ⟨I2.kIn, ?_⟩) hpl
  rw [hks]
  exact run_kw F hr (hB fd hb) (fun _ _ z => z.elim) I2 rz l2 q
theorem pe_kX (C : CalX X.prog X.w X.K X.mg X.base x k ps sp B) (hB : ∀ fd, B fd → KBn X.K fd ps 0 ks g gV) (hr : Room k X.A) (tk : Takes X W) (hkw : PK X kws t) (hg : Gl X x := by rfl)
    (hall : (backToKw pos (keywordEach kws X.env)).all (·.1.isSome) = true := by rfl) (hks : (backToKw pos (keywordEach kws X.env)).filterMap (·.1) = ks := by rfl) (hdb : (x == ("__debug__" : Str)) = false := by decide)
    (hpl : ((backTo pos (starEach [] X.env)).any (·.1) || (backToKw pos (keywordEach kws X.env)).any (·.1.isNone)) = false := by rfl) : PE X (.Call (.Name x p) [] kws pos) (cKw ks.length sp gV (WE W) t) := by
  obtain ⟨f, fd, F, hm, hk, _, hb⟩ := C
  refine ⟨fun pins s σ H Q I h => wpAny_Call_Name_kw (ld_glob I hg hm ?_ hdb)⟩
  refine PySem.W.callWith_KW0 (h₀ := X.base) I.ok.mod.kin hk hall (thn (hkw.run pos pins s σ H _ I h) fun ws s2 ⟨zs, G, I2, rz, l2, q⟩ => ⟨I2.kIn, ?_⟩) hpl
  rw [hks]
  exact run_kw F hr (hB fd hb) (fun e s' c => passAt tk σ pins G s2 e s' I2 c) I2 rz l2 q
end
/-! ### built-ins by the values' kinds -/
section
variable {X : Cx}
def rInt2 : List V → Hp → VK → Prop := fun xs H Q => match xs with
  | [.int i] => Q (.int i) H
  | [.bl k] => Q (.int (if k then 1 else 0)) H
  | _ => False
theorem c_int : CallR X (.type "int") rInt2 := fun pins s σ H xs us Q I r q => by
  unfold rInt2 at q
  split at q
  · exact call_int1 pins s σ H _ us Q I r (.inl ⟨_, rfl, q⟩)
  · exact call_int1 pins s σ H _ us Q I r (.inr ⟨_, rfl, q⟩)
  · exact q.elim
def rAbs2 : List V → Hp → VK → Prop := fun xs H Q => match xs with
  | [.int i] => Q (.int (if i < 0 then -i else i)) H
  | _ => False
theorem c_abs : CallR X (.builtin "abs") rAbs2 := fun pins s σ H xs us Q I r q => by
  unfold rAbs2 at q
  split at q
  · exact call_abs pins s σ H _ us Q I r ⟨_, rfl, q⟩
  · exact q.elim
def rLen2 (K : PySem.W.Frag) : List V → Hp → VK → Prop := fun xs H Q => match xs with
  | [.str y] => y.length ≤ sizeLine ∧ Q (.int y.length) H
  | [.ref p] => ∃ ys : List V, (SqL K H p ys ∨ SqT K H p ys) ∧ Q (.int ys.length) H
  | _ => False
theorem c_len : CallR X (.builtin "len") (rLen2 X.K) := fun pins s σ H xs us Q I r q => by
  unfold rLen2 at q
  split at q
  · exact call_len pins s σ H _ us Q I r ⟨_, _, rfl, ⟨q.1, rfl⟩, q.2⟩
  · obtain ⟨ys, h | h, q⟩ := q
    · exact call_len pins s σ H _ us Q I r ⟨_, _, rfl, .inl ⟨ys, h, rfl⟩, q⟩
    · exact call_len pins s σ H _ us Q I r ⟨_, _, rfl, .inr ⟨ys, h, rfl⟩, q⟩
  · exact q.elim
/-- isinstance of plain values and own instances, and one class -/
def rIsi2 (K : PySem.W.Frag) : List V → Hp → VK → Prop := fun xs H Q => ∃ (x c : V) (t cv : Value) (b : Bool), xs = [x, c] ∧ TyOf K H x t ∧ (∀ u, RelV c u → u = cv) ∧ PySem.W.kitOne K t cv = some b ∧ Q (.bl b) H
theorem c_isi : CallR X (.builtin "isinstance") (rIsi2 X.K) := fun pins s σ H xs us Q I r q => by
  obtain ⟨x, c, t, cv, b, rfl, ty, hc, hk, q⟩ := q
  obtain ⟨u, u2, rfl, r1, r2⟩ := vals2 r
  have e2 := hc _ r2
  subst e2
  exact isinst_ok I r1 ty hk fun tk => ⟨.bl b, H, I.tok tk, rfl, q⟩
end
end HX

set_option Elab.async false
set_option linter.all false
set_option maxRecDepth 100000
set_option maxHeartbeats 2000000
namespace HX
open PySem PySem.Spec PyProof.Rows L2

/-! ### the pen: its cells at l, how many were begun, what is left of a great one -/
structure Pn (H : Hp) (p l : Addr) (ns : List Int) (c g : Int) : Prop where
  at_ : H p = some (.lst [.ref l, .int c, .int g])
  cel : H l = some (.lst (ns.map V.int))
  ne : l ≠ p
  c0 : 0 ≤ c
  g0 : 0 ≤ g
/-- all but p is as it was -/
def Kp (p : Addr) (H H' : Hp) : Prop := ∀ b o, b ≠ p → H b = some o → H' b = some o
/-- H without p -/
def Hd (p : Addr) (H : Hp) : Hp := fun b => if b = p then none else H b
theorem Hd.at_ {p b : Addr} {H : Hp} {o : HO} (n : b ≠ p) (e : H b = some o) : Hd p H b = some o := by unfold Hd; rw [if_neg n]; exact e
theorem Hd.un {p b : Addr} {H : Hp} {o : HO} (e : Hd p H b = some o) : b ≠ p ∧ H b = some o := by
  unfold Hd at e
  split at e
  · cases e
  · rename_i n
    exact ⟨n, e⟩
theorem Kp.hd {p : Addr} {H H' : Hp} (k : Kp p H H') : Same (Hd p H) (Hd p H') := fun b o e => Hd.at_ (Hd.un e).1 (k b o (Hd.un e).1 (Hd.un e).2)
theorem Hd.sub {p : Addr} {H : Hp} : Same (Hd p H) H := fun _ _ e => (Hd.un e).2
theorem Kp.refl {p : Addr} {H : Hp} : Kp p H H := fun _ _ _ e => e
theorem Kp.trans {p : Addr} {H H1 H2 : Hp} (a : Kp p H H1) (b : Kp p H1 H2) : Kp p H H2 := fun c o n e => b c o n (a c o n e)
theorem Kp.upd {p : Addr} {H H1 : Hp} {o : HO} (a : Kp p H H1) : Kp p H (L2.upd H1 p o) := fun c u n e => by rw [upd_ne n]; exact a c u n e
theorem Kp.new {p q : Addr} {H H1 : Hp} {o : HO} (a : Kp p H H1) (h : H1 q = none) : Kp p H (L2.upd H1 q o) := fun c u n e => by
  have z := a c u n e
  rw [upd_ne (ne_of_none z h)]
  exact z
theorem Kp.same {p : Addr} {H H1 : Hp} (a : Same H H1) : Kp p H H1 := fun c u _ e => a c u e
theorem Same.new {H H1 : Hp} {q : Addr} {o : HO} (a : Same H H1) (h : H1 q = none) : Same H (L2.upd H1 q o) := fun c u e => by
  have z := a c u e
  rw [upd_ne (ne_of_none z h)]
  exact z
theorem Same.mut {H H1 : Hp} {q : Addr} {o : HO} (a : Same H H1) (h : H q = none) : Same H (L2.upd H1 q o) := fun c u e => by
  rw [upd_ne (ne_of_none e h)]
  exact a c u e
theorem Kp.mut {p : Addr} {H H1 : Hp} {q : Addr} {o : HO} (a : Kp p H H1) (h : H q = none) : Kp p H (L2.upd H1 q o) := fun c u n e => by
  rw [upd_ne (ne_of_none e h)]
  exact a c u n e
theorem Kp.seq {K : PySem.W.Frag} {p a : Addr} {H H1 : Hp} {xs : List V} (k : Kp p H H1) (n : a ≠ p) (h : SqL K H a xs) : SqL K H1 a xs := by
  rcases h with (h | ⟨o, h⟩) | h
  · exact .inl (.inl (k _ _ n h))
  · exact .inl (.inr ⟨o, k _ _ n h⟩)
  · exact .inr h
theorem Kp.seqT {K : PySem.W.Frag} {p a : Addr} {H H1 : Hp} {xs : List V} (k : Kp p H H1) (n : a ≠ p) (h : SqT K H a xs) : SqT K H1 a xs := by
  rcases h with (h | ⟨o, h⟩) | h
  · exact .inl (.inl (k _ _ n h))
  · exact .inl (.inr ⟨o, k _ _ n h⟩)
  · exact .inr h
theorem Pn.put {H H1 : Hp} {p l : Addr} {ns : List Int} {c g c' g' : Int} (P : Pn H p l ns c g) (k : Kp p H H1) (hc : 0 ≤ c') (hg : 0 ≤ g') (e : H1 p = some (.lst [.ref l, .int c', .int g'])) : Pn H1 p l ns c' g' :=
  ⟨e, k _ _ P.ne P.cel, P.ne, hc, hg⟩
theorem Pn.same {H H1 : Hp} {p l : Addr} {ns : List Int} {c g : Int} (P : Pn H p l ns c g) (k : Same H H1) : Pn H1 p l ns c g := P.put (.same k) P.c0 P.g0 (k _ _ P.at_)
theorem Pn.new {H : Hp} {p l q : Addr} {ns : List Int} {c g : Int} {o : HO} (P : Pn H p l ns c g) (h : H q = none) : Pn (L2.upd H q o) p l ns c g := P.same (Same.new (Same.refl H) h)
/-- a pen at p, its cells at l, that has been asked c times at most -/
def Pe (H : Hp) (p l : Addr) (c : Int) : Prop := ∃ ns c0 g, Pn H p l ns c0 g ∧ c0 ≤ c
theorem Pe.mono {H : Hp} {p l : Addr} {c c' : Int} (P : Pe H p l c) (h : c ≤ c') : Pe H p l c' := let ⟨ns, c0, g, q, e⟩ := P; ⟨ns, c0, g, q, Int.le_trans e h⟩
theorem Pe.same {H H1 : Hp} {p l : Addr} {c : Int} (P : Pe H p l c) (k : Same H H1) : Pe H1 p l c := let ⟨ns, c0, g, q, e⟩ := P; ⟨ns, c0, g, q.same k, e⟩
theorem Pe.new {H : Hp} {p l q : Addr} {c : Int} {o : HO} (P : Pe H p l c) (h : H q = none) : Pe (L2.upd H q o) p l c := P.same (Same.new (Same.refl H) h)
theorem Pe.atP {H : Hp} {p l : Addr} {c : Int} (P : Pe H p l c) : ∃ o, H p = some o := let ⟨_, _, _, q, _⟩ := P; ⟨_, q.at_⟩
theorem Pe.atL {H : Hp} {p l : Addr} {c : Int} (P : Pe H p l c) : ∃ o, H l = some o := let ⟨_, _, _, q, _⟩ := P; ⟨_, q.cel⟩
theorem Pe.ne {H : Hp} {p l q : Addr} {c : Int} (P : Pe H p l c) (h : H q = none) : q ≠ p := let ⟨_, e⟩ := P.atP; Ne.symm (ne_of_none e h)
theorem Pe.neL {H : Hp} {p l q : Addr} {c : Int} (P : Pe H p l c) (h : H q = none) : q ≠ l := let ⟨_, e⟩ := P.atL; Ne.symm (ne_of_none e h)
theorem Pe.mut {H : Hp} {p l q : Addr} {c : Int} {o : HO} (P : Pe H p l c) (h : q ≠ p) (h2 : q ≠ l) : Pe (L2.upd H q o) p l c := by
  obtain ⟨ns, c0, g, q0, e⟩ := P
  exact ⟨ns, c0, g, ⟨by rw [upd_ne (Ne.symm h)]; exact q0.at_, by rw [upd_ne (Ne.symm h2)]; exact q0.cel, q0.ne, q0.c0, q0.g0⟩, e⟩
/-- an object that the pen isn't: it is no list of a list and two numbers -/
theorem Pe.ne2 {H : Hp} {p l a : Addr} {c : Int} {o : HO} (P : Pe H p l c) (h : H a = some o) (n : ∀ l c g, o ≠ .lst [.ref l, .int c, .int g]) : a ≠ p := by
  obtain ⟨ns, c0, g, q, _⟩ := P
  exact ne_of h q.at_ (n _ _ _)

/-! ### what the draws promise -/
def spPen (K : PySem.W.Frag) : Sp := fun vs H Q _ => ∃ (a : Addr) (ns : List Int), vs = [.ref a] ∧ SqL K H a (ns.map V.int) ∧ ∀ (p l : Addr) (H' : Hp), H p = none → Same H H' → Pe H' p l 0 → Q (.ref p) H'
def spDraw : Sp := fun vs H Q _ => ∃ (p l : Addr) (c many : Int), vs = [.ref p, .int many] ∧ Pe H p l c ∧ 0 < many ∧ many.natAbs < 2 ^ 250 ∧ c < 1000000 ∧
  ∀ (r : Int) (H' : Hp), 0 ≤ r → r < many → Kp p H H' → Pe H' p l (c + 1) → Q (.int r) H'
/-- one of a text's signs, of a list's or a tuple's items -/
def spPick (K : PySem.W.Frag) : Sp := fun vs H Q _ => ∃ (p l : Addr) (c : Int) (x : V), vs = [.ref p, x] ∧ Pe H p l c ∧ c < 1000000 ∧
  ((∃ z : Str, x = .str z ∧ 0 < z.length ∧ z.length ≤ 1000000 ∧ ∀ (ch : Nat) (H' : Hp), ch ∈ z.cps.toList → Kp p H H' → Pe H' p l (c + 1) → Q (.str ⟨#[ch]⟩) H') ∨
    ∃ (a : Addr) (xs : List V), x = .ref a ∧ a ≠ p ∧ (SqL K H a xs ∨ SqT K H a xs) ∧ 0 < xs.length ∧ xs.length ≤ 1000000 ∧ ∀ (v : V) (H' : Hp), v ∈ xs → Kp p H H' → Pe H' p l (c + 1) → Q v H')

theorem mul_lt {a b x y : Int} (h0 : 0 ≤ x) (h1 : x < a) (h2 : 0 ≤ y) (h3 : y < b) : x * y < a * b := by
  have z1 : x * y ≤ x * b := Int.mul_le_mul_of_nonneg_left (by omega) h0
  have z2 : x * b ≤ (a - 1) * b := Int.mul_le_mul_of_nonneg_right (by omega) (by omega)
  have z3 : (a - 1) * b = a * b - b := by rw [Int.sub_mul]; omega
  omega
theorem dp_ints {K : PySem.W.Frag} {H : Hp} : ∀ ns : List Int, DpAll K H (ns.map V.int) (ns.map PyData.int)
  | [] => .nil
  | n :: ns => .cons (.int n) (dp_ints ns)
theorem can_ints : ∀ ns : List Int, PyData.canLayAll0 (ns.map PyData.int) = true
  | [] => rfl
  | n :: ns => by
    rw [List.map_cons, PyData.canLayAll0, PyData.canLay0, can_ints ns]
    rfl
theorem depth_ints : ∀ ns : List Int, PyData.depthAll (ns.map PyData.int) = 0
  | [] => by simp [PyData.depthAll]
  | n :: ns => by
    have := depth_ints ns
    simp [PyData.depthAll, PyData.depth, this]
theorem shaped_ints (ns : List Int) : SeqAt.shaped (.list (ns.map PyData.int)) = true := by
  unfold SeqAt.shaped
  rw [PyData.canLay0, can_ints, PyData.depth, depth_ints]
  rfl
theorem at_mod {ns : List Int} (c : Int) (h : 0 < (ns.length : Int)) : ∃ z, atI (ns.map V.int) (c % ns.length) = some (.int z) := by
  have h0 := Int.emod_nonneg c (b := (ns.length : Int)) (by omega)
  have h1 := Int.emod_lt_of_pos c h
  obtain ⟨j, hj⟩ : ∃ j : Nat, c % ns.length = (j : Int) := ⟨(c % ns.length).toNat, by omega⟩
  have hlt : j < ns.length := by omega
  refine ⟨ns[j], ?_⟩
  rw [hj]
  exact atI_nat (by rw [List.getElem?_map, List.getElem?_eq_getElem hlt]; rfl)
theorem at_in {α : Type} {xs : List α} {r : Int} (h0 : 0 ≤ r) (h1 : r < xs.length) : ∃ v, atI xs r = some v ∧ v ∈ xs := by
  obtain ⟨j, rfl⟩ : ∃ j : Nat, r = (j : Int) := ⟨r.toNat, by omega⟩
  have hlt : j < xs.length := by omega
  exact ⟨xs[j], atI_nat (List.getElem?_eq_getElem hlt), List.getElem_mem hlt⟩
theorem small_bits {n : Nat} (h : n ≤ 1000000) : (n : Int).natAbs < 2 ^ 250 := Nat.lt_of_le_of_lt (show (n : Int).natAbs ≤ 1000000 by omega) (by decide)
theorem cut_ints (ns : List Int) (lo hi : Option Int) : ∃ ms : List Int, cutV (ns.map V.int) lo hi = ms.map V.int := by
  unfold cutV
  exact ⟨_, by rw [← List.map_drop, ← List.map_take]⟩
theorem size_line_big : 1000000 ≤ sizeLine := by rw [sizeLine_eq]; decide
/-! ### letters -/
def abc : List Nat := ("abcdefghijklmnopqrstuvwxyz" : Str).cps.toList
theorem tl_join1 {a : Str} (ha : TL.tl a = []) : ∀ cs : List Nat, (Txt.join a (cs.map fun c => (⟨#[c]⟩ : Str))).cps.toList = cs := fun cs => by
  show TL.tl _ = cs
  rw [TL.join_eq, TL.tl_join, ha]
  induction cs with
  | nil => rfl
  | cons c cs ih =>
    cases cs with
    | nil => rfl
    | cons d cs =>
      rw [List.map_cons, List.map_cons, List.map_cons, List.map_cons, TL.joinL]
      rw [List.map_cons, List.map_cons] at ih
      rw [ih]
      rfl
def spLetters : Sp := fun vs H Q _ => ∃ (p l : Addr) (c n : Int), vs = [.ref p, .int n] ∧ Pe H p l c ∧ 0 ≤ n ∧ n ≤ 1000 ∧ c + n < 1000000 ∧
  ∀ (z : Str) (H' : Hp), (z.length : Int) = n → (∀ ch ∈ z.cps.toList, ch ∈ abc) → Kp p H H' → Pe H' p l (c + n) → Q (.str z) H'
/-! ### a module's constants -/
theorem p_gs {X : Cx} {x z : Str} {pos : Pos} (h : ∃ t, X.mg x = some (.str z t)) (hg : Gl X x := by rfl) (hd : (x == ("__debug__" : Str)) = false := by decide) : PE X (.Name x pos) (tC (.str z)) := by
  obtain ⟨t, h⟩ := h
  exact pe_glob hg h ⟨t, rfl⟩ hd
theorem p_gi {X : Cx} {x : Str} {i : Int} {pos : Pos} (h : ∃ t, X.mg x = some (.int i t)) (hg : Gl X x := by rfl) (hd : (x == ("__debug__" : Str)) = false := by decide) : PE X (.Name x pos) (tC (.int i)) := by
  obtain ⟨t, h⟩ := h
  exact pe_glob hg h ⟨t, rfl⟩ hd
theorem p_gc {X : Cx} {x : Str} {C : Addr} {pos : Pos} (h : X.mg x = some (.ref C)) (hg : Gl X x := by rfl) (hd : (x == ("__debug__" : Str)) = false := by decide) : PE X (.Name x pos) (tC (.ref C)) := pe_glob hg h rfl hd
/-! ### own error classes, as the text that raises them sees them -/
def ErrC (P : Program) (w : World) (K : PySem.W.Frag) (mg : Str → Option Value) (base : Heap) (x : Str) (C : Addr) (ps : List Str) (sp : Sp) : Prop :=
  ∃ (fI : Addr) (fd : FuncData), RxC K mg x C fI ∧ FnOk P w K mg base CX0 1 fI fd ps sp ∧ Binds K fd ps []
theorem ps_rz {X : Cx} {x : Str} {C : Addr} {ps : List Str} {sp : Sp} {e : Expr} {es : List Expr} {ta : TA} {W : WX} {p pos pos2 : Pos} (Z : ErrC X.prog X.w X.K X.mg X.base x C ps sp) (hc : X.calm = true) (hr : Room 2 X.A) (tk : Takes X W) (he : PA X (e :: es) ta)
    (hg : Gl X x := by rfl) (hdb : (x == ("__debug__" : Str)) = false := by decide) (hs : starEach (e :: es) X.env = (false, eval e X.env) :: starEach es X.env := by rfl) (hpl : (backTo pos (starEach es X.env)).any (·.1) = false := by rfl) :
    PS X (.Raise (some (.Call (.Name x p) (e :: es) [] pos)) none pos2) (fun _ σ H => tMkO C sp [] ta σ H fun cls d G => W cls d σ G) := by
  obtain ⟨fI, fd, T, F, b⟩ := Z
  exact ps_raiseO hc T F b hr tk he hg hdb hs hpl
/-! ### names -/
def isStrD : PyData → Bool
  | .str _ => true
  | _ => false
theorem Da.isStr {K : PySem.W.Frag} {H : Hp} {x : V} {d : PyData} (h : Da H x d) : ∃ t, TyOf K H x t ∧ PySem.W.kitOne K t (.type "str") = some (isStrD d) := by
  cases h with
  | non => exact ⟨_, .non, kit_ty (by show kitB _ _ = some false; decide +kernel)⟩
  | bl b => exact ⟨_, .bl b, kit_ty (by show kitB _ _ = some false; decide +kernel)⟩
  | int i => exact ⟨_, .int i, kit_ty (by show kitB _ _ = some false; decide +kernel)⟩
  | str x => exact ⟨_, .str x, kit_ty (by show kitB _ _ = some true; decide +kernel)⟩
  | lst e _ => exact ⟨_, .lst e, kit_ty (by show kitB _ _ = some false; decide +kernel)⟩
  | tup e _ => exact ⟨_, .tup e, kit_ty (by show kitB _ _ = some false; decide +kernel)⟩
  | dic e _ => exact ⟨_, .dK e, kit_ty (by show kitB _ _ = some false; decide +kernel)⟩
def nameS (z : Str) : Bool := decide (1 ≤ z.length) && (decide (z.length ≤ 8) && z.cps.toList.all fun c => decide (c ∈ abc))
def nameD : PyData → Bool
  | .str z => nameS z
  | _ => false
def shortD : PyData → Prop
  | .str z => z.length ≤ 1000000
  | _ => True
def spIsName : Sp := fun vs H Q _ => ∃ (x : V) (d : PyData), vs = [x] ∧ Da H x d ∧ shortD d ∧ ∀ H', Same H H' → Q (.bl (nameD d)) H'
def spNeedName (C : Addr) : Sp := fun vs H Q E => ∃ (x : V) (d : PyData), vs = [x] ∧ Da H x d ∧ shortD d ∧ (nameD d = true → ∀ H', Same H H' → Q .non H') ∧
  (nameD d = false → ∀ H' dd, Same H H' → H dd = none → H' dd = some (.xd [("value", x)]) → E (.ref C) (some dd) H')
theorem isStr_str {d : PyData} (h : isStrD d = true) : ∃ z, d = .str z := by
  cases d <;> first | exact ⟨_, rfl⟩ | cases h
theorem nameD_not {d : PyData} (h : isStrD d = false) : nameD d = false := by
  cases d <;> first | rfl | cases h
theorem abc_lt {c : Nat} (h : c ∈ abc) : c < 200 := by
  have e : (abc.all fun c => decide (c < 200)) = true := by decide +kernel
  exact of_decide_eq_true (List.all_eq_true.mp e c h)
theorem nameS_true {z : Str} (h1 : 1 ≤ z.length) (h2 : z.length ≤ 8) (h3 : ∀ c ∈ z.cps.toList, c ∈ abc) : nameS z = true := by
  unfold nameS
  rw [decide_eq_true h1, decide_eq_true h2]
  simp only [Bool.true_and]
  rw [List.all_eq_true]
  exact fun c hc => decide_eq_true (h3 c hc)
theorem nameS_false {z : Str} (h : z.length = 0 ∨ 8 < z.length ∨ ∃ c ∈ z.cps.toList, c ∉ abc) : nameS z = false := by
  cases e : nameS z with
  | false => rfl
  | true =>
    unfold nameS at e
    simp only [Bool.and_eq_true, decide_eq_true_eq] at e
    obtain ⟨e1, e2, e3⟩ := e
    rcases h with h | h | ⟨c, hc, h⟩
    · omega
    · omega
    · exact absurd (of_decide_eq_true (List.all_eq_true.mp e3 c hc)) h
theorem cutS_sub (z : Str) (lo hi : Option Int) : (cutS z lo hi).length ≤ z.length ∧ ∀ c ∈ (cutS z lo hi).cps.toList, c ∈ z.cps.toList :=
  ⟨cutS_length z lo hi, fun c hc => List.mem_of_mem_drop (List.mem_of_mem_take hc)⟩
/-- a short text of small signs -/
def OkS (z : Str) : Prop := z.length ≤ 200 ∧ ∀ c ∈ z.cps.toList, c < 200
theorem OkS.app {x y : Str} (hx : OkS x) (hy : OkS y) (h : x.length + y.length ≤ 200) : OkS (x ++ y) :=
  ⟨by rw [Str.length_append]; exact h, fun c hc => by
    have e : c ∈ TL.tl x ++ TL.tl y := by rw [← TL.tl_append]; exact hc
    exact (List.mem_append.mp e).elim (hx.2 c) (hy.2 c)⟩
theorem OkS.sub {x y : Str} (hx : OkS x) (h1 : y.length ≤ x.length) (h2 : ∀ c ∈ y.cps.toList, c ∈ x.cps.toList) : OkS y := ⟨Nat.le_trans h1 hx.1, fun c hc => hx.2 c (h2 c hc)⟩
theorem mem_appL {x y : Str} {c : Nat} (h : c ∈ x.cps.toList) : c ∈ (x ++ y).cps.toList := by
  show c ∈ TL.tl (x ++ y)
  rw [TL.tl_append]
  exact List.mem_append_left _ h
theorem mem_appR {x y : Str} {c : Nat} (h : c ∈ y.cps.toList) : c ∈ (x ++ y).cps.toList := by
  show c ∈ TL.tl (x ++ y)
  rw [TL.tl_append]
  exact List.mem_append_right _ h
theorem okS_one {c : Nat} (h : c < 200) : OkS ⟨#[c]⟩ := ⟨by show 1 ≤ 200; decide, fun x hx => by rw [List.mem_singleton.mp hx]; exact h⟩
theorem len_tl (z : Str) : z.length = z.cps.toList.length := by simp [Str.length]
end HX

set_option Elab.async false
set_option linter.all false
set_option maxRecDepth 100000
set_option maxHeartbeats 2000000
namespace PySem
namespace HXK
open Builtin Builtin.ObjectAttr HandSPX

/-! ### an own exception made by keywords alone: C(k = e, ..) -/
section
variable {M : Model} {prog : Program} {w : World} {A : Around} {E : Value → Shared → Prop} {R : Result → Shared → Prop} {h : Heap} {g : Array GenState} {dr : Drawn} {tk : Nat} {os : OsState}
variable {nm q : Str} {C N fI : Addr} {bs bm bB : List Value} {sn : List Str} {sub : List Value} {ab : Bool} {col : Option Bool} {dd : Option Addr} {k0 k1 k2 k3 k5 : Option Value} {B nI iI : String} {kw : List (Str × Value)}
theorem kwx_check (Fx : ExcBaseFacts B nI iI bB) (hT : ∀ X : String, bm.contains (.type X) = bB.contains (.type X)) {Q : Unit → Shared → Prop}
    (hC : h.get? C = some (excClassObj nm q C N bs bm true sn sub ab col dd k0 k1 k2 k3 k5 nI)) (hkw : kw.length ≤ 2) (z : Q () ⟨h, g, dr, tk, os⟩) : wpAny M A (checkBuiltinCall nI ⟨[.ref C], kw⟩) Q E ⟨h, g, dr, tk, os⟩ := by
  have c1 : (Value.ref C :: bm).contains (.type B) = true := by rw [List.contains_cons, hT, Fx.hasB, Bool.or_true]
  have st := Fx.noStar
  simp only [checkBuiltinCall, Fx.newKind, Fx.newSplit, Fx.newRow]
  repeat (first | refine wpAny_loadPart_at hC ?_ | (refine wpAny_isSubtype_exc hC ?_; rw [c1]) | refine wpAny_staticBase_exc hC ?_ | refine wpAny_madeBy_exc hC ?_ | simp only [bne_self_eq_false, Bool.false_eq_true, if_false] | wp_step)
  exact z
theorem kwx_new (Fx : ExcBaseFacts B nI iI bB) (hT : ∀ X : String, bm.contains (.type X) = bB.contains (.type X))
    (hC : h.get? C = some (excClassObj nm q C N bs bm true sn sub ab col dd k0 k1 k2 k3 k5 nI))
    (z : R (.ok (.ret (.ref (h.objs.size + 1)))) ⟨(h.push (PySem.W.kdv_tup [])).push (excO C h.objs.size), g, dr, tk, os⟩) :
    codeAny (model prog w) A (.builtin nI ⟨[.ref C], kw⟩) R ⟨h, g, dr, tk, os⟩ := by
  have ends := Fx.ends
  have c1 : (Value.ref C :: bm).contains (.type B) = true := by rw [List.contains_cons, hT, Fx.hasB, Bool.or_true]
  have c2 : (Value.ref C :: bm).contains (.type "AttributeError") = false := by rw [List.contains_cons, hT, Fx.noAttr]; rfl
  have c3 : (Value.ref C :: bm).contains (.type "NameError") = false := by rw [List.contains_cons, hT, Fx.noName]; rfl
  have hrest : ([] : List Value).length ≤ sizeLine := Nat.zero_le _
  refine codeAny_builtinAt Fx.entry ?_
  unfold Builtin.«BaseException.__new__»
  refine wpAt_bind ?_
  show wpAt _ _ _ (stack >>= _) _ _ _
  refine wpAt_bind (wpAt_stack fun p below => wpAt_of_wpAny ?_)
  wp_walk
  refine wpAt_of_wpAny ?_
  rw [Fx.owner]
  repeat (first | with_reducible refine wpAny_madeHere_exc Fx.canon hC ?_ | with_reducible refine wpAny_loadPart_at hC ?_ | (with_reducible refine wpAny_isSubtype_exc hC ?_; first | rw [c1] | rw [c2] | rw [c3]) | wp_step)
  show R _ _
  rw [Heap.size_push]
  exact z
theorem kwx_type (Fx : ExcBaseFacts B nI iI bB) (hT : ∀ X : String, bm.contains (.type X) = bB.contains (.type X)) {Q : Fin → Shared → Prop} (hl : kw.length ≤ 2)
    (hC : h.get? C = some (excClassObj nm q C N bs bm true sn sub ab col dd k0 k1 k2 k3 k5 nI))
    (i0 : PySem.W.Looks (model prog w) h (typeLookup (.ref C) "__init__") (some (.ref fI))) (b0 : ∀ self, PySem.W.Looks (model prog w) h (bindSpecial (.ref fI) self) (.ref fI, [self]))
    (z : codeAny (model prog w) A (.call (.ref fI) ⟨[.ref (h.objs.size + 1)], kw⟩)
      (fun r s' => match r with | .ok (.ret v) => v = .none ∧ Q (.done (.ret (.ref (h.objs.size + 1)))) s' | .ok _ => False | .error e => E e s')
      ⟨(h.push (PySem.W.kdv_tup [])).push (excO C h.objs.size), g, dr, tk, os⟩) :
    wpAny (model prog w) A (Builtin.«type.__call__» ⟨[.ref C], kw⟩) Q E ⟨h, g, dr, tk, os⟩ := by
  repeat (first | with_reducible refine wpAny_loadPart_at hC ?_ | with_reducible refine wpAny_madeBy_exc hC ?_ | wp_step)
  refine codeAny_call_builtin_code (Code.quiet_builtin _ Fx.quiet) (kwx_check Fx hT hC hl ?_)
  refine kwx_new Fx hT hC ?_
  show wpAny _ _ _ _ _ _
  have old : ∀ b o, h.get? b = some o → ((h.push (PySem.W.kdv_tup [])).push (excO C h.objs.size)).get? b = some o := fun b o e => Heap.get?_push_of_some _ (Heap.get?_push_of_some _ e)
  have hC1 := old _ _ hC
  have hx : ((h.push (PySem.W.kdv_tup [])).push (excO C h.objs.size)).get? (h.objs.size + 1) = some (excO C h.objs.size) := by heap_get
  have own : (Value.ref C :: bm).contains (.ref C) = true := by simp
  have i1 := i0.keeps old
  have b1 := (b0 (.ref (h.objs.size + 1))).keeps old
  unfold isInstance
  repeat (first | with_reducible refine wpAny_loadPart_at hx ?_ | (with_reducible refine wpAny_isSubtype_exc hC1 ?_; rw [own]) | wp_step)
  show wpAny _ _ (typeLookup (.ref C) _) _ _ _
  refine i1.at ?_
  refine wpAny_holding (wpAny_bind (b1.at ?_))
  refine wpAny_bind (wpAny_call (codeAny_mono z fun r s' z => ?_))
  rcases r with e | (v | _ | _ | _) <;> first | exact z | exact z.elim | skip
  obtain ⟨rfl, z⟩ := z
  first
    | exact wpAny_pure (wpAny_pure z)
    | (wp_walk; exact z)
theorem kwx_tc {Q : Unit → Shared → Prop} (hl : kw.length ≤ 2) (hC : h.get? C = some (excClassObj nm q C N bs bm true sn sub ab col dd k0 k1 k2 k3 k5 nI))
    (z : Q () ⟨h, g, dr, tk, os⟩) : wpAny M A (checkBuiltinCall "type.__call__" ⟨[.ref C], kw⟩) Q E ⟨h, g, dr, tk, os⟩ := by
  have f3 := tc_sub
  have ty : (⟨h, g, dr, tk, os⟩ : Shared).TypeIs (.ref C) "type" := ⟨_, hC, rfl⟩
  simp only [checkBuiltinCall, tc_kind, tc_split]
  repeat (any_goals (first | assumption | with_reducible refine wpAny_loadPart_at hC ?_ | with_reducible refine wpAny_onRaise ?_ | with_reducible refine wpAny_map ?_ | wp_step))
theorem kwx_call (Fx : ExcBaseFacts B nI iI bB) (hT : ∀ X : String, bm.contains (.type X) = bB.contains (.type X)) (hl : kw.length ≤ 2)
    (hC : h.get? C = some (excClassObj nm q C N bs bm true sn sub ab col dd k0 k1 k2 k3 k5 nI))
    (i0 : PySem.W.Looks (model prog w) h (typeLookup (.ref C) "__init__") (some (.ref fI))) (b0 : ∀ self, PySem.W.Looks (model prog w) h (bindSpecial (.ref fI) self) (.ref fI, [self]))
    (z : codeAny (model prog w) (A.under (.builtin "type.__call__" ⟨[.ref C], kw⟩)) (.call (.ref fI) ⟨[.ref (h.objs.size + 1)], kw⟩) (PySem.W.InitBack (h.objs.size + 1) R)
      ⟨(h.push (PySem.W.kdv_tup [])).push (excO C h.objs.size), g, dr, tk, os⟩) :
    codeAny (model prog w) A (.call (.ref C) ⟨[], kw⟩) R ⟨h, g, dr, tk, os⟩ := by
  have f1 := tc_lookup
  have f2 := tc_bind (.ref C)
  have ty : (⟨h, g, dr, tk, os⟩ : Shared).TypeIs (.ref C) "type" := ⟨_, hC, rfl⟩
  refine codeAny_of_tree ?_
  show wpAny _ _ (callAny (.ref C) _) _ _ _
  repeat (any_goals (first | assumption | with_reducible refine wpAny_loadPart_at hC ?_ | wp_step))
  refine ⟨rfl, ?_⟩
  refine codeAny_call_builtin_at (Code.quiet_builtin _ (by decide +kernel)) entry_typeCall (kwx_tc hl hC (kwx_type Fx hT hl hC i0 b0 ?_))
  refine codeAny_mono z fun r s' z => ?_
  rcases r with e | (v | _ | _ | _) <;> exact z
end
end HXK
end PySem

set_option Elab.async false
set_option linter.all false
set_option maxRecDepth 100000
set_option maxHeartbeats 2000000
namespace HX
open PySem PySem.Spec PyProof.Rows L2

/-! ### an own exception as a value: at e, of the class at C, its fields fs -/
def Er (H : Hp) (e C : Addr) (fs : List (Str × V)) : Prop := ∃ od : Option Addr, H e = some (exT e (.ref C) od) ∧ ((∃ d, od = some d ∧ H d = some (.xd fs)) ∨ (od = none ∧ fs = []))
theorem Er.mo {H H' : Hp} {e C : Addr} {fs : List (Str × V)} (m : Same H H') : Er H e C fs → Er H' e C fs
  | ⟨od, h, q⟩ => ⟨od, m _ _ h, q.elim (fun ⟨d, a, b⟩ => .inl ⟨d, a, m _ _ b⟩) .inr⟩
section
variable {X : Cx} {x f g : Str} {C fI : Addr} {fd : FuncData} {k : Nat} {e e1 e2 : Expr} {es : List Expr} {te te1 te2 : TE} {ta : TA} {p pos : Pos} {ps : List Str} {sp : Sp}
/-- what the maker's end gives the value's reader -/
def QV (H1 : Hp) (C a : Addr) (Q : VK) : VK := fun v H2 => v = .non ∧ ∃ d fs, H2 a = some (exo a C (some d)) ∧ H2 d = some (exd d fs) ∧ H1 d = none ∧ Q (.ref a) (upd (upd (del H2 a) d (.xd fs)) a (exT a (.ref C) (some d)))
theorem end_xv {pins : List (Addr × Obj)} {σ : L2.St} {H1 H2 : Hp} {Q : VK} {hp hp2 h2 : Heap} {g1 g2 : Array GenState} {d1 d2 : Drawn} {t1 t2 : Nat} {os1 os2 : OsState} {a C d : Addr} {fs : List (Str × V)} (I1 : Inv X pins σ H1 ⟨hp, g1, d1, t1, os1⟩)
    (ha : hp.objs.size ≤ a) (k : ∀ b o, hp.get? b = some o → hp2.get? b = some o) (un : Un (frs X.stack) [] (upd H1 a (exo a C none)) H2 hp2 h2) (hok : HOk X.prog X.w H2 h2) (ho : os2 = os1) (hb : AllBare g2)
    (ea : H2 a = some (exo a C (some d))) (ed : H2 d = some (exd d fs)) (hd1 : H1 d = none) (q : Q (.ref a) (upd (upd (del H2 a) d (.xd fs)) a (exT a (.ref C) (some d)))) : EP X pins σ Q (.ref a) ⟨h2, g2, d2, t2, os2⟩ := by
  obtain ⟨t0, G, J, kG, ge, hoe, na⟩ := mk_end0 (d2 := d2) (t2 := t2) I1 ha k un hok ho hb ea ed hd1
  exact ⟨.ref a, _, J.laidN (t' := t2) kG ge na (exT_ok hoe ⟨rfl, rfl⟩ rfl), rfl, q⟩
theorem pe_xv {R : List V → Hp → VK → Prop} (imp : ∀ vs H1 Q, R vs H1 Q → vs.length ≤ 1000 ∧ ∀ a, H1 a = none → sp (.ref a :: vs) (upd H1 a (exo a C none)) (QV H1 C a Q) fun _ _ _ => False) (T : RxC X.K X.mg x C fI) (Fi : FnOk X.prog X.w X.K X.mg X.base CX0 k fI fd ps sp) (b : Binds X.K fd ps []) (hr : Room (k + 1) X.A) (ha : PA X (e :: es) ta) (hg : Gl X x)
    (hdb : (x == ("__debug__" : Str)) = false := by decide) (hs : starEach (e :: es) X.env = (false, eval e X.env) :: starEach es X.env := by rfl) (hpl : (backTo pos (starEach es X.env)).any (·.1) = false := by rfl) :
    PE X (.Call (.Name x p) (e :: es) [] pos) (fun σ H Q => ta σ H fun vs H1 => R vs H1 Q) := by
  refine ⟨fun pins s σ H Q I h => ?_⟩
  obtain ⟨nm, q, N, bs, bm, sn, sub, ab, col, dd, k0, k1, k2, k3, k5, hC, hbm⟩ := T.o.cls
  refine wpAny_Call_Name_kw (ld_glob I hg T.gC ?_ hdb)
  refine PySem.W.callWith_K (h₀ := X.base) I.ok.mod.kin T.o.kC (thn (ha.run pos pins s σ H _ I h) fun us s1 ⟨vs, H1, I1, r1, qR⟩ => ⟨I1.kIn, ?_⟩) hs hpl
  obtain ⟨hz, q1⟩ := imp _ _ _ qR
  show wpAny _ _ (call (.ref C) us) _ _ _
  obtain ⟨hp, gn, dr, tk, os⟩ := s1
  have z1 : hp.objs.size ≤ hp.objs.size + 1 := Nat.le_succ _
  have hn : H1 (hp.objs.size + 1) = none := I1.hok.fresh z1
  have hq := q1 (hp.objs.size + 1) hn
  have old : ∀ b o, hp.get? b = some o → ((hp.push (PySem.W.kdv_tup us)).push (PySem.HandSPX.excO C hp.objs.size)).get? b = some o := fun b o z => Heap.get?_push_of_some _ (Heap.get?_push_of_some _ z)
  have at_ : ((hp.push (PySem.W.kdv_tup us)).push (PySem.HandSPX.excO C hp.objs.size)).get? (hp.objs.size + 1) = some (PySem.HandSPX.excO C hp.objs.size) := by heap_get
  have I2 : Inv X pins σ (upd H1 (hp.objs.size + 1) (exo (hp.objs.size + 1) C none)) ⟨(hp.push (PySem.W.kdv_tup us)).push (PySem.HandSPX.excO C hp.objs.size), gn, dr, tk, os⟩ :=
    I1.laid (t' := tk) (a := hp.objs.size + 1) (o := exo (hp.objs.size + 1) C none) (h' := (hp.push (PySem.W.kdv_tup us)).push (PySem.HandSPX.excO C hp.objs.size)) old z1 (exo_ok at_)
  have r2 : Vals (V.ref (hp.objs.size + 1) :: vs) (Value.ref (hp.objs.size + 1) :: us) := .cons rfl r1
  have hl : ((Value.ref (hp.objs.size + 1) :: us) ++ []).length = ps.length := by
    rw [List.append_nil, ← r2.length]
    exact Fi.len _ _ _ _ hq
  have hus : us.length ≤ sizeLine := by
    rw [← Paired.length r1, sizeLine_eq]
    omega
  have bd := b (Shared.mk _ gn dr tk os) (Value.ref (hp.objs.size + 1) :: us) I2.kIn hl
  rw [List.append_nil] at bd
  refine wpAny_call (PySem.HandSPX.call_own F.excBase_ValueError (fun Y => PySem.HandSPX.refsVE_contains Y bm hbm) (I1.kIn _ _ hC) (PySem.W.looks_findIn I1.kIn T.iC) (fun self => PySem.W.bind_fn I1.kIn self T.tI) hus
    (codeAny_mono (Fi.run _ X.stack _ _ ⟨Value.ref (hp.objs.size + 1) :: us, []⟩ (Value.ref (hp.objs.size + 1) :: us) _ _ (fun _ _ _ => False) (hr.make C us []) (I2.env0.make C us []) bd r2 hq) fun r s' hq' => ?_))
  match r, hq' with
  | .error er, hq' => exact False.elim hq'
  | .ok .next, hq' => exact False.elim hq'
  | .ok .brk, hq' => exact False.elim hq'
  | .ok .cont, hq' => exact False.elim hq'
  | .ok (.ret u), hq' =>
    obtain ⟨v, H2, os2, bare2, un2, hok2, rv, ev, d, fs, ea, ed, hd1, q2⟩ := hq'
    subst ev
    obtain ⟨h2, g2, d2, t2, os'⟩ := s'
    exact ⟨rv, end_xv I1 z1 old un2 hok2 os2 bare2 ea ed hd1 q2⟩
theorem pe_xk {R : List V → Hp → VK → Prop} {ks : List Str} {kws : List Keyword} {gg : List Value → List Value → List Value} {gV : List V → List V → List V} (imp : ∀ zs H1 Q, R zs H1 Q → zs.length = ks.length ∧ ∀ a, H1 a = none → sp (gV [.ref a] zs) (upd H1 a (exo a C none)) (QV H1 C a Q) fun _ _ _ => False) (T : RxC X.K X.mg x C fI) (Fi : FnOk X.prog X.w X.K X.mg X.base CX0 k fI fd ps sp) (b : KBn X.K fd ps 1 ks gg gV) (hks2 : ks.length ≤ 2) (hr : Room (k + 1) X.A) (hkw : PK X kws ta) (hg : Gl X x)
    (hdb : (x == ("__debug__" : Str)) = false := by decide) (hall : (backToKw pos (keywordEach kws X.env)).all (·.1.isSome) = true := by rfl) (hks : (backToKw pos (keywordEach kws X.env)).filterMap (·.1) = ks := by rfl)
    (hpl : ((backTo pos (starEach [] X.env)).any (·.1) || (backToKw pos (keywordEach kws X.env)).any (·.1.isNone)) = false := by rfl) :
    PE X (.Call (.Name x p) [] kws pos) (fun σ H Q => ta σ H fun zs H1 => R zs H1 Q) := by
  refine ⟨fun pins s σ H Q I h => ?_⟩
  obtain ⟨nm, q, N, bs, bm, sn, sub, ab, col, dd, k0, k1, k2, k3, k5, hC, hbm⟩ := T.o.cls
  refine wpAny_Call_Name_kw (ld_glob I hg T.gC ?_ hdb)
  refine PySem.W.callWith_KW0 (h₀ := X.base) I.ok.mod.kin T.o.kC hall (thn (hkw.run pos pins s σ H _ I h) fun ws s1 ⟨zs, H1, I1, rz, qR⟩ => ⟨I1.kIn, ?_⟩) hpl
  obtain ⟨l1, q1⟩ := imp _ _ _ qR
  rw [hks]
  show wpAny _ _ (call (.ref C) [] (ks.zip ws)) _ _ _
  obtain ⟨hp, gn, dr, tk, os⟩ := s1
  have z1 : hp.objs.size ≤ hp.objs.size + 1 := Nat.le_succ _
  have hn : H1 (hp.objs.size + 1) = none := I1.hok.fresh z1
  have hq := q1 (hp.objs.size + 1) hn
  have old : ∀ b o, hp.get? b = some o → ((hp.push (PySem.W.kdv_tup [])).push (PySem.HandSPX.excO C hp.objs.size)).get? b = some o := fun b o z => Heap.get?_push_of_some _ (Heap.get?_push_of_some _ z)
  have at_ : ((hp.push (PySem.W.kdv_tup [])).push (PySem.HandSPX.excO C hp.objs.size)).get? (hp.objs.size + 1) = some (PySem.HandSPX.excO C hp.objs.size) := by heap_get
  have I2 : Inv X pins σ (upd H1 (hp.objs.size + 1) (exo (hp.objs.size + 1) C none)) ⟨(hp.push (PySem.W.kdv_tup [])).push (PySem.HandSPX.excO C hp.objs.size), gn, dr, tk, os⟩ :=
    I1.laid (t' := tk) (a := hp.objs.size + 1) (o := exo (hp.objs.size + 1) C none) (h' := (hp.push (PySem.W.kdv_tup [])).push (PySem.HandSPX.excO C hp.objs.size)) old z1 (exo_ok at_)
  have lw : ws.length = ks.length := rz.length.symm.trans l1
  have lkw : (ks.zip ws).length ≤ 2 := by
    rw [List.length_zip, lw, Nat.min_self]
    exact hks2
  have bd := b.to (Shared.mk _ gn dr tk os) [Value.ref (hp.objs.size + 1)] ws I2.kIn rfl lw
  have r2 := b.rel (vs := [V.ref (hp.objs.size + 1)]) (us := [Value.ref (hp.objs.size + 1)]) (.cons rfl .nil) rz
  refine wpAny_call (PySem.HXK.kwx_call F.excBase_ValueError (fun Y => PySem.HandSPX.refsVE_contains Y bm hbm) lkw (I1.kIn _ _ hC) (PySem.W.looks_findIn I1.kIn T.iC) (fun self => PySem.W.bind_fn I1.kIn self T.tI)
    (codeAny_mono (Fi.run _ X.stack _ _ ⟨[Value.ref (hp.objs.size + 1)], ks.zip ws⟩ (gg [Value.ref (hp.objs.size + 1)] ws) _ _ (fun _ _ _ => False) (hr.make C [] (ks.zip ws)) (I2.env0.make C [] (ks.zip ws)) bd r2 hq) fun r s' hq' => ?_))
  match r, hq' with
  | .error er, hq' => exact False.elim hq'
  | .ok .next, hq' => exact False.elim hq'
  | .ok .brk, hq' => exact False.elim hq'
  | .ok .cont, hq' => exact False.elim hq'
  | .ok (.ret u), hq' =>
    obtain ⟨v, H2, os2, bare2, un2, hok2, rv, ev, d, fs, ea, ed, hd1, q2⟩ := hq'
    subst ev
    obtain ⟨h2, g2, d2, t2, os'⟩ := s'
    exact ⟨rv, end_xv I1 z1 old un2 hok2 os2 bare2 ea ed hd1 q2⟩
/-- C(), no own __init__, kept -/
def tX0 (C : Addr) : TE := fun _ H Q => ∀ a H', Same H H' → H a = none → Er H' a C [] → Q (.ref a) H'
theorem pe_x0 {bmB : List Value} {B newId initId : String} (Fx : ExcBaseFacts B newId initId bmB) (q : PySem.W.excIn X.K C bmB newId = true) (gC : X.mg x = some (.ref C)) (kC : PySem.W.keepIn X.K (.ref C) = true) (hg : Gl X x) (hdb : (x == ("__debug__" : Str)) = false := by decide) :
    PE X (.Call (.Name x p) [] [] pos) (tX0 C) := by
  refine ⟨fun pins s σ H Q I h => ?_⟩
  refine wpAny_Call_Name_kw (ld_glob I hg gC ?_ hdb)
  refine PySem.W.callWith_KW0 (h₀ := X.base) I.ok.mod.kin kC rfl ?_ rfl
  refine PyProof.Rows.kwAll_nil ⟨I.kIn, ?_⟩
  show wpAny _ _ (call (.ref C) []) _ _ _
  obtain ⟨bm, N, nm, qn, bs, hdct, sn, sub, ab, col, dd, k0, k1, k2, k3, k5, mN, hC, hN, hni, T⟩ := exc_obj I.kIn q
  refine wpAny_call_exc_subT Fx T hC hN hni (fun h' a hm => ?_) (Nat.zero_le _)
  have hn : H a = none := I.hok.gone hm.new
  obtain ⟨t, ht, _, _⟩ := hm.there
  exact ⟨.ref a, upd H a (exT a (.ref C) none), I.laidN hm.keeps hm.new hn (exT_ok ht ⟨rfl, rfl⟩ rfl), rfl, h a _ (Same.new (Same.refl _) hn) hn ⟨none, upd_same, .inr ⟨rfl, rfl⟩⟩⟩
/-! ### .. by their fields -/
def R1 (C : Addr) (f : Str) : List V → Hp → VK → Prop := fun vs H1 Q => ∃ v, vs = [v] ∧ ∀ a H', Same H1 H' → H1 a = none → Er H' a C [(f, v)] → Q (.ref a) H'
def R2 (C : Addr) (f g : Str) : List V → Hp → VK → Prop := fun vs H1 Q => ∃ v u, vs = [v, u] ∧ ∀ a H', Same H1 H' → H1 a = none → Er H' a C [(g, u), (f, v)] → Q (.ref a) H'
def R2s (C : Addr) (f g : Str) : List V → Hp → VK → Prop := fun vs H1 Q => ∃ v u, vs = [u, v] ∧ ∀ a H', Same H1 H' → H1 a = none → Er H' a C [(g, u), (f, v)] → Q (.ref a) H'
def sw {α : Type} : List α → List α
  | [a, b] => [b, a]
  | _ => []
theorem sw_vals {vs : List V} {us : List Value} (r : Vals vs us) : Vals (sw vs) (sw us) := by
  cases r with
  | nil => exact .nil
  | cons r1 r =>
    cases r with
    | nil => exact .nil
    | cons r2 r =>
      cases r with
      | nil => exact .cons r2 (.cons r1 .nil)
      | cons _ _ => exact .nil
theorem same_xv {H1 : Hp} {a d : Addr} {o1 o2 u : HO} {H2 : Hp} (na : H1 a = none) (nd : H1 d = none) (e : ∀ b, b ≠ a → b ≠ d → H2 b = H1 b) : Same H1 (upd (upd (del H2 a) d u) a o2) := fun b o z => by
  have n1 := ne_of_none z na
  have n2 := ne_of_none z nd
  rw [upd_ne n1, upd_ne n2, del_ne n1, e b n1 n2]
  exact z
theorem imp1 {C : Addr} {f : Str} (vs : List V) (H1 : Hp) (Q : VK) (h : R1 C f vs H1 Q) : vs.length ≤ 1000 ∧ ∀ a, H1 a = none → spI1 C f (.ref a :: vs) (upd H1 a (exo a C none)) (QV H1 C a Q) fun _ _ _ => False := by
  obtain ⟨v, rfl, k⟩ := h
  refine ⟨by show 1 ≤ 1000; decide, fun a na => ⟨a, v, rfl, upd_same, fun dx nx ne => ⟨rfl, dx, _, upd_same, by rw [upd_ne ne, upd_same], ?_, k a _ (same_xv (o1 := .own 0) na ?_ fun b n1 n2 => ?_) na ?_⟩⟩⟩
  · rw [upd_ne ne] at nx
    exact nx
  · rw [upd_ne ne] at nx
    exact nx
  · rw [upd_ne n1, upd_ne n2, upd_ne n1]
  · exact ⟨some dx, upd_same, .inl ⟨dx, rfl, by rw [upd_ne ne, upd_same]⟩⟩
theorem imp2 {C : Addr} {f g : Str} (vs : List V) (H1 : Hp) (Q : VK) (h : R2 C f g vs H1 Q) : vs.length ≤ 1000 ∧ ∀ a, H1 a = none → spI2 C f g (.ref a :: vs) (upd H1 a (exo a C none)) (QV H1 C a Q) fun _ _ _ => False := by
  obtain ⟨v, u, rfl, k⟩ := h
  refine ⟨by show 2 ≤ 1000; decide, fun a na => ⟨a, v, u, rfl, upd_same, fun dx nx ne => ⟨rfl, dx, _, by rw [upd_ne (Ne.symm ne), upd_same], upd_same, ?_, k a _ (same_xv (o1 := .own 0) na ?_ fun b n1 n2 => ?_) na ?_⟩⟩⟩
  · rw [upd_ne ne] at nx
    exact nx
  · rw [upd_ne ne] at nx
    exact nx
  · rw [upd_ne n2, upd_ne n1, upd_ne n2, upd_ne n1]
  · exact ⟨some dx, upd_same, .inl ⟨dx, rfl, by rw [upd_ne ne, upd_same]⟩⟩
end
/-- an error class of one field, of two -/
def Er1 (P : Program) (w : World) (K : PySem.W.Frag) (mg : Str → Option Value) (base : Heap) (x : Str) (C : Addr) (f : Str) : Prop :=
  ∃ (fI : Addr) (fd : FuncData), RxC K mg x C fI ∧ FnOk P w K mg base CX0 1 fI fd ["self", f] (spI1 C f) ∧ Binds K fd ["self", f] [] ∧ KBn K fd ["self", f] 1 [f] (fun us ws => us ++ ws) (fun vs zs => vs ++ zs)
def Er2 (P : Program) (w : World) (K : PySem.W.Frag) (mg : Str → Option Value) (base : Heap) (x : Str) (C : Addr) (f g : Str) : Prop :=
  ∃ (fI : Addr) (fd : FuncData), RxC K mg x C fI ∧ FnOk P w K mg base CX0 1 fI fd ["self", f, g] (spI2 C f g) ∧ Binds K fd ["self", f, g] [] ∧ KBn K fd ["self", f, g] 1 [g, f] (fun us ws => us ++ sw ws) (fun vs zs => vs ++ sw zs)
section
variable {X : Cx} {x f g : Str} {C : Addr} {e e2 : Expr} {te te2 : TE} {ta : TA} {kws : List Keyword} {p pos : Pos}
theorem pe_e1 (Z : Er1 X.prog X.w X.K X.mg X.base x C f) (hr : Room 2 X.A) (ha : PA X [e] ta) (hg : Gl X x := by rfl)
    (hdb : (x == ("__debug__" : Str)) = false := by decide) (hs : starEach [e] X.env = (false, eval e X.env) :: starEach [] X.env := by rfl) (hpl : (backTo pos (starEach [] X.env)).any (·.1) = false := by rfl) :
    PE X (.Call (.Name x p) [e] [] pos) (fun σ H Q => ta σ H fun vs H1 => R1 C f vs H1 Q) := by
  obtain ⟨fI, fd, T, Fi, b, _⟩ := Z
  exact pe_xv imp1 T Fi b hr ha hg hdb hs hpl
theorem pe_e2 (Z : Er2 X.prog X.w X.K X.mg X.base x C f g) (hr : Room 2 X.A) (ha : PA X [e, e2] ta) (hg : Gl X x := by rfl)
    (hdb : (x == ("__debug__" : Str)) = false := by decide) (hs : starEach [e, e2] X.env = (false, eval e X.env) :: starEach [e2] X.env := by rfl) (hpl : (backTo pos (starEach [e2] X.env)).any (·.1) = false := by rfl) :
    PE X (.Call (.Name x p) [e, e2] [] pos) (fun σ H Q => ta σ H fun vs H1 => R2 C f g vs H1 Q) := by
  obtain ⟨fI, fd, T, Fi, b, _⟩ := Z
  exact pe_xv imp2 T Fi b hr ha hg hdb hs hpl
theorem pe_e1k (Z : Er1 X.prog X.w X.K X.mg X.base x C f) (hr : Room 2 X.A) (hkw : PK X kws ta) (hg : Gl X x := by rfl)
    (hdb : (x == ("__debug__" : Str)) = false := by decide) (hall : (backToKw pos (keywordEach kws X.env)).all (·.1.isSome) = true := by rfl) (hks : (backToKw pos (keywordEach kws X.env)).filterMap (·.1) = [f] := by rfl)
    (hpl : ((backTo pos (starEach [] X.env)).any (·.1) || (backToKw pos (keywordEach kws X.env)).any (·.1.isNone)) = false := by rfl) :
    PE X (.Call (.Name x p) [] kws pos) (fun σ H Q => ta σ H fun vs H1 => R1 C f vs H1 Q) := by
  obtain ⟨fI, fd, T, Fi, _, b⟩ := Z
  refine pe_xk (fun zs H1 Q h => ?_) T Fi b (by show 1 ≤ 2; decide) hr hkw hg hdb hall hks hpl
  have q := (imp1 zs H1 Q h).2
  obtain ⟨v, rfl, _⟩ := h
  exact ⟨rfl, q⟩
theorem pe_e2k (Z : Er2 X.prog X.w X.K X.mg X.base x C f g) (hr : Room 2 X.A) (hkw : PK X kws ta) (hg : Gl X x := by rfl)
    (hdb : (x == ("__debug__" : Str)) = false := by decide) (hall : (backToKw pos (keywordEach kws X.env)).all (·.1.isSome) = true := by rfl) (hks : (backToKw pos (keywordEach kws X.env)).filterMap (·.1) = [g, f] := by rfl)
    (hpl : ((backTo pos (starEach [] X.env)).any (·.1) || (backToKw pos (keywordEach kws X.env)).any (·.1.isNone)) = false := by rfl) :
    PE X (.Call (.Name x p) [] kws pos) (fun σ H Q => ta σ H fun vs H1 => R2s C f g vs H1 Q) := by
  obtain ⟨fI, fd, T, Fi, _, b⟩ := Z
  refine pe_xk (fun zs H1 Q h => ?_) T Fi b (by show 2 ≤ 2; decide) hr hkw hg hdb hall hks hpl
  obtain ⟨v, u, rfl, q⟩ := h
  exact ⟨rfl, (imp2 [v, u] H1 Q ⟨v, u, rfl, q⟩).2⟩
theorem Er.at_ {G : Hp} {a C : Addr} {fs : List (Str × V)} (h : Er G a C fs) (n : fs ≠ []) : ∃ d, G a = some (exT a (.ref C) (some d)) ∧ G d = some (.xd fs) := by
  obtain ⟨od, e, q⟩ := h
  rcases q with ⟨d, rfl, z⟩ | ⟨_, z⟩
  · exact ⟨d, e, z⟩
  · exact absurd z n
end
end HX

set_option Elab.async false
set_option linter.all false
set_option maxRecDepth 100000
set_option maxHeartbeats 2000000
namespace HX
open PySem PySem.Spec PyProof.Rows L2

/-! ### new lists that are not sys.modules -/
section
variable {X : Cx} {es : List Expr} {t : TA} {pos : Pos}
def tLstS (t : TA) : TE := fun σ H Q => t σ H fun xs G => xs.length ≤ sizeLine ∧ ∀ p, G p = none → p ≠ sysModules → Q (.ref p) (upd G p (.lst xs))
theorem pe_lstS (h : PA X es t) : PE X (.List es pos) (tLstS t) := by
  refine ⟨fun pins s σ H Q I k => wpAny_List_spliced (thn (h.run pos pins s σ H _ I k) fun us s1 ⟨xs, G, J, r, z, q⟩ => ⟨by rw [← r.length]; exact z, ?_⟩)⟩
  have nw : G s1.heap.objs.size = none := J.hok.fresh (Nat.le_refl _)
  exact ⟨.ref s1.heap.objs.size, upd G s1.heap.objs.size (.lst xs), J.laid (t' := s1.toks) (fun b u e => Heap.get?_push_of_some _ e) (Nat.le_refl _) ⟨z, us, 0, r, Heap.get?_push_size _ rfl⟩, rfl, q _ nw (Ne.symm (Nat.ne_of_lt J.big))⟩
def rSlLS (K : PySem.W.Frag) : V → Option Int → Option Int → Hp → VK → Prop := fun x lo hi H Q => ∃ a xs, x = .ref a ∧ SqL K H a xs ∧ ∀ p, H p = none → p ≠ sysModules → Q (.ref p) (upd H p (.lst (cutV xs lo hi)))
theorem sl_listS : SlR X (rSlLS X.K) := by
  intro pins s σ H x v vl vu lo hi sl Q I rx hs pl pu h
  obtain ⟨a, xs, rfl, hx, q⟩ := h
  obtain ⟨T, id, z1, z2, z3⟩ := sl_list pins s σ H (.ref a) v vl vu lo hi sl (fun v G => ∃ p, v = .ref p ∧ G = upd H p (.lst (cutV xs lo hi)) ∧ H p = none) I rx hs pl pu ⟨a, xs, rfl, hx, fun p n => ⟨p, rfl, rfl, n⟩⟩
  cases rx
  obtain ⟨its, r, ht, hz⟩ := I.list hx
  have hlen := r.length
  refine ⟨"list", _, F.slot_list_getitem.lookup, ht.isList.typeIs, wpAny_getItem_list_slice ht.isList hs pl pu .none (by simp) ?_ (by rw [List.size_toArray]; omega)⟩
  rw [slicePick_cut, ← hlen]
  exact ⟨.ref s.heap.objs.size, _, I.laid (t' := s.toks) (o := .lst (cutV xs lo hi)) (fun b ob q => Heap.get?_push_of_some _ q) (Nat.le_refl _)
    ⟨Nat.le_trans (cutV_length xs lo hi) hz, _, 0, (r.drop (HT.sIx xs.length 0 lo)).take (HT.sIx xs.length xs.length hi - HT.sIx xs.length 0 lo), Heap.get?_push_size _ rfl⟩, rfl, q _ (I.hok.fresh (Nat.le_refl _)) (Ne.symm (Nat.ne_of_lt I.big))⟩
end

/-! ### values that are drawn, of any kind -/
/-- data that repr can show in a list, beside another -/
structure OkT (d : PyData) : Prop where
  sh : d.showable = true
  dp : d.depth ≤ 30
  lv : d.leavesShort 1000 = true
  wt : d.weight ≤ 1000
theorem OkT.l1 {d : PyData} (h : OkT d) : OkD (.list [d]) := by
  obtain ⟨h1, h2, h3, h4⟩ := h
  refine ⟨?_, ?_, ?_, ?_⟩
  · simp [PyData.showable, PyData.showableAll, h1]
  · simp [PyData.depth, PyData.depthAll]; omega
  · simp [PyData.leavesShort, PyData.leavesShortAll, h3]
  · simp [PyData.weight, PyData.weightAll]; omega
theorem OkT.l2 {d e : PyData} (h : OkT d) (k : OkT e) : OkD (.list [d, e]) := by
  obtain ⟨h1, h2, h3, h4⟩ := h
  obtain ⟨k1, k2, k3, k4⟩ := k
  refine ⟨?_, ?_, ?_, ?_⟩
  · simp [PyData.showable, PyData.showableAll, h1, k1]
  · simp [PyData.depth, PyData.depthAll]; omega
  · simp [PyData.leavesShort, PyData.leavesShortAll, h3, k3]
  · simp [PyData.weight, PyData.weightAll]; omega
theorem okD_nil : OkD (.list []) := ⟨by decide +kernel, by decide +kernel, by decide +kernel, by decide +kernel⟩
theorem okT_by {d : PyData} (e : (d.showable && decide (d.depth ≤ 30) && d.leavesShort 1000 && decide (d.weight ≤ 1000)) = true) : OkT d := by
  simp only [Bool.and_eq_true, decide_eq_true_eq] at e
  exact ⟨e.1.1.1, e.1.1.2, e.1.2, e.2⟩
theorem kpN {H : Hp} {q b : Addr} {o u : HO} (e : H b = some u) (h : H q = none) : L2.upd H q o b = some u := by rw [upd_ne (ne_of_none e h)]; exact e
theorem kp2 {H : Hp} {q b : Addr} {o o' u : HO} (e : H b = some u) (h : H q = none) : L2.upd (L2.upd H q o) q o' b = some u := by rw [upd_ne (ne_of_none e h)]; exact kpN e h
theorem Same.upN {H G : Hp} {l : Addr} {o : HO} (s : Same H G) (n : H l = none) : Same H (L2.upd G l o) := fun c u e => by rw [upd_ne (ne_of_none e n)]; exact s c u e
/-- isinstance(e, c) of an own exception's value -/
def rIsE (K : PySem.W.Frag) : List V → Hp → VK → Prop := fun xs H Q => ∃ (a D : Addr) (fs : List (Str × V)) (c : V) (cv : Value) (b : Bool), xs = [.ref a, c] ∧ Er H a D fs ∧ ExC K D ∧ (∀ u, RelV c u → u = cv) ∧ PySem.W.kitOne K (.ref D) cv = some b ∧ Q (.bl b) H
theorem call_isE {X : Cx} : CallR X (.builtin "isinstance") (rIsE X.K) := fun pins s σ H xs us Q I r h => by
  obtain ⟨a, D, fs, c, cv, b, rfl, ⟨od, e, q⟩, T, hc, hk, z⟩ := h
  refine call_isX pins s σ H _ us Q I r ⟨a, D, od, c, cv, b, rfl, e, fun dd ed => ?_, T, hc, hk, z⟩
  rcases q with ⟨d, e1, e2⟩ | ⟨e1, _⟩
  · rw [ed] at e1
    cases e1
    exact ⟨_, e2⟩
  · rw [ed] at e1
    cases e1
theorem okT_int {i : Int} (h : i.natAbs < 2 ^ 900) : OkT (.int i) := by
  have hl : i.natAbs.log2 < 900 := by
    by_cases z : i.natAbs = 0
    · rw [z]
      decide
    · exact (Nat.log2_lt z).mpr h
  have e := int_text_length_le (a := i) (k := 900) (by decide) hl
  refine ⟨by show decide (i.natAbs.log2 < 1920) = true; exact decide_eq_true (by omega), by show 0 ≤ 30; decide, ?_, by simp only [PyData.weight]; split <;> omega⟩
  show decide ((PyData.shown (.int i)).length ≤ 1000) = true
  refine decide_eq_true ?_
  show (Str.ofString (toString i)).length ≤ 1000
  rw [PySem.ofString_length]
  omega
end HX

set_option Elab.async false
set_option linter.all false
set_option maxRecDepth 100000
set_option maxHeartbeats 2000000
/-! ### + - * // % of an own instance and an int -/
namespace PySem
namespace HXO
open W Builtin PyProof.Rows
section
variable {prog : Program} {w : World} {A : Around} {E : Value → Shared → Prop} {s : Shared} {K : Frag} {x C f g : Addr} {ox : Obj} {od : Option Obj}
theorem headed {K : Frag} {C : Addr} (h : selfFirst K C = true) : ∃ cd rest, clsIn K C = some cd ∧ cd.mro = .ref C :: rest := by
  obtain ⟨d, e1, e2⟩ := any_some h
  rcases hq : d.mro with _ | ⟨a, l⟩
  · rw [hq] at e2
    cases e2
  · rw [hq, List.head?_cons] at e2
    cases (beq_iff_eq.mp e2)
    exact ⟨d, l, e1, hq⟩
theorem slotPy {M : Model} {h : Heap} {nm : String} (X : K.In h) (hs : findIn K (.ref C) (PySem.dunder nm) = some (some (.ref f))) (hr : findIn K (.ref C) (PySem.dunderR nm) = some (some (.ref g))) : Looks M h (numberSlotInPython (.ref C) nm) true := by
  intro A Q E s k q
  unfold numberSlotInPython
  refine wpAny_bind (looks_findIn X hs A _ E s k ?_)
  refine wpAny_bind (wpAny_pure ?_)
  refine wpAny_bind (looks_findIn X hr A _ E s k ?_)
  refine wpAny_bind (wpAny_pure ?_)
  exact wpAny_pure q
theorem binL {op : Operator} {b : Value} {r : Option Value} {Q : Value → Shared → Prop} (X : K.In s.heap) (I : InstAt s.heap x ox C od) (hb : typeOf b = pure (.type "int")) (hc : selfFirst K C = true)
    (fU : fillsNumberSlot (.type "int") op.info.2 = pure true) (rU : typeLookup (.type "int") (PySem.dunderR op.info.2) = pure r) (hsub : isSubtype (.type "int") (.ref C) = pure false)
    (hs : findIn K (.ref C) (PySem.dunder op.info.2) = some (some (.ref f))) (hr : findIn K (.ref C) (PySem.dunderR op.info.2) = some (some (.ref g))) (hf : isFn K (.ref f) = true)
    (h : wpAny (model prog w) A (call (.ref f) [.ref x, b]) (W.CmpBack Q) E s) : wpAny (model prog w) A (binaryOp op (.ref x) b) Q E s := by
  obtain ⟨cd, rest, hcd, hm⟩ := headed hc
  rcases hi : op.info with ⟨sg, nm⟩
  rw [hi] at fU rU hs hr
  dsimp only at fU rU hs hr
  simp only [binaryOp, hi]
  refine wpAny_holding (wpAny_bind ?_)
  simp only [binaryOp1]
  refine wpAny_bind (I.type.here (wpAny_bind (wpAny_of_eq hb (wpAny_bind ((fills_K X hcd hm hs).here ?_)))))
  have ne : (Value.ref C == Value.type "int") = false := by simp
  simp only [ne, Bool.false_eq_true, if_false]
  refine wpAny_bind (wpAny_of_eq fU ?_)
  simp only [Bool.and_self, if_true]
  refine wpAny_bind (wpAny_of_eq hsub ?_)
  simp only [Bool.false_eq_true, if_false, Bool.not_false, Bool.and_self, if_true]
  refine wpAny_bind ((slotPy X hs hr).here ?_)
  have hpy : numberSlotInPython (.type "int") nm = pure false := rfl
  simp only [if_true, hpy, pure_bind, Bool.not_false, rU]
  refine wpAny_bind (m := tryMethod (Value.ref x) _ b) ?_
  unfold tryMethod
  refine wpAny_bind (special_fn X I hs (beq_iff_eq.mp hf) (wpAny_mono h (fun v s2 hv => ?_) fun _ _ z => z))
  cases v <;> first | exact hv.elim | exact (wpAny_pure (wpAny_pure (wpAny_pure hv)))
theorem binE {op : Operator} {y : Addr} {oy : Obj} {oe : Option Obj} {Q : Value → Shared → Prop} (X : K.In s.heap) (I : InstAt s.heap x ox C od) (J : InstAt s.heap y oy C oe) (hc : selfFirst K C = true)
    (hs : findIn K (.ref C) (PySem.dunder op.info.2) = some (some (.ref f)))
    (hf : isFn K (.ref f) = true)
    (h : wpAny (model prog w) A (call (.ref f) [.ref x, .ref y]) (W.CmpBack Q) E s) : wpAny (model prog w) A (binaryOp op (.ref x) (.ref y)) Q E s := by
  obtain ⟨cd, rest, hcd, hm⟩ := headed hc
  rcases hi : op.info with ⟨sg, nm⟩
  rw [hi] at hs
  dsimp only at hs
  simp only [binaryOp, hi]
  refine wpAny_holding (wpAny_bind ?_)
  simp only [binaryOp1]
  refine wpAny_bind (I.type.here (wpAny_bind (J.type.here (wpAny_bind ((fills_K X hcd hm hs).here ?_)))))
  simp only [beq_self_eq_true, if_true, pure_bind, Bool.and_false, Bool.false_eq_true, if_false, Bool.false_and]
  refine wpAny_bind (m := tryMethod (.ref x) _ (.ref y)) ?_
  unfold tryMethod
  refine wpAny_bind (special_fn X I hs (beq_iff_eq.mp hf) (wpAny_mono h (fun v s2 hv => ?_) fun _ _ z => z))
  cases v <;> first | exact hv.elim | exact (wpAny_pure (wpAny_pure (wpAny_pure hv)))
theorem fillsI {M : Model} {h : Heap} {nm : String} {ad : Bool} {cd : ClassData} {rest : List Value} (X : K.In h) (hc : clsIn K C = some cd) (hm : cd.mro = .ref C :: rest) (hs : findIn K (.ref C) (PySem.dunderI nm) = some (some (.ref f))) : Looks M h (fillsInplaceSlot (.ref C) nm ad) true := by
  intro A Q E s k q
  unfold fillsInplaceSlot
  refine wpAny_bind ((looks_clsIn X hc).andThen (f := fun d => pure d.mro) .now A _ E s k ?_)
  rw [hm, List.anyM_cons]
  refine wpAny_bind ?_
  refine wpAny_bind (looks_findIn X hs A _ E s k ?_)
  dsimp only
  rw [if_pos (show (!ownNameWrapper (.ref f) (PySem.dunderI nm)) = true from rfl)]
  refine wpAny_pure ?_
  rw [if_pos rfl]
  exact wpAny_pure q
theorem binI {op : Operator} {b : Value} {Q : Value → Shared → Prop} (X : K.In s.heap) (I : InstAt s.heap x ox C od) (hc : selfFirst K C = true)
    (hs : findIn K (.ref C) (PySem.dunderI op.info.2) = some (some (.ref f))) (hf : isFn K (.ref f) = true)
    (h : wpAny (model prog w) A (call (.ref f) [.ref x, b]) (W.CmpBack Q) E s) : wpAny (model prog w) A (inplaceOp op (.ref x) b) Q E s := by
  obtain ⟨cd, rest, hcd, hm⟩ := headed hc
  unfold inplaceOp
  refine wpAny_holding ?_
  dsimp only
  refine wpAny_bind (I.type.here (wpAny_bind ((fillsI X hcd hm hs).here ?_)))
  show wpAny _ _ (if true = true then _ else _) _ _ _
  rw [if_pos rfl]
  refine wpAny_bind (m := tryMethod (Value.ref x) _ b) ?_
  unfold tryMethod
  refine wpAny_bind (special_fn X I hs (beq_iff_eq.mp hf) (wpAny_mono h (fun v s2 hv => ?_) fun _ _ z => z))
  cases v <;> first | exact hv.elim | exact wpAny_pure (wpAny_bind (wpAny_rule (wpAny_pure hv)))
theorem unN {Q : Value → Shared → Prop} (X : K.In s.heap) (I : InstAt s.heap x ox C od) (hs : findIn K (.ref C) "__neg__" = some (some (.ref f))) (hf : isFn K (.ref f) = true)
    (h : wpAny (model prog w) A (call (.ref f) [.ref x]) Q E s) : wpAny (model prog w) A (unaryOp .USub (.ref x)) Q E s := by
  unfold unaryOp
  refine wpAny_holding ?_
  dsimp only
  rw [if_neg (by decide)]
  exact wpAny_bind (special_fn X I hs (beq_iff_eq.mp hf) (wpAny_mono h (fun v s' hv => wpAny_pure hv) fun _ _ e => e))
theorem unA {Q : Value → Shared → Prop} (X : K.In s.heap) (I : InstAt s.heap x ox C od) (hs : findIn K (.ref C) "__abs__" = some (some (.ref f))) (hf : isFn K (.ref f) = true)
    (h : wpAny (model prog w) A.in1 (call (.ref f) [.ref x]) Q E s) : wpAny (model prog w) A (call (.builtin "abs") [.ref x]) Q E s := by
  refine Calls.call_function_entry kind_abs plain_abs entry_abs (args_abs _) ?_
  unfold Builtin.«abs»
  refine wpAny_bind (m := oneArg "abs" _) (wpAny_pure ?_)
  refine wpAny_bind (special_fn X I hs (beq_iff_eq.mp hf) (wpAny_mono h (fun v s' hv => ?_) fun _ _ e => e))
  exact wpAny_pure ⟨v, rfl, hv⟩
/-- v o x, v an int: the int's own method refuses, x's reflected one is called -/
theorem binR {op : Operator} {a : Value} {idl : String} {Q : Value → Shared → Prop} (X : K.In s.heap) (I : InstAt s.heap x ox C od) (ta : typeOf a = pure (.type "int")) (ha : s.TypeIs a "int") (hc : selfFirst K C = true)
    (fU : fillsNumberSlot (.type "int") op.info.2 = pure true) (hsub : subIn K (.ref C) (.type "int") = some false) (hl : Slot "int" (PySem.dunder op.info.2) idl)
    (hN : ∀ Q : Value → Shared → Prop, Q .notImplemented s → wpAny (model prog w) A (call (.builtin idl) [a, .ref x]) Q E s)
    (hs : findIn K (.ref C) (PySem.dunder op.info.2) = some (some (.ref f))) (hr : findIn K (.ref C) (PySem.dunderR op.info.2) = some (some (.ref g))) (hg : isFn K (.ref g) = true)
    (h : wpAny (model prog w) A (call (.ref g) [.ref x, a]) (W.CmpBack Q) E s) : wpAny (model prog w) A (binaryOp op a (.ref x)) Q E s := by
  obtain ⟨cd, rest, hcd, hm⟩ := headed hc
  rcases hi : op.info with ⟨sg, nm⟩
  rw [hi] at fU hl hs hr
  dsimp only at fU hl hs hr
  simp only [binaryOp, hi]
  refine wpAny_holding (wpAny_bind ?_)
  simp only [binaryOp1]
  refine wpAny_bind (wpAny_of_eq ta (wpAny_bind (I.type.here (wpAny_bind (wpAny_of_eq fU ?_)))))
  have ne : (Value.type "int" == Value.ref C) = false := by simp
  simp only [ne, Bool.false_eq_true, if_false]
  refine wpAny_bind ((fills_K X hcd hm hs).here ?_)
  simp only [Bool.and_self, if_true]
  refine wpAny_bind ((looks_subIn X hsub).here ?_)
  have hpy : numberSlotInPython (.type "int") nm = pure false := rfl
  simp only [Bool.false_eq_true, if_false, Bool.not_false, Bool.and_self, if_true, hpy, pure_bind]
  refine wpAny_bind (m := tryMethod a _ (.ref x)) ?_
  unfold tryMethod
  refine wpAny_bind (wpAny_callSpecial?_slot ha hl (hN _ ?_))
  refine wpAny_pure ?_
  refine wpAny_bind (wpAny_bind (special_fn X I hr (beq_iff_eq.mp hg) (wpAny_mono h (fun v s' hv => ?_) fun _ _ e => e)))
  cases v <;> first | exact hv.elim | exact wpAny_pure (wpAny_bind (wpAny_rule (wpAny_pure (wpAny_pure hv))))
theorem ni_add {i : Int} {t : Tok} {dx : Addr} {Q : Value → Shared → Prop} (hx : s.heap.get? x = some (instObj C dx)) (h : Q .notImplemented s) : wpAny (model prog w) A (call (.builtin "int.__add__") [.int i t, .ref x]) Q E s := by
  refine wpAny_call (codeAny_call_builtin F.slot_int_add.plain F.entry_int_add (F.slot_int_add.check _ _ _ _ _ _ _ _ (typeIs_int s i t) (F.args_int_add_2 _ _) ?_))
  unfold Builtin.«int.__add__»
  refine (by (repeat (first | with_reducible refine wpAny_loadPart_at hx ?_ | with_reducible refine wpAny_load hx ?_ | wp_step)); exact h)
theorem ni_sub {i : Int} {t : Tok} {dx : Addr} {Q : Value → Shared → Prop} (hx : s.heap.get? x = some (instObj C dx)) (h : Q .notImplemented s) : wpAny (model prog w) A (call (.builtin "int.__sub__") [.int i t, .ref x]) Q E s := by
  refine wpAny_call (codeAny_call_builtin F.slot_int_sub.plain F.entry_int_sub (F.slot_int_sub.check _ _ _ _ _ _ _ _ (typeIs_int s i t) (F.args_int_sub_2 _ _) ?_))
  unfold Builtin.«int.__sub__»
  refine (by (repeat (first | with_reducible refine wpAny_loadPart_at hx ?_ | with_reducible refine wpAny_load hx ?_ | wp_step)); exact h)
theorem ni_mul {i : Int} {t : Tok} {dx : Addr} {Q : Value → Shared → Prop} (hx : s.heap.get? x = some (instObj C dx)) (h : Q .notImplemented s) : wpAny (model prog w) A (call (.builtin "int.__mul__") [.int i t, .ref x]) Q E s := by
  refine wpAny_call (codeAny_call_builtin F.slot_int_mul.plain F.entry_int_mul (F.slot_int_mul.check _ _ _ _ _ _ _ _ (typeIs_int s i t) (F.args_int_mul_2 _ _) ?_))
  unfold Builtin.«int.__mul__»
  refine (by (repeat (first | with_reducible refine wpAny_loadPart_at hx ?_ | with_reducible refine wpAny_load hx ?_ | wp_step)); exact h)
theorem ni_floordiv {i : Int} {t : Tok} {dx : Addr} {Q : Value → Shared → Prop} (hx : s.heap.get? x = some (instObj C dx)) (h : Q .notImplemented s) : wpAny (model prog w) A (call (.builtin "int.__floordiv__") [.int i t, .ref x]) Q E s := by
  refine wpAny_call (codeAny_call_builtin F.slot_int_floordiv.plain F.entry_int_floordiv (F.slot_int_floordiv.check _ _ _ _ _ _ _ _ (typeIs_int s i t) (F.args_int_floordiv_2 _ _) ?_))
  unfold Builtin.«int.__floordiv__»
  refine (by (repeat (first | with_reducible refine wpAny_loadPart_at hx ?_ | with_reducible refine wpAny_load hx ?_ | wp_step)); exact h)
theorem ni_mod {i : Int} {t : Tok} {dx : Addr} {Q : Value → Shared → Prop} (hx : s.heap.get? x = some (instObj C dx)) (h : Q .notImplemented s) : wpAny (model prog w) A (call (.builtin "int.__mod__") [.int i t, .ref x]) Q E s := by
  refine wpAny_call (codeAny_call_builtin F.slot_int_mod.plain F.entry_int_mod (F.slot_int_mod.check _ _ _ _ _ _ _ _ (typeIs_int s i t) (F.args_int_mod_2 _ _) ?_))
  unfold Builtin.«int.__mod__»
  refine (by (repeat (first | with_reducible refine wpAny_loadPart_at hx ?_ | with_reducible refine wpAny_load hx ?_ | wp_step)); exact h)
end
theorem int_not (C : Addr) : isSubtype (.type "int") (.ref C) = pure false := by rfl
/-- what an int's operator does beside an own instance -/
structure IntOp (op : Operator) (idl : String) : Prop where
  fU : fillsNumberSlot (.type "int") op.info.2 = pure true
  rU : ∃ r, typeLookup (.type "int") (PySem.dunderR op.info.2) = pure r
  sl : Slot "int" (PySem.dunder op.info.2) idl
  ni : ∀ {prog : Program} {w : World} {A : Around} {E : Value → Shared → Prop} {s : Shared} {x C dx : Addr} {i : Int} {t : Tok} {Q : Value → Shared → Prop}, s.heap.get? x = some (instObj C dx) → Q .notImplemented s → wpAny (model prog w) A (call (.builtin idl) [.int i t, .ref x]) Q E s
theorem io_add : IntOp .Add "int.__add__" := ⟨F.fills_int_add, ⟨_, F.slot_int_radd.lookup⟩, F.slot_int_add, ni_add⟩
theorem io_sub : IntOp .Sub "int.__sub__" := ⟨F.fills_int_sub, ⟨_, F.slot_int_rsub.lookup⟩, F.slot_int_sub, ni_sub⟩
theorem io_mul : IntOp .Mult "int.__mul__" := ⟨F.fills_int_mul, ⟨_, F.slot_int_rmul.lookup⟩, F.slot_int_mul, ni_mul⟩
theorem io_fdiv : IntOp .FloorDiv "int.__floordiv__" := ⟨F.fills_int_floordiv, ⟨_, F.slot_int_rfloordiv.lookup⟩, F.slot_int_floordiv, ni_floordiv⟩
theorem io_mod : IntOp .Mod "int.__mod__" := ⟨F.fills_int_mod, ⟨_, F.slot_int_rmod.lookup⟩, F.slot_int_mod, ni_mod⟩
/-- a class with both methods of an operator -/
structure OwnOp (K : Frag) (C : Addr) (op : Operator) (f g : Addr) : Prop where
  first : selfFirst K C = true
  sub : subIn K (.ref C) (.type "int") = some false
  hs : findIn K (.ref C) (PySem.dunder op.info.2) = some (some (.ref f))
  hr : findIn K (.ref C) (PySem.dunderR op.info.2) = some (some (.ref g))
  hf : isFn K (.ref f) = true
  hg : isFn K (.ref g) = true
end HXO
end PySem
namespace HX
open PySem PySem.Spec PyProof.Rows L2
/-- an instance of the class at C is tracked at a -/
def IsI (C : Addr) (H : Hp) (a : Addr) : Prop := ∃ dx fs, H a = some (.ins C dx fs)
/-- x o y of own instances and ints -/
def rOw (C : Addr) (r0 : L2.R2) (spF spG : Sp) (E : XK) : L2.R2 := fun x y H Q => match x, y with
  | .ref a, .ref b => IsI C H a ∧ IsI C H b ∧ spF [.ref a, .ref b] H Q E
  | .ref a, .int j => IsI C H a ∧ spF [.ref a, .int j] H Q E
  | .int i, .ref b => IsI C H b ∧ spG [.ref b, .int i] H Q E
  | .int i, .int j => r0 (.int i) (.int j) H Q
  | _, _ => False
section
variable {X : Cx} {pins : List (Addr × Obj)} {σ : L2.St} {H : Hp} {s : Shared} {a C : Addr}
theorem inst_at (I : Inv X pins σ H s) (h : IsI C H a) : ∃ dx od, PySem.W.InstAt s.heap a (PySem.W.instObj C dx) C (some od) ∧ s.heap.get? a = some (PySem.W.instObj C dx) := by
  obtain ⟨dx, fs, e⟩ := h
  obtain ⟨_, _, ne, ho, mA, ns, _, _⟩ := (show ObjOk X.prog X.w H s.heap a (.ins C dx fs) from I.hok a _ e)
  obtain ⟨od, z, _⟩ := (ObjM.mk ho ns ne).look
  exact ⟨dx, od, z, ho⟩
theorem ep_own {Q : VK} {u : Value} {s' : Shared} (h : EP X pins σ Q u s') : PySem.W.CmpBack (EP X pins σ Q) u s' := by
  obtain ⟨v, G, J, r, q⟩ := id h
  cases u <;> first | exact h | (cases v <;> first | exact r.elim | (obtain ⟨_, r⟩ := r; cases r) | cases r)
/-- the operator, where both methods keep a promise -/
theorem op_ow {op : Operator} {idl : String} {r0 : L2.R2} {f g : Addr} {ff fg : FuncData} {pf pg : List Str} {spF spG : Sp} {CY : CXT} {k : Nat} {E : XK} (io : PySem.HXO.IntOp op idl) (h0 : OpR X (binaryOp op) r0) (O : PySem.HXO.OwnOp X.K C op f g)
    (Ff : FnOk X.prog X.w X.K X.mg X.base CY k f ff pf spF) (Fg : FnOk X.prog X.w X.K X.mg X.base CY k g fg pg spG) (bf : Binds X.K ff pf []) (bg : Binds X.K fg pg []) (hr : Room k X.A) (hx : Passes CY X E) : OpR X (binaryOp op) (rOw C r0 spF spG E) := by
  intro pins s σ H x y v u Q I rx ry q
  unfold rOw at q
  split at q
  · obtain ⟨i1, i2, q⟩ := q
    cases rx
    cases ry
    obtain ⟨dx, od, J, ho⟩ := inst_at I i1
    obtain ⟨dy, od2, J2, ho2⟩ := inst_at I i2
    rename_i a b
    have rv : Vals [V.ref a, V.ref b] [Value.ref a, Value.ref b] := .cons rfl (.cons rfl .nil)
    exact PySem.HXO.binE I.kIn J J2 O.first O.hs O.hf (wpAny_mono (run_fn Ff hr bf .nil hx I rv (by rw [List.append_nil]; exact q)) (fun u s' h => ep_own h) fun _ _ z => z)
  · obtain ⟨i1, q⟩ := q
    cases rx
    obtain ⟨t, rfl⟩ := (show ∃ t, u = Value.int _ t from ry)
    obtain ⟨dx, od, J, ho⟩ := inst_at I i1
    obtain ⟨r, rU⟩ := io.rU
    rename_i a j
    have rv : Vals [V.ref a, V.int j] [Value.ref a, Value.int j t] := .cons rfl (.cons ⟨t, rfl⟩ .nil)
    refine PySem.HXO.binL I.kIn J rfl O.first io.fU rU (PySem.HXO.int_not C) O.hs O.hr O.hf (wpAny_mono (run_fn Ff hr bf .nil hx I rv (by rw [List.append_nil]; exact q)) (fun u s' h => ep_own h) fun _ _ z => z)
  · obtain ⟨i1, q⟩ := q
    cases ry
    obtain ⟨t, rfl⟩ := (show ∃ t, v = Value.int _ t from rx)
    obtain ⟨dx, od, J, ho⟩ := inst_at I i1
    rename_i j a
    have rv : Vals [V.ref a, V.int j] [Value.ref a, Value.int j t] := .cons rfl (.cons ⟨t, rfl⟩ .nil)
    refine PySem.HXO.binR I.kIn J rfl (typeIs_int s _ t) O.first io.fU O.sub io.sl (fun Q z => io.ni ho z) O.hs O.hr O.hg (wpAny_mono (run_fn Fg hr bg .nil hx I rv (by rw [List.append_nil]; exact q)) (fun u s' h => ep_own h) fun _ _ z => z)
  · exact h0 pins s σ H _ _ v u Q I rx ry q
  · exact q.elim
/-- x o= y, by an own method -/
def rIo (C : Addr) (sp : Sp) (E : XK) : TIp := fun x y H Q => ∃ a, x = .ref a ∧ IsI C H a ∧ sp [.ref a, y] H Q E
theorem ip_ow {op : Operator} {f : Addr} {fd : FuncData} {ps : List Str} {sp : Sp} {CY : CXT} {k : Nat} {E : XK} (first : PySem.W.selfFirst X.K C = true) (hs : PySem.W.findIn X.K (.ref C) (PySem.dunderI op.info.2) = some (some (.ref f))) (hf : PySem.W.isFn X.K (.ref f) = true)
    (Fi : FnOk X.prog X.w X.K X.mg X.base CY k f fd ps sp) (b : Binds X.K fd ps []) (hr : Room k X.A) (hx : Passes CY X E) : PIp X op (rIo C sp E) := by
  intro pins s σ H x y v u Q I rx ry q
  obtain ⟨a, rfl, i1, q⟩ := q
  cases rx
  obtain ⟨dx, od, J, ho⟩ := inst_at I i1
  have rv : Vals [V.ref a, y] [Value.ref a, u] := .cons rfl (.cons ry .nil)
  exact PySem.HXO.binI I.kIn J first hs hf (wpAny_mono (run_fn Fi hr b .nil hx I rv (by rw [List.append_nil]; exact q)) (fun u s' h => ep_own h) fun _ _ z => z)
/-- -x, of an own instance or an int -/
def rNg (C : Addr) (sp : Sp) (E : XK) : V → Hp → VK → Prop := fun x H Q => match x with
  | .ref a => IsI C H a ∧ sp [.ref a] H Q E
  | .int i => Q (.int (-i)) H
  | _ => False
theorem un_ow {f : Addr} {fd : FuncData} {ps : List Str} {sp : Sp} {CY : CXT} {k : Nat} {E : XK} (hs : PySem.W.findIn X.K (.ref C) "__neg__" = some (some (.ref f))) (hf : PySem.W.isFn X.K (.ref f) = true)
    (Fi : FnOk X.prog X.w X.K X.mg X.base CY k f fd ps sp) (b : Binds X.K fd ps []) (hr : Room k X.A) (hx : Passes CY X E) : UnR X (unaryOp .USub) (rNg C sp E) := by
  intro pins s σ H x v Q I rx q
  unfold rNg at q
  split at q
  · obtain ⟨i1, q⟩ := q
    cases rx
    obtain ⟨dx, od, J, ho⟩ := inst_at I i1
    rename_i a
    have rv : Vals [V.ref a] [Value.ref a] := .cons rfl .nil
    exact PySem.HXO.unN I.kIn J hs hf (run_fn Fi hr b .nil hx I rv (by rw [List.append_nil]; exact q))
  · exact un_neg pins s σ H _ v Q I rx ⟨_, rfl, q⟩
  · exact q.elim
end
end HX

set_option Elab.async false
set_option linter.all false
set_option maxRecDepth 100000
set_option maxHeartbeats 2000000
namespace HX
open PySem PySem.Spec PyProof.Rows L2

/-! ### C.m(..), m a static method: its record at p, its def at g -/
structure SMet (K : PySem.W.Frag) (C : Addr) (mc : Value) (m : Str) (p g : Addr) : Prop where
  rd : ClX.CRead K C mc
  at_ : PySem.W.findCls K (.ref C) mc m = some (.get (.builtin "staticmethod.__get__") (.ref p) .none (.ref C))
  rc : ∃ rest, PySem.W.recIn K p "staticmethod" = some (.ref g :: rest)
  kp : PySem.W.keepIn K (.ref g) = true
def tSM (C : Addr) (sp : Sp) (E : XK) (ta : TE) (t : TA) : TE := fun σ H Q => ta σ H fun x H1 => x = .ref C ∧ t σ H1 fun vs H2 => sp vs H2 Q E
def tSMK (C : Addr) (m : Nat) (sp : Sp) (gV : List V → List V → List V) (E : XK) (ta : TE) (t : TA) : TE := fun σ H Q => ta σ H fun x H1 => x = .ref C ∧ t σ H1 fun zs H2 => zs.length = m ∧ sp (gV [] zs) H2 Q E
section
variable {X : Cx} {CY : CXT} {k : Nat} {C p g : Addr} {mc : Value} {sp : Sp} {E : XK} {o e : Expr} {es : List Expr} {m : Str} {pos apos : Pos} {ta : TE} {t : TA} {pl : Sem Bool} {fd : FuncData} {ps : List Str} {pins : List (Addr × Obj)} {σ : L2.St} {H : Hp} {s : Shared} {A : Around}
theorem getm_sm {Ex : Value → Shared → Prop} {Q : Value × List Value → Shared → Prop} (I : Inv X pins σ H s) (c : SMet X.K C mc m p g) (h : ∀ s', Inv X pins σ H s' → Q (.ref g, []) s') : wpAny (model X.prog X.w) A (getMethod (.ref C) m pl) Q Ex s := by
  obtain ⟨rest, hp⟩ := c.rc
  refine PySem.W.method_cls I.kIn c.rd.ga (PySem.W.cls_bind I.kIn c.rd.rd c.at_ ?_)
  exact wpAny_call (PySem.W.sm_get (s := { s with toks := s.toks + 1 }) I.kIn hp (PySem.W.handed_on rfl (h _ (I.tok _))))
theorem pe_sm (he : PE X o ta) (c : SMet X.K C mc m p g) (Fm : FnOk X.prog X.w X.K X.mg X.base CY k g fd ps sp) (b : Binds X.K fd ps []) (hr : Room k X.A) (hx : Passes CY X E) (ha : PA X (e :: es) t)
    (hst : starEach (e :: es) X.env = (false, eval e X.env) :: starEach es X.env := by rfl) (hpl : (backTo pos (starEach es X.env)).any (·.1) = false := by rfl)
    (ht : eval (.Call (.Attribute o m apos) (e :: es) [] pos) X.env = (do
      let v ← eval o X.env
      standAt apos.atName
      let (f, first) ← holding [v] (getMethod v m pl)
      callWith pos f first (backTo pos (starEach (e :: es) X.env)) (backToKw pos (keywordEach [] X.env))) := by rfl) : PE X (.Call (.Attribute o m apos) (e :: es) [] pos) (tSM C sp E ta t) := by
  refine ⟨fun pins s σ H Q I h => PySem.W.methodCall_KW (pl := pl) (thn (he.run pins s σ H _ I h) fun u s1 ⟨x, H1, I1, rx, ex, q⟩ => ?_) ht⟩
  subst ex
  obtain rfl : u = Value.ref C := rx
  refine getm_sm I1 c fun s2 I2 => ?_
  refine PySem.W.callWith_K (h₀ := X.base) I2.ok.mod.kin c.kp (thn (ha.run pos pins s2 σ H1 _ I2 q) fun us s3 ⟨vs, H2, I3, rv, q2⟩ => ⟨I3.kIn, ?_⟩) hst hpl
  exact run_fn Fm hr b .nil hx I3 rv (by rw [List.append_nil]; exact q2)
theorem pe_smk {ks : List Str} {kws : List Keyword} {gg : List Value → List Value → List Value} {gV : List V → List V → List V} (he : PE X o ta) (c : SMet X.K C mc m p g) (Fm : FnOk X.prog X.w X.K X.mg X.base CY k g fd ps sp) (b : KBn X.K fd ps 0 ks gg gV) (hr : Room k X.A) (hx : Passes CY X E) (hkw : PK X kws t)
    (hall : (backToKw pos (keywordEach kws X.env)).all (·.1.isSome) = true := by rfl) (hks : (backToKw pos (keywordEach kws X.env)).filterMap (·.1) = ks := by rfl)
    (hpl : ((backTo pos (starEach [] X.env)).any (·.1) || (backToKw pos (keywordEach kws X.env)).any (·.1.isNone)) = false := by rfl)
    (ht : eval (.Call (.Attribute o m apos) [] kws pos) X.env = (do
      let v ← eval o X.env
      standAt apos.atName
      let (f, first) ← holding [v] (getMethod v m pl)
      callWith pos f first (backTo pos (starEach [] X.env)) (backToKw pos (keywordEach kws X.env))) := by rfl) : PE X (.Call (.Attribute o m apos) [] kws pos) (tSMK C ks.length sp gV E ta t) := by
  refine ⟨fun pins s σ H Q I h => PySem.W.methodCall_KW (pl := pl) (thn (he.run pins s σ H _ I h) fun u s1 ⟨x, H1, I1, rx, ex, q⟩ => ?_) ht⟩
  subst ex
  obtain rfl : u = Value.ref C := rx
  refine getm_sm I1 c fun s2 I2 => ?_
  refine PySem.W.callWith_KW0 (h₀ := X.base) I2.ok.mod.kin c.kp hall (thn (hkw.run pos pins s2 σ H1 _ I2 q) fun ws s3 ⟨zs, H2, I3, rz, l2, q2⟩ => ⟨I3.kIn, ?_⟩) hpl
  rw [hks]
  exact run_kw Fm hr b (fun e s' z => hx _ _ _ _ _ _ I3 z) I3 rz l2 q2
/-- abs(x) of an own instance, an int -/
def rAb (C : Addr) (sp : Sp) (E : XK) : List V → Hp → VK → Prop := fun xs H Q => match xs with
  | [.ref a] => IsI C H a ∧ sp [.ref a] H Q E
  | [.int i] => Q (.int (if i < 0 then -i else i)) H
  | _ => False
theorem call_ab {f : Addr} (hs : PySem.W.findIn X.K (.ref C) "__abs__" = some (some (.ref f))) (hf : PySem.W.isFn X.K (.ref f) = true) (Fi : FnOk X.prog X.w X.K X.mg X.base CY k f fd ps sp) (b : Binds X.K fd ps []) (hr : Room (k + 1) X.A) (hx : Passes CY X E) :
    CallR X (.builtin "abs") (rAb C sp E) := by
  intro pins s σ H xs us Q I r q
  unfold rAb at q
  split at q
  · obtain ⟨i1, q⟩ := q
    obtain ⟨u, rfl, ru⟩ := vals1 r
    cases ru
    obtain ⟨dx, od, J, ho⟩ := inst_at I i1
    rename_i a
    have rv : Vals [V.ref a] [Value.ref a] := .cons rfl .nil
    have hl : ([Value.ref a] ++ []).length = ps.length := by
      rw [List.append_nil, ← rv.length]
      exact Fi.len _ _ _ _ q
    have bd := b s [Value.ref a] I.kIn hl
    rw [List.append_nil] at bd
    refine PySem.HXO.unA I.kIn J hs hf (wpAny_call (codeAny_mono (Fi.run X.A.in1 X.stack s H ⟨[Value.ref a], []⟩ [Value.ref a] [V.ref a] Q E hr.in1 I.env0.in1 bd rv q) fun z s' hq => ?_))
    match z, hq with
    | .error e, hq => exact hx pins σ H s e s' I hq
    | .ok (.ret u), hq => exact I.after hq
    | .ok .next, hq => exact False.elim hq
    | .ok .brk, hq => exact False.elim hq
    | .ok .cont, hq => exact False.elim hq
  · exact call_abs pins s σ H _ us Q I r ⟨_, rfl, q⟩
  · exact q.elim
/-- what is never come to -/
theorem ps_dead {st : Stmt} : PS X st fun _ _ _ => False := ⟨fun _ _ _ _ _ _ h => h.elim⟩
theorem pe_dead : PE X e fun _ _ _ => False := ⟨fun _ _ _ _ _ _ h => h.elim⟩
end
end HX

set_option Elab.async false
set_option linter.all false
set_option maxRecDepth 100000
set_option maxHeartbeats 2000000
namespace HX
open PySem PySem.Spec PyProof.Rows L2

/-! ### the lowest terms of p / q -/
def gcdZ (p q : Int) : Int := ((Nat.gcd p.natAbs q.natAbs : Nat) : Int)
def sgZ (q : Int) : Int := if q < 0 then -1 else 1
def nT (p q : Int) : Int := (sgZ q * p) / gcdZ p q
def nB (p q : Int) : Int := (sgZ q * q) / gcdZ p q
/-- t / b stands in lowest terms -/
def Low (t b : Int) : Prop := 0 < b ∧ Nat.gcd t.natAbs b.natAbs = 1
theorem gcdZ_pos {p q : Int} (h : q ≠ 0) : 0 < gcdZ p q := by
  have : 0 < Nat.gcd p.natAbs q.natAbs := Nat.gcd_pos_of_pos_right _ (by omega)
  unfold gcdZ
  omega
theorem gcdZ_p (p q : Int) : gcdZ p q ∣ p := Int.ofNat_dvd_left.mpr (Nat.gcd_dvd_left _ _)
theorem gcdZ_q (p q : Int) : gcdZ p q ∣ q := Int.ofNat_dvd_left.mpr (Nat.gcd_dvd_right _ _)
theorem sgZ_sq (q : Int) : sgZ q = 1 ∨ sgZ q = -1 := by
  unfold sgZ
  split
  · exact .inr rfl
  · exact .inl rfl
theorem nT_mul {p q : Int} : gcdZ p q * nT p q = sgZ q * p := Int.mul_ediv_cancel' (Int.dvd_trans (gcdZ_p p q) (Int.dvd_mul_left _ _))
theorem nB_mul {p q : Int} : gcdZ p q * nB p q = sgZ q * q := Int.mul_ediv_cancel' (Int.dvd_trans (gcdZ_q p q) (Int.dvd_mul_left _ _))
theorem sgZ_abs {q : Int} : sgZ q * q = (q.natAbs : Int) := by
  unfold sgZ
  split <;> omega
theorem nB_pos {p q : Int} (h : q ≠ 0) : 0 < nB p q := by
  have g := gcdZ_pos (p := p) h
  have e := nB_mul (p := p) (q := q)
  rw [sgZ_abs] at e
  rcases Int.lt_or_le 0 (nB p q) with z | z
  · exact z
  · have := Int.mul_nonpos_of_nonneg_of_nonpos (Int.le_of_lt g) z
    omega
theorem cross {p q : Int} (h : q ≠ 0) : nT p q * q = p * nB p q := by
  have g := gcdZ_pos (p := p) h
  have e1 := nT_mul (p := p) (q := q)
  have e2 := nB_mul (p := p) (q := q)
  have s : sgZ q ≠ 0 := by rcases sgZ_sq q with z | z <;> rw [z] <;> decide
  refine Int.eq_of_mul_eq_mul_left (Int.ne_of_gt g) ?_
  calc gcdZ p q * (nT p q * q) = (gcdZ p q * nT p q) * q := by rw [Int.mul_assoc]
    _ = sgZ q * p * q := by rw [e1]
    _ = p * (sgZ q * q) := by rw [Int.mul_comm (sgZ q) p, Int.mul_assoc]
    _ = p * (gcdZ p q * nB p q) := by rw [e2]
    _ = gcdZ p q * (p * nB p q) := by rw [Int.mul_left_comm]
theorem low_n {p q : Int} (h : q ≠ 0) : Low (nT p q) (nB p q) := by
  refine ⟨nB_pos h, ?_⟩
  have g := gcdZ_pos (p := p) h
  have e1 := congrArg Int.natAbs (nT_mul (p := p) (q := q))
  have e2 := congrArg Int.natAbs (nB_mul (p := p) (q := q))
  have sg : (sgZ q).natAbs = 1 := by rcases sgZ_sq q with z | z <;> rw [z] <;> rfl
  rw [Int.natAbs_mul, Int.natAbs_mul, sg, Nat.one_mul] at e1 e2
  have gg : (gcdZ p q).natAbs = Nat.gcd p.natAbs q.natAbs := rfl
  rw [gg] at e1 e2
  have e3 := Nat.gcd_mul_left (Nat.gcd p.natAbs q.natAbs) (nT p q).natAbs (nB p q).natAbs
  rw [e1, e2] at e3
  have g2 : 0 < Nat.gcd p.natAbs q.natAbs := Nat.gcd_pos_of_pos_right _ (by omega)
  exact Nat.eq_of_mul_eq_mul_left g2 (by rw [Nat.mul_one]; exact e3.symm)
/-- two fractions in lowest terms that are equal are the same -/
theorem low_unique {t b t' b' : Int} (h : Low t b) (h' : Low t' b') (e : t * b' = t' * b) : t = t' ∧ b = b' := by
  obtain ⟨p, g⟩ := h
  obtain ⟨p', g'⟩ := h'
  have e' := congrArg Int.natAbs e
  rw [Int.natAbs_mul, Int.natAbs_mul] at e'
  have d1 : b.natAbs ∣ b'.natAbs := by
    have : b.natAbs ∣ t.natAbs * b'.natAbs := ⟨t'.natAbs, by rw [e', Nat.mul_comm]⟩
    exact (Nat.Coprime.dvd_of_dvd_mul_left (Nat.Coprime.symm g) this)
  have d2 : b'.natAbs ∣ b.natAbs := by
    have : b'.natAbs ∣ t'.natAbs * b.natAbs := ⟨t.natAbs, by rw [← e', Nat.mul_comm]⟩
    exact (Nat.Coprime.dvd_of_dvd_mul_left (Nat.Coprime.symm g') this)
  have eb : b = b' := by
    have := Nat.dvd_antisymm d1 d2
    omega
  subst eb
  exact ⟨Int.eq_of_mul_eq_mul_right (by omega) e, rfl⟩
theorem n_unique {p q t b : Int} (hq : q ≠ 0) (h : Low t b) (e : t * q = p * b) : nT p q = t ∧ nB p q = b := by
  refine low_unique (low_n hq) h ?_
  have c := cross (p := p) hq
  refine Int.eq_of_mul_eq_mul_left hq ?_
  calc q * (nT p q * b) = (nT p q * q) * b := by rw [← Int.mul_assoc, Int.mul_comm q]
    _ = p * nB p q * b := by rw [c]
    _ = (p * b) * nB p q := by rw [Int.mul_right_comm]
    _ = t * q * nB p q := by rw [e]
    _ = q * (t * nB p q) := by rw [Int.mul_comm t q, Int.mul_assoc]
theorem low_int (i : Int) : Low i 1 := ⟨by decide, by simp⟩
theorem low_neg {t b : Int} (h : Low t b) : Low (-t) b := ⟨h.1, by rw [Int.natAbs_neg]; exact h.2⟩
theorem low_abs {t b : Int} (h : Low t b) : Low (if t < 0 then -t else t) b := by split; exact low_neg h; exact h
theorem n_self {t b : Int} (h : Low t b) : nT t b = t ∧ nB t b = b := n_unique (by have := h.1; omega) h rfl
theorem nT_le {p q : Int} (h : q ≠ 0) : (nT p q).natAbs ≤ p.natAbs := by
  have e1 := congrArg Int.natAbs (nT_mul (p := p) (q := q))
  have sg : (sgZ q).natAbs = 1 := by rcases sgZ_sq q with z | z <;> rw [z] <;> rfl
  rw [Int.natAbs_mul, Int.natAbs_mul, sg, Nat.one_mul] at e1
  have g := gcdZ_pos (p := p) h
  have : 1 ≤ (gcdZ p q).natAbs := by omega
  calc (nT p q).natAbs = 1 * (nT p q).natAbs := (Nat.one_mul _).symm
    _ ≤ (gcdZ p q).natAbs * (nT p q).natAbs := Nat.mul_le_mul_right _ this
    _ = p.natAbs := e1
theorem nB_le {p q : Int} (h : q ≠ 0) : (nB p q).natAbs ≤ q.natAbs := by
  have e1 := congrArg Int.natAbs (nB_mul (p := p) (q := q))
  have sg : (sgZ q).natAbs = 1 := by rcases sgZ_sq q with z | z <;> rw [z] <;> rfl
  rw [Int.natAbs_mul, Int.natAbs_mul, sg, Nat.one_mul] at e1
  have g := gcdZ_pos (p := p) h
  have : 1 ≤ (gcdZ p q).natAbs := by omega
  calc (nB p q).natAbs = 1 * (nB p q).natAbs := (Nat.one_mul _).symm
    _ ≤ (gcdZ p q).natAbs * (nB p q).natAbs := Nat.mul_le_mul_right _ this
    _ = q.natAbs := e1
/-- the divisor of the program: the gcd with the sign of q -/
theorem fdiv_sg {p q z : Int} (h : q ≠ 0) (d : gcdZ p q ∣ z) : z.fdiv (if q < 0 then -(gcdZ p q) else gcdZ p q) = (sgZ q * z) / gcdZ p q := by
  have g := gcdZ_pos (p := p) h
  obtain ⟨k, rfl⟩ := d
  unfold sgZ
  split
  · have e : gcdZ p q * k = -(gcdZ p q) * -k := (Int.neg_mul_neg _ _).symm
    have e2 : -1 * (gcdZ p q * k) = gcdZ p q * -k := by rw [Int.neg_one_mul, Int.mul_neg]
    rw [e2, Int.mul_ediv_cancel_left _ (Int.ne_of_gt g), e, Int.mul_fdiv_cancel_left _ (by omega)]
  · rw [Int.one_mul, Int.fdiv_eq_ediv_of_nonneg _ (Int.le_of_lt g)]
/-- floor division of a fraction in lowest terms is that of p by q -/
theorem floor_n {p q : Int} (h : q ≠ 0) : nT p q / nB p q = p.fdiv q := by
  have g := gcdZ_pos (p := p) h
  have e1 := nT_mul (p := p) (q := q)
  have e2 := nB_mul (p := p) (q := q)
  have b := nB_pos (p := p) h
  have z : (gcdZ p q * nT p q) / (gcdZ p q * nB p q) = nT p q / nB p q := Int.mul_ediv_mul_of_pos _ _ g
  have pos : 0 ≤ sgZ q * q := by rw [sgZ_abs]; omega
  rw [← z, e1, e2, ← Int.fdiv_eq_ediv_of_nonneg _ pos]
  rcases sgZ_sq q with s | s
  · rw [s, Int.one_mul, Int.one_mul]
  · rw [s, Int.neg_one_mul, Int.neg_one_mul, Int.neg_fdiv_neg]
end HX

set_option Elab.async false
set_option linter.all false
set_option maxRecDepth 100000
set_option maxHeartbeats 2000000
namespace HX
open PySem PySem.Spec PyProof.Rows L2

/-! ### one side alone -/
def rOwL (C : Addr) (sp : Sp) (E : XK) : L2.R2 := fun x y H Q => match x, y with
  | .ref a, .ref b => IsI C H a ∧ IsI C H b ∧ sp [.ref a, .ref b] H Q E
  | .ref a, .int j => IsI C H a ∧ sp [.ref a, .int j] H Q E
  | _, _ => False
def rOwR (C : Addr) (r0 : L2.R2) (sp : Sp) (E : XK) : L2.R2 := fun x y H Q => match x, y with
  | .int i, .ref b => IsI C H b ∧ sp [.ref b, .int i] H Q E
  | .int i, .int j => r0 (.int i) (.int j) H Q
  | _, _ => False
section
variable {X : Cx} {C f g : Addr} {fd : FuncData} {ps : List Str} {sp : Sp} {CY : CXT} {k : Nat} {E : XK} {op : Operator} {idl : String} {r0 : L2.R2}
theorem op_owL (io : PySem.HXO.IntOp op idl) (O : PySem.HXO.OwnOp X.K C op f g) (Ff : FnOk X.prog X.w X.K X.mg X.base CY k f fd ps sp) (bf : Binds X.K fd ps []) (hr : Room k X.A) (hx : Passes CY X E) : OpR X (binaryOp op) (rOwL C sp E) := by
  intro pins s σ H x y v u Q I rx ry q
  unfold rOwL at q
  split at q
  · obtain ⟨i1, i2, q⟩ := q
    cases rx
    cases ry
    obtain ⟨dx, od, J, ho⟩ := inst_at I i1
    obtain ⟨dy, od2, J2, ho2⟩ := inst_at I i2
    rename_i a b
    have rv : Vals [V.ref a, V.ref b] [Value.ref a, Value.ref b] := .cons rfl (.cons rfl .nil)
    exact PySem.HXO.binE I.kIn J J2 O.first O.hs O.hf (wpAny_mono (run_fn Ff hr bf .nil hx I rv (by rw [List.append_nil]; exact q)) (fun u s' h => ep_own h) fun _ _ z => z)
  · obtain ⟨i1, q⟩ := q
    cases rx
    obtain ⟨t, rfl⟩ := (show ∃ t, u = Value.int _ t from ry)
    obtain ⟨dx, od, J, ho⟩ := inst_at I i1
    obtain ⟨r, rU⟩ := io.rU
    rename_i a j
    have rv : Vals [V.ref a, V.int j] [Value.ref a, Value.int j t] := .cons rfl (.cons ⟨t, rfl⟩ .nil)
    exact PySem.HXO.binL I.kIn J rfl O.first io.fU rU (PySem.HXO.int_not C) O.hs O.hr O.hf (wpAny_mono (run_fn Ff hr bf .nil hx I rv (by rw [List.append_nil]; exact q)) (fun u s' h => ep_own h) fun _ _ z => z)
  · exact q.elim
theorem op_owR (io : PySem.HXO.IntOp op idl) (h0 : OpR X (binaryOp op) r0) (O : PySem.HXO.OwnOp X.K C op f g) (Fg : FnOk X.prog X.w X.K X.mg X.base CY k g fd ps sp) (bg : Binds X.K fd ps []) (hr : Room k X.A) (hx : Passes CY X E) : OpR X (binaryOp op) (rOwR C r0 sp E) := by
  intro pins s σ H x y v u Q I rx ry q
  unfold rOwR at q
  split at q
  · obtain ⟨i1, q⟩ := q
    cases ry
    obtain ⟨t, rfl⟩ := (show ∃ t, v = Value.int _ t from rx)
    obtain ⟨dx, od, J, ho⟩ := inst_at I i1
    rename_i j a
    have rv : Vals [V.ref a, V.int j] [Value.ref a, Value.int j t] := .cons rfl (.cons ⟨t, rfl⟩ .nil)
    exact PySem.HXO.binR I.kIn J rfl (typeIs_int s _ t) O.first io.fU O.sub io.sl (fun Q z => io.ni ho z) O.hs O.hr O.hg (wpAny_mono (run_fn Fg hr bg .nil hx I rv (by rw [List.append_nil]; exact q)) (fun u s' h => ep_own h) fun _ _ z => z)
  · exact h0 pins s σ H _ _ v u Q I rx ry q
  · exact q.elim
/-- // by any int but 0, below 2 ^ 9000 -/
def CDivZ (_ j : Int) : Prop := j ≠ 0 ∧ j.natAbs.log2 < 9000
theorem o_fdivZ : OpR X (binaryOp .FloorDiv) (rI2 CDivZ fun i j => .int (i.fdiv j)) := opC (opI fun _ _ _ _ _ _ _ hc q => floordiv_int hc.1 q (.inl (PyProof.noPylong_of_log2 hc.2)))
theorem o_mulW : OpR X (binaryOp .Mult) (rI2 CMulW fun i j => .int (i * j)) := opC op_mulW
end

/-! ### amounts: top t, bottom b -/
def afs (t b : Int) : List (Str × V) := [("top", .int t), ("bottom", .int b)]
def Am (A : Addr) (H : Hp) (a : Addr) (t b : Int) : Prop := ∃ dx, H a = some (.ins A dx (afs t b))
/-- an amount or an int -/
def Nu (A : Addr) (H : Hp) (v : V) (t b : Int) : Prop := (∃ a, v = .ref a ∧ Am A H a t b) ∨ (v = .int t ∧ b = 1)
/-- fewer than n bits -/
def Sm (n : Nat) (i : Int) : Prop := i.natAbs < 2 ^ n
theorem Am.mo {A : Addr} {H G : Hp} {a : Addr} {t b : Int} (s : Same H G) : Am A H a t b → Am A G a t b := fun ⟨dx, e⟩ => ⟨dx, s _ _ e⟩
theorem Nu.mo {A : Addr} {H G : Hp} {v : V} {t b : Int} (s : Same H G) : Nu A H v t b → Nu A G v t b := fun h => h.elim (fun ⟨a, e, z⟩ => .inl ⟨a, e, z.mo s⟩) .inr
theorem Am.isI {A : Addr} {H : Hp} {a : Addr} {t b : Int} (h : Am A H a t b) : IsI A H a := let ⟨dx, e⟩ := h; ⟨dx, _, e⟩
/-- a new amount is the answer -/
def QA (A : Addr) (H : Hp) (Q : VK) (t b : Int) : Prop := ∀ r G, H r = none → Same H G → Am A G r t b → Q (.ref r) G
theorem QA.mo {A : Addr} {H G : Hp} {Q : VK} {t b : Int} (s : Same H G) (h : QA A H Q t b) : QA A G Q t b := fun r G' n s' a => h r G' (s.free n) (s.trans s') a
theorem Sm.mono {m n : Nat} {i : Int} (h : Sm m i) (le : m ≤ n) : Sm n i := Nat.lt_of_lt_of_le h (Nat.pow_le_pow_right (by decide) le)
theorem Sm.mul {m n : Nat} {i j : Int} (h : Sm m i) (k : Sm n j) : Sm (m + n) (i * j) := wide_lt h k
theorem Sm.add {n : Nat} {i j : Int} (h : Sm n i) (k : Sm n j) : Sm (n + 1) (i + j) := by
  unfold Sm at *
  rw [Nat.pow_succ]
  omega
theorem Sm.neg {n : Nat} {i : Int} (h : Sm n i) : Sm n (-i) := by
  unfold Sm at *
  rw [Int.natAbs_neg]
  exact h
theorem Sm.cMul {m n : Nat} {i j : Int} (h : Sm m i) (k : Sm n j) (hm : 0 < m := by decide) (hn : 0 < n := by decide) (le : m + n ≤ 1000000 := by decide) : CMulW i j := wide_mul h k hm hn le
theorem Sm.cDiv {n : Nat} {i j : Int} (h : Sm n j) (z : j ≠ 0) (hn : 0 < n := by decide) (le : n ≤ 9000 := by decide) : CDivZ i j := ⟨z, Nat.lt_of_lt_of_le (PySem.Flt.log2_lt_of hn h) le⟩
theorem Sm.nT {n : Nat} {p q : Int} (h : Sm n p) (z : q ≠ 0) : Sm n (nT p q) := Nat.lt_of_le_of_lt (nT_le z) h
theorem Sm.nB {n : Nat} {p q : Int} (h : Sm n q) (z : q ≠ 0) : Sm n (nB p q) := Nat.lt_of_le_of_lt (nB_le z) h
theorem sm_one : Sm 1 1 := by unfold Sm; decide

/-! ### what the parts of Amount promise -/
def spIsInt (A : Addr) : Sp := fun vs H Q _ => ∃ v, vs = [v] ∧ (((∃ i, v = .int i) ∧ Q (.bl true) H) ∨ ∃ a, v = .ref a ∧ IsI A H a ∧ Q (.bl false) H)
def spInit (A : Addr) : Sp := fun vs H Q _ => ∃ (x dx : Addr) (p q : Int), vs = [.ref x, .int p, .int q] ∧ H x = some (.ins A dx []) ∧ q ≠ 0 ∧ Sm 900 p ∧ Sm 900 q ∧
  ∀ G, (∀ b o, b ≠ x → H b = some o → G b = some o) → G x = some (.ins A dx (afs (nT p q) (nB p q))) → Q .non G
def spIsNum (A : Addr) : Sp := fun vs H Q _ => ∃ v t b, vs = [v] ∧ Nu A H v t b ∧ Q (.bl true) H
def spOf (A : Addr) : Sp := fun vs H Q _ => ∃ v t b, vs = [v] ∧ Nu A H v t b ∧ Sm 900 t ∧ ∀ r G, Same H G → Am A G r t b → Q (.ref r) G
/-- self and a number: a new amount -/
def spBin (A : Addr) (n : Nat) (p q : Int → Int → Int → Int → Int) : Sp := fun vs H Q _ => ∃ (a : Addr) (v : V) (t b c d : Int), vs = [.ref a, v] ∧ Am A H a t b ∧ Nu A H v c d ∧ Low t b ∧ Low c d ∧ Sm n t ∧ Sm n b ∧ Sm n c ∧ Sm n d ∧ q t b c d ≠ 0 ∧ QA A H Q (nT (p t b c d) (q t b c d)) (nB (p t b c d) (q t b c d))
theorem mkA {A : Addr} {H : Hp} {Q : VK} {E : XK} {p q : Int} (z : q ≠ 0) (sp : Sm 900 p) (sq : Sm 900 q) (k : QA A H Q (nT p q) (nB p q)) : ∀ x dx, H x = none → H dx = none → dx ≠ x →
    spInit A (.ref x :: [.int p, .int q]) (upd (upd H dx (.own x)) x (.ins A dx [])) (fun v H2 => v = .non ∧ Q (.ref x) H2) E := fun x dx nx nd ne =>
  ⟨x, dx, p, q, rfl, upd_same, z, sp, sq, fun G kp gx => ⟨rfl, k x G nx (fun b o e => kp b o (ne_of_none e nx) (by rw [upd_ne (ne_of_none e nx), upd_ne (ne_of_none e nd)]; exact e)) ⟨dx, gx⟩⟩⟩
end HX

set_option Elab.async false
set_option linter.all false
set_option maxRecDepth 100000
set_option maxHeartbeats 2000000
/-! ### comparisons of own instances -/
namespace PySem
namespace HXC
open W Builtin PyProof.Rows
section
variable {prog : Program} {w : World} {A : Around} {E : Value → Shared → Prop} {s : Shared} {K : Frag} {x C f : Addr} {ox : Obj} {od : Option Obj}
theorem try_own {b : Value} {name : Str} {Q : Value → Shared → Prop} (X : K.In s.heap) (I : InstAt s.heap x ox C od) (hs : findIn K (.ref C) name = some (some (.ref f))) (hf : isFn K (.ref f) = true)
    (h : wpAny (model prog w) A (call (.ref f) [.ref x, b]) (W.CmpBack Q) E s) : wpAny (model prog w) A (tryCompare (.ref x) name b) (fun r s2 => ∃ v, r = some v ∧ Q v s2) E s := by
  unfold tryCompare
  refine wpAny_bind (ifBound_K X I hs hf (wpAny_mono h (fun v s2 hv => ?_) fun _ _ z => z))
  cases v <;> first | exact hv.elim | exact (wpAny_pure ⟨_, rfl, hv⟩)
/-- x o b, b of a built-in type -/
theorem cmL {op : CmpOp} {b : Value} {T : String} {Q : Value → Shared → Prop} (hu : A.units < cLine) (X : K.In s.heap) (I : InstAt s.heap x ox C od) (hb : s.TypeIs b T) (hsub : isSubtype (.type T) (.ref C) = pure false)
    (hs : findIn K (.ref C) (cmpInfo op).2.1 = some (some (.ref f))) (hf : isFn K (.ref f) = true)
    (h : wpAny (model prog w) A (call (.ref f) [.ref x, b]) (W.CmpBack Q) E s) : wpAny (model prog w) A (richCompare op (.ref x) b) Q E s := by
  have one := try_own X I hs hf h
  unfold richCompare
  simp only [oneThing_ref]
  refine wpAny_holding (wpAny_bind (wpAny_cRoomFor hu ?_))
  refine wpAny_bind (I.type.here (wpAny_bind (wpAny_typeOf hb ?_)))
  have ne : (Value.ref C != Value.type T) = true := by simp
  rw [if_pos ne]
  refine wpAny_bind (wpAny_of_eq hsub ?_)
  simp only [Bool.false_eq_true, if_false]
  refine wpAny_bind (wpAny_mono one (fun r s2 z => ?_) fun _ _ z => z)
  obtain ⟨v, rfl, hq⟩ := z
  exact (wpAny_pure hq)
/-- x o y of one class -/
theorem cmE {op : CmpOp} {y : Addr} {oy : Obj} {oe : Option Obj} {Q : Value → Shared → Prop} (hu : A.units < cLine) (X : K.In s.heap) (I : InstAt s.heap x ox C od) (J : InstAt s.heap y oy C oe)
    (hs : findIn K (.ref C) (cmpInfo op).2.1 = some (some (.ref f))) (hf : isFn K (.ref f) = true)
    (h : wpAny (model prog w) A (call (.ref f) [.ref x, .ref y]) (W.CmpBack Q) E s) : wpAny (model prog w) A (richCompare op (.ref x) (.ref y)) Q E s := by
  have one := try_own X I hs hf h
  unfold richCompare
  simp only [oneThing_ref]
  refine wpAny_holding (wpAny_bind (wpAny_cRoomFor hu ?_))
  refine wpAny_bind (I.type.here (wpAny_bind (J.type.here ?_)))
  have ne : (Value.ref C != Value.ref C) = false := by simp
  rw [if_neg (by rw [ne]; decide)]
  refine wpAny_bind (wpAny_pure ?_)
  simp only [Bool.false_eq_true, if_false]
  refine wpAny_bind (wpAny_mono one (fun r s2 z => ?_) fun _ _ z => z)
  obtain ⟨v, rfl, hq⟩ := z
  exact (wpAny_pure hq)
/-- v o x, v an int -/
theorem cmR {op : CmpOp} {i : Int} {t : Tok} {idl : String} {Q : Value → Shared → Prop} (hu : A.units < cLine) (X : K.In s.heap) (I : InstAt s.heap x ox C od) (hsub : subIn K (.ref C) (.type "int") = some false) (sl : Slot "int" (cmpInfo op).2.1 idl)
    (hN : ∀ Q : Value → Shared → Prop, Q .notImplemented s → wpAny (model prog w) A (call (.builtin idl) [.int i t, .ref x]) Q E s)
    (hs : findIn K (.ref C) (cmpInfo op).2.2 = some (some (.ref f))) (hf : isFn K (.ref f) = true)
    (h : wpAny (model prog w) A (call (.ref f) [.ref x, .int i t]) (W.CmpBack Q) E s) : wpAny (model prog w) A (richCompare op (.int i t) (.ref x)) Q E s := by
  have one := try_own X I hs hf h
  have hO : oneThing? op (.int i t) (.ref x) = none := by rfl
  unfold richCompare
  simp only [hO]
  refine wpAny_holding (wpAny_bind (wpAny_cRoomFor hu ?_))
  refine wpAny_bind (wpAny_of_eq (show typeOf (.int i t) = pure (.type "int") from rfl) (wpAny_bind (I.type.here ?_)))
  have ne : (Value.type "int" != Value.ref C) = true := by simp
  rw [if_pos ne]
  refine wpAny_bind ((looks_subIn X hsub).here ?_)
  simp only [Bool.false_eq_true, if_false, Bool.not_false, if_true]
  refine wpAny_bind (m := tryCompare (.int i t) _ (.ref x)) ?_
  unfold tryCompare
  refine wpAny_bind (wpAny_callSpecialIfBound?_slot (typeIs_int s i t) sl (hN _ ?_))
  refine (wpAny_pure ?_)
  refine wpAny_bind (wpAny_mono one (fun r s2 z => ?_) fun _ _ z => z)
  obtain ⟨v, rfl, hq⟩ := z
  exact (wpAny_pure hq)
theorem nc_lt {i : Int} {t : Tok} {dx : Addr} {Q : Value → Shared → Prop} (hx : s.heap.get? x = some (instObj C dx)) (h : Q .notImplemented s) : wpAny (model prog w) A (call (.builtin "int.__lt__") [.int i t, .ref x]) Q E s := by
  refine wpAny_call (codeAny_call_builtin F.slot_int_lt.plain F.entry_int_lt (F.slot_int_lt.check _ _ _ _ _ _ _ _ (typeIs_int s i t) (F.args_int_lt_2 _ _) ?_))
  unfold Builtin.«int.__lt__»
  refine (by (repeat (first | with_reducible refine wpAny_loadPart_at hx ?_ | with_reducible refine wpAny_load hx ?_ | wp_step)); exact h)
theorem nc_le {i : Int} {t : Tok} {dx : Addr} {Q : Value → Shared → Prop} (hx : s.heap.get? x = some (instObj C dx)) (h : Q .notImplemented s) : wpAny (model prog w) A (call (.builtin "int.__le__") [.int i t, .ref x]) Q E s := by
  refine wpAny_call (codeAny_call_builtin F.slot_int_le.plain F.entry_int_le (F.slot_int_le.check _ _ _ _ _ _ _ _ (typeIs_int s i t) (F.args_int_le_2 _ _) ?_))
  unfold Builtin.«int.__le__»
  refine (by (repeat (first | with_reducible refine wpAny_loadPart_at hx ?_ | with_reducible refine wpAny_load hx ?_ | wp_step)); exact h)
theorem nc_gt {i : Int} {t : Tok} {dx : Addr} {Q : Value → Shared → Prop} (hx : s.heap.get? x = some (instObj C dx)) (h : Q .notImplemented s) : wpAny (model prog w) A (call (.builtin "int.__gt__") [.int i t, .ref x]) Q E s := by
  refine wpAny_call (codeAny_call_builtin F.slot_int_gt.plain F.entry_int_gt (F.slot_int_gt.check _ _ _ _ _ _ _ _ (typeIs_int s i t) (F.args_int_gt_2 _ _) ?_))
  unfold Builtin.«int.__gt__»
  refine (by (repeat (first | with_reducible refine wpAny_loadPart_at hx ?_ | with_reducible refine wpAny_load hx ?_ | wp_step)); exact h)
theorem nc_ge {i : Int} {t : Tok} {dx : Addr} {Q : Value → Shared → Prop} (hx : s.heap.get? x = some (instObj C dx)) (h : Q .notImplemented s) : wpAny (model prog w) A (call (.builtin "int.__ge__") [.int i t, .ref x]) Q E s := by
  refine wpAny_call (codeAny_call_builtin F.slot_int_ge.plain F.entry_int_ge (F.slot_int_ge.check _ _ _ _ _ _ _ _ (typeIs_int s i t) (F.args_int_ge_2 _ _) ?_))
  unfold Builtin.«int.__ge__»
  refine (by (repeat (first | with_reducible refine wpAny_loadPart_at hx ?_ | with_reducible refine wpAny_load hx ?_ | wp_step)); exact h)
theorem nc_eq {i : Int} {t : Tok} {dx : Addr} {Q : Value → Shared → Prop} (hx : s.heap.get? x = some (instObj C dx)) (h : Q .notImplemented s) : wpAny (model prog w) A (call (.builtin "int.__eq__") [.int i t, .ref x]) Q E s := by
  refine wpAny_call (codeAny_call_builtin F.slot_int_eq.plain F.entry_int_eq (F.slot_int_eq.check _ _ _ _ _ _ _ _ (typeIs_int s i t) (F.args_int_eq_2 _ _) ?_))
  unfold Builtin.«int.__eq__»
  refine (by (repeat (first | with_reducible refine wpAny_loadPart_at hx ?_ | with_reducible refine wpAny_load hx ?_ | wp_step)); exact h)
end
end HXC
end PySem
namespace HX
open PySem PySem.Spec PyProof.Rows L2
/-- a class's methods of a comparison: f of o, g of its mirror -/
structure CmpO (K : PySem.W.Frag) (C : Addr) (op : CmpOp) (f g : Addr) (idl : String) : Prop where
  sub : PySem.W.subIn K (.ref C) (.type "int") = some false
  hs : PySem.W.findIn K (.ref C) (cmpInfo op).2.1 = some (some (.ref f))
  hr : PySem.W.findIn K (.ref C) (cmpInfo op).2.2 = some (some (.ref g))
  hf : PySem.W.isFn K (.ref f) = true
  hg : PySem.W.isFn K (.ref g) = true
  rich : ∀ a b, compareOp op a b = richCompare op a b
  sl : Slot "int" (cmpInfo op).2.1 idl
  ni : ∀ {prog : Program} {w : World} {A : Around} {E : Value → Shared → Prop} {s : Shared} {x C dx : Addr} {i : Int} {t : Tok} {Q : Value → Shared → Prop}, s.heap.get? x = some (PySem.W.instObj C dx) → Q .notImplemented s → wpAny (model prog w) A (call (.builtin idl) [.int i t, .ref x]) Q E s
theorem op_cm {X : Cx} {C f g : Addr} {op : CmpOp} {idl : String} {r0 : L2.R2} {ff fg : FuncData} {pf pg : List Str} {spF spG : Sp} {CY : CXT} {k : Nat} {E : XK} (h0 : OpR X (compareOp op) r0) (O : CmpO X.K C op f g idl)
    (Ff : FnOk X.prog X.w X.K X.mg X.base CY k f ff pf spF) (Fg : FnOk X.prog X.w X.K X.mg X.base CY k g fg pg spG) (bf : Binds X.K ff pf []) (bg : Binds X.K fg pg []) (hr : Room k X.A) (hx : Passes CY X E) : OpR X (compareOp op) (rOw C r0 spF spG E) := by
  intro pins s σ H x y v u Q I rx ry q
  have hu := hr.units0
  unfold rOw at q
  split at q
  · obtain ⟨i1, i2, q⟩ := q
    cases rx
    cases ry
    obtain ⟨dx, od, J, ho⟩ := inst_at I i1
    obtain ⟨dy, od2, J2, ho2⟩ := inst_at I i2
    rename_i a b
    have rv : Vals [V.ref a, V.ref b] [Value.ref a, Value.ref b] := .cons rfl (.cons rfl .nil)
    rw [O.rich]
    exact PySem.HXC.cmE hu I.kIn J J2 O.hs O.hf (wpAny_mono (run_fn Ff hr bf .nil hx I rv (by rw [List.append_nil]; exact q)) (fun u s2 h => ep_own h) fun _ _ z => z)
  · obtain ⟨i1, q⟩ := q
    cases rx
    obtain ⟨t, rfl⟩ := (show ∃ t, u = Value.int _ t from ry)
    obtain ⟨dx, od, J, ho⟩ := inst_at I i1
    rename_i a j
    have rv : Vals [V.ref a, V.int j] [Value.ref a, Value.int j t] := .cons rfl (.cons ⟨t, rfl⟩ .nil)
    rw [O.rich]
    exact PySem.HXC.cmL hu I.kIn J (typeIs_int s _ t) (PySem.HXO.int_not C) O.hs O.hf (wpAny_mono (run_fn Ff hr bf .nil hx I rv (by rw [List.append_nil]; exact q)) (fun u s2 h => ep_own h) fun _ _ z => z)
  · obtain ⟨i1, q⟩ := q
    cases ry
    obtain ⟨t, rfl⟩ := (show ∃ t, v = Value.int _ t from rx)
    obtain ⟨dx, od, J, ho⟩ := inst_at I i1
    rename_i j a
    have rv : Vals [V.ref a, V.int j] [Value.ref a, Value.int j t] := .cons rfl (.cons ⟨t, rfl⟩ .nil)
    rw [O.rich]
    exact PySem.HXC.cmR hu I.kIn J O.sub O.sl (fun Q z => O.ni ho z) O.hr O.hg (wpAny_mono (run_fn Fg hr bg .nil hx I rv (by rw [List.append_nil]; exact q)) (fun u s2 h => ep_own h) fun _ _ z => z)
  · exact h0 pins s σ H _ _ v u Q I rx ry q
  · exact q.elim
theorem cmpO_lt {K : PySem.W.Frag} {C f g : Addr} (sub : PySem.W.subIn K (.ref C) (.type "int") = some false) (hs : PySem.W.findIn K (.ref C) "__lt__" = some (some (.ref f))) (hr : PySem.W.findIn K (.ref C) "__gt__" = some (some (.ref g))) (hf : PySem.W.isFn K (.ref f) = true) (hg : PySem.W.isFn K (.ref g) = true) : CmpO K C .Lt f g "int.__lt__" := ⟨sub, hs, hr, hf, hg, fun _ _ => rfl, F.slot_int_lt, PySem.HXC.nc_lt⟩
theorem cmpO_le {K : PySem.W.Frag} {C f g : Addr} (sub : PySem.W.subIn K (.ref C) (.type "int") = some false) (hs : PySem.W.findIn K (.ref C) "__le__" = some (some (.ref f))) (hr : PySem.W.findIn K (.ref C) "__ge__" = some (some (.ref g))) (hf : PySem.W.isFn K (.ref f) = true) (hg : PySem.W.isFn K (.ref g) = true) : CmpO K C .LtE f g "int.__le__" := ⟨sub, hs, hr, hf, hg, fun _ _ => rfl, F.slot_int_le, PySem.HXC.nc_le⟩
theorem cmpO_gt {K : PySem.W.Frag} {C f g : Addr} (sub : PySem.W.subIn K (.ref C) (.type "int") = some false) (hs : PySem.W.findIn K (.ref C) "__gt__" = some (some (.ref f))) (hr : PySem.W.findIn K (.ref C) "__lt__" = some (some (.ref g))) (hf : PySem.W.isFn K (.ref f) = true) (hg : PySem.W.isFn K (.ref g) = true) : CmpO K C .Gt f g "int.__gt__" := ⟨sub, hs, hr, hf, hg, fun _ _ => rfl, F.slot_int_gt, PySem.HXC.nc_gt⟩
theorem cmpO_ge {K : PySem.W.Frag} {C f g : Addr} (sub : PySem.W.subIn K (.ref C) (.type "int") = some false) (hs : PySem.W.findIn K (.ref C) "__ge__" = some (some (.ref f))) (hr : PySem.W.findIn K (.ref C) "__le__" = some (some (.ref g))) (hf : PySem.W.isFn K (.ref f) = true) (hg : PySem.W.isFn K (.ref g) = true) : CmpO K C .GtE f g "int.__ge__" := ⟨sub, hs, hr, hf, hg, fun _ _ => rfl, F.slot_int_ge, PySem.HXC.nc_ge⟩
theorem cmpO_eq {K : PySem.W.Frag} {C f : Addr} (sub : PySem.W.subIn K (.ref C) (.type "int") = some false) (hs : PySem.W.findIn K (.ref C) "__eq__" = some (some (.ref f))) (hf : PySem.W.isFn K (.ref f) = true) : CmpO K C .Eq f f "int.__eq__" := ⟨sub, hs, hs, hf, hf, fun _ _ => rfl, F.slot_int_eq, PySem.HXC.nc_eq⟩
end HX

set_option Elab.async false
set_option linter.all false
set_option maxRecDepth 100000
set_option maxHeartbeats 2000000
namespace HX
open PySem PySem.Spec PyProof.Rows L2 NumText

/-! ### figures -/
def ofL (l : List Nat) : Str := ⟨l.toArray⟩
theorem ofL_cps (l : List Nat) : (ofL l).cps.toList = l := by simp [ofL]
theorem ofL_of (x : Str) : ofL x.cps.toList = x := by cases x; simp [ofL]
theorem ofL_inj {l k : List Nat} (h : ofL l = ofL k) : l = k := by
  have := congrArg (fun x => x.cps.toList) h
  simpa [ofL] using this
theorem ofL_len (l : List Nat) : (ofL l).length = l.length := by simp [ofL, Str.length]
theorem ofL_app (l k : List Nat) : ofL l ++ ofL k = ofL (l ++ k) := by
  show Str.mk (l.toArray ++ k.toArray) = _
  simp [ofL]
/-- the figures of a number -/
def dg (n : Nat) : List Nat := (Nat.toDigits 10 n).map Char.toNat
theorem dg_ne (n : Nat) : dg n ≠ [] := by
  unfold dg
  intro h
  exact Nat.toDigits_ne_nil (List.map_eq_nil_iff.mp h)
theorem dg_all (n : Nat) : AllDigits (dg n) := by
  intro c hc
  obtain ⟨d, hd, rfl⟩ := List.mem_map.mp hc
  have h := Nat.isDigit_of_mem_toDigits (b := 10) (by decide) (by decide) hd
  unfold Char.isDigit at h
  simp only [Bool.and_eq_true, decide_eq_true_eq, ge_iff_le] at h
  exact ⟨by have := h.1; exact this, by have := h.2; exact this⟩
theorem val_map (l : List Char) (hl : ∀ c ∈ l, 48 ≤ c.toNat) : ∀ a : Nat, (l.map Char.toNat).foldl (fun acc c => acc * 10 + (c - 48)) a = Nat.ofDigitChars 10 l a := by
  induction l with
  | nil => intro a; rfl
  | cons c l ih =>
    intro a
    rw [List.map_cons, List.foldl_cons, Nat.ofDigitChars_cons, ih (fun d hd => hl d (List.mem_cons_of_mem _ hd))]
    congr 1
    show a * 10 + (c.toNat - 48) = 10 * a + (c.toNat - '0'.toNat)
    rw [Nat.mul_comm]
    rfl
theorem dg_val (n : Nat) : digitsVal (dg n) = n := by
  unfold digitsVal dg
  rw [val_map _ (fun c hc => by
    have h := Nat.isDigit_of_mem_toDigits (b := 10) (by decide) (by decide) hc
    unfold Char.isDigit at h
    simp only [Bool.and_eq_true, decide_eq_true_eq, ge_iff_le] at h
    exact h.1)]
  exact Nat.ofDigitChars_ten_toDigits
theorem dg_len {n k : Nat} (h : 0 < k) : (dg n).length ≤ k ↔ n < 10 ^ k := by
  unfold dg
  rw [List.length_map]
  exact Nat.length_toDigits_le_iff (by decide) h
theorem dg_inj {m n : Nat} (h : dg m = dg n) : m = n := by
  have := congrArg digitsVal h
  rwa [dg_val, dg_val] at this
/-- the signs of an int's text -/
def it (i : Int) : List Nat := if i < 0 then 45 :: dg i.natAbs else dg i.natAbs
theorem it_text (i : Int) : Str.ofString (toString i) = ofL (it i) := by
  rw [Str.ofString_eq_toList]
  show Str.mk _ = Str.mk _
  congr 2
  unfold it
  match i with
  | .ofNat n =>
    rw [if_neg (show ¬ Int.ofNat n < 0 from Int.not_lt.mpr (Int.natCast_nonneg n))]
    show (Nat.repr n).toList.map Char.toNat = dg n
    rw [Nat.toList_repr]
    rfl
  | .negSucc n =>
    rw [if_pos (Int.negSucc_lt_zero n)]
    show (("-" ++ Nat.repr (n + 1)) : String).toList.map Char.toNat = 45 :: dg (n + 1)
    rw [String.toList_append, Nat.toList_repr]
    rfl
theorem it_len {i : Int} {k : Nat} (h : 0 < k) (hi : i.natAbs < 10 ^ k) : (it i).length ≤ k + 1 := by
  have := (dg_len (n := i.natAbs) h).mpr hi
  unfold it
  split
  · rw [List.length_cons]; omega
  · omega
theorem it_47 (i : Int) : 47 ∉ it i := by
  unfold it
  have h := dg_all i.natAbs
  split
  · intro m
    rcases List.mem_cons.mp m with z | z
    · cases z
    · have := h _ z; omega
  · intro m
    have := h _ m
    omega
theorem it_inj {i j : Int} (h : it i = it j) : i = j := by
  have hd : ∀ n m : Nat, ¬ (45 :: dg n = dg m) := fun n m e => by
    have := dg_all m 45 (by rw [← e]; exact List.mem_cons_self ..)
    omega
  unfold it at h
  split at h
  · rename_i a
    split at h
    · rename_i b
      have := dg_inj (List.cons_inj_right 45 |>.mp h)
      omega
    · exact absurd h (hd _ _)
  · rename_i a
    split at h
    · exact absurd h.symm (hd _ _)
    · have := dg_inj h
      omega
theorem it_read {i : Int} {k : Nat} (h0 : 0 < k) (h4 : k ≤ 600) (hi : i.natAbs < 10 ^ k) : PySem.intText? (ofL (it i)) = some i := by
  have hl := it_len h0 hi
  by_cases h : i < 0
  · have e : it i = 45 :: dg i.natAbs := if_pos h
    rw [intText_neg (x := ofL (it i)) (cs := dg i.natAbs) (by rw [ofL_cps, e]) (dg_all _) (dg_ne _) (by rw [ofL_len]; omega), dg_val]
    congr 1
    omega
  · have e : it i = dg i.natAbs := if_neg h
    rw [intText_digits (x := ofL (it i)) (by rw [ofL_cps, e]; exact dg_all _) (by rw [ofL_cps, e]; exact dg_ne _) (by rw [ofL_len]; omega), ofL_cps, e, dg_val]
    congr 1
    omega

/-! ### parted at the first stroke -/
theorem at_slash (l : List Nat) (i : Nat) : StrLaws.At (ofL l) "/" (ofL l).length i ↔ l[i]? = some 47 := by
  have e : ("/" : Str) = ⟨#[47]⟩ := by decide +kernel
  unfold StrLaws.At
  rw [e, ofL_len]
  constructor
  · rintro ⟨h1, h2⟩
    have h1 : i + 1 ≤ l.length := h1
    unfold Builtin.Str.subAt at h2
    have h3 := congrArg Array.toList (eq_of_beq h2)
    have h4 : (l.drop i).take 1 = [47] := by
      have : ((ofL l).cps.extract i (i + 1)).toList = [47] := h3
      simpa [ofL, List.take_drop] using this
    have h5 : ((l.drop i).take 1)[0]? = some 47 := by rw [h4]; rfl
    simpa using h5
  · intro h
    have hi : i < l.length := by
      rcases Nat.lt_or_ge i l.length with z | z
      · exact z
      · rw [List.getElem?_eq_none z] at h
        cases h
    refine ⟨hi, ?_⟩
    unfold Builtin.Str.subAt
    refine beq_iff_eq.mpr ?_
    show (ofL l).cps.extract i (i + 1) = #[47]
    apply Array.toList_inj.mp
    have h6 : (l.drop i).take 1 = [47] := by
      rw [List.getElem?_eq_getElem hi] at h
      have h7 : l.drop i = l[i] :: l.drop (i + 1) := List.drop_eq_getElem_cons hi
      rw [h7, Option.some.inj h]
      rfl
    simpa [ofL, List.take_drop] using h6
theorem part_no {l : List Nat} (h : 47 ∉ l) : Txt.partition (ofL l) "/" = (ofL l, Str.empty, Str.empty) := by
  unfold Txt.partition
  rcases StrLaws.occ_head (ofL l) "/" 1 (Nat.le_refl 1) with ⟨h0, hn⟩ | ⟨i, r, h0, hi, hn⟩
  · rw [h0]
  · exact absurd (List.mem_of_getElem? ((at_slash l i).mp hi)) h
theorem part_at {pre post : List Nat} (h : 47 ∉ pre) : Txt.partition (ofL (pre ++ 47 :: post)) "/" = (ofL pre, ("/" : Str), ofL post) := by
  have e : ("/" : Str) = ⟨#[47]⟩ := by decide +kernel
  have at0 : (pre ++ 47 :: post)[pre.length]? = some 47 := by simp
  unfold Txt.partition
  rcases StrLaws.occ_head (ofL (pre ++ 47 :: post)) "/" 1 (Nat.le_refl 1) with ⟨h0, hn⟩ | ⟨i, r, h0, hi, hn⟩
  · exact absurd ((at_slash _ _).mpr at0) (hn _)
  · have hi' := (at_slash _ _).mp hi
    have ei : i = pre.length := by
      rcases Nat.lt_trichotomy i pre.length with z | z | z
      · rw [List.getElem?_append_left z] at hi'
        exact absurd (List.mem_of_getElem? hi') h
      · exact z
      · exact absurd ((at_slash _ _).mpr at0) (hn _ z)
    subst ei
    rw [h0]
    have l1 : (("/" : Str)).length = 1 := by rw [e]; rfl
    show (Builtin.Str.strSub (ofL (pre ++ 47 :: post)) 0 pre.length, ("/" : Str), Builtin.Str.strSub (ofL (pre ++ 47 :: post)) (pre.length + ("/" : Str).length) (ofL (pre ++ 47 :: post)).length) = _
    have a1 : Builtin.Str.strSub (ofL (pre ++ 47 :: post)) 0 pre.length = ofL pre := by
      refine StrLaws.mk_of_toList ?_
      rw [StrLaws.strSub_toList, ofL_cps]
      simp
    have a2 : Builtin.Str.strSub (ofL (pre ++ 47 :: post)) (pre.length + ("/" : Str).length) (ofL (pre ++ 47 :: post)).length = ofL post := by
      refine StrLaws.mk_of_toList ?_
      rw [StrLaws.strSub_toList, ofL_cps, l1, ofL_len]
      have e2 : (pre ++ 47 :: post).drop (pre.length + 1) = post := by simp
      rw [e2]
      exact List.take_of_length_le (by rw [List.length_append, List.length_cons]; omega)
    rw [a1, a2]
theorem prefix_minus (l : List Nat) : Txt.removeprefix (ofL l) "-" = match l with
    | 45 :: r => ofL r
    | _ => ofL l := by
  have e : ("-" : Str) = ⟨#[45]⟩ := by decide +kernel
  have l1 : (("-" : Str)).length = 1 := by rw [e]; rfl
  rw [StrLaws.removeprefix_eq, l1, ofL_len, ofL_cps]
  have sub : Builtin.Str.subAt (ofL l) "-" 0 = decide (l.take 1 = [45]) := by
    unfold Builtin.Str.subAt
    rw [e]
    show ((ofL l).cps.extract 0 (0 + 1) == #[45]) = _
    rw [Bool.eq_iff_iff, beq_iff_eq, decide_eq_true_eq, ← Array.toList_inj]
    simp [ofL]
  rw [sub]
  match l with
  | [] => rfl
  | c :: r =>
    by_cases hc : c = 45
    · subst hc
      simp [ofL]
    · have h1 : decide ((c :: r).take 1 = [45]) = false := decide_eq_false (by simp [hc])
      rw [h1, Bool.and_false, if_neg (by decide)]
      split
      · rename_i q z
        cases z
        exact absurd rfl hc
      · rfl
/-- the figures of a text, as the program asks -/
theorem figs_of {l : List Nat} : (Txt.isascii (ofL l) && Txt.isdigit (ofL l)) = true ↔ AllDigits l ∧ l ≠ [] := by
  unfold Txt.isascii Txt.isdigit
  rw [Bool.and_eq_true, Bool.and_eq_true, ← Array.all_toList, ← Array.all_toList, List.all_eq_true, List.all_eq_true, ofL_cps, ofL_len]
  have cls : ∀ c, c < 128 → (Unicode.isDigit c = true ↔ 48 ≤ c ∧ c ≤ 57) := by
    have h : ∀ c, c < 128 → Unicode.isDigit c = decide (48 ≤ c ∧ c ≤ 57) := by decide +kernel
    intro c hc
    rw [h c hc, decide_eq_true_eq]
  constructor
  · rintro ⟨h1, h2, h3⟩
    refine ⟨fun c hc => (cls c (of_decide_eq_true (h1 c hc))).mp (h3 c hc), fun z => ?_⟩
    rw [z] at h2
    exact absurd h2 (by decide)
  · rintro ⟨h1, h2⟩
    refine ⟨fun c hc => decide_eq_true (by have := h1 c hc; omega), decide_eq_true (List.length_pos_iff.mpr h2), fun c hc => (cls c (by have := h1 c hc; omega)).mpr (h1 c hc)⟩
end HX

set_option Elab.async false
set_option linter.all false
set_option maxRecDepth 100000
set_option maxHeartbeats 2000000
/-! ### != of own instances without a method of their own for it, their text, their truth -/
namespace PySem
namespace HXN
open W Builtin PyProof.Rows
section
variable {prog : Program} {w : World} {A : Around} {E : Value → Shared → Prop} {s : Shared} {K : Frag} {x C f : Addr} {ox : Obj} {od : Option Obj}
theorem bound_ne {M : Model} {args : List Value} {Q : Option Value → Shared → Prop} (X : K.In s.heap) (I : InstAt s.heap x ox C od) (hn : findIn K (.ref C) "__ne__" = some (some (.builtin "object.__ne__")))
    (z : wpAny M A (call (.builtin "object.__ne__") (.ref x :: args)) (fun v => Q (some v)) E s) : wpAny M A (callSpecialIfBound? (.ref x) "__ne__" args) Q E s := by
  simp only [callSpecialIfBound?, bindSpecialIfBound?]
  refine wpAny_holding (wpAny_bind (wpAny_bind (wpAny_bind (I.type.here ((looks_findIn X hn).here ?_)))))
  refine wpAny_bind (wpAny_askSetting (wpAny_ite ?_))
  have after : wpAny M A (call (.builtin "object.__ne__") ([.ref x] ++ args) >>= fun v => pure (some v)) Q E s := wpAny_bind (wpAny_mono z (fun v s1 q => wpAny_pure q) fun _ _ q => q)
  split
  · exact wpAny_bind (wpAny_of_eq (PySem.F.cmp_object.ne.bind _) (wpAny_pure (by exact after)))
  · exact wpAny_tryCatch (wpAny_bind (wpAny_of_eq (PySem.F.cmp_object.ne.bind _) (wpAny_pure (by exact after))))
theorem ne_does {b : Value} {Q : Fin → Shared → Prop} (hu : A.units < cLine) (X : K.In s.heap) (I : InstAt s.heap x ox C od) (hs : findIn K (.ref C) "__eq__" = some (some (.ref f))) (hf : isFn K (.ref f) = true)
    (z : wpAny (model prog w) A (call (.ref f) [.ref x, b]) (fun v s1 => ∃ c, v = .bool c ∧ Q (.done (.ret (.bool (!c)))) s1) E s) : wpAny (model prog w) A (Builtin.«object.__ne__» ⟨[.ref x, b], []⟩) Q E s := by
  unfold Builtin.«object.__ne__»
  repeat (first
    | with_reducible refine wpAny_cRoomFor hu ?_
    | (refine wpAny_bind (m := callSpecialIfBound? (.ref x) (Str.ofString "__eq__") [b]) (ifBound_K X I hs hf (wpAny_mono z (fun r s1 q => by
          obtain ⟨c, rfl, q⟩ := q
          repeat (first | exact q | exact wpAny_pure q | exact wpAny_truthy_bool q | (refine wpAny_bind (m := truthy (.bool _)) (wpAny_truthy_bool ?_)) | wp_step)) fun _ _ q => q)))
    | wp_step)
theorem try_ne {b : Value} {Q : Value → Shared → Prop} (hu : A.in1.units < cLine) (X : K.In s.heap) (I : InstAt s.heap x ox C od) (hm : mroIn K C (.type "object") = some true) (hn : findIn K (.ref C) "__ne__" = some (some (.builtin "object.__ne__")))
    (hs : findIn K (.ref C) "__eq__" = some (some (.ref f))) (hf : isFn K (.ref f) = true)
    (z : wpAny (model prog w) A.in1 (call (.ref f) [.ref x, b]) (fun v s1 => ∃ c, v = .bool c ∧ Q (.bool (!c)) s1) E s) : wpAny (model prog w) A (tryCompare (.ref x) "__ne__" b) (fun r s1 => ∃ v, r = some v ∧ Q v s1) E s := by
  unfold tryCompare
  refine wpAny_bind (bound_ne X I hn (wpAny_call (codeAny_call_builtin PySem.F.cmp_object.ne.plain PySem.F.cmpEntry_ne (check_slot PySem.F.cmpKind_ne PySem.F.cmpSplit_ne (I.type.andThen (looks_mroIn X hm)) (PySem.F.cmpArgs_ne _ _)
    (ne_does (A := A.in1) hu X I hs hf (wpAny_mono z (fun v s1 q => ?_) fun _ _ q => q))))))
  obtain ⟨c, rfl, q⟩ := q
  exact ⟨c, rfl, wpAny_pure ⟨_, rfl, q⟩⟩
/-- x o b, by what the first method says -/
theorem oL {op : CmpOp} {b : Value} {T : String} {Q : Value → Shared → Prop} (hu : A.units < cLine) (I : InstAt s.heap x ox C od) (hb : s.TypeIs b T) (hsub : isSubtype (.type T) (.ref C) = pure false)
    (one : wpAny (model prog w) A (tryCompare (.ref x) (cmpInfo op).2.1 b) (fun r s2 => ∃ v, r = some v ∧ Q v s2) E s) : wpAny (model prog w) A (richCompare op (.ref x) b) Q E s := by
  unfold richCompare
  simp only [oneThing_ref]
  refine wpAny_holding (wpAny_bind (wpAny_cRoomFor hu ?_))
  refine wpAny_bind (I.type.here (wpAny_bind (wpAny_typeOf hb ?_)))
  have ne : (Value.ref C != Value.type T) = true := by simp
  rw [if_pos ne]
  refine wpAny_bind (wpAny_of_eq hsub ?_)
  simp only [Bool.false_eq_true, if_false]
  refine wpAny_bind (wpAny_mono one (fun r s2 z => ?_) fun _ _ z => z)
  obtain ⟨v, rfl, hq⟩ := z
  exact (wpAny_pure hq)
theorem oE {op : CmpOp} {y : Addr} {oy : Obj} {oe : Option Obj} {Q : Value → Shared → Prop} (hu : A.units < cLine) (I : InstAt s.heap x ox C od) (J : InstAt s.heap y oy C oe)
    (one : wpAny (model prog w) A (tryCompare (.ref x) (cmpInfo op).2.1 (.ref y)) (fun r s2 => ∃ v, r = some v ∧ Q v s2) E s) : wpAny (model prog w) A (richCompare op (.ref x) (.ref y)) Q E s := by
  unfold richCompare
  simp only [oneThing_ref]
  refine wpAny_holding (wpAny_bind (wpAny_cRoomFor hu ?_))
  refine wpAny_bind (I.type.here (wpAny_bind (J.type.here ?_)))
  have ne : (Value.ref C != Value.ref C) = false := by simp
  rw [if_neg (by rw [ne]; decide)]
  refine wpAny_bind (wpAny_pure ?_)
  simp only [Bool.false_eq_true, if_false]
  refine wpAny_bind (wpAny_mono one (fun r s2 z => ?_) fun _ _ z => z)
  obtain ⟨v, rfl, hq⟩ := z
  exact (wpAny_pure hq)
theorem oR {op : CmpOp} {i : Int} {t : Tok} {idl : String} {Q : Value → Shared → Prop} (hu : A.units < cLine) (X : K.In s.heap) (I : InstAt s.heap x ox C od) (hsub : subIn K (.ref C) (.type "int") = some false) (sl : Slot "int" (cmpInfo op).2.1 idl)
    (hN : ∀ Q : Value → Shared → Prop, Q .notImplemented s → wpAny (model prog w) A (call (.builtin idl) [.int i t, .ref x]) Q E s)
    (one : wpAny (model prog w) A (tryCompare (.ref x) (cmpInfo op).2.2 (.int i t)) (fun r s2 => ∃ v, r = some v ∧ Q v s2) E s) : wpAny (model prog w) A (richCompare op (.int i t) (.ref x)) Q E s := by
  have hO : oneThing? op (.int i t) (.ref x) = none := by rfl
  unfold richCompare
  simp only [hO]
  refine wpAny_holding (wpAny_bind (wpAny_cRoomFor hu ?_))
  refine wpAny_bind (wpAny_of_eq (show typeOf (.int i t) = pure (.type "int") from rfl) (wpAny_bind (I.type.here ?_)))
  have ne : (Value.type "int" != Value.ref C) = true := by simp
  rw [if_pos ne]
  refine wpAny_bind ((looks_subIn X hsub).here ?_)
  simp only [Bool.false_eq_true, if_false, Bool.not_false, if_true]
  refine wpAny_bind (m := tryCompare (.int i t) _ (.ref x)) ?_
  unfold tryCompare
  refine wpAny_bind (wpAny_callSpecialIfBound?_slot (typeIs_int s i t) sl (hN _ ?_))
  refine (wpAny_pure ?_)
  refine wpAny_bind (wpAny_mono one (fun r s2 z => ?_) fun _ _ z => z)
  obtain ⟨v, rfl, hq⟩ := z
  exact (wpAny_pure hq)
theorem nc_ne {i : Int} {t : Tok} {dx : Addr} {Q : Value → Shared → Prop} (hx : s.heap.get? x = some (instObj C dx)) (h : Q .notImplemented s) : wpAny (model prog w) A (call (.builtin "int.__ne__") [.int i t, .ref x]) Q E s := by
  refine wpAny_call (codeAny_call_builtin F.slot_int_ne.plain F.entry_int_ne (F.slot_int_ne.check _ _ _ _ _ _ _ _ (typeIs_int s i t) (F.args_int_ne_2 _ _) ?_))
  unfold Builtin.«int.__ne__»
  refine (by (repeat (first | with_reducible refine wpAny_loadPart_at hx ?_ | with_reducible refine wpAny_load hx ?_ | wp_step)); exact h)
/-- bool(x) -/
theorem truth_own {M : Model} {Q : Bool → Shared → Prop} (X : K.In s.heap) (I : InstAt s.heap x ox C od) (hs : findIn K (.ref C) "__bool__" = some (some (.ref f))) (hf : isFn K (.ref f) = true)
    (z : wpAny M A (call (.ref f) [.ref x]) (W.BoolBack Q) E s) : wpAny M A (truthy (.ref x)) Q E s := by
  unfold truthy
  refine wpAny_bind (m := callSpecial? (.ref x) (Str.ofString "__bool__")) (special_fn X I hs (beq_iff_eq.mp hf) (wpAny_mono z (fun r s1 q => ?_) fun _ _ q => q))
  cases r <;> first | exact q.elim | skip
  exact wpAny_pure q
theorem bool_own {Q : Value → Shared → Prop} (X : K.In s.heap) (I : InstAt s.heap x ox C od) (hs : findIn K (.ref C) "__bool__" = some (some (.ref f))) (hf : isFn K (.ref f) = true)
    (z : wpAny (model prog w) A.in1.in1 (call (.ref f) [.ref x]) (W.BoolBack fun c s1 => Q (.bool c) s1) E s) : wpAny (model prog w) A (call (.type "bool") [.ref x]) Q E s := by
  refine callType_codes (T := "bool") (Bi := Builtin.«object.__init__») (Q₁ := fun r s₁ => ∃ c, r = .bool c ∧ Q r s₁) PySem.F.called_bool (PySem.F.typeCall_bool_1 _) PySem.F.entry_object_init ?_ ?_
  · refine codeAny_of_tree ?_
    show wpAny _ A.in1.in1 (do checkBuiltinCall "bool.__new__" ⟨[.type "bool", .ref x], []⟩; again (.builtin "bool.__new__" ⟨[.type "bool", .ref x], []⟩)) _ _ s
    refine wpAny_bind (wpAny_of_eq (PySem.F.newCall_bool_1 _) (wpAny_pure ⟨plainId_quiet (by decide +kernel) _, codeAny_builtin PySem.F.entry_bool_new ?_⟩))
    rw [Around.under_plainId (by decide +kernel) _]
    have f1 := PySem.F.conv_sub_bool
    have z2 := truth_own (Q := fun c s1 => Q (.bool c) s1) X I hs hf z
    repeat (any_goals (first | assumption | (refine wpAny_bind (m := truthy (.ref x)) (wpAny_mono z2 (fun c s1 q => ?_) fun _ _ q => q)) | wp_step))
    all_goals first | exact ⟨_, rfl, q⟩ | exact ⟨_, rfl, ‹_›⟩ | skip
  · rintro obj s₁ ⟨c, rfl, hq⟩
    exact ⟨rfl, PySem.F.args_object_init_2 _ _, object_init_meets PySem.F.called_bool.init.lookup PySem.F.called_bool.made (by decide) prog w A.in1 _ s₁ ⟨rfl, rfl, hq⟩⟩
end
end HXN
end PySem
namespace HX
open PySem PySem.Spec PyProof.Rows L2
section
variable {X : Cx} {C f : Addr} {fd : FuncData} {ps : List Str} {sp : Sp} {CY : CXT} {k : Nat} {E : XK}
/-- a def called from within a built-in of the model -/
theorem run_at {A' : Around} {pins : List (Addr × Obj)} {σ : L2.St} {H : Hp} {s : Shared} {Q : VK} {us : List Value} {vs : List V} (Fi : FnOk X.prog X.w X.K X.mg X.base CY k f fd ps sp) (b : Binds X.K fd ps []) (hr : Room k A') (e0 : Env0 X.prog X.w X.K X.mg X.base A' X.stack s H)
    (hx : Passes CY X E) (I : Inv X pins σ H s) (r : Vals vs us) (h : sp vs H Q E) : wpAny (model X.prog X.w) A' (call (.ref f) us) (EP X pins σ Q) X.xe s := by
  have hl : (us ++ []).length = ps.length := by
    rw [List.append_nil, ← r.length]
    exact Fi.len _ _ _ _ h
  have bd := b s us I.kIn hl
  rw [List.append_nil] at bd
  refine wpAny_call (codeAny_mono (Fi.run A' X.stack s H ⟨us, []⟩ us vs Q E hr e0 bd r h) fun z s' hq => ?_)
  match z, hq with
  | .error e, hq => exact hx pins σ H s e s' I hq
  | .ok (.ret u), hq => exact I.after hq
  | .ok .next, hq => exact False.elim hq
  | .ok .brk, hq => exact False.elim hq
  | .ok .cont, hq => exact False.elim hq
/-- x != y of own instances and ints, by == -/
structure RNw (C : Addr) (r0 : L2.R2) (sp : Sp) (E : XK) (x y : V) (H : Hp) (Q : VK) : Prop where
  go : rOw C (fun x y H _ => r0 x y H Q) sp sp E x y H fun v G => ∃ c, v = .bl c ∧ Q (.bl (!c)) G
def rNw (C : Addr) (r0 : L2.R2) (sp : Sp) (E : XK) : L2.R2 := fun x y H Q => RNw C r0 sp E x y H Q
theorem ep_not {pins : List (Addr × Obj)} {σ : L2.St} {Q : VK} {u : Value} {s' : Shared} (h : EP X pins σ (fun v G => ∃ c, v = .bl c ∧ Q (.bl (!c)) G) u s') : ∃ c, u = .bool c ∧ EP X pins σ Q (.bool (!c)) s' := by
  obtain ⟨v, G, J, r, c, rfl, q⟩ := h
  exact ⟨c, r, .bl (!c), G, J, rfl, q⟩
theorem op_new {r0 : L2.R2} (h0 : OpR X (compareOp .NotEq) r0) (hsub : PySem.W.subIn X.K (.ref C) (.type "int") = some false) (hm : PySem.W.mroIn X.K C (.type "object") = some true) (hn : PySem.W.findIn X.K (.ref C) "__ne__" = some (some (.builtin "object.__ne__")))
    (hs : PySem.W.findIn X.K (.ref C) "__eq__" = some (some (.ref f))) (hf : PySem.W.isFn X.K (.ref f) = true) (Fi : FnOk X.prog X.w X.K X.mg X.base CY k f fd ps sp) (b : Binds X.K fd ps []) (hr : Room (k + 1) X.A) (hx : Passes CY X E) : OpR X (compareOp .NotEq) (rNw C r0 sp E) := by
  intro pins s σ H x y v u Q I rx ry q
  have hu := hr.units0
  have hu1 := (hr.in1).units0
  have rich : ∀ a b, compareOp .NotEq a b = richCompare .NotEq a b := fun _ _ => rfl
  replace q := q.go
  unfold rOw at q
  split at q
  · obtain ⟨i1, i2, q⟩ := q
    cases rx
    cases ry
    obtain ⟨dx, od, J, ho⟩ := inst_at I i1
    obtain ⟨dy, od2, J2, ho2⟩ := inst_at I i2
    rename_i a b'
    have rv : Vals [V.ref a, V.ref b'] [Value.ref a, Value.ref b'] := .cons rfl (.cons rfl .nil)
    rw [rich]
    exact PySem.HXN.oE hu J J2 (PySem.HXN.try_ne hu1 I.kIn J hm hn hs hf (wpAny_mono (run_at Fi b hr.in1 I.env0.in1 hx I rv q) (fun u s2 h => ep_not h) fun _ _ z => z))
  · obtain ⟨i1, q⟩ := q
    cases rx
    obtain ⟨t, rfl⟩ := (show ∃ t, u = Value.int _ t from ry)
    obtain ⟨dx, od, J, ho⟩ := inst_at I i1
    rename_i a j
    have rv : Vals [V.ref a, V.int j] [Value.ref a, Value.int j t] := .cons rfl (.cons ⟨t, rfl⟩ .nil)
    rw [rich]
    exact PySem.HXN.oL hu J (typeIs_int s _ t) (PySem.HXO.int_not C) (PySem.HXN.try_ne hu1 I.kIn J hm hn hs hf (wpAny_mono (run_at Fi b hr.in1 I.env0.in1 hx I rv q) (fun u s2 h => ep_not h) fun _ _ z => z))
  · obtain ⟨i1, q⟩ := q
    cases ry
    obtain ⟨t, rfl⟩ := (show ∃ t, v = Value.int _ t from rx)
    obtain ⟨dx, od, J, ho⟩ := inst_at I i1
    rename_i j a
    have rv : Vals [V.ref a, V.int j] [Value.ref a, Value.int j t] := .cons rfl (.cons ⟨t, rfl⟩ .nil)
    rw [rich]
    exact PySem.HXN.oR hu I.kIn J hsub PySem.F.slot_int_ne (fun Q z => PySem.HXN.nc_ne ho z) (PySem.HXN.try_ne hu1 I.kIn J hm hn hs hf (wpAny_mono (run_at Fi b hr.in1 I.env0.in1 hx I rv q) (fun u s2 h => ep_not h) fun _ _ z => z))
  · exact h0 pins s σ H _ _ v u Q I rx ry q
  · exact q.elim
/-- the type of a plain value in the model's words -/
theorem typeIs_of {K : PySem.W.Frag} {pins : List (Addr × Obj)} {σ : L2.St} {H : Hp} {s : Shared} {y : V} {v : Value} {T : String} (I : Inv X pins σ H s) (r : RelV y v) (ty : TyOf K H y (.type T)) : s.TypeIs v T := by
  cases ty with
  | non => cases (show v = Value.none from r); exact rfl
  | bl b => cases (show v = Value.bool b from r); exact rfl
  | int i => obtain ⟨t, rfl⟩ := (show ∃ t, v = Value.int i t from r); exact typeIs_int s i t
  | str z => obtain ⟨t, rfl⟩ := (show ∃ t, v = Value.str z t from r); exact typeIs_str s z t
  | flt z => obtain ⟨t, rfl⟩ := (show ∃ t, v = Value.float z t from r); exact rfl
  | @lst a xs e =>
    cases (show v = Value.ref a from r)
    obtain ⟨_, _, n, _, h1⟩ := (show ObjOk X.prog X.w H s.heap a (.lst xs) from I.hok a _ e)
    exact ⟨_, h1, rfl⟩
  | @frz a ob xs e =>
    cases (show v = Value.ref a from r)
    obtain ⟨_, _, _, n, _, h1⟩ := (show ObjOk X.prog X.w H s.heap a (.frz ob (.lst xs)) from I.hok a _ e)
    exact ⟨_, h1, rfl⟩
  | @tup a xs e =>
    cases (show v = Value.ref a from r)
    obtain ⟨_, _, _, p⟩ := (show ObjOk X.prog X.w H s.heap a (.tup xs) from I.hok a _ e)
    obtain ⟨o, h1, h2, _⟩ := p
    exact ⟨o, h1, h2⟩
  | @dK a kvs e =>
    cases (show v = Value.ref a from r)
    obtain ⟨_, _, vs, _, p⟩ := (show ObjOk X.prog X.w H s.heap a (.dK kvs) from I.hok a _ e)
    obtain ⟨o, es, ep, h1, h2, _⟩ := p
    exact ⟨o, h1, h2.1⟩
  | @dT a kvs e =>
    cases (show v = Value.ref a from r)
    obtain ⟨_, _, xs, _, o, es, ep, h1, h2, _⟩ := (show ObjOk X.prog X.w H s.heap a (.dT kvs) from I.hok a _ e)
    exact ⟨o, h1, h2.1⟩
/-- x == y, y a plain value -/
def rEqO (K : PySem.W.Frag) (C : Addr) (sp : Sp) (E : XK) : L2.R2 := fun x y H Q => ∃ (a : Addr) (T : String), x = .ref a ∧ IsI C H a ∧ TyOf K H y (.type T) ∧ isSubtype (.type T) (.ref C) = pure false ∧ sp [.ref a, y] H Q E
theorem op_eqO (hs : PySem.W.findIn X.K (.ref C) "__eq__" = some (some (.ref f))) (hf : PySem.W.isFn X.K (.ref f) = true) (Fi : FnOk X.prog X.w X.K X.mg X.base CY k f fd ps sp) (b : Binds X.K fd ps []) (hr : Room k X.A) (hx : Passes CY X E) :
    OpR X (compareOp .Eq) (rEqO X.K C sp E) := by
  intro pins s σ H x y v u Q I rx ry q
  obtain ⟨a, T, rfl, i1, ty, hT, q⟩ := q
  cases rx
  obtain ⟨dx, od, J, ho⟩ := inst_at I i1
  rw [show compareOp .Eq (Value.ref a) u = richCompare .Eq (Value.ref a) u from rfl]
  exact PySem.HXC.cmL hr.units0 I.kIn J (typeIs_of I ry ty) hT hs hf (wpAny_mono (run_fn Fi hr b .nil hx I (show Vals [V.ref a, y] [Value.ref a, u] from .cons rfl (.cons ry .nil)) (by rw [List.append_nil]; exact q)) (fun u s2 h => ep_own h) fun _ _ z => z)
/-- str(x) of an own instance, an int -/
def rStrO (C : Addr) (sp : Sp) (E : XK) : List V → Hp → VK → Prop := fun xs H Q => match xs with
  | [.ref a] => IsI C H a ∧ sp [.ref a] H (fun v G => ∃ z, v = .str z ∧ Q v G) E
  | [.int i] => i.natAbs.log2 < 1920 ∧ Q (.str (toString i)) H
  | _ => False
theorem call_strO (hs : PySem.W.findIn X.K (.ref C) "__str__" = some (some (.ref f))) (hf : PySem.W.isFn X.K (.ref f) = true) (Fi : FnOk X.prog X.w X.K X.mg X.base CY k f fd ps sp) (b : Binds X.K fd ps []) (hr : Room (k + 2) X.A) (hx : Passes CY X E) :
    CallR X (.type "str") (rStrO C sp E) := by
  intro pins s σ H xs us Q I r q
  unfold rStrO at q
  split at q
  · obtain ⟨i1, q⟩ := q
    obtain ⟨u, rfl, ru⟩ := vals1 r
    cases ru
    obtain ⟨dx, od, J, ho⟩ := inst_at I i1
    rename_i a
    refine PySem.W.kso_call hr.in1.in1.units0 I.kIn J hs hf (wpAny_mono (run_at Fi b hr.in1.in1 I.env0.in1.in1 hx I (show Vals [V.ref a] [Value.ref a] from .cons rfl .nil) q) (fun u s2 h => ?_) fun _ _ z => z)
    obtain ⟨v, G, J2, rv, z, rfl, qz⟩ := h
    obtain ⟨t, rfl⟩ := (show ∃ t, u = Value.str z t from rv)
    exact ⟨.str z, G, J2, ⟨t, rfl⟩, qz⟩
  · exact call_str_int pins s σ H _ us Q I r ⟨_, rfl, q.1, q.2⟩
  · exact q.elim
/-- bool(x) of an own instance -/
def rBoolO (C : Addr) (sp : Sp) (E : XK) : List V → Hp → VK → Prop := fun xs H Q => ∃ a, xs = [.ref a] ∧ IsI C H a ∧ sp [.ref a] H (fun v G => ∃ c, v = .bl c ∧ Q v G) E
theorem call_boolO (hs : PySem.W.findIn X.K (.ref C) "__bool__" = some (some (.ref f))) (hf : PySem.W.isFn X.K (.ref f) = true) (Fi : FnOk X.prog X.w X.K X.mg X.base CY k f fd ps sp) (b : Binds X.K fd ps []) (hr : Room (k + 2) X.A) (hx : Passes CY X E) :
    CallR X (.type "bool") (rBoolO C sp E) := by
  intro pins s σ H xs us Q I r q
  obtain ⟨a, rfl, i1, q⟩ := q
  obtain ⟨u, rfl, ru⟩ := vals1 r
  cases ru
  obtain ⟨dx, od, J, ho⟩ := inst_at I i1
  refine PySem.HXN.bool_own I.kIn J hs hf (wpAny_mono (run_at Fi b hr.in1.in1 I.env0.in1.in1 hx I (show Vals [V.ref a] [Value.ref a] from .cons rfl .nil) q) (fun u s2 h => ?_) fun _ _ z => z)
  obtain ⟨v, G, J2, rv, c, rfl, qz⟩ := h
  cases (show u = Value.bool c from rv)
  exact ⟨.bl c, G, J2, rfl, qz⟩
/-- not x of an own instance -/
def rNotO (C : Addr) (sp : Sp) (E : XK) (te : TE) : TE := fun σ H Q => te σ H fun x G => ∃ a, x = .ref a ∧ IsI C G a ∧ sp [.ref a] G (fun v G2 => ∃ c, v = .bl c ∧ Q (.bl (!c)) G2) E
theorem e_notO {e : Expr} {ta : TE} {pos : Pos} (hs : PySem.W.findIn X.K (.ref C) "__bool__" = some (some (.ref f))) (hf : PySem.W.isFn X.K (.ref f) = true) (Fi : FnOk X.prog X.w X.K X.mg X.base CY k f fd ps sp) (b : Binds X.K fd ps []) (hr : Room k X.A) (hx : Passes CY X E) (ha : PE X e ta) :
    PE X (.UnaryOp .Not e pos) (rNotO C sp E ta) := by
  refine ⟨fun pins s σ H Q I h => UnaryOp_ (thn (ha.run pins s σ H _ I h) fun v s1 ⟨x, G, I1, r1, a, ex, i1, z⟩ => ?_)⟩
  subst ex
  cases r1
  obtain ⟨dx, od, J, ho⟩ := inst_at I1 i1
  refine not_of (PySem.HXN.truth_own I1.kIn J hs hf (wpAny_mono (run_fn Fi hr b .nil hx I1 (show Vals [V.ref a] [Value.ref a] from .cons rfl .nil) (by rw [List.append_nil]; exact z)) (fun u s2 h => ?_) fun _ _ z => z))
  obtain ⟨v, G2, J2, rv, c, rfl, qz⟩ := h
  cases (show u = Value.bool c from rv)
  exact ⟨.bl (!c), G2, J2, rfl, qz⟩
end
/-- the built-in types are below no own class -/
theorem sub_non (C : Addr) : isSubtype (.type "NoneType") (.ref C) = pure false := by rfl
theorem sub_bl (C : Addr) : isSubtype (.type "bool") (.ref C) = pure false := by rfl
theorem sub_str (C : Addr) : isSubtype (.type "str") (.ref C) = pure false := by rfl
theorem sub_lst (C : Addr) : isSubtype (.type "list") (.ref C) = pure false := by rfl
theorem sub_tup (C : Addr) : isSubtype (.type "tuple") (.ref C) = pure false := by rfl
theorem sub_dic (C : Addr) : isSubtype (.type "dict") (.ref C) = pure false := by rfl
end HX

set_option Elab.async false
set_option linter.all false
set_option maxRecDepth 100000
set_option maxHeartbeats 2000000
namespace HX
open PySem PySem.Spec PyProof.Rows L2 NumText

/-! ### a class that a local name holds, made -/
def tMakeL (i : Nat) (C : Addr) (sp : Sp) (dvs : List V) (E : XK) (t : TA) : TE := fun σ H Q => σ[i]? = some (some (.ref C)) ∧ tMake C sp dvs E t σ H Q
theorem pe_makeL {X : Cx} {CY : CXT} {C f : Addr} {k i : Nat} {fd : FuncData} {ps : List Str} {sp : Sp} {ds : List Value} {dvs : List V} {E : XK} {t : TA} {x : Str} {p pos : Pos} {e : Expr} {es : List Expr} (M : Mk X.K C f) (F : FnOk X.prog X.w X.K X.mg X.base CY k f fd ps sp) (hr : Room (k + 1) X.A) (hb : Binds X.K fd ps ds) (hd : Vals dvs ds) (hx : Passes CY X E)
    (ha : PA X (e :: es) t) (hN : X.N[i]? = some x := by rfl) (hv : Vis X.env.scope x := by first | exact Or.inl rfl | exact Or.inr (Or.inl rfl) | exact Or.inr (Or.inr rfl)) (hdb : (x == ("__debug__" : Str)) = false := by decide) (hcd : (x == ("__classdict__" : Str)) = false := by decide)
    (he : starEach (e :: es) X.env = (false, eval e X.env) :: starEach es X.env := by rfl) (hpl : (backTo pos (starEach es X.env)).any (·.1) = false := by rfl) :
    PE X (.Call (.Name x p) (e :: es) [] pos) (tMakeL i C sp dvs E t) := by
  refine ⟨fun pins s σ H Q I h => ?_⟩
  refine wpAny_Call_Name_kw (thn ((pe_var hN hv hdb hcd).run pins s σ H (fun v G => v = .ref C ∧ G = H) I ⟨_, h.1, rfl, rfl⟩) fun u s0 ⟨v, G, I0, rv, ev, eG⟩ => ?_)
  subst ev
  subst eG
  obtain rfl : u = Value.ref C := rv
  refine PySem.W.callWith_K (h₀ := X.base) I0.ok.mod.kin M.kp (thn (ha.run pos pins s0 σ G _ I0 h.2) fun us s1 ⟨vs, H1, I1, r, q⟩ => ⟨I1.kIn, ?_⟩) he hpl
  exact run_make M F hr hb hd hx I1 r q

/-! ### the text of a fraction -/
def atx (t b : Int) : List Nat := if b = 1 then it t else it t ++ 47 :: it b
/-- what read takes -/
def RT (l : List Nat) (t b : Int) : Prop := Low t b ∧ t.natAbs < 10 ^ 200 ∧ b.natAbs < 10 ^ 200 ∧ l = atx t b
/-- above, stroke, below -/
def pt3 (l : List Nat) : List Nat × List Nat × List Nat := match l with
  | [] => ([], [], [])
  | c :: r => if c = 47 then ([], [47], r) else (c :: (pt3 r).1, (pt3 r).2.1, (pt3 r).2.2)
theorem pt3_no : ∀ {l : List Nat}, 47 ∉ l → pt3 l = (l, [], [])
  | [], _ => rfl
  | c :: r, h => by
    have h1 : ¬ c = 47 := fun z => h (by rw [z]; exact List.mem_cons_self ..)
    have h2 := pt3_no (l := r) (fun z => h (List.mem_cons_of_mem _ z))
    show (if c = 47 then _ else _) = _
    rw [if_neg h1, h2]
theorem pt3_at : ∀ {pre post : List Nat}, 47 ∉ pre → pt3 (pre ++ 47 :: post) = (pre, [47], post)
  | [], post, _ => by
    show (if (47 : Nat) = 47 then _ else _) = _
    rw [if_pos rfl]
  | c :: r, post, h => by
    have h1 : ¬ c = 47 := fun z => h (by rw [z]; exact List.mem_cons_self ..)
    have h2 := pt3_at (pre := r) (post := post) (fun z => h (List.mem_cons_of_mem _ z))
    have e : pt3 (c :: r ++ 47 :: post) = (c :: (pt3 (r ++ 47 :: post)).1, (pt3 (r ++ 47 :: post)).2.1, (pt3 (r ++ 47 :: post)).2.2) := if_neg h1
    rw [e, h2]
theorem split47 {l : List Nat} (h : 47 ∈ l) : ∃ pre post, l = pre ++ 47 :: post ∧ 47 ∉ pre := by
  obtain ⟨pre, post, e, n⟩ := List.eq_append_cons_of_mem h
  exact ⟨pre, post, e, n⟩
theorem part3 (l : List Nat) : Txt.partition (ofL l) "/" = (ofL (pt3 l).1, ofL (pt3 l).2.1, ofL (pt3 l).2.2) := by
  by_cases h : 47 ∈ l
  · obtain ⟨pre, post, rfl, n⟩ := split47 h
    rw [part_at n, pt3_at n]
    have e : ("/" : Str) = ofL [47] := by decide +kernel
    rw [e]
  · rw [part_no h, pt3_no h]
    rfl
theorem atx_parts (t b : Int) : pt3 (atx t b) = if b = 1 then (it t, [], []) else (it t, [47], it b) := by
  unfold atx
  split
  · exact pt3_no (it_47 t)
  · exact pt3_at (it_47 t)
theorem ofL_nil {l : List Nat} : (ofL l = ("" : Str)) ↔ l = [] := by
  have e : ("" : Str) = ofL [] := by decide +kernel
  rw [e]
  exact ⟨ofL_inj, fun h => by rw [h]⟩
/-- the part without its sign -/
def unm (l : List Nat) : List Nat := match l with
  | 45 :: r => r
  | _ => l
theorem unm_eq (l : List Nat) : Txt.removeprefix (ofL l) "-" = ofL (unm l) := by
  rw [prefix_minus]
  match l with
  | [] => rfl
  | c :: r =>
    by_cases h : c = 45
    · subst h
      rfl
    · have e : unm (c :: r) = c :: r := by
        unfold unm
        split
        · rename_i q z
          cases z
          exact absurd rfl h
        · rfl
      rw [e]
      split
      · rename_i q z
        cases z
        exact absurd rfl h
      · rfl
theorem unm_it (i : Int) : unm (it i) = dg i.natAbs := by
  unfold it
  split
  · rfl
  · unfold unm
    split
    · rename_i r e
      have := dg_all i.natAbs 45 (by rw [e]; exact List.mem_cons_self ..)
      omega
    · rfl
/-- the figures that the program lets -/
def figB (l : List Nat) : Bool := Txt.isascii (ofL l) && (Txt.isdigit (ofL l) && decide (l.length ≤ 200))
theorem figB_iff {l : List Nat} : figB l = true ↔ AllDigits l ∧ l ≠ [] ∧ l.length ≤ 200 := by
  unfold figB
  rw [← Bool.and_assoc, Bool.and_eq_true, figs_of, decide_eq_true_eq, and_assoc]
theorem figB_dg {n : Nat} (h : n < 10 ^ 200) : figB (dg n) = true := figB_iff.mpr ⟨dg_all n, dg_ne n, (dg_len (by decide)).mpr h⟩
theorem atx_len {t b : Int} (ht : t.natAbs < 10 ^ 200) (hb : b.natAbs < 10 ^ 200) : (atx t b).length ≤ 403 := by
  have h1 := it_len (by decide) ht
  have h2 := it_len (by decide) hb
  unfold atx
  split
  · omega
  · rw [List.length_append, List.length_cons]
    omega
end HX

set_option Elab.async false
set_option linter.all false
set_option maxRecDepth 100000
set_option maxHeartbeats 2000000
namespace HX
open PySem PySem.Spec PyProof.Rows L2

/-! ### the least common multiple -/
def lcmZ (p q : Int) : Int := ((Nat.lcm p.natAbs q.natAbs : Nat) : Int)
theorem lcmZ_pos {p q : Int} (hp : 0 < p) (hq : 0 < q) : 0 < lcmZ p q := by
  have : 0 < Nat.lcm p.natAbs q.natAbs := Nat.lcm_pos (by omega) (by omega)
  unfold lcmZ
  omega
theorem lcmZ_p (p q : Int) : p ∣ lcmZ p q := Int.ofNat_dvd_right.mpr (Nat.dvd_lcm_left _ _)
theorem lcmZ_q (p q : Int) : q ∣ lcmZ p q := Int.ofNat_dvd_right.mpr (Nat.dvd_lcm_right _ _)
theorem lcm_le_mul (m n : Nat) : m.lcm n ≤ m * n := by
  unfold Nat.lcm
  exact Nat.div_le_self _ _
theorem lcmZ_le {p q : Int} (hp : 0 < p) (hq : 0 < q) : lcmZ p q ≤ p * q := by
  have h := lcm_le_mul p.natAbs q.natAbs
  have e : ((p.natAbs * q.natAbs : Nat) : Int) = p * q := by
    rw [Int.natCast_mul, Int.natAbs_of_nonneg (Int.le_of_lt hp), Int.natAbs_of_nonneg (Int.le_of_lt hq)]
  unfold lcmZ
  rw [← e]
  exact Int.ofNat_le.mpr h
def rLcm : List V → Hp → VK → Prop := fun vs H Q => ∃ a b : Int, vs = [.int a, .int b] ∧ Sm 3000 a ∧ Sm 3000 b ∧ Q (.int (lcmZ a b)) H
theorem cr_lcm {X : Cx} : CallR X (.builtin "math.lcm") rLcm := by
  intro pins s σ H vs us Q I r h
  obtain ⟨a, b, rfl, ha, hb, q⟩ := h
  obtain ⟨t, u, rfl⟩ := Vals.int2 r
  have one : (1 : Nat) < 2 ^ 3000 := Nat.one_lt_two_pow (by decide)
  have l0 : (max 1 a.natAbs).log2 ≤ 2999 := PySem.W.mg_log (Nat.max_lt.mpr ⟨one, ha⟩)
  have l1 : (max a.natAbs b.natAbs).log2 ≤ 2999 := PySem.W.mg_log (Nat.max_lt.mpr ⟨ha, hb⟩)
  have l2 : (Nat.lcm a.natAbs b.natAbs).log2 ≤ 5999 := PySem.W.mg_log (Nat.lt_of_le_of_lt (lcm_le_mul _ _) (by
    have z := Nat.mul_lt_mul'' ha hb
    rw [← Nat.pow_add] at z
    exact z))
  have e1 : Nat.lcm 1 a.natAbs = a.natAbs := by simp [Nat.lcm]
  have g := PySem.W.mg_run_lcm a t b u (by omega) (by omega) (by
    rw [e1, Int.natAbs_natCast]
    exact Nat.lt_of_le_of_lt l2 (by decide))
  rw [e1] at g
  exact PySem.call_function_meets PySem.W.MGF.kind_lcm PySem.W.MGF.plain_lcm PySem.W.MGF.entry_lcm (PySem.W.MGF.args_lcm _ _) g.meets ⟨.int _, H, I.tok _, ⟨_, rfl⟩, q⟩

/-! ### sums of fractions over one bottom -/
def sopS (s : Int × Int) (x : Int × Int × Int) : Int × Int :=
  if x.2.1 = s.2 then (s.1 + x.1 * x.2.2, s.2) else (s.1 * (lcmZ s.2 x.2.1 / s.2) + x.1 * x.2.2 * (lcmZ s.2 x.2.1 / x.2.1), lcmZ s.2 x.2.1)
def sopV (ps : List (Int × Int × Int)) : Int × Int := ps.foldl sopS (0, 1)
def stepK (s : Int × Int) (x : Int × Int × Int) : Int × Int := (nT (s.1 * x.2.1 + x.1 * x.2.2 * s.2) (s.2 * x.2.1), nB (s.1 * x.2.1 + x.1 * x.2.2 * s.2) (s.2 * x.2.1))
def totK (ps : List (Int × Int × Int)) : Int × Int := ps.foldl stepK (0, 1)
theorem sopV_snoc (ps : List (Int × Int × Int)) (x : Int × Int × Int) : sopV (ps ++ [x]) = sopS (sopV ps) x := by
  unfold sopV
  rw [List.foldl_append]
  rfl
theorem totK_snoc (ps : List (Int × Int × Int)) (x : Int × Int × Int) : totK (ps ++ [x]) = stepK (totK ps) x := by
  unfold totK
  rw [List.foldl_append]
  rfl
/-- s as the loop has it, u the same in lowest terms -/
structure OkSop (n κ i : Nat) (s u : Int × Int) : Prop where
  pos : 0 < s.2
  b1 : Sm (1 + (n + κ + 1) * i) s.1
  b2 : Sm (1 + n * i) s.2
  low : Low u.1 u.2
  eq : s.1 * u.2 = u.1 * s.2
theorem OkSop.nil (n κ : Nat) : OkSop n κ 0 (0, 1) (0, 1) := ⟨by decide, (by unfold Sm; simp), (by unfold Sm; simp), low_int 0, rfl⟩
theorem sm_le {n : Nat} {i j : Int} (h : Sm n j) (h0 : 0 ≤ i) (h1 : i ≤ j) : Sm n i := by
  unfold Sm at *
  omega
/-- what is multiplied by on the way to one bottom -/
theorem quo_le {p q : Int} (hp : 0 < p) (hq : 0 < q) : 0 ≤ lcmZ p q / p ∧ lcmZ p q / p ≤ q ∧ 0 ≤ lcmZ p q / q ∧ lcmZ p q / q ≤ p := by
  have h := lcmZ_pos hp hq
  have le := lcmZ_le hp hq
  refine ⟨Int.ediv_nonneg (Int.le_of_lt h) (Int.le_of_lt hp), ?_, Int.ediv_nonneg (Int.le_of_lt h) (Int.le_of_lt hq), ?_⟩
  · exact Int.ediv_le_of_le_mul hp (by rw [Int.mul_comm]; exact le)
  · exact Int.ediv_le_of_le_mul hq le
theorem OkSop.step {n κ i : Nat} {s u : Int × Int} {t b k : Int} (h : OkSop n κ i s u) (lo : Low t b) (St : Sm n t) (Sb : Sm n b) (Sk : Sm κ k) : OkSop n κ (i + 1) (sopS s (t, b, k)) (stepK u (t, b, k)) := by
  obtain ⟨hp, h1, h2, hl, he⟩ := h
  have b0 : 0 < b := lo.1
  have u0 : 0 < u.2 := hl.1
  have qz : u.2 * b ≠ 0 := Int.mul_ne_zero (by omega) (by omega)
  have Stk := St.mul Sk
  have w1 : (n + κ + 1) * (i + 1) = (n + κ + 1) * i + (n + κ + 1) := Nat.mul_succ _ _
  have w2 : n * (i + 1) = n * i + n := Nat.mul_succ _ _
  have w3 : n * i ≤ (n + κ + 1) * i := Nat.mul_le_mul_right _ (by omega)
  obtain ⟨q1, q2, q3, q4⟩ := quo_le hp b0
  have key : 0 < (sopS s (t, b, k)).2 ∧ Sm (1 + (n + κ + 1) * (i + 1)) (sopS s (t, b, k)).1 ∧ Sm (1 + n * (i + 1)) (sopS s (t, b, k)).2 ∧
      (sopS s (t, b, k)).1 * (u.2 * b) = (u.1 * b + t * k * u.2) * (sopS s (t, b, k)).2 := by
    by_cases e : b = s.2
    · have ee : sopS s (t, b, k) = (s.1 + t * k, s.2) := if_pos e
      rw [ee]
      refine ⟨hp, ?_, h2.mono (by omega), ?_⟩
      · have z : Sm ((1 + (n + κ + 1) * i + n + κ) + 1) (s.1 + t * k) := (h1.mono (by omega)).add (Stk.mono (by omega))
        exact z.mono (by omega)
      · show (s.1 + t * k) * (u.2 * b) = (u.1 * b + t * k * u.2) * s.2
        rw [← e] at he ⊢
        grind
    · have ee : sopS s (t, b, k) = (s.1 * (lcmZ s.2 b / s.2) + t * k * (lcmZ s.2 b / b), lcmZ s.2 b) := if_neg e
      rw [ee]
      have m1 : Sm (1 + (n + κ + 1) * i + n) (s.1 * (lcmZ s.2 b / s.2)) := h1.mul (sm_le Sb q1 q2)
      have m2 : Sm (n + κ + (1 + n * i)) (t * k * (lcmZ s.2 b / b)) := Stk.mul (sm_le h2 q3 q4)
      have m3 : Sm (1 + n * i + n) (lcmZ s.2 b) := sm_le (h2.mul Sb) (Int.le_of_lt (lcmZ_pos hp b0)) (lcmZ_le hp b0)
      refine ⟨lcmZ_pos hp b0, ?_, m3.mono (by omega), ?_⟩
      · have z : Sm ((1 + (n + κ + 1) * i + n + κ) + 1) (s.1 * (lcmZ s.2 b / s.2) + t * k * (lcmZ s.2 b / b)) := (m1.mono (by omega)).add (m2.mono (by omega))
        exact z.mono (by omega)
      · have d1 : lcmZ s.2 b = s.2 * (lcmZ s.2 b / s.2) := (Int.mul_ediv_cancel' (lcmZ_p _ _)).symm
        have d2 : lcmZ s.2 b = b * (lcmZ s.2 b / b) := (Int.mul_ediv_cancel' (lcmZ_q _ _)).symm
        show (s.1 * (lcmZ s.2 b / s.2) + t * k * (lcmZ s.2 b / b)) * (u.2 * b) = (u.1 * b + t * k * u.2) * lcmZ s.2 b
        generalize lcmZ s.2 b / s.2 = x at *
        generalize lcmZ s.2 b / b = y at *
        generalize lcmZ s.2 b = S at *
        grind
  obtain ⟨k1, k2, k3, k4⟩ := key
  refine ⟨k1, k2, k3, low_n qz, ?_⟩
  show (sopS s (t, b, k)).1 * nB (u.1 * b + t * k * u.2) (u.2 * b) = nT (u.1 * b + t * k * u.2) (u.2 * b) * (sopS s (t, b, k)).2
  have c := cross (p := u.1 * b + t * k * u.2) qz
  generalize nB (u.1 * b + t * k * u.2) (u.2 * b) = y at *
  generalize nT (u.1 * b + t * k * u.2) (u.2 * b) = x at *
  refine Int.eq_of_mul_eq_mul_right qz ?_
  generalize u.1 * b + t * k * u.2 = P at *
  generalize u.2 * b = R at *
  grind
theorem OkSop.fin {n κ i : Nat} {s u : Int × Int} (h : OkSop n κ i s u) : nT s.1 s.2 = u.1 ∧ nB s.1 s.2 = u.2 := by
  have sz : s.2 ≠ 0 := by have := h.pos; omega
  refine low_unique (low_n sz) h.low ?_
  have c := cross (p := s.1) sz
  have e := h.eq
  refine Int.eq_of_mul_eq_mul_right sz ?_
  generalize nT s.1 s.2 = x at *
  generalize nB s.1 s.2 = y at *
  grind
/-- a pair of an amount and an integer -/
def PrK (n κ : Nat) (A : Addr) (H : Hp) (v : V) (x : Int × Int × Int) : Prop := ∃ q r, v = .ref q ∧ H q = some (.tup [.ref r, .int x.2.2]) ∧ Am A H r x.1 x.2.1 ∧ Low x.1 x.2.1 ∧ Sm n x.1 ∧ Sm n x.2.1 ∧ Sm κ x.2.2
inductive PrKL (n κ : Nat) (A : Addr) (H : Hp) : List V → List (Int × Int × Int) → Prop
  | nil : PrKL n κ A H [] []
  | cons {v : V} {vs : List V} {x : Int × Int × Int} {ps : List (Int × Int × Int)} : PrK n κ A H v x → PrKL n κ A H vs ps → PrKL n κ A H (v :: vs) (x :: ps)
section
variable {n κ : Nat} {A : Addr} {H G : Hp}
theorem PrK.mo {v : V} {x : Int × Int × Int} (s : Same H G) : PrK n κ A H v x → PrK n κ A G v x := fun ⟨q, r, e, h, a, z⟩ => ⟨q, r, e, s _ _ h, a.mo s, z⟩
theorem PrKL.mo (s : Same H G) : ∀ {vs : List V} {ps : List (Int × Int × Int)}, PrKL n κ A H vs ps → PrKL n κ A G vs ps
  | _, _, .nil => .nil
  | _, _, .cons h r => .cons (h.mo s) (r.mo s)
theorem PrKL.len : ∀ {vs : List V} {ps : List (Int × Int × Int)}, PrKL n κ A H vs ps → vs.length = ps.length
  | _, _, .nil => rfl
  | _, _, .cons _ r => by rw [List.length_cons, List.length_cons, r.len]
theorem PrKL.at_ : ∀ {vs : List V} {ps : List (Int × Int × Int)} {i : Nat} {v : V}, PrKL n κ A H vs ps → vs[i]? = some v → ∃ x, ps[i]? = some x ∧ PrK n κ A H v x
  | _, _, _, _, .nil, e => by simp at e
  | _, _, 0, v, .cons h r, e => by
    simp at e
    subst e
    exact ⟨_, rfl, h⟩
  | _, _, i + 1, v, .cons h r, e => by
    obtain ⟨x, h1, h2⟩ := r.at_ (i := i) (v := v) (by simpa using e)
    exact ⟨x, by simpa using h1, h2⟩
theorem PrKL.snoc {v : V} {x : Int × Int × Int} (h : PrK n κ A H v x) : ∀ {vs : List V} {ps : List (Int × Int × Int)}, PrKL n κ A H vs ps → PrKL n κ A H (vs ++ [v]) (ps ++ [x])
  | _, _, .nil => .cons h .nil
  | _, _, .cons h' r => .cons h' (r.snoc h)
theorem upd_far' {D b : Addr} {o o' u : HO} (e : H b = some u) (d : H D = some o) (n : u ≠ o) : L2.upd H D o' b = some u := by
  rw [upd_ne (fun z => n (by rw [z, d] at e; exact (Option.some.inj e).symm))]
  exact e
theorem PrK.updL {D : Addr} {xs : List V} {o : HO} (d : H D = some (.lst xs)) {v : V} {x : Int × Int × Int} : PrK n κ A H v x → PrK n κ A (L2.upd H D o) v x := fun ⟨q, r, e, h, ⟨dx, a⟩, z⟩ =>
  ⟨q, r, e, upd_far' h d (fun z => by cases z), ⟨dx, upd_far' a d (fun z => by cases z)⟩, z⟩
theorem PrKL.updL {D : Addr} {xs : List V} {o : HO} (d : H D = some (.lst xs)) : ∀ {vs : List V} {ps : List (Int × Int × Int)}, PrKL n κ A H vs ps → PrKL n κ A (L2.upd H D o) vs ps
  | _, _, .nil => .nil
  | _, _, .cons h r => .cons (h.updL d) (r.updL d)
end
/-- sum_of_products -/
def spSop (K : PySem.W.Frag) (A : Addr) : Sp := fun vs H Q _ => ∃ (n κ : Nat) (a : Addr) (xs : List V) (ps : List (Int × Int × Int)), vs = [.ref a] ∧ SqL K H a xs ∧ PrKL n κ A H xs ps ∧ 0 < n ∧ 0 < κ ∧ 1 + (n + κ + 1) * ps.length ≤ 880 ∧ QA A H Q (totK ps).1 (totK ps).2
end HX

set_option Elab.async false
set_option linter.all false
set_option maxRecDepth 100000
set_option maxHeartbeats 2000000
namespace HX
open PySem PySem.Spec PyProof.Rows L2

/-! ### values: fractions as rational numbers -/
def rv (t b : Int) : Rat := (t : Rat) / (b : Rat)
theorem castz {b : Int} (h : b ≠ 0) : (b : Rat) ≠ 0 := by
  intro z
  exact h (by exact_mod_cast z)
theorem rv_eq {t b c d : Int} (hb : b ≠ 0) (hd : d ≠ 0) : rv t b = rv c d ↔ t * d = c * b := by
  unfold rv
  have h1 := castz hb
  have h2 := castz hd
  constructor
  · intro h
    have h3 : (t : Rat) * d = c * b := by grind
    exact_mod_cast h3
  · intro h
    have h3 : (t : Rat) * d = c * b := by exact_mod_cast h
    grind
theorem rv_n {p q : Int} (h : q ≠ 0) : rv (nT p q) (nB p q) = rv p q := (rv_eq (by have := nB_pos (p := p) h; omega) h).mpr (cross h)
theorem low_rv {t b c d : Int} (lo : Low t b) (lo2 : Low c d) (h : rv t b = rv c d) : t = c ∧ b = d :=
  low_unique lo lo2 ((rv_eq (by have := lo.1; omega) (by have := lo2.1; omega)).mp h)
/-- lowest terms are the least -/
theorem low_le {t b p q : Int} (lo : Low t b) (h : q ≠ 0) (e : rv t b = rv p q) : t.natAbs ≤ p.natAbs ∧ b.natAbs ≤ q.natAbs := by
  obtain ⟨rfl, rfl⟩ := low_rv lo (low_n (p := p) h) (e.trans (rv_n h).symm)
  exact ⟨nT_le h, nB_le h⟩
theorem rv_one (t : Int) : rv t 1 = (t : Rat) := by
  unfold rv
  grind
theorem rv_add {t b c d : Int} (hb : b ≠ 0) (hd : d ≠ 0) : rv (t * d + 1 * c * b) (b * d) = rv t b + rv c d := by
  unfold rv
  have h1 := castz hb
  have h2 := castz hd
  push_cast
  grind
theorem rv_sub {t b c d : Int} (hb : b ≠ 0) (hd : d ≠ 0) : rv (t * d + -1 * c * b) (b * d) = rv t b - rv c d := by
  unfold rv
  have h1 := castz hb
  have h2 := castz hd
  push_cast
  grind
theorem rv_mul {t b c d : Int} (hb : b ≠ 0) (hd : d ≠ 0) : rv (t * c) (b * d) = rv t b * rv c d := by
  unfold rv
  have h1 := castz hb
  have h2 := castz hd
  push_cast
  grind
theorem rv_div {t b c d : Int} (hb : b ≠ 0) (hd : d ≠ 0) (hc : c ≠ 0) : rv (t * d) (b * c) = rv t b / rv c d := by
  unfold rv
  have h1 := castz hb
  have h2 := castz hd
  have h3 := castz hc
  push_cast
  grind
theorem rv_neg {t b : Int} : rv (-t) b = -rv t b := by
  unfold rv
  push_cast
  grind
theorem castp {b : Int} (h : 0 < b) : (0 : Rat) < (b : Rat) := by exact_mod_cast h
theorem rv_mulb {t b : Int} (h : 0 < b) : rv t b * (b : Rat) = (t : Rat) := by
  unfold rv
  have h1 := castz (show b ≠ 0 by omega)
  grind
theorem rv_lt {t b c d : Int} (hb : 0 < b) (hd : 0 < d) : rv t b < rv c d ↔ t * d < c * b := by
  have p1 := castp hb
  have p2 := castp hd
  have e1 : rv t b * (b : Rat) * d = ((t * d : Int) : Rat) := by rw [rv_mulb hb]; push_cast; rfl
  have e2 : rv c d * (b : Rat) * d = ((c * b : Int) : Rat) := by
    have := rv_mulb (t := c) hd
    push_cast
    grind
  have pp : (0 : Rat) < (b : Rat) * d := Rat.mul_pos p1 p2
  constructor
  · intro h
    have h1 := Rat.mul_lt_mul_of_pos_right h pp
    rw [← Rat.mul_assoc, ← Rat.mul_assoc, e1, e2] at h1
    exact_mod_cast h1
  · intro h
    have h1 : ((t * d : Int) : Rat) < ((c * b : Int) : Rat) := by exact_mod_cast h
    rw [← e1, ← e2] at h1
    rcases (Rat.le_total : rv c d ≤ rv t b ∨ rv t b ≤ rv c d) with z | z
    · have h2 := Rat.mul_le_mul_of_nonneg_right z (Rat.le_of_lt pp)
      rw [← Rat.mul_assoc, ← Rat.mul_assoc] at h2
      grind
    · rcases Rat.le_iff_lt_or_eq.mp z with y | y
      · exact y
      · rw [y] at h1
        grind
theorem rv_zero {t b : Int} (hb : b ≠ 0) : rv t b = 0 ↔ t = 0 := by
  unfold rv
  have h1 := castz hb
  constructor
  · intro h
    have h2 : (t : Rat) = 0 := by grind
    exact_mod_cast h2
  · rintro rfl
    have h3 : ((0 : Int) : Rat) = 0 := by simp
    rw [h3]
    grind
/-- the greatest integer that is not above -/
def Fl (j : Int) (x : Rat) : Prop := (j : Rat) ≤ x ∧ x < (j : Rat) + 1
theorem Fl.uniq {i j : Int} {x : Rat} (h : Fl i x) (k : Fl j x) : i = j := by
  obtain ⟨a, b⟩ := h
  obtain ⟨c, d⟩ := k
  have e1 : (i : Rat) < (j : Rat) + 1 := by grind
  have e2 : (j : Rat) < (i : Rat) + 1 := by grind
  have e3 : i < j + 1 := by exact_mod_cast e1
  have e4 : j < i + 1 := by exact_mod_cast e2
  omega
theorem fl_pos {p q : Int} (z : 0 < q) : Fl (p.fdiv q) (rv p q) := by
  have e : q * (p.fdiv q) + p.fmod q = p := Int.mul_fdiv_add_fmod p q
  have h1 := castz (show q ≠ 0 by omega)
  have e' : (q : Rat) * ((p.fdiv q : Int) : Rat) + ((p.fmod q : Int) : Rat) = (p : Rat) := by exact_mod_cast e
  have r : rv p q = ((p.fdiv q : Int) : Rat) + rv (p.fmod q) q := by
    unfold rv
    grind
  have m1 := Int.fmod_nonneg_of_pos p z
  have m2 := Int.fmod_lt_of_pos p z
  have a1 : ¬ rv (p.fmod q) q < rv 0 1 := fun y => by
    have := (rv_lt z (by decide)).mp y
    omega
  have a2 : rv (p.fmod q) q < rv 1 1 := (rv_lt z (by decide)).mpr (by omega)
  rw [rv_one] at a1 a2
  have b1 : (0 : Rat) ≤ rv (p.fmod q) q := Rat.not_lt.mp (by exact_mod_cast a1)
  have b2 : rv (p.fmod q) q < 1 := by exact_mod_cast a2
  rw [r]
  unfold Fl
  generalize rv (p.fmod q) q = y at *
  generalize ((p.fdiv q : Int) : Rat) = x at *
  constructor
  · grind
  · grind
theorem fl_fdiv {p q : Int} (h : q ≠ 0) : Fl (p.fdiv q) (rv p q) := by
  rcases Int.lt_or_gt_of_ne h with z | z
  · have e1 : rv p q = rv (-p) (-q) := (rv_eq h (by omega)).mpr (by grind)
    rw [← Int.neg_fdiv_neg, e1]
    exact fl_pos (by omega)
  · exact fl_pos z
/-- an Amount of this value, of parts below 2 ^ n; a number -/
def AV (A : Addr) (n : Nat) (H : Hp) (a : Addr) (r : Rat) : Prop := ∃ t b, Am A H a t b ∧ Low t b ∧ Sm n t ∧ Sm n b ∧ r = rv t b
def NV (A : Addr) (n : Nat) (H : Hp) (v : V) (r : Rat) : Prop := ∃ t b, Nu A H v t b ∧ Low t b ∧ Sm n t ∧ Sm n b ∧ r = rv t b
def QR (A : Addr) (n : Nat) (H : Hp) (Q : VK) (r : Rat) : Prop := ∀ z G, H z = none → Same H G → AV A n G z r → Q (.ref z) G
section
variable {A : Addr} {n m : Nat} {H G : Hp} {a : Addr} {v : V} {r : Rat}
theorem AV.mo (s : Same H G) (h : AV A n H a r) : AV A n G a r := let ⟨t, b, x, y⟩ := h; ⟨t, b, x.mo s, y⟩
theorem NV.mo (s : Same H G) (h : NV A n H v r) : NV A n G v r := let ⟨t, b, x, y⟩ := h; ⟨t, b, x.mo s, y⟩
theorem AV.nv (h : AV A n H a r) : NV A n H (.ref a) r := let ⟨t, b, x, y⟩ := h; ⟨t, b, .inl ⟨a, rfl, x⟩, y⟩
theorem AV.le (h : AV A n H a r) (l : n ≤ m) : AV A m H a r := let ⟨t, b, x, lo, s1, s2, e⟩ := h; ⟨t, b, x, lo, s1.mono l, s2.mono l, e⟩
theorem NV.le (h : NV A n H v r) (l : n ≤ m) : NV A m H v r := let ⟨t, b, x, lo, s1, s2, e⟩ := h; ⟨t, b, x, lo, s1.mono l, s2.mono l, e⟩
theorem NV.int {j : Int} (h : Sm n j) (h0 : 0 < n) : NV A n H (.int j) (j : Rat) := ⟨j, 1, .inr ⟨rfl, rfl⟩, low_int j, h, sm_one.mono h0, (rv_one j).symm⟩
theorem AV.isI (h : AV A n H a r) : IsI A H a := let ⟨_, _, x, _⟩ := h; x.isI
end
end HX

set_option Elab.async false
set_option linter.all false
set_option maxRecDepth 100000
set_option maxHeartbeats 4000000
namespace LW
open PySem PySem.Spec PyProof.Rows L2 HX
def top (i : Nat) : Stmt := PySem.Challenge.pw_holeshift_k23_whole_amounts_as_a_field.main.body.getD i (.Pass ⟨0, 0, 0, 0⟩)

abbrev s_BadAmount_init : Stmt := inClass (top 5) 0
abbrev n_BadAmount_init : List Str := ["self", "value"]
theorem sc_BadAmount_init : FnScope n_BadAmount_init ["self", "value"] (defScope s_BadAmount_init) := ⟨rfl, rfl, rfl, by decide +kernel, rfl, by decide +kernel, by decide +kernel⟩

abbrev s_BadText_init : Stmt := inClass (top 6) 0
abbrev n_BadText_init : List Str := ["self", "line", "word"]
theorem sc_BadText_init : FnScope n_BadText_init ["self", "line", "word"] (defScope s_BadText_init) := ⟨rfl, rfl, rfl, by decide +kernel, rfl, by decide +kernel, by decide +kernel⟩

abbrev s_is_int : Stmt := top 10
abbrev n_is_int : List Str := ["value"]
theorem sc_is_int : FnScope n_is_int ["value"] (defScope s_is_int) := ⟨rfl, rfl, rfl, by decide +kernel, rfl, by decide +kernel, by decide +kernel⟩

abbrev s_sum_of_products : Stmt := top 11
abbrev n_sum_of_products : List Str := ["pairs", "top", "bottom", "amount", "times", "shared"]
theorem sc_sum_of_products : FnScope n_sum_of_products ["pairs"] (defScope s_sum_of_products) := ⟨rfl, rfl, rfl, by decide +kernel, rfl, by decide +kernel, by decide +kernel⟩

abbrev s__is_figures : Stmt := top 12
abbrev n__is_figures : List Str := ["text"]
theorem sc__is_figures : FnScope n__is_figures ["text"] (defScope s__is_figures) := ⟨rfl, rfl, rfl, by decide +kernel, rfl, by decide +kernel, by decide +kernel⟩

abbrev s_Amount_init : Stmt := inClass (top 13) 0
abbrev n_Amount_init : List Str := ["self", "top", "bottom", "shared"]
theorem sc_Amount_init : FnScope n_Amount_init ["self", "top", "bottom"] (defScope s_Amount_init) := ⟨rfl, rfl, rfl, by decide +kernel, rfl, by decide +kernel, by decide +kernel⟩

abbrev s_Amount_is_number : Stmt := inClass (top 13) 1
abbrev n_Amount_is_number : List Str := ["value"]
theorem sc_Amount_is_number : FnScope n_Amount_is_number ["value"] (defScope s_Amount_is_number) := ⟨rfl, rfl, rfl, by decide +kernel, rfl, by decide +kernel, by decide +kernel⟩

abbrev s_Amount_of : Stmt := inClass (top 13) 2
abbrev n_Amount_of : List Str := ["number"]
theorem sc_Amount_of : FnScope n_Amount_of ["number"] (defScope s_Amount_of) := ⟨rfl, rfl, rfl, by decide +kernel, rfl, by decide +kernel, by decide +kernel⟩

abbrev s_Amount_total : Stmt := inClass (top 13) 3
abbrev n_Amount_total : List Str := ["numbers", "number"]
theorem sc_Amount_total : FnScope n_Amount_total ["numbers"] (defScope s_Amount_total) := ⟨rfl, rfl, rfl, by decide +kernel, rfl, by decide +kernel, by decide +kernel⟩

abbrev s_Amount_read : Stmt := inClass (top 13) 4
abbrev n_Amount_read : List Str := ["cls", "text", "above", "stroke", "below", "amount"]
theorem sc_Amount_read : FnScope n_Amount_read ["cls", "text"] (defScope s_Amount_read) := ⟨rfl, rfl, rfl, by decide +kernel, rfl, by decide +kernel, by decide +kernel⟩

abbrev s_Amount_str : Stmt := inClass (top 13) 5
abbrev n_Amount_str : List Str := ["self"]
theorem sc_Amount_str : FnScope n_Amount_str ["self"] (defScope s_Amount_str) := ⟨rfl, rfl, rfl, by decide +kernel, rfl, by decide +kernel, by decide +kernel⟩

abbrev s_Amount_is_whole : Stmt := inClass (top 13) 6
abbrev n_Amount_is_whole : List Str := ["self"]
theorem sc_Amount_is_whole : FnScope n_Amount_is_whole ["self"] (defScope s_Amount_is_whole) := ⟨rfl, rfl, rfl, by decide +kernel, rfl, by decide +kernel, by decide +kernel⟩

abbrev s_Amount_over : Stmt := inClass (top 13) 7
abbrev n_Amount_over : List Str := ["self", "number", "divisor"]
theorem sc_Amount_over : FnScope n_Amount_over ["self", "number"] (defScope s_Amount_over) := ⟨rfl, rfl, rfl, by decide +kernel, rfl, by decide +kernel, by decide +kernel⟩

abbrev s_Amount_add : Stmt := inClass (top 13) 8
abbrev n_Amount_add : List Str := ["self", "other"]
theorem sc_Amount_add : FnScope n_Amount_add ["self", "other"] (defScope s_Amount_add) := ⟨rfl, rfl, rfl, by decide +kernel, rfl, by decide +kernel, by decide +kernel⟩

abbrev s_Amount_radd : Stmt := inClass (top 13) 9
abbrev n_Amount_radd : List Str := ["self", "other"]
theorem sc_Amount_radd : FnScope n_Amount_radd ["self", "other"] (defScope s_Amount_radd) := ⟨rfl, rfl, rfl, by decide +kernel, rfl, by decide +kernel, by decide +kernel⟩

abbrev s_Amount_iadd : Stmt := inClass (top 13) 10
abbrev n_Amount_iadd : List Str := ["self", "other"]
theorem sc_Amount_iadd : FnScope n_Amount_iadd ["self", "other"] (defScope s_Amount_iadd) := ⟨rfl, rfl, rfl, by decide +kernel, rfl, by decide +kernel, by decide +kernel⟩

abbrev s_Amount_sub : Stmt := inClass (top 13) 11
abbrev n_Amount_sub : List Str := ["self", "other"]
theorem sc_Amount_sub : FnScope n_Amount_sub ["self", "other"] (defScope s_Amount_sub) := ⟨rfl, rfl, rfl, by decide +kernel, rfl, by decide +kernel, by decide +kernel⟩

abbrev s_Amount_rsub : Stmt := inClass (top 13) 12
abbrev n_Amount_rsub : List Str := ["self", "other"]
theorem sc_Amount_rsub : FnScope n_Amount_rsub ["self", "other"] (defScope s_Amount_rsub) := ⟨rfl, rfl, rfl, by decide +kernel, rfl, by decide +kernel, by decide +kernel⟩

abbrev s_Amount_isub : Stmt := inClass (top 13) 13
abbrev n_Amount_isub : List Str := ["self", "other"]
theorem sc_Amount_isub : FnScope n_Amount_isub ["self", "other"] (defScope s_Amount_isub) := ⟨rfl, rfl, rfl, by decide +kernel, rfl, by decide +kernel, by decide +kernel⟩

abbrev s_Amount_mul : Stmt := inClass (top 13) 14
abbrev n_Amount_mul : List Str := ["self", "other"]
theorem sc_Amount_mul : FnScope n_Amount_mul ["self", "other"] (defScope s_Amount_mul) := ⟨rfl, rfl, rfl, by decide +kernel, rfl, by decide +kernel, by decide +kernel⟩

abbrev s_Amount_rmul : Stmt := inClass (top 13) 15
abbrev n_Amount_rmul : List Str := ["self", "other"]
theorem sc_Amount_rmul : FnScope n_Amount_rmul ["self", "other"] (defScope s_Amount_rmul) := ⟨rfl, rfl, rfl, by decide +kernel, rfl, by decide +kernel, by decide +kernel⟩

abbrev s_Amount_imul : Stmt := inClass (top 13) 16
abbrev n_Amount_imul : List Str := ["self", "other"]
theorem sc_Amount_imul : FnScope n_Amount_imul ["self", "other"] (defScope s_Amount_imul) := ⟨rfl, rfl, rfl, by decide +kernel, rfl, by decide +kernel, by decide +kernel⟩

abbrev s_Amount_floordiv : Stmt := inClass (top 13) 17
abbrev n_Amount_floordiv : List Str := ["self", "other", "quotient"]
theorem sc_Amount_floordiv : FnScope n_Amount_floordiv ["self", "other"] (defScope s_Amount_floordiv) := ⟨rfl, rfl, rfl, by decide +kernel, rfl, by decide +kernel, by decide +kernel⟩

abbrev s_Amount_rfloordiv : Stmt := inClass (top 13) 18
abbrev n_Amount_rfloordiv : List Str := ["self", "other"]
theorem sc_Amount_rfloordiv : FnScope n_Amount_rfloordiv ["self", "other"] (defScope s_Amount_rfloordiv) := ⟨rfl, rfl, rfl, by decide +kernel, rfl, by decide +kernel, by decide +kernel⟩

abbrev s_Amount_ifloordiv : Stmt := inClass (top 13) 19
abbrev n_Amount_ifloordiv : List Str := ["self", "other"]
theorem sc_Amount_ifloordiv : FnScope n_Amount_ifloordiv ["self", "other"] (defScope s_Amount_ifloordiv) := ⟨rfl, rfl, rfl, by decide +kernel, rfl, by decide +kernel, by decide +kernel⟩

abbrev s_Amount_mod : Stmt := inClass (top 13) 20
abbrev n_Amount_mod : List Str := ["self", "other"]
theorem sc_Amount_mod : FnScope n_Amount_mod ["self", "other"] (defScope s_Amount_mod) := ⟨rfl, rfl, rfl, by decide +kernel, rfl, by decide +kernel, by decide +kernel⟩

abbrev s_Amount_rmod : Stmt := inClass (top 13) 21
abbrev n_Amount_rmod : List Str := ["self", "other"]
theorem sc_Amount_rmod : FnScope n_Amount_rmod ["self", "other"] (defScope s_Amount_rmod) := ⟨rfl, rfl, rfl, by decide +kernel, rfl, by decide +kernel, by decide +kernel⟩

abbrev s_Amount_imod : Stmt := inClass (top 13) 22
abbrev n_Amount_imod : List Str := ["self", "other"]
theorem sc_Amount_imod : FnScope n_Amount_imod ["self", "other"] (defScope s_Amount_imod) := ⟨rfl, rfl, rfl, by decide +kernel, rfl, by decide +kernel, by decide +kernel⟩

abbrev s_Amount_neg : Stmt := inClass (top 13) 23
abbrev n_Amount_neg : List Str := ["self"]
theorem sc_Amount_neg : FnScope n_Amount_neg ["self"] (defScope s_Amount_neg) := ⟨rfl, rfl, rfl, by decide +kernel, rfl, by decide +kernel, by decide +kernel⟩

abbrev s_Amount_abs : Stmt := inClass (top 13) 24
abbrev n_Amount_abs : List Str := ["self"]
theorem sc_Amount_abs : FnScope n_Amount_abs ["self"] (defScope s_Amount_abs) := ⟨rfl, rfl, rfl, by decide +kernel, rfl, by decide +kernel, by decide +kernel⟩

abbrev s_Amount_bool : Stmt := inClass (top 13) 25
abbrev n_Amount_bool : List Str := ["self"]
theorem sc_Amount_bool : FnScope n_Amount_bool ["self"] (defScope s_Amount_bool) := ⟨rfl, rfl, rfl, by decide +kernel, rfl, by decide +kernel, by decide +kernel⟩

abbrev s_Amount_eq : Stmt := inClass (top 13) 26
abbrev n_Amount_eq : List Str := ["self", "other"]
theorem sc_Amount_eq : FnScope n_Amount_eq ["self", "other"] (defScope s_Amount_eq) := ⟨rfl, rfl, rfl, by decide +kernel, rfl, by decide +kernel, by decide +kernel⟩

abbrev s_Amount_lt : Stmt := inClass (top 13) 27
abbrev n_Amount_lt : List Str := ["self", "other", "number"]
theorem sc_Amount_lt : FnScope n_Amount_lt ["self", "other"] (defScope s_Amount_lt) := ⟨rfl, rfl, rfl, by decide +kernel, rfl, by decide +kernel, by decide +kernel⟩

abbrev s_Amount_le : Stmt := inClass (top 13) 28
abbrev n_Amount_le : List Str := ["self", "other", "number"]
theorem sc_Amount_le : FnScope n_Amount_le ["self", "other"] (defScope s_Amount_le) := ⟨rfl, rfl, rfl, by decide +kernel, rfl, by decide +kernel, by decide +kernel⟩

abbrev s_Amount_gt : Stmt := inClass (top 13) 29
abbrev n_Amount_gt : List Str := ["self", "other", "number"]
theorem sc_Amount_gt : FnScope n_Amount_gt ["self", "other"] (defScope s_Amount_gt) := ⟨rfl, rfl, rfl, by decide +kernel, rfl, by decide +kernel, by decide +kernel⟩

abbrev s_Amount_ge : Stmt := inClass (top 13) 30
abbrev n_Amount_ge : List Str := ["self", "other", "number"]
theorem sc_Amount_ge : FnScope n_Amount_ge ["self", "other"] (defScope s_Amount_ge) := ⟨rfl, rfl, rfl, by decide +kernel, rfl, by decide +kernel, by decide +kernel⟩

abbrev s__law_pen : Stmt := top 15
abbrev n__law_pen : List Str := ["_law_script"]
theorem sc__law_pen : FnScope n__law_pen ["_law_script"] (defScope s__law_pen) := ⟨rfl, rfl, rfl, by decide +kernel, rfl, by decide +kernel, by decide +kernel⟩

abbrev s__law_draw : Stmt := top 16
abbrev n__law_draw : List Str := ["_law_pen_here", "_law_many", "_law_digit", "_law_at", "_law_cell", "_law_great", "_law_mixed"]
theorem sc__law_draw : FnScope n__law_draw ["_law_pen_here", "_law_many"] (defScope s__law_draw) := ⟨rfl, rfl, rfl, by decide +kernel, rfl, by decide +kernel, by decide +kernel⟩

abbrev s__law_pick : Stmt := top 17
abbrev n__law_pick : List Str := ["_law_pen_here", "_law_some"]
theorem sc__law_pick : FnScope n__law_pick ["_law_pen_here", "_law_some"] (defScope s__law_pick) := ⟨rfl, rfl, rfl, by decide +kernel, rfl, by decide +kernel, by decide +kernel⟩

abbrev s__law_amount : Stmt := top 18
abbrev n__law_amount : List Str := ["_law_pen_here", "_law_top", "_law_bottom"]
theorem sc__law_amount : FnScope n__law_amount ["_law_pen_here"] (defScope s__law_amount) := ⟨rfl, rfl, rfl, by decide +kernel, rfl, by decide +kernel, by decide +kernel⟩

abbrev s__law_sums_right : Stmt := top 19
abbrev n__law_sums_right : List Str := ["_law_a", "_law_b", "_law_c"]
theorem sc__law_sums_right : FnScope n__law_sums_right ["_law_a", "_law_b", "_law_c"] (defScope s__law_sums_right) := ⟨rfl, rfl, rfl, by decide +kernel, rfl, by decide +kernel, by decide +kernel⟩

abbrev s__law_quotients_right : Stmt := top 20
abbrev n__law_quotients_right : List Str := ["_law_a", "_law_b", "_law_many", "_law_rest"]
theorem sc__law_quotients_right : FnScope n__law_quotients_right ["_law_a", "_law_b"] (defScope s__law_quotients_right) := ⟨rfl, rfl, rfl, by decide +kernel, rfl, by decide +kernel, by decide +kernel⟩

abbrev s__law_order_right : Stmt := top 21
abbrev n__law_order_right : List Str := ["_law_a", "_law_b", "_law_c"]
theorem sc__law_order_right : FnScope n__law_order_right ["_law_a", "_law_b", "_law_c"] (defScope s__law_order_right) := ⟨rfl, rfl, rfl, by decide +kernel, rfl, by decide +kernel, by decide +kernel⟩

abbrev s__law_text_right : Stmt := top 22
abbrev n__law_text_right : List Str := ["_law_a"]
theorem sc__law_text_right : FnScope n__law_text_right ["_law_a"] (defScope s__law_text_right) := ⟨rfl, rfl, rfl, by decide +kernel, rfl, by decide +kernel, by decide +kernel⟩

abbrev s_law : Stmt := top 23
abbrev n_law : List Str := ["_law_script", "_law_pen_here", "_law_turn", "_law_a", "_law_b", "_law_c", "_law_one", "_law_many"]
theorem sc_law : FnScope n_law ["_law_script"] (defScope s_law) := ⟨rfl, rfl, rfl, by decide +kernel, rfl, by decide +kernel, by decide +kernel⟩

/-- what the module's names are -/
structure Txt (K : PySem.W.Frag) (mg : Str → Option Value) : Prop where
  b_int : mg "int" = none
  b_len : mg "len" = none
  b_abs : mg "abs" = none
  b_list : mg "list" = none
  b_range : mg "range" = none
  b_isinstance : mg "isinstance" = none
  b_repr : mg "repr" = none
  b_bool : mg "bool" = none
/-- .. the class Amount -/
structure AmC (K : PySem.W.Frag) (mg : Str → Option Value) (A fI pO gO pN gN : Addr) (mc : Value) : Prop where
  g_Amount : mg "Amount" = some (.ref A)
  gcd : mg "gcd" = some (.builtin "math.gcd")
  cls : Cls K A
  nT : NoAttr K A "top"
  nB : NoAttr K A "bottom"
  mkr : Mk K A fI
  ha : PySem.W.findIn K (.ref A) "__class__" = some (some (.builtin "object.__class__"))
  hn : PySem.W.specialIn K (.builtin "object.__class__") "__get__" = some (some (.builtin "getset_descriptor.__get__"))
  ht : PySem.W.takesIn K (.builtin "object.__class__") = some true
  hm : PySem.W.mroIn K A (.type "object") = some true
  kI : PySem.W.kitOne K (.ref A) (.type "int") = some false
  kA : PySem.W.kitOne K (.type "int") (.ref A) = some false
  sO : SMet K A mc "of" pO gO
  sN : SMet K A mc "is_number" pN gN

section
variable {P : Program} {w : World} {K : PySem.W.Frag} {mg : Str → Option Value} {base : Heap}

theorem funD_ok {x qual : Str} {prm : Arguments} {body : List Stmt} {scope : Scope} {dvs : List V} {kws : List (Str × V)} {f : Addr} {fd : FuncData} {N ps : List Str} {k : Nat} {sp : Sp} (F : FunD K x qual prm body scope dvs kws f fd) (S : FnScope N ps scope) (ln : ∀ vs H Q E, sp vs H Q E → vs.length = ps.length)
    (hb : ∀ (cdv : Value) (A : Around) (outer : List Env) (s : Shared) (H : Hp) (vs : List V) (Q : VK) (E : XK), Room k (A.deeper (envOfC qual scope s.heap.objs.size f cdv)) → sp vs H Q E →
      ∃ t, PSs (cxOf CX0 P w K mg base N qual scope f cdv A outer s H E).nox body t ∧ t { nx := fun _ H' => Q .non H', rt := Q } (start N vs) H) : FnOk P w K mg base CX0 (k + 1) f fd ps sp := by
  refine F.ok S ln fun cdv A outer s H vs Q E hr hsp => ?_
  obtain ⟨t, h, q⟩ := hb cdv A outer s H vs Q E hr hsp
  exact ⟨t, h.nox, q⟩

def spInit (A : Addr) : Sp := fun vs H Q _ => ∃ (x dx : Addr) (p q : Int), vs = [.ref x, .int p, .int q] ∧ H x = some (.ins A dx []) ∧ q ≠ 0 ∧ Sm 8000 p ∧ Sm 8000 q ∧
  ∀ G, (∀ b o, b ≠ x → H b = some o → G b = some o) → G x = some (.ins A dx (afs (nT p q) (nB p q))) → Q .non G
def spOf (A : Addr) : Sp := fun vs H Q _ => ∃ v t b, vs = [v] ∧ Nu A H v t b ∧ Sm 8000 t ∧ ∀ r G, Same H G → Am A G r t b → Q (.ref r) G
theorem mkA {A : Addr} {H : Hp} {Q : VK} {E : XK} {p q : Int} (z : q ≠ 0) (sp : Sm 8000 p) (sq : Sm 8000 q) (k : QA A H Q (nT p q) (nB p q)) : ∀ x dx, H x = none → H dx = none → dx ≠ x →
    spInit A (.ref x :: [.int p, .int q]) (upd (upd H dx (.own x)) x (.ins A dx [])) (fun v H2 => v = .non ∧ Q (.ref x) H2) E := fun x dx nx nd ne =>
  ⟨x, dx, p, q, rfl, upd_same, z, sp, sq, fun G kp gx => ⟨rfl, k x G nx (fun b o e => kp b o (ne_of_none e nx) (by rw [upd_ne (ne_of_none e nx), upd_ne (ne_of_none e nd)]; exact e)) ⟨dx, gx⟩⟩⟩
theorem mkR {A : Addr} {H : Hp} {R : Addr → Hp → Prop} {E : XK} {p q : Int} (z : q ≠ 0) (sp : Sm 8000 p) (sq : Sm 8000 q) (k : ∀ r G, H r = none → Same H G → Am A G r (nT p q) (nB p q) → R r G) : ∀ x dx, H x = none → H dx = none → dx ≠ x →
    spInit A (.ref x :: [.int p, .int q]) (upd (upd H dx (.own x)) x (.ins A dx [])) (fun v H2 => v = .non ∧ R x H2) E := fun x dx nx nd ne =>
  ⟨x, dx, p, q, rfl, upd_same, z, sp, sq, fun G kp gx => ⟨rfl, k x G nx (fun b o e => kp b o (ne_of_none e nx) (by rw [upd_ne (ne_of_none e nx), upd_ne (ne_of_none e nd)]; exact e)) ⟨dx, gx⟩⟩⟩

theorem kit_self (K : PySem.W.Frag) (C : Addr) : PySem.W.kitOne K (.ref C) (.ref C) = some true := by
  unfold PySem.W.kitOne
  rw [if_pos (by simp)]

theorem ok_is_int {A fI pO gO pN gN f : Addr} {mc : Value} {fd : FuncData} (F : Fun K "is_int" "is_int" s_is_int f fd) (T : Txt K mg) (U : AmC K mg A fI pO gO pN gN mc) : FnOk P w K mg base CX0 1 f fd ["value"] (spIsInt A) := by
  refine F.ok sc_is_int (fun vs H Q E h => ?_) (fun cdv A' outer s H vs Q E hr h => ?_)
  · obtain ⟨v, rfl, _⟩ := h
    rfl
  · obtain ⟨v, rfl, k⟩ := h
    refine ⟨_, (pss_one (ps_ret (e_and (pe_callB c_isi (by rfl) T.b_isinstance (by decide +kernel) (pa_cons (pc 0) (pa_cons (pe_bltn (v := .ty "int") (u := .type "int") (by rfl) T.b_int (by decide +kernel) rfl) pa_nil))) (pe_one (e_not (pe_callB c_isi (by rfl) T.b_isinstance (by decide +kernel) (pa_cons (pc 0) (pa_cons (pe_bltn (v := .ty "bool") (u := .type "bool") (by rfl) T.b_bool (by decide +kernel) rfl) pa_nil)))))))), ?_⟩
    rcases k with ⟨⟨i, rfl⟩, k⟩ | ⟨a, rfl, ⟨dx, fs, e⟩, k⟩
    · exact ⟨_, _, _, _, true, rfl, .int i, (fun u r => r), rfl, ⟨fun _ => ⟨_, _, _, _, false, rfl, .int i, (fun u r => r), rfl, k⟩, fun h => absurd h (by decide)⟩⟩
    · exact ⟨_, _, _, _, false, rfl, .ins e U.cls U.ha U.hn U.ht U.hm, (fun u r => r), U.kI, ⟨fun h => absurd h (by decide), fun _ => k⟩⟩

theorem ok_init {A fI pO gO pN gN f : Addr} {mc : Value} {fd : FuncData} (F : FunD K "__init__" "Amount.__init__" (defArgs s_Amount_init) (defBody s_Amount_init) (defScope s_Amount_init) [.int 1] [] f fd) (T : Txt K mg) (U : AmC K mg A fI pO gO pN gN mc) (cI : CalO P w K mg base "is_int" 1 ["value"] (spIsInt A) (fun _ => True)) : FnOk P w K mg base CX0 2 f fd ["self", "top", "bottom"] (spInit A) := by
  refine funD_ok F sc_Amount_init (fun vs H Q E h => ?_) (fun cdv A' outer s H vs Q E hr h => ?_)
  · obtain ⟨x, dx, p, q, rfl, _⟩ := h
    rfl
  · obtain ⟨x, dx, p, q, rfl, hx, qz, sp, sq, k⟩ := h
    refine ⟨_, (pss_cons (s_if (pt_not (t_val (pe_cO cI (hr.mono (by decide)) (pa_cons (pc 1) pa_nil)))) (pss_one ps_dead) pss_nil)
    (pss_cons (s_if (pt_not (t_val (pe_cO cI (hr.mono (by decide)) (pa_cons (pc 2) pa_nil)))) (pss_one ps_dead) pss_nil)
    (pss_cons (s_if (t_cmp (o_eq hr.units) (pc 2) pe_int) (pss_one ps_dead) pss_nil)
    (pss_cons (ps_set (i := 3) sc_Amount_init.nd rfl (Or.inl rfl) (e_if (t_cmp o_gt (pc 2) pe_int) (pe_callBfun cr_gcd rfl U.gcd (pa_cons (pc 1) (pa_cons (pc 2) pa_nil))) (pe_un un_neg (pe_callBfun cr_gcd rfl U.gcd (pa_cons (pc 1) (pa_cons (pc 2) pa_nil))))))
    (pss_cons (ps_fld (pc 0) (pe_op o_fdivZ (pc 1) (pc 3)) (by rfl))
    (pss_one (ps_fld (pc 0) (pe_op o_fdivZ (pc 2) (pc 3)) (by rfl)))))))), ?_⟩
    have g0 := gcdZ_pos (p := p) qz
    have gS : Sm 8000 (gcdZ p q) := by
      have z : Nat.gcd p.natAbs q.natAbs ≤ q.natAbs := Nat.gcd_le_right _ (by omega)
      exact Nat.lt_of_le_of_lt z sq
    refine ⟨_, rfl, .inl ⟨⟨p, rfl⟩, ⟨fun h => absurd h (by decide), fun _ => ⟨_, rfl, .inl ⟨⟨q, rfl⟩, ⟨fun h => absurd h (by decide), fun _ => ⟨fun h => absurd h (by simp [qz]), fun _ => ⟨fun c => ⟨p, q, rfl, ?_⟩, fun c => ⟨p, q, rfl, _, rfl, ?_⟩⟩⟩⟩⟩⟩⟩⟩⟩
    · have c := of_decide_eq_true c
      have e1 := fdiv_sg qz (gcdZ_p p q)
      have e2 := fdiv_sg qz (gcdZ_q p q)
      rw [if_neg (by omega)] at e1 e2
      refine ⟨gS.cDiv (by omega), x, A, dx, _, rfl, hx, U.cls, U.nT, by decide, gS.cDiv (by omega), x, A, dx, _, rfl, upd_same, U.cls, U.nB, by show 1 < 1000; decide, k _ (fun b o n e => by rw [upd_ne n, upd_ne n]; exact e) ?_⟩
      rw [upd_same]
      show some (HO.ins A dx [("top", V.int (p.fdiv (gcdZ p q))), ("bottom", V.int (q.fdiv (gcdZ p q)))]) = _
      rw [e1, e2]
      rfl
    · have c := of_decide_eq_false c
      have e1 := fdiv_sg qz (gcdZ_p p q)
      have e2 := fdiv_sg qz (gcdZ_q p q)
      rw [if_pos (by omega)] at e1 e2
      refine ⟨(gS.neg).cDiv (by omega), x, A, dx, _, rfl, hx, U.cls, U.nT, by decide, (gS.neg).cDiv (by omega), x, A, dx, _, rfl, upd_same, U.cls, U.nB, by show 1 < 1000; decide, k _ (fun b o n e => by rw [upd_ne n, upd_ne n]; exact e) ?_⟩
      rw [upd_same]
      show some (HO.ins A dx [("top", V.int (p.fdiv (-gcdZ p q))), ("bottom", V.int (q.fdiv (-gcdZ p q)))]) = _
      rw [e1, e2]
      rfl

theorem ok_is_number {A fI pO gO pN gN f : Addr} {mc : Value} {fd : FuncData} (F : Fun K "is_number" "Amount.is_number" s_Amount_is_number f fd) (T : Txt K mg) (U : AmC K mg A fI pO gO pN gN mc) (cI : CalO P w K mg base "is_int" 1 ["value"] (spIsInt A) (fun _ => True)) : FnOk P w K mg base CX0 2 f fd ["value"] (spIsNum A) := by
  refine F.ok sc_Amount_is_number (fun vs H Q E h => ?_) (fun cdv A' outer s H vs Q E hr h => ?_)
  · obtain ⟨v, t, b, rfl, _⟩ := h
    rfl
  · obtain ⟨v, t, b, rfl, n, k⟩ := h
    refine ⟨_, (pss_one (ps_ret (e_or (pe_cO cI (hr.mono (by decide)) (pa_cons (pc 0) pa_nil)) (pe_one (pe_callB c_isi (by rfl) T.b_isinstance (by decide +kernel) (pa_cons (pc 0) (pa_cons (p_gc U.g_Amount) pa_nil))))))), ?_⟩
    rcases n with ⟨a, rfl, dx, e⟩ | ⟨rfl, rfl⟩
    · exact ⟨_, rfl, .inr ⟨a, rfl, ⟨dx, _, e⟩, ⟨fun h => absurd h (by decide), fun _ => ⟨_, _, _, _, true, rfl, .ins e U.cls U.ha U.hn U.ht U.hm, (fun u r => r), kit_self K A, k⟩⟩⟩⟩
    · exact ⟨_, rfl, .inl ⟨⟨t, rfl⟩, ⟨fun _ => k, fun h => absurd h (by decide)⟩⟩⟩

theorem ok_of {A fI pO gO pN gN f : Addr} {mc : Value} {fd : FuncData} (F : Fun K "of" "Amount.of" s_Amount_of f fd) (T : Txt K mg) (U : AmC K mg A fI pO gO pN gN mc) {fdI : FuncData} (FI : FnOk P w K mg base CX0 2 fI fdI ["self", "top", "bottom"] (spInit A)) {ds : List Value} (bI1 : Binds K fdI ["self", "top", "bottom"] ds) (vI1 : Vals [V.int 1] ds) (bI2 : Binds K fdI ["self", "top", "bottom"] []) : FnOk P w K mg base CX0 4 f fd ["number"] (spOf A) := by
  refine F.ok sc_Amount_of (fun vs H Q E h => ?_) (fun cdv A' outer s H vs Q E hr h => ?_)
  · obtain ⟨v, t, b, rfl, _⟩ := h
    rfl
  · obtain ⟨v, t, b, rfl, n, st, k⟩ := h
    refine ⟨_, (pss_cons (s_if (t_val (pe_callB c_isi (by rfl) T.b_isinstance (by decide +kernel) (pa_cons (pc 0) (pa_cons (p_gc U.g_Amount) pa_nil)))) (pss_one (ps_ret (pc 0))) pss_nil)
    (pss_one (ps_ret (pe_make U.mkr FI (hr.mono (by decide)) rfl U.g_Amount bI1 vI1 pass0 (pa_cons (pc 0) pa_nil))))), ?_⟩
    rcases n with ⟨a, rfl, dx, e⟩ | ⟨rfl, rfl⟩
    · exact ⟨_, _, _, _, true, rfl, .ins e U.cls U.ha U.hn U.ht U.hm, (fun u r => r), kit_self K A, ⟨fun _ => k a H (Same.refl _) ⟨dx, e⟩, fun h => absurd h (by decide)⟩⟩
    · refine ⟨_, _, _, _, false, rfl, .int t, (fun u r => r), U.kA, ⟨fun h => absurd h (by decide), fun _ => ?_⟩⟩
      have e := n_self (low_int t)
      refine mkA (p := t) (q := 1) (by decide) st (sm_one.mono (by decide)) fun r G n s a => ?_
      rw [e.1, e.2] at a
      exact k r G s a

def pAdd (t b c d : Int) : Int := t * d + c * b
def qBD (_ b _ d : Int) : Int := b * d
def pSub (t b c d : Int) : Int := t * d + -c * b
def pRsub (t b c d : Int) : Int := -t * d + c * b
def pMul (t _ c _ : Int) : Int := t * c
def pOver (t _ _ d : Int) : Int := t * d
def qBC (_ b c _ : Int) : Int := b * c
def spNeg (A : Addr) (g : Int → Int) : Sp := fun vs H Q _ => ∃ (a : Addr) (t b : Int), vs = [.ref a] ∧ Am A H a t b ∧ Low t b ∧ Sm 7800 t ∧ Sm 7800 b ∧ QA A H Q (g t) b
def absI (i : Int) : Int := if i < 0 then -i else i
/-- // : an int -/
def spFl (A : Addr) (p q : Int → Int → Int → Int → Int) : Sp := fun vs H Q _ => ∃ (a : Addr) (v : V) (t b c d : Int), vs = [.ref a, v] ∧ Am A H a t b ∧ Nu A H v c d ∧ Low t b ∧ Low c d ∧ Sm 3900 t ∧ Sm 3900 b ∧ Sm 3900 c ∧ Sm 3900 d ∧ q t b c d ≠ 0 ∧ ∀ G, Same H G → Q (.int ((p t b c d).fdiv (q t b c d))) G

theorem ok_Amount_over {A fI pO gO pN gN f : Addr} {mc : Value} {fd : FuncData} (F : Fun K "over" "Amount.over" s_Amount_over f fd) (T : Txt K mg) (U : AmC K mg A fI pO gO pN gN mc) {fdI : FuncData} (FI : FnOk P w K mg base CX0 2 fI fdI ["self", "top", "bottom"] (spInit A)) {ds : List Value} (bI1 : Binds K fdI ["self", "top", "bottom"] ds) (vI1 : Vals [V.int 1] ds) (bI2 : Binds K fdI ["self", "top", "bottom"] []) {fdO fdN : FuncData} (FO : FnOk P w K mg base CX0 4 gO fdO ["number"] (spOf A)) (bO : Binds K fdO ["number"] []) (FN : FnOk P w K mg base CX0 2 gN fdN ["value"] (spIsNum A)) (bN : Binds K fdN ["value"] []) : FnOk P w K mg base CX0 5 f fd ["self", "number"] (spBin A 3900 pOver qBC) := by
  refine F.ok sc_Amount_over (fun vs H Q E h => ?_) (fun cdv A' outer s H vs Q E hr h => ?_)
  · obtain ⟨a, v, t, b, c, d, rfl, _⟩ := h
    rfl
  · obtain ⟨a, v, t, b, c, d, rfl, am, n, lo, lo2, St, Sb, Sc, Sd, qz, k⟩ := h
    refine ⟨_, (pss_cons (ps_set (i := 2) sc_Amount_over.nd rfl (Or.inl rfl) (pe_sm (p_gc U.g_Amount) U.sO FO bO (hr.mono (by decide)) pass0 (pa_cons (pc 1) pa_nil)))
    (pss_one (ps_ret (pe_make U.mkr FI (hr.mono (by decide)) rfl U.g_Amount bI2 .nil pass0 (pa_cons (pe_op o_mulW (pe_fld (pc 0) rfl) (pe_fld (pc 2) rfl)) (pa_cons (pe_op o_mulW (pe_fld (pc 0) rfl) (pe_fld (pc 2) rfl)) pa_nil)))))), ?_⟩
    refine ⟨rfl, v, c, d, rfl, n, Sc.mono (by decide), fun r G s a2 => ?_⟩
    obtain ⟨dx, e⟩ := am.mo s
    obtain ⟨dr, er⟩ := a2
    exact ⟨a, A, _, _, _, rfl, e, U.cls, U.nT, rfl, r, A, _, _, _, rfl, er, U.cls, U.nB, rfl, St.cMul Sd, a, A, _, _, _, rfl, e, U.cls, U.nB, rfl, r, A, _, _, _, rfl, er, U.cls, U.nT, rfl, Sb.cMul Sc, mkA qz ((St.mul Sd).mono (by decide)) ((Sb.mul Sc).mono (by decide)) (k.mo s)⟩

theorem ok_Amount_add {A fI pO gO pN gN f : Addr} {mc : Value} {fd : FuncData} (F : Fun K "__add__" "Amount.__add__" s_Amount_add f fd) (T : Txt K mg) (U : AmC K mg A fI pO gO pN gN mc) {fdI : FuncData} (FI : FnOk P w K mg base CX0 2 fI fdI ["self", "top", "bottom"] (spInit A)) {ds : List Value} (bI1 : Binds K fdI ["self", "top", "bottom"] ds) (vI1 : Vals [V.int 1] ds) (bI2 : Binds K fdI ["self", "top", "bottom"] []) (cI : CalO P w K mg base "is_int" 1 ["value"] (spIsInt A) (fun _ => True)) : FnOk P w K mg base CX0 5 f fd ["self", "other"] (spBin A 3900 pAdd qBD) := by
  refine F.ok sc_Amount_add (fun vs H Q E h => ?_) (fun cdv A' outer s H vs Q E hr h => ?_)
  · obtain ⟨a, v, t, b, c, d, rfl, _⟩ := h
    rfl
  · obtain ⟨a, v, t, b, c, d, rfl, am, n, lo, lo2, St, Sb, Sc, Sd, qz, k⟩ := h
    refine ⟨_, (pss_cons (s_if (t_val (pe_callB c_isi (by rfl) T.b_isinstance (by decide +kernel) (pa_cons (pc 1) (pa_cons (p_gc U.g_Amount) pa_nil)))) (pss_one (ps_ret (pe_make U.mkr FI (hr.mono (by decide)) rfl U.g_Amount bI2 .nil pass0 (pa_cons (pe_op o_add (pe_op o_mulW (pe_fld (pc 0) rfl) (pe_fld (pc 1) rfl)) (pe_op o_mulW (pe_fld (pc 1) rfl) (pe_fld (pc 0) rfl))) (pa_cons (pe_op o_mulW (pe_fld (pc 0) rfl) (pe_fld (pc 1) rfl)) pa_nil))))) pss_nil)
    (pss_cons (s_if (pt_not (t_val (pe_cO cI (hr.mono (by decide)) (pa_cons (pc 1) pa_nil)))) (pss_one ps_dead) pss_nil)
    (pss_one (ps_ret (pe_make U.mkr FI (hr.mono (by decide)) rfl U.g_Amount bI2 .nil pass0 (pa_cons (pe_op o_add (pe_fld (pc 0) rfl) (pe_op o_mulW (pc 1) (pe_fld (pc 0) rfl))) (pa_cons (pe_fld (pc 0) rfl) pa_nil))))))), ?_⟩
    rcases n with ⟨y, rfl, an⟩ | ⟨rfl, rfl⟩
    · obtain ⟨dx, e⟩ := id am
      obtain ⟨dr, er⟩ := id an
      exact ⟨_, _, _, _, true, rfl, .ins er U.cls U.ha U.hn U.ht U.hm, (fun u r => r), kit_self K A, ⟨fun _ => ⟨a, A, _, _, _, rfl, e, U.cls, U.nT, rfl, y, A, _, _, _, rfl, er, U.cls, U.nB, rfl, St.cMul Sd, y, A, _, _, _, rfl, er, U.cls, U.nT, rfl, a, A, _, _, _, rfl, e, U.cls, U.nB, rfl, Sc.cMul Sb, a, A, _, _, _, rfl, e, U.cls, U.nB, rfl, y, A, _, _, _, rfl, er, U.cls, U.nB, rfl, Sb.cMul Sd, mkA qz (((St.mul Sd).add (Sc.mul Sb)).mono (by decide)) ((Sb.mul Sd).mono (by decide)) k⟩, fun h => absurd h (by decide)⟩⟩
    · obtain ⟨dx, e⟩ := id am
      have bz : b ≠ 0 := by have := lo.1; omega
      refine ⟨_, _, _, _, false, rfl, .int c, (fun u r => r), U.kA, ⟨fun h => absurd h (by decide), fun _ => ⟨_, rfl, .inl ⟨⟨c, rfl⟩, ⟨fun h => absurd h (by decide), fun _ => ⟨a, A, _, _, _, rfl, e, U.cls, U.nT, rfl, a, A, _, _, _, rfl, e, U.cls, U.nB, rfl, Sc.cMul Sb, a, A, _, _, _, rfl, e, U.cls, U.nB, rfl, mkA (p := t + c * b) (q := b) bz ((((St.mono (by decide : 3900 ≤ 7800)).add (Sc.mul Sb))).mono (by decide)) (Sb.mono (by decide)) ?_⟩⟩⟩⟩⟩⟩
      simpa [pAdd, qBD] using k

theorem ok_Amount_mul {A fI pO gO pN gN f : Addr} {mc : Value} {fd : FuncData} (F : Fun K "__mul__" "Amount.__mul__" s_Amount_mul f fd) (T : Txt K mg) (U : AmC K mg A fI pO gO pN gN mc) {fdI : FuncData} (FI : FnOk P w K mg base CX0 2 fI fdI ["self", "top", "bottom"] (spInit A)) {ds : List Value} (bI1 : Binds K fdI ["self", "top", "bottom"] ds) (vI1 : Vals [V.int 1] ds) (bI2 : Binds K fdI ["self", "top", "bottom"] []) (cI : CalO P w K mg base "is_int" 1 ["value"] (spIsInt A) (fun _ => True)) : FnOk P w K mg base CX0 5 f fd ["self", "other"] (spBin A 3900 pMul qBD) := by
  refine F.ok sc_Amount_mul (fun vs H Q E h => ?_) (fun cdv A' outer s H vs Q E hr h => ?_)
  · obtain ⟨a, v, t, b, c, d, rfl, _⟩ := h
    rfl
  · obtain ⟨a, v, t, b, c, d, rfl, am, n, lo, lo2, St, Sb, Sc, Sd, qz, k⟩ := h
    refine ⟨_, (pss_cons (s_if (t_val (pe_callB c_isi (by rfl) T.b_isinstance (by decide +kernel) (pa_cons (pc 1) (pa_cons (p_gc U.g_Amount) pa_nil)))) (pss_one (ps_ret (pe_make U.mkr FI (hr.mono (by decide)) rfl U.g_Amount bI2 .nil pass0 (pa_cons (pe_op o_mulW (pe_fld (pc 0) rfl) (pe_fld (pc 1) rfl)) (pa_cons (pe_op o_mulW (pe_fld (pc 0) rfl) (pe_fld (pc 1) rfl)) pa_nil))))) pss_nil)
    (pss_cons (s_if (pt_not (t_val (pe_cO cI (hr.mono (by decide)) (pa_cons (pc 1) pa_nil)))) (pss_one ps_dead) pss_nil)
    (pss_one (ps_ret (pe_make U.mkr FI (hr.mono (by decide)) rfl U.g_Amount bI2 .nil pass0 (pa_cons (pe_op o_mulW (pe_fld (pc 0) rfl) (pc 1)) (pa_cons (pe_fld (pc 0) rfl) pa_nil))))))), ?_⟩
    rcases n with ⟨y, rfl, an⟩ | ⟨rfl, rfl⟩
    · obtain ⟨dx, e⟩ := id am
      obtain ⟨dr, er⟩ := id an
      exact ⟨_, _, _, _, true, rfl, .ins er U.cls U.ha U.hn U.ht U.hm, (fun u r => r), kit_self K A, ⟨fun _ => ⟨a, A, _, _, _, rfl, e, U.cls, U.nT, rfl, y, A, _, _, _, rfl, er, U.cls, U.nT, rfl, St.cMul Sc, a, A, _, _, _, rfl, e, U.cls, U.nB, rfl, y, A, _, _, _, rfl, er, U.cls, U.nB, rfl, Sb.cMul Sd, mkA qz ((St.mul Sc).mono (by decide)) ((Sb.mul Sd).mono (by decide)) k⟩, fun h => absurd h (by decide)⟩⟩
    · obtain ⟨dx, e⟩ := id am
      have bz : b ≠ 0 := by have := lo.1; omega
      refine ⟨_, _, _, _, false, rfl, .int c, (fun u r => r), U.kA, ⟨fun h => absurd h (by decide), fun _ => ⟨_, rfl, .inl ⟨⟨c, rfl⟩, ⟨fun h => absurd h (by decide), fun _ => ⟨a, A, _, _, _, rfl, e, U.cls, U.nT, rfl, St.cMul Sc, a, A, _, _, _, rfl, e, U.cls, U.nB, rfl, mkA (p := t * c) (q := b) bz ((St.mul Sc).mono (by decide)) (Sb.mono (by decide)) ?_⟩⟩⟩⟩⟩⟩
      simpa [pMul, qBD] using k

theorem ok_Amount_neg {A fI pO gO pN gN f : Addr} {mc : Value} {fd : FuncData} (F : Fun K "__neg__" "Amount.__neg__" s_Amount_neg f fd) (T : Txt K mg) (U : AmC K mg A fI pO gO pN gN mc) {fdI : FuncData} (FI : FnOk P w K mg base CX0 2 fI fdI ["self", "top", "bottom"] (spInit A)) {ds : List Value} (bI1 : Binds K fdI ["self", "top", "bottom"] ds) (vI1 : Vals [V.int 1] ds) (bI2 : Binds K fdI ["self", "top", "bottom"] []) : FnOk P w K mg base CX0 4 f fd ["self"] (spNeg A Neg.neg) := by
  refine F.ok sc_Amount_neg (fun vs H Q E h => ?_) (fun cdv A' outer s H vs Q E hr h => ?_)
  · obtain ⟨a, t, b, rfl, _⟩ := h
    rfl
  · obtain ⟨a, t, b, rfl, ⟨dx, e⟩, lo, St, Sb, k⟩ := h
    refine ⟨_, (pss_one (ps_ret (pe_make U.mkr FI (hr.mono (by decide)) rfl U.g_Amount bI2 .nil pass0 (pa_cons (pe_un un_neg (pe_fld (pc 0) rfl)) (pa_cons (pe_fld (pc 0) rfl) pa_nil))))), ?_⟩
    refine ⟨a, A, _, _, _, rfl, e, U.cls, U.nT, rfl, _, rfl, a, A, _, _, _, rfl, e, U.cls, U.nB, rfl, mkA (p := Neg.neg t) (by have := lo.1; omega) ((St.neg).mono (by decide)) (Sb.mono (by decide)) fun r G n s am => ?_⟩
    have z := n_self (show Low (Neg.neg t) b from low_neg lo)
    rw [z.1, z.2] at am
    exact k r G n s am

theorem sm_abs {n : Nat} {i : Int} (h : Sm n i) : Sm n (absI i) := by
  unfold absI
  split
  · exact h.neg
  · exact h
theorem ok_Amount_abs {A fI pO gO pN gN f : Addr} {mc : Value} {fd : FuncData} (F : Fun K "__abs__" "Amount.__abs__" s_Amount_abs f fd) (T : Txt K mg) (U : AmC K mg A fI pO gO pN gN mc) {fdI : FuncData} (FI : FnOk P w K mg base CX0 2 fI fdI ["self", "top", "bottom"] (spInit A)) {ds : List Value} (bI1 : Binds K fdI ["self", "top", "bottom"] ds) (vI1 : Vals [V.int 1] ds) (bI2 : Binds K fdI ["self", "top", "bottom"] []) : FnOk P w K mg base CX0 4 f fd ["self"] (spNeg A absI) := by
  refine F.ok sc_Amount_abs (fun vs H Q E h => ?_) (fun cdv A' outer s H vs Q E hr h => ?_)
  · obtain ⟨a, t, b, rfl, _⟩ := h
    rfl
  · obtain ⟨a, t, b, rfl, ⟨dx, e⟩, lo, St, Sb, k⟩ := h
    refine ⟨_, (pss_one (ps_ret (pe_make U.mkr FI (hr.mono (by decide)) rfl U.g_Amount bI2 .nil pass0 (pa_cons (pe_callB c_abs (by rfl) T.b_abs (by decide +kernel) (pa_cons (pe_fld (pc 0) rfl) pa_nil)) (pa_cons (pe_fld (pc 0) rfl) pa_nil))))), ?_⟩
    refine ⟨a, A, _, _, _, rfl, e, U.cls, U.nT, rfl, a, A, _, _, _, rfl, e, U.cls, U.nB, rfl, mkA (p := absI t) (by have := lo.1; omega) ((sm_abs St).mono (by decide)) (Sb.mono (by decide)) fun r G n s am => ?_⟩
    have z := n_self (show Low (absI t) b from low_abs lo)
    rw [z.1, z.2] at am
    exact k r G n s am

theorem ok_Amount_radd {A fI pO gO pN gN f : Addr} {mc : Value} {fd : FuncData} (F : Fun K "__radd__" "Amount.__radd__" s_Amount_radd f fd) (T : Txt K mg) (U : AmC K mg A fI pO gO pN gN mc) {fdO fdN : FuncData} (FO : FnOk P w K mg base CX0 4 gO fdO ["number"] (spOf A)) (bO : Binds K fdO ["number"] []) (FN : FnOk P w K mg base CX0 2 gN fdN ["value"] (spIsNum A)) (bN : Binds K fdN ["value"] []) {gX : Addr} {fAdd : Addr} {fdAdd : FuncData} (FAdd : FnOk P w K mg base CX0 5 fAdd fdAdd ["self", "other"] (spBin A 3900 pAdd qBD)) (bAdd : Binds K fdAdd ["self", "other"] []) (Oadd : PySem.HXO.OwnOp K A .Add fAdd gX) : FnOk P w K mg base CX0 6 f fd ["self", "other"] (spBin A 3900 pAdd qBD) := by
  refine F.ok sc_Amount_radd (fun vs H Q E h => ?_) (fun cdv A' outer s H vs Q E hr h => ?_)
  · obtain ⟨a, v, t, b, c, d, rfl, _⟩ := h
    rfl
  · obtain ⟨a, v, t, b, c, d, rfl, am, n, lo, lo2, St, Sb, Sc, Sd, qz, k⟩ := h
    refine ⟨_, (pss_one (ps_ret (pe_op (op_owL PySem.HXO.io_add Oadd FAdd bAdd (hr.mono (by decide)) pass0) (pc 0) (pc 1)))), ?_⟩
    rcases n with ⟨y, rfl, an⟩ | ⟨rfl, rfl⟩
    · exact ⟨am.isI, an.isI, a, _, t, b, c, d, rfl, am, .inl ⟨y, rfl, an⟩, lo, lo2, St, Sb, Sc, Sd, qz, k⟩
    · exact ⟨am.isI, a, _, t, b, c, 1, rfl, am, .inr ⟨rfl, rfl⟩, lo, lo2, St, Sb, Sc, Sd, qz, k⟩

theorem ok_Amount_iadd {A fI pO gO pN gN f : Addr} {mc : Value} {fd : FuncData} (F : Fun K "__iadd__" "Amount.__iadd__" s_Amount_iadd f fd) (T : Txt K mg) (U : AmC K mg A fI pO gO pN gN mc) {fdO fdN : FuncData} (FO : FnOk P w K mg base CX0 4 gO fdO ["number"] (spOf A)) (bO : Binds K fdO ["number"] []) (FN : FnOk P w K mg base CX0 2 gN fdN ["value"] (spIsNum A)) (bN : Binds K fdN ["value"] []) {gX : Addr} {fAdd : Addr} {fdAdd : FuncData} (FAdd : FnOk P w K mg base CX0 5 fAdd fdAdd ["self", "other"] (spBin A 3900 pAdd qBD)) (bAdd : Binds K fdAdd ["self", "other"] []) (Oadd : PySem.HXO.OwnOp K A .Add fAdd gX) : FnOk P w K mg base CX0 6 f fd ["self", "other"] (spBin A 3900 pAdd qBD) := by
  refine F.ok sc_Amount_iadd (fun vs H Q E h => ?_) (fun cdv A' outer s H vs Q E hr h => ?_)
  · obtain ⟨a, v, t, b, c, d, rfl, _⟩ := h
    rfl
  · obtain ⟨a, v, t, b, c, d, rfl, am, n, lo, lo2, St, Sb, Sc, Sd, qz, k⟩ := h
    refine ⟨_, (pss_one (ps_ret (pe_op (op_owL PySem.HXO.io_add Oadd FAdd bAdd (hr.mono (by decide)) pass0) (pc 0) (pc 1)))), ?_⟩
    rcases n with ⟨y, rfl, an⟩ | ⟨rfl, rfl⟩
    · exact ⟨am.isI, an.isI, a, _, t, b, c, d, rfl, am, .inl ⟨y, rfl, an⟩, lo, lo2, St, Sb, Sc, Sd, qz, k⟩
    · exact ⟨am.isI, a, _, t, b, c, 1, rfl, am, .inr ⟨rfl, rfl⟩, lo, lo2, St, Sb, Sc, Sd, qz, k⟩

theorem ok_Amount_rmul {A fI pO gO pN gN f : Addr} {mc : Value} {fd : FuncData} (F : Fun K "__rmul__" "Amount.__rmul__" s_Amount_rmul f fd) (T : Txt K mg) (U : AmC K mg A fI pO gO pN gN mc) {fdO fdN : FuncData} (FO : FnOk P w K mg base CX0 4 gO fdO ["number"] (spOf A)) (bO : Binds K fdO ["number"] []) (FN : FnOk P w K mg base CX0 2 gN fdN ["value"] (spIsNum A)) (bN : Binds K fdN ["value"] []) {gX : Addr} {fMul : Addr} {fdMul : FuncData} (FMul : FnOk P w K mg base CX0 5 fMul fdMul ["self", "other"] (spBin A 3900 pMul qBD)) (bMul : Binds K fdMul ["self", "other"] []) (Omul : PySem.HXO.OwnOp K A .Mult fMul gX) : FnOk P w K mg base CX0 6 f fd ["self", "other"] (spBin A 3900 pMul qBD) := by
  refine F.ok sc_Amount_rmul (fun vs H Q E h => ?_) (fun cdv A' outer s H vs Q E hr h => ?_)
  · obtain ⟨a, v, t, b, c, d, rfl, _⟩ := h
    rfl
  · obtain ⟨a, v, t, b, c, d, rfl, am, n, lo, lo2, St, Sb, Sc, Sd, qz, k⟩ := h
    refine ⟨_, (pss_one (ps_ret (pe_op (op_owL PySem.HXO.io_mul Omul FMul bMul (hr.mono (by decide)) pass0) (pc 0) (pc 1)))), ?_⟩
    rcases n with ⟨y, rfl, an⟩ | ⟨rfl, rfl⟩
    · exact ⟨am.isI, an.isI, a, _, t, b, c, d, rfl, am, .inl ⟨y, rfl, an⟩, lo, lo2, St, Sb, Sc, Sd, qz, k⟩
    · exact ⟨am.isI, a, _, t, b, c, 1, rfl, am, .inr ⟨rfl, rfl⟩, lo, lo2, St, Sb, Sc, Sd, qz, k⟩

theorem ok_Amount_imul {A fI pO gO pN gN f : Addr} {mc : Value} {fd : FuncData} (F : Fun K "__imul__" "Amount.__imul__" s_Amount_imul f fd) (T : Txt K mg) (U : AmC K mg A fI pO gO pN gN mc) {fdO fdN : FuncData} (FO : FnOk P w K mg base CX0 4 gO fdO ["number"] (spOf A)) (bO : Binds K fdO ["number"] []) (FN : FnOk P w K mg base CX0 2 gN fdN ["value"] (spIsNum A)) (bN : Binds K fdN ["value"] []) {gX : Addr} {fMul : Addr} {fdMul : FuncData} (FMul : FnOk P w K mg base CX0 5 fMul fdMul ["self", "other"] (spBin A 3900 pMul qBD)) (bMul : Binds K fdMul ["self", "other"] []) (Omul : PySem.HXO.OwnOp K A .Mult fMul gX) : FnOk P w K mg base CX0 6 f fd ["self", "other"] (spBin A 3900 pMul qBD) := by
  refine F.ok sc_Amount_imul (fun vs H Q E h => ?_) (fun cdv A' outer s H vs Q E hr h => ?_)
  · obtain ⟨a, v, t, b, c, d, rfl, _⟩ := h
    rfl
  · obtain ⟨a, v, t, b, c, d, rfl, am, n, lo, lo2, St, Sb, Sc, Sd, qz, k⟩ := h
    refine ⟨_, (pss_one (ps_ret (pe_op (op_owL PySem.HXO.io_mul Omul FMul bMul (hr.mono (by decide)) pass0) (pc 0) (pc 1)))), ?_⟩
    rcases n with ⟨y, rfl, an⟩ | ⟨rfl, rfl⟩
    · exact ⟨am.isI, an.isI, a, _, t, b, c, d, rfl, am, .inl ⟨y, rfl, an⟩, lo, lo2, St, Sb, Sc, Sd, qz, k⟩
    · exact ⟨am.isI, a, _, t, b, c, 1, rfl, am, .inr ⟨rfl, rfl⟩, lo, lo2, St, Sb, Sc, Sd, qz, k⟩

theorem ok_Amount_sub {A fI pO gO pN gN f : Addr} {mc : Value} {fd : FuncData} (F : Fun K "__sub__" "Amount.__sub__" s_Amount_sub f fd) (T : Txt K mg) (U : AmC K mg A fI pO gO pN gN mc) {fdO fdN : FuncData} (FO : FnOk P w K mg base CX0 4 gO fdO ["number"] (spOf A)) (bO : Binds K fdO ["number"] []) (FN : FnOk P w K mg base CX0 2 gN fdN ["value"] (spIsNum A)) (bN : Binds K fdN ["value"] []) {gX : Addr} {fAdd : Addr} {fdAdd : FuncData} (FAdd : FnOk P w K mg base CX0 5 fAdd fdAdd ["self", "other"] (spBin A 3900 pAdd qBD)) (bAdd : Binds K fdAdd ["self", "other"] []) (Oadd : PySem.HXO.OwnOp K A .Add fAdd gX) {fNeg : Addr} {fdNeg : FuncData} (FNeg : FnOk P w K mg base CX0 4 fNeg fdNeg ["self"] (spNeg A Neg.neg)) (bNeg : Binds K fdNeg ["self"] []) (hNeg : PySem.W.findIn K (.ref A) "__neg__" = some (some (.ref fNeg))) (iNeg : PySem.W.isFn K (.ref fNeg) = true) : FnOk P w K mg base CX0 6 f fd ["self", "other"] (spBin A 3900 pSub qBD) := by
  refine F.ok sc_Amount_sub (fun vs H Q E h => ?_) (fun cdv A' outer s H vs Q E hr h => ?_)
  · obtain ⟨a, v, t, b, c, d, rfl, _⟩ := h
    rfl
  · obtain ⟨a, v, t, b, c, d, rfl, am, n, lo, lo2, St, Sb, Sc, Sd, qz, k⟩ := h
    refine ⟨_, (pss_cons (s_if (pt_not (t_val (pe_sm (p_gc U.g_Amount) U.sN FN bN (hr.mono (by decide)) pass0 (pa_cons (pc 1) pa_nil)))) (pss_one ps_dead) pss_nil)
    (pss_one (ps_ret (pe_op (op_owL PySem.HXO.io_add Oadd FAdd bAdd (hr.mono (by decide)) pass0) (pc 0) (pe_un (un_ow hNeg iNeg FNeg bNeg (hr.mono (by decide)) pass0) (pc 1)))))), ?_⟩
    refine ⟨rfl, v, c, d, rfl, n, ⟨fun h => absurd h (by decide), fun _ => ?_⟩⟩
    rcases n with ⟨y, rfl, an⟩ | ⟨rfl, rfl⟩
    · refine ⟨an.isI, y, c, d, rfl, an, lo2, Sc.mono (by decide), Sd.mono (by decide), fun r G n s ar => ?_⟩
      exact ⟨(am.mo s).isI, ar.isI, a, _, t, b, -c, d, rfl, am.mo s, .inl ⟨r, rfl, ar⟩, lo, low_neg lo2, St, Sb, Sc.neg, Sd, qz, k.mo s⟩
    · exact ⟨am.isI, a, _, t, b, -c, 1, rfl, am, .inr ⟨rfl, rfl⟩, lo, low_int _, St, Sb, Sc.neg, Sd, qz, k⟩

theorem ok_Amount_rsub {A fI pO gO pN gN f : Addr} {mc : Value} {fd : FuncData} (F : Fun K "__rsub__" "Amount.__rsub__" s_Amount_rsub f fd) (T : Txt K mg) (U : AmC K mg A fI pO gO pN gN mc) {fdO fdN : FuncData} (FO : FnOk P w K mg base CX0 4 gO fdO ["number"] (spOf A)) (bO : Binds K fdO ["number"] []) (FN : FnOk P w K mg base CX0 2 gN fdN ["value"] (spIsNum A)) (bN : Binds K fdN ["value"] []) {gX : Addr} {fAdd : Addr} {fdAdd : FuncData} (FAdd : FnOk P w K mg base CX0 5 fAdd fdAdd ["self", "other"] (spBin A 3900 pAdd qBD)) (bAdd : Binds K fdAdd ["self", "other"] []) (Oadd : PySem.HXO.OwnOp K A .Add fAdd gX) {fNeg : Addr} {fdNeg : FuncData} (FNeg : FnOk P w K mg base CX0 4 fNeg fdNeg ["self"] (spNeg A Neg.neg)) (bNeg : Binds K fdNeg ["self"] []) (hNeg : PySem.W.findIn K (.ref A) "__neg__" = some (some (.ref fNeg))) (iNeg : PySem.W.isFn K (.ref fNeg) = true) : FnOk P w K mg base CX0 6 f fd ["self", "other"] (spBin A 3900 pRsub qBD) := by
  refine F.ok sc_Amount_rsub (fun vs H Q E h => ?_) (fun cdv A' outer s H vs Q E hr h => ?_)
  · obtain ⟨a, v, t, b, c, d, rfl, _⟩ := h
    rfl
  · obtain ⟨a, v, t, b, c, d, rfl, am, n, lo, lo2, St, Sb, Sc, Sd, qz, k⟩ := h
    refine ⟨_, (pss_one (ps_ret (pe_op (op_owL PySem.HXO.io_add Oadd FAdd bAdd (hr.mono (by decide)) pass0) (pe_un (un_ow hNeg iNeg FNeg bNeg (hr.mono (by decide)) pass0) (pc 0)) (pc 1)))), ?_⟩
    refine ⟨am.isI, a, t, b, rfl, am, lo, St.mono (by decide), Sb.mono (by decide), fun r G n' s ar => ?_⟩
    rcases n.mo s with ⟨y, rfl, an⟩ | ⟨rfl, rfl⟩
    · exact ⟨ar.isI, an.isI, r, _, -t, b, c, d, rfl, ar, .inl ⟨y, rfl, an⟩, low_neg lo, lo2, St.neg, Sb, Sc, Sd, qz, k.mo s⟩
    · exact ⟨ar.isI, r, _, -t, b, c, 1, rfl, ar, .inr ⟨rfl, rfl⟩, low_neg lo, lo2, St.neg, Sb, Sc, Sd, qz, k.mo s⟩

theorem ok_Amount_isub {A fI pO gO pN gN f : Addr} {mc : Value} {fd : FuncData} (F : Fun K "__isub__" "Amount.__isub__" s_Amount_isub f fd) (T : Txt K mg) (U : AmC K mg A fI pO gO pN gN mc) {fdO fdN : FuncData} (FO : FnOk P w K mg base CX0 4 gO fdO ["number"] (spOf A)) (bO : Binds K fdO ["number"] []) (FN : FnOk P w K mg base CX0 2 gN fdN ["value"] (spIsNum A)) (bN : Binds K fdN ["value"] []) {gX : Addr} {fSub : Addr} {fdSub : FuncData} (FSub : FnOk P w K mg base CX0 6 fSub fdSub ["self", "other"] (spBin A 3900 pSub qBD)) (bSub : Binds K fdSub ["self", "other"] []) (Osub : PySem.HXO.OwnOp K A .Sub fSub gX) : FnOk P w K mg base CX0 7 f fd ["self", "other"] (spBin A 3900 pSub qBD) := by
  refine F.ok sc_Amount_isub (fun vs H Q E h => ?_) (fun cdv A' outer s H vs Q E hr h => ?_)
  · obtain ⟨a, v, t, b, c, d, rfl, _⟩ := h
    rfl
  · obtain ⟨a, v, t, b, c, d, rfl, am, n, lo, lo2, St, Sb, Sc, Sd, qz, k⟩ := h
    refine ⟨_, (pss_one (ps_ret (pe_op (op_owL PySem.HXO.io_sub Osub FSub bSub (hr.mono (by decide)) pass0) (pc 0) (pc 1)))), ?_⟩
    rcases n with ⟨y, rfl, an⟩ | ⟨rfl, rfl⟩
    · exact ⟨am.isI, an.isI, a, _, t, b, c, d, rfl, am, .inl ⟨y, rfl, an⟩, lo, lo2, St, Sb, Sc, Sd, qz, k⟩
    · exact ⟨am.isI, a, _, t, b, c, 1, rfl, am, .inr ⟨rfl, rfl⟩, lo, lo2, St, Sb, Sc, Sd, qz, k⟩

theorem ok_Amount_floordiv {A fI pO gO pN gN f : Addr} {mc : Value} {fd : FuncData} (F : Fun K "__floordiv__" "Amount.__floordiv__" s_Amount_floordiv f fd) (T : Txt K mg) (U : AmC K mg A fI pO gO pN gN mc) {fdO fdN : FuncData} (FO : FnOk P w K mg base CX0 4 gO fdO ["number"] (spOf A)) (bO : Binds K fdO ["number"] []) (FN : FnOk P w K mg base CX0 2 gN fdN ["value"] (spIsNum A)) (bN : Binds K fdN ["value"] []) {fOver : Addr} {fdOver : FuncData} (FOver : FnOk P w K mg base CX0 5 fOver fdOver ["self", "number"] (spBin A 3900 pOver qBC)) (bOver : Binds K fdOver ["self", "number"] []) (mOver : Meth K A "over" fOver) : FnOk P w K mg base CX0 6 f fd ["self", "other"] (spFl A pOver qBC) := by
  refine F.ok sc_Amount_floordiv (fun vs H Q E h => ?_) (fun cdv A' outer s H vs Q E hr h => ?_)
  · obtain ⟨a, v, t, b, c, d, rfl, _⟩ := h
    rfl
  · obtain ⟨a, v, t, b, c, d, rfl, am, n, lo, lo2, St, Sb, Sc, Sd, qz, k⟩ := h
    refine ⟨_, (pss_cons (s_if (pt_not (t_val (pe_sm (p_gc U.g_Amount) U.sN FN bN (hr.mono (by decide)) pass0 (pa_cons (pc 1) pa_nil)))) (pss_one ps_dead) pss_nil)
    (pss_cons (ps_set (i := 2) sc_Amount_floordiv.nd rfl (Or.inl rfl) (pe_meth (pc 0) U.cls mOver FOver (hr.mono (by decide)) bOver .nil pass0 (pa_cons (pc 1) pa_nil)))
    (pss_one (ps_ret (pe_op o_fdivZ (pe_fld (pc 2) rfl) (pe_fld (pc 2) rfl)))))), ?_⟩
    refine ⟨rfl, v, c, d, rfl, n, ⟨fun h => absurd h (by decide), fun _ => ?_⟩⟩
    obtain ⟨dx, e⟩ := id am
    refine ⟨a, dx, _, rfl, e, rfl, a, v, t, b, c, d, rfl, am, n, lo, lo2, St, Sb, Sc, Sd, qz, fun r G n' s ar => ?_⟩
    obtain ⟨dr, er⟩ := ar
    have z : (nT (pOver t b c d) (qBC t b c d)).fdiv (nB (pOver t b c d) (qBC t b c d)) = (pOver t b c d).fdiv (qBC t b c d) := by
      rw [Int.fdiv_eq_ediv_of_nonneg _ (Int.le_of_lt (nB_pos qz)), floor_n qz]
    refine ⟨r, A, _, _, _, rfl, er, U.cls, U.nT, rfl, r, A, _, _, _, rfl, er, U.cls, U.nB, rfl, (((Sb.mul Sc).nB (p := pOver t b c d) qz : Sm 7800 _)).cDiv (Int.ne_of_gt (nB_pos qz)), ?_⟩
    show Q (.int ((nT (pOver t b c d) (qBC t b c d)).fdiv (nB (pOver t b c d) (qBC t b c d)))) G
    rw [z]
    exact k G s

def pRfl (_ b c _ : Int) : Int := c * b
def qDT (t _ _ d : Int) : Int := d * t

theorem ok_Amount_rfloordiv {A fI pO gO pN gN f : Addr} {mc : Value} {fd : FuncData} (F : Fun K "__rfloordiv__" "Amount.__rfloordiv__" s_Amount_rfloordiv f fd) (T : Txt K mg) (U : AmC K mg A fI pO gO pN gN mc) {fdO fdN : FuncData} (FO : FnOk P w K mg base CX0 4 gO fdO ["number"] (spOf A)) (bO : Binds K fdO ["number"] []) (FN : FnOk P w K mg base CX0 2 gN fdN ["value"] (spIsNum A)) (bN : Binds K fdN ["value"] []) {gX : Addr} {fFlo : Addr} {fdFlo : FuncData} (FFlo : FnOk P w K mg base CX0 6 fFlo fdFlo ["self", "other"] (spFl A pOver qBC)) (bFlo : Binds K fdFlo ["self", "other"] []) (Ofdiv : PySem.HXO.OwnOp K A .FloorDiv fFlo gX) : FnOk P w K mg base CX0 7 f fd ["self", "other"] (spFl A pRfl qDT) := by
  refine F.ok sc_Amount_rfloordiv (fun vs H Q E h => ?_) (fun cdv A' outer s H vs Q E hr h => ?_)
  · obtain ⟨a, v, t, b, c, d, rfl, _⟩ := h
    rfl
  · obtain ⟨a, v, t, b, c, d, rfl, am, n, lo, lo2, St, Sb, Sc, Sd, qz, k⟩ := h
    refine ⟨_, (pss_cons (s_if (pt_not (t_val (pe_sm (p_gc U.g_Amount) U.sN FN bN (hr.mono (by decide)) pass0 (pa_cons (pc 1) pa_nil)))) (pss_one ps_dead) pss_nil)
    (pss_one (ps_ret (pe_op (op_owL PySem.HXO.io_fdiv Ofdiv FFlo bFlo (hr.mono (by decide)) pass0) (pe_sm (p_gc U.g_Amount) U.sO FO bO (hr.mono (by decide)) pass0 (pa_cons (pc 1) pa_nil)) (pc 0))))), ?_⟩
    refine ⟨rfl, v, c, d, rfl, n, ⟨fun h => absurd h (by decide), fun _ => ⟨rfl, v, c, d, rfl, n, Sc.mono (by decide), fun r G s ar => ?_⟩⟩⟩
    exact ⟨ar.isI, (am.mo s).isI, r, _, c, d, t, b, rfl, ar, .inl ⟨a, rfl, am.mo s⟩, lo2, lo, Sc, Sd, St, Sb, qz, fun G' s' => k G' (s.trans s')⟩

theorem ok_Amount_ifloordiv {A fI pO gO pN gN f : Addr} {mc : Value} {fd : FuncData} (F : Fun K "__ifloordiv__" "Amount.__ifloordiv__" s_Amount_ifloordiv f fd) (T : Txt K mg) (U : AmC K mg A fI pO gO pN gN mc) {fdO fdN : FuncData} (FO : FnOk P w K mg base CX0 4 gO fdO ["number"] (spOf A)) (bO : Binds K fdO ["number"] []) (FN : FnOk P w K mg base CX0 2 gN fdN ["value"] (spIsNum A)) (bN : Binds K fdN ["value"] []) {gX : Addr} {fFlo : Addr} {fdFlo : FuncData} (FFlo : FnOk P w K mg base CX0 6 fFlo fdFlo ["self", "other"] (spFl A pOver qBC)) (bFlo : Binds K fdFlo ["self", "other"] []) (Ofdiv : PySem.HXO.OwnOp K A .FloorDiv fFlo gX) : FnOk P w K mg base CX0 7 f fd ["self", "other"] (spFl A pOver qBC) := by
  refine F.ok sc_Amount_ifloordiv (fun vs H Q E h => ?_) (fun cdv A' outer s H vs Q E hr h => ?_)
  · obtain ⟨a, v, t, b, c, d, rfl, _⟩ := h
    rfl
  · obtain ⟨a, v, t, b, c, d, rfl, am, n, lo, lo2, St, Sb, Sc, Sd, qz, k⟩ := h
    refine ⟨_, (pss_one (ps_ret (pe_op (op_owL PySem.HXO.io_fdiv Ofdiv FFlo bFlo (hr.mono (by decide)) pass0) (pc 0) (pc 1)))), ?_⟩
    rcases n with ⟨y, rfl, an⟩ | ⟨rfl, rfl⟩
    · exact ⟨am.isI, an.isI, a, _, t, b, c, d, rfl, am, .inl ⟨y, rfl, an⟩, lo, lo2, St, Sb, Sc, Sd, qz, k⟩
    · exact ⟨am.isI, a, _, t, b, c, 1, rfl, am, .inr ⟨rfl, rfl⟩, lo, lo2, St, Sb, Sc, Sd, qz, k⟩

/-- the rest: x - (x // y) * y -/
def modX (t b c d : Int) : Int := nT (c * (pOver t b c d).fdiv (qBC t b c d)) (d * 1)
def modY (t b c d : Int) : Int := nB (c * (pOver t b c d).fdiv (qBC t b c d)) (d * 1)
def spMod (A : Addr) : Sp := fun vs H Q _ => ∃ (a : Addr) (v : V) (t b c d : Int), vs = [.ref a, v] ∧ Am A H a t b ∧ Nu A H v c d ∧ Low t b ∧ Low c d ∧ Sm 1200 t ∧ Sm 1200 b ∧ Sm 1200 c ∧ Sm 1200 d ∧ c ≠ 0 ∧
  QA A H Q (nT (t * modY t b c d + -modX t b c d * b) (b * modY t b c d)) (nB (t * modY t b c d + -modX t b c d * b) (b * modY t b c d))
theorem sm_fdiv {n : Nat} {p q : Int} (h : Sm n p) (z : q ≠ 0) : Sm (n + 1) (p.fdiv q) := by
  rw [← floor_n z]
  have b := nB_pos (p := p) z
  have t := h.nT z
  unfold Sm at *
  have e1 : (nT p q / nB p q).natAbs ≤ (nT p q).natAbs := Int.natAbs_ediv_le_natAbs _ _
  rw [Nat.pow_succ]
  omega
theorem mod_sm {t b c d : Int} (lo : Low t b) (lo2 : Low c d) (St : Sm 1200 t) (Sb : Sm 1200 b) (Sc : Sm 1200 c) (Sd : Sm 1200 d) (cz : c ≠ 0) : Sm 3900 ((pOver t b c d).fdiv (qBC t b c d)) ∧ Sm 3900 (modX t b c d) ∧ Sm 3900 (modY t b c d) ∧ 0 < modY t b c d ∧ Low (modX t b c d) (modY t b c d) := by
  have qz : qBC t b c d ≠ 0 := Int.mul_ne_zero (by have := lo.1; omega) cz
  have m := (sm_fdiv (St.mul Sd) qz).mono (show 1200 + 1200 + 1 ≤ 3900 by decide)
  have dz : d * 1 ≠ 0 := by have := lo2.1; omega
  have m1 := sm_fdiv (St.mul Sd) qz
  refine ⟨m, ((Sc.mul m1).mono (by decide)).nT dz, ((Sd.mul sm_one).mono (by decide)).nB dz, nB_pos dz, low_n dz⟩

theorem ok_Amount_mod {A fI pO gO pN gN f : Addr} {mc : Value} {fd : FuncData} (F : Fun K "__mod__" "Amount.__mod__" s_Amount_mod f fd) (T : Txt K mg) (U : AmC K mg A fI pO gO pN gN mc) {gX1 gX2 gX3 : Addr} {fFlo : Addr} {fdFlo : FuncData} (FFlo : FnOk P w K mg base CX0 6 fFlo fdFlo ["self", "other"] (spFl A pOver qBC)) (bFlo : Binds K fdFlo ["self", "other"] []) (Ofdiv : PySem.HXO.OwnOp K A .FloorDiv fFlo gX1) {fRm : Addr} {fdRm : FuncData} (FRm : FnOk P w K mg base CX0 6 fRm fdRm ["self", "other"] (spBin A 3900 pMul qBD)) (bRm : Binds K fdRm ["self", "other"] []) (Omul : PySem.HXO.OwnOp K A .Mult gX2 fRm) {fSub : Addr} {fdSub : FuncData} (FSub : FnOk P w K mg base CX0 6 fSub fdSub ["self", "other"] (spBin A 3900 pSub qBD)) (bSub : Binds K fdSub ["self", "other"] []) (Osub : PySem.HXO.OwnOp K A .Sub fSub gX3) : FnOk P w K mg base CX0 7 f fd ["self", "other"] (spMod A) := by
  refine F.ok sc_Amount_mod (fun vs H Q E h => ?_) (fun cdv A' outer s H vs Q E hr h => ?_)
  · obtain ⟨a, v, t, b, c, d, rfl, _⟩ := h
    rfl
  · obtain ⟨a, v, t, b, c, d, rfl, am, n, lo, lo2, St, Sb, Sc, Sd, cz, k⟩ := h
    refine ⟨_, (pss_one (ps_ret (pe_op (op_owL PySem.HXO.io_sub Osub FSub bSub (hr.mono (by decide)) pass0) (pc 0) (pe_op (op_owR PySem.HXO.io_mul o_mulW Omul FRm bRm (hr.mono (by decide)) pass0) (pe_op (op_owL PySem.HXO.io_fdiv Ofdiv FFlo bFlo (hr.mono (by decide)) pass0) (pc 0) (pc 1)) (pc 1))))), ?_⟩
    obtain ⟨m1, x1, y1, y0, lxy⟩ := mod_sm lo lo2 St Sb Sc Sd cz
    have bz : b ≠ 0 := by have := lo.1; omega
    have dz : d * 1 ≠ 0 := by have := lo2.1; omega
    have qz : qBC t b c d ≠ 0 := Int.mul_ne_zero bz cz
    rcases n with ⟨y, rfl, an⟩ | ⟨rfl, rfl⟩
    · refine ⟨am.isI, an.isI, a, _, t, b, c, d, rfl, am, .inl ⟨y, rfl, an⟩, lo, lo2, St.mono (by decide), Sb.mono (by decide), Sc.mono (by decide), Sd.mono (by decide), qz, fun G s => ?_⟩
      refine ⟨(an.mo s).isI, y, _, c, d, _, 1, rfl, an.mo s, .inr ⟨rfl, rfl⟩, lo2, low_int _, Sc.mono (by decide), Sd.mono (by decide), m1, sm_one.mono (by decide), dz, fun r G2 n2 s2 ar => ?_⟩
      exact ⟨(am.mo (s.trans s2)).isI, ar.isI, a, _, t, b, modX t b c d, modY t b c d, rfl, am.mo (s.trans s2), .inl ⟨r, rfl, ar⟩, lo, lxy, St.mono (by decide), Sb.mono (by decide), x1, y1, Int.mul_ne_zero bz (Int.ne_of_gt y0), k.mo (s.trans s2)⟩
    · refine ⟨am.isI, a, _, t, b, c, 1, rfl, am, .inr ⟨rfl, rfl⟩, lo, lo2, St.mono (by decide), Sb.mono (by decide), Sc.mono (by decide), Sd.mono (by decide), qz, fun G s => ?_⟩
      have z := n_self (low_int (c * (pOver t b c 1).fdiv (qBC t b c 1)))
      have ex : modX t b c 1 = (pOver t b c 1).fdiv (qBC t b c 1) * c := by
        unfold modX
        rw [Int.mul_comm _ c]
        exact z.1
      have ey : modY t b c 1 = 1 := z.2
      rw [ex] at x1 k
      rw [ey] at k
      exact ⟨m1.cMul (Sc.mono (by decide : 1200 ≤ 3900)), (am.mo s).isI, a, _, t, b, _, 1, rfl, am.mo s, .inr ⟨rfl, rfl⟩, lo, low_int _, St.mono (by decide), Sb.mono (by decide), x1, sm_one.mono (by decide), Int.mul_ne_zero bz (by decide), k.mo s⟩

/-- the rest with an int on the left -/
def rmX (t b c : Int) : Int := nT (t * (pRfl t b c 1).fdiv (qDT t b c 1)) (b * 1)
def rmY (t b c : Int) : Int := nB (t * (pRfl t b c 1).fdiv (qDT t b c 1)) (b * 1)
def spRmod (A : Addr) : Sp := fun vs H Q _ => ∃ (a : Addr) (t b c : Int), vs = [.ref a, .int c] ∧ Am A H a t b ∧ Low t b ∧ Sm 1200 t ∧ Sm 1200 b ∧ Sm 1200 c ∧ t ≠ 0 ∧
  QA A H Q (nT (-rmX t b c * 1 + c * rmY t b c) (rmY t b c * 1)) (nB (-rmX t b c * 1 + c * rmY t b c) (rmY t b c * 1))

theorem ok_Amount_rmod {A fI pO gO pN gN f : Addr} {mc : Value} {fd : FuncData} (F : Fun K "__rmod__" "Amount.__rmod__" s_Amount_rmod f fd) (T : Txt K mg) (U : AmC K mg A fI pO gO pN gN mc) {gX1 gX2 gX3 : Addr} {fRfl : Addr} {fdRfl : FuncData} (FRfl : FnOk P w K mg base CX0 7 fRfl fdRfl ["self", "other"] (spFl A pRfl qDT)) (bRfl : Binds K fdRfl ["self", "other"] []) (Ofdiv : PySem.HXO.OwnOp K A .FloorDiv gX1 fRfl) {fRm : Addr} {fdRm : FuncData} (FRm : FnOk P w K mg base CX0 6 fRm fdRm ["self", "other"] (spBin A 3900 pMul qBD)) (bRm : Binds K fdRm ["self", "other"] []) (Omul : PySem.HXO.OwnOp K A .Mult gX2 fRm) {fRs : Addr} {fdRs : FuncData} (FRs : FnOk P w K mg base CX0 6 fRs fdRs ["self", "other"] (spBin A 3900 pRsub qBD)) (bRs : Binds K fdRs ["self", "other"] []) (Osub : PySem.HXO.OwnOp K A .Sub gX3 fRs) : FnOk P w K mg base CX0 8 f fd ["self", "other"] (spRmod A) := by
  refine F.ok sc_Amount_rmod (fun vs H Q E h => ?_) (fun cdv A' outer s H vs Q E hr h => ?_)
  · obtain ⟨a, t, b, c, rfl, _⟩ := h
    rfl
  · obtain ⟨a, t, b, c, rfl, am, lo, St, Sb, Sc, tz, k⟩ := h
    refine ⟨_, (pss_one (ps_ret (pe_op (op_owR PySem.HXO.io_sub o_sub Osub FRs bRs (hr.mono (by decide)) pass0) (pc 1) (pe_op (op_owR PySem.HXO.io_mul o_mulW Omul FRm bRm (hr.mono (by decide)) pass0) (pe_op (op_owR PySem.HXO.io_fdiv o_fdivZ Ofdiv FRfl bRfl (hr.mono (by decide)) pass0) (pc 1) (pc 0)) (pc 0))))), ?_⟩
    have bz : b ≠ 0 := by have := lo.1; omega
    have bz1 : b * 1 ≠ 0 := by omega
    have qz : qDT t b c 1 ≠ 0 := Int.mul_ne_zero (by decide) tz
    have m1 := sm_fdiv (Sc.mul Sb) qz
    have x1 : Sm 3900 (rmX t b c) := ((St.mul m1).mono (by decide)).nT bz1
    have y1 : Sm 3900 (rmY t b c) := ((Sb.mul sm_one).mono (by decide)).nB bz1
    have y0 : 0 < rmY t b c := nB_pos bz1
    refine ⟨am.isI, a, _, t, b, c, 1, rfl, am, .inr ⟨rfl, rfl⟩, lo, low_int c, St.mono (by decide), Sb.mono (by decide), Sc.mono (by decide), sm_one.mono (by decide), qz, fun G s => ?_⟩
    refine ⟨(am.mo s).isI, a, _, t, b, _, 1, rfl, am.mo s, .inr ⟨rfl, rfl⟩, lo, low_int _, St.mono (by decide), Sb.mono (by decide), m1.mono (by decide), sm_one.mono (by decide), bz1, fun r G2 n2 s2 ar => ?_⟩
    exact ⟨ar.isI, r, _, rmX t b c, rmY t b c, c, 1, rfl, ar, .inr ⟨rfl, rfl⟩, low_n bz1, low_int c, x1, y1, Sc.mono (by decide), sm_one.mono (by decide), Int.mul_ne_zero (Int.ne_of_gt y0) (by decide), k.mo (s.trans s2)⟩

theorem ok_Amount_imod {A fI pO gO pN gN f : Addr} {mc : Value} {fd : FuncData} (F : Fun K "__imod__" "Amount.__imod__" s_Amount_imod f fd) (T : Txt K mg) (U : AmC K mg A fI pO gO pN gN mc) {gX : Addr} {fMod : Addr} {fdMod : FuncData} (FMod : FnOk P w K mg base CX0 7 fMod fdMod ["self", "other"] (spMod A)) (bMod : Binds K fdMod ["self", "other"] []) (Omod : PySem.HXO.OwnOp K A .Mod fMod gX) : FnOk P w K mg base CX0 8 f fd ["self", "other"] (spMod A) := by
  refine F.ok sc_Amount_imod (fun vs H Q E h => ?_) (fun cdv A' outer s H vs Q E hr h => ?_)
  · obtain ⟨a, v, t, b, c, d, rfl, _⟩ := h
    rfl
  · obtain ⟨a, v, t, b, c, d, rfl, am, n, lo, lo2, St, Sb, Sc, Sd, cz, k⟩ := h
    refine ⟨_, (pss_one (ps_ret (pe_op (op_owL PySem.HXO.io_mod Omod FMod bMod (hr.mono (by decide)) pass0) (pc 0) (pc 1)))), ?_⟩
    rcases n with ⟨y, rfl, an⟩ | ⟨rfl, rfl⟩
    · exact ⟨am.isI, an.isI, a, _, t, b, c, d, rfl, am, .inl ⟨y, rfl, an⟩, lo, lo2, St, Sb, Sc, Sd, cz, k⟩
    · exact ⟨am.isI, a, _, t, b, c, 1, rfl, am, .inr ⟨rfl, rfl⟩, lo, lo2, St, Sb, Sc, Sd, cz, k⟩

def spCmp (A : Addr) (g : Int → Int → Int → Int → Bool) : Sp := fun vs H Q _ => ∃ (a : Addr) (v : V) (t b c d : Int), vs = [.ref a, v] ∧ Am A H a t b ∧ Nu A H v c d ∧ Low t b ∧ Low c d ∧ Sm 3900 t ∧ Sm 3900 b ∧ Sm 3900 c ∧ Sm 3900 d ∧ ∀ G, Same H G → Q (.bl (g t b c d)) G
theorem n_sign {p q : Int} (h : 0 < q) : (nT p q < 0 ↔ p < 0) ∧ (nT p q ≤ 0 ↔ p ≤ 0) := by
  have z := cross (p := p) (Int.ne_of_gt h)
  have b := nB_pos (p := p) (Int.ne_of_gt h)
  refine ⟨⟨fun l => ?_, fun l => ?_⟩, ⟨fun l => ?_, fun l => ?_⟩⟩
  · have x : nT p q * q < 0 := Int.mul_neg_of_neg_of_pos l h
    rw [z] at x
    rcases Int.lt_or_le p 0 with y | y
    · exact y
    · have := Int.mul_nonneg y (Int.le_of_lt b)
      omega
  · have x : p * nB p q < 0 := Int.mul_neg_of_neg_of_pos l b
    rw [← z] at x
    rcases Int.lt_or_le (nT p q) 0 with y | y
    · exact y
    · have := Int.mul_nonneg y (Int.le_of_lt h)
      omega
  · have x : nT p q * q ≤ 0 := Int.mul_nonpos_of_nonpos_of_nonneg l (Int.le_of_lt h)
    rw [z] at x
    rcases Int.lt_or_le 0 p with y | y
    · have := Int.mul_pos y b
      omega
    · exact y
  · have x : p * nB p q ≤ 0 := Int.mul_nonpos_of_nonpos_of_nonneg l (Int.le_of_lt b)
    rw [← z] at x
    rcases Int.lt_or_le 0 (nT p q) with y | y
    · have := Int.mul_pos y h
      omega
    · exact y
def gLt (t b c d : Int) : Bool := decide (t * d + -c * b < 0)
def gLe (t b c d : Int) : Bool := decide (t * d + -c * b ≤ 0)
def gGt (t b c d : Int) : Bool := decide (0 < t * d + -c * b)
def gGe (t b c d : Int) : Bool := decide (0 ≤ t * d + -c * b)

theorem ok_Amount_lt {A fI pO gO pN gN f : Addr} {mc : Value} {fd : FuncData} (F : Fun K "__lt__" "Amount.__lt__" s_Amount_lt f fd) (T : Txt K mg) (U : AmC K mg A fI pO gO pN gN mc) {fdO fdN : FuncData} (FO : FnOk P w K mg base CX0 4 gO fdO ["number"] (spOf A)) (bO : Binds K fdO ["number"] []) (FN : FnOk P w K mg base CX0 2 gN fdN ["value"] (spIsNum A)) (bN : Binds K fdN ["value"] []) : FnOk P w K mg base CX0 5 f fd ["self", "other"] (spCmp A gLt) := by
  refine F.ok sc_Amount_lt (fun vs H Q E h => ?_) (fun cdv A' outer s H vs Q E hr h => ?_)
  · obtain ⟨a, v, t, b, c, d, rfl, _⟩ := h
    rfl
  · obtain ⟨a, v, t, b, c, d, rfl, am, n, lo, lo2, St, Sb, Sc, Sd, k⟩ := h
    refine ⟨_, (pss_cons (s_if (pt_not (t_val (pe_sm (p_gc U.g_Amount) U.sN FN bN (hr.mono (by decide)) pass0 (pa_cons (pc 1) pa_nil)))) (pss_one ps_dead) pss_nil)
    (pss_cons (ps_set (i := 2) sc_Amount_lt.nd rfl (Or.inl rfl) (pe_sm (p_gc U.g_Amount) U.sO FO bO (hr.mono (by decide)) pass0 (pa_cons (pc 1) pa_nil)))
    (pss_one (ps_ret (p_cmp o_lt (pe_op o_mulW (pe_fld (pc 0) rfl) (pe_fld (pc 2) rfl)) (pe_op o_mulW (pe_fld (pc 2) rfl) (pe_fld (pc 0) rfl))))))), ?_⟩
    refine ⟨rfl, v, c, d, rfl, n, ⟨fun h => absurd h (by decide), fun _ => ⟨rfl, v, c, d, rfl, n, Sc.mono (by decide), fun r G s a2 => ?_⟩⟩⟩
    obtain ⟨dx, e⟩ := am.mo s
    obtain ⟨dr, er⟩ := a2
    refine ⟨a, A, _, _, _, rfl, e, U.cls, U.nT, rfl, r, A, _, _, _, rfl, er, U.cls, U.nB, rfl, St.cMul Sd, r, A, _, _, _, rfl, er, U.cls, U.nT, rfl, a, A, _, _, _, rfl, e, U.cls, U.nB, rfl, Sc.cMul Sb, ?_⟩
    show Q (.bl (decide (t * d < c * b))) G
    rw [show decide (t * d < c * b) = gLt t b c d from by unfold gLt; rw [Int.neg_mul]; exact decide_eq_decide.mpr (by omega)]
    exact k G s

theorem ok_Amount_le {A fI pO gO pN gN f : Addr} {mc : Value} {fd : FuncData} (F : Fun K "__le__" "Amount.__le__" s_Amount_le f fd) (T : Txt K mg) (U : AmC K mg A fI pO gO pN gN mc) {fdO fdN : FuncData} (FO : FnOk P w K mg base CX0 4 gO fdO ["number"] (spOf A)) (bO : Binds K fdO ["number"] []) (FN : FnOk P w K mg base CX0 2 gN fdN ["value"] (spIsNum A)) (bN : Binds K fdN ["value"] []) : FnOk P w K mg base CX0 5 f fd ["self", "other"] (spCmp A gLe) := by
  refine F.ok sc_Amount_le (fun vs H Q E h => ?_) (fun cdv A' outer s H vs Q E hr h => ?_)
  · obtain ⟨a, v, t, b, c, d, rfl, _⟩ := h
    rfl
  · obtain ⟨a, v, t, b, c, d, rfl, am, n, lo, lo2, St, Sb, Sc, Sd, k⟩ := h
    refine ⟨_, (pss_cons (s_if (pt_not (t_val (pe_sm (p_gc U.g_Amount) U.sN FN bN (hr.mono (by decide)) pass0 (pa_cons (pc 1) pa_nil)))) (pss_one ps_dead) pss_nil)
    (pss_cons (ps_set (i := 2) sc_Amount_le.nd rfl (Or.inl rfl) (pe_sm (p_gc U.g_Amount) U.sO FO bO (hr.mono (by decide)) pass0 (pa_cons (pc 1) pa_nil)))
    (pss_one (ps_ret (p_cmp o_le (pe_op o_mulW (pe_fld (pc 0) rfl) (pe_fld (pc 2) rfl)) (pe_op o_mulW (pe_fld (pc 2) rfl) (pe_fld (pc 0) rfl))))))), ?_⟩
    refine ⟨rfl, v, c, d, rfl, n, ⟨fun h => absurd h (by decide), fun _ => ⟨rfl, v, c, d, rfl, n, Sc.mono (by decide), fun r G s a2 => ?_⟩⟩⟩
    obtain ⟨dx, e⟩ := am.mo s
    obtain ⟨dr, er⟩ := a2
    refine ⟨a, A, _, _, _, rfl, e, U.cls, U.nT, rfl, r, A, _, _, _, rfl, er, U.cls, U.nB, rfl, St.cMul Sd, r, A, _, _, _, rfl, er, U.cls, U.nT, rfl, a, A, _, _, _, rfl, e, U.cls, U.nB, rfl, Sc.cMul Sb, ?_⟩
    show Q (.bl (decide (t * d ≤ c * b))) G
    rw [show decide (t * d ≤ c * b) = gLe t b c d from by unfold gLe; rw [Int.neg_mul]; exact decide_eq_decide.mpr (by omega)]
    exact k G s

theorem ok_Amount_gt {A fI pO gO pN gN f : Addr} {mc : Value} {fd : FuncData} (F : Fun K "__gt__" "Amount.__gt__" s_Amount_gt f fd) (T : Txt K mg) (U : AmC K mg A fI pO gO pN gN mc) {fdO fdN : FuncData} (FO : FnOk P w K mg base CX0 4 gO fdO ["number"] (spOf A)) (bO : Binds K fdO ["number"] []) (FN : FnOk P w K mg base CX0 2 gN fdN ["value"] (spIsNum A)) (bN : Binds K fdN ["value"] []) : FnOk P w K mg base CX0 5 f fd ["self", "other"] (spCmp A gGt) := by
  refine F.ok sc_Amount_gt (fun vs H Q E h => ?_) (fun cdv A' outer s H vs Q E hr h => ?_)
  · obtain ⟨a, v, t, b, c, d, rfl, _⟩ := h
    rfl
  · obtain ⟨a, v, t, b, c, d, rfl, am, n, lo, lo2, St, Sb, Sc, Sd, k⟩ := h
    refine ⟨_, (pss_cons (s_if (pt_not (t_val (pe_sm (p_gc U.g_Amount) U.sN FN bN (hr.mono (by decide)) pass0 (pa_cons (pc 1) pa_nil)))) (pss_one ps_dead) pss_nil)
    (pss_cons (ps_set (i := 2) sc_Amount_gt.nd rfl (Or.inl rfl) (pe_sm (p_gc U.g_Amount) U.sO FO bO (hr.mono (by decide)) pass0 (pa_cons (pc 1) pa_nil)))
    (pss_one (ps_ret (p_cmp o_gt (pe_op o_mulW (pe_fld (pc 0) rfl) (pe_fld (pc 2) rfl)) (pe_op o_mulW (pe_fld (pc 2) rfl) (pe_fld (pc 0) rfl))))))), ?_⟩
    refine ⟨rfl, v, c, d, rfl, n, ⟨fun h => absurd h (by decide), fun _ => ⟨rfl, v, c, d, rfl, n, Sc.mono (by decide), fun r G s a2 => ?_⟩⟩⟩
    obtain ⟨dx, e⟩ := am.mo s
    obtain ⟨dr, er⟩ := a2
    refine ⟨a, A, _, _, _, rfl, e, U.cls, U.nT, rfl, r, A, _, _, _, rfl, er, U.cls, U.nB, rfl, St.cMul Sd, r, A, _, _, _, rfl, er, U.cls, U.nT, rfl, a, A, _, _, _, rfl, e, U.cls, U.nB, rfl, Sc.cMul Sb, ?_⟩
    show Q (.bl (decide (c * b < t * d))) G
    rw [show decide (c * b < t * d) = gGt t b c d from by unfold gGt; rw [Int.neg_mul]; exact decide_eq_decide.mpr (by omega)]
    exact k G s

theorem ok_Amount_ge {A fI pO gO pN gN f : Addr} {mc : Value} {fd : FuncData} (F : Fun K "__ge__" "Amount.__ge__" s_Amount_ge f fd) (T : Txt K mg) (U : AmC K mg A fI pO gO pN gN mc) {fdO fdN : FuncData} (FO : FnOk P w K mg base CX0 4 gO fdO ["number"] (spOf A)) (bO : Binds K fdO ["number"] []) (FN : FnOk P w K mg base CX0 2 gN fdN ["value"] (spIsNum A)) (bN : Binds K fdN ["value"] []) : FnOk P w K mg base CX0 5 f fd ["self", "other"] (spCmp A gGe) := by
  refine F.ok sc_Amount_ge (fun vs H Q E h => ?_) (fun cdv A' outer s H vs Q E hr h => ?_)
  · obtain ⟨a, v, t, b, c, d, rfl, _⟩ := h
    rfl
  · obtain ⟨a, v, t, b, c, d, rfl, am, n, lo, lo2, St, Sb, Sc, Sd, k⟩ := h
    refine ⟨_, (pss_cons (s_if (pt_not (t_val (pe_sm (p_gc U.g_Amount) U.sN FN bN (hr.mono (by decide)) pass0 (pa_cons (pc 1) pa_nil)))) (pss_one ps_dead) pss_nil)
    (pss_cons (ps_set (i := 2) sc_Amount_ge.nd rfl (Or.inl rfl) (pe_sm (p_gc U.g_Amount) U.sO FO bO (hr.mono (by decide)) pass0 (pa_cons (pc 1) pa_nil)))
    (pss_one (ps_ret (p_cmp o_ge (pe_op o_mulW (pe_fld (pc 0) rfl) (pe_fld (pc 2) rfl)) (pe_op o_mulW (pe_fld (pc 2) rfl) (pe_fld (pc 0) rfl))))))), ?_⟩
    refine ⟨rfl, v, c, d, rfl, n, ⟨fun h => absurd h (by decide), fun _ => ⟨rfl, v, c, d, rfl, n, Sc.mono (by decide), fun r G s a2 => ?_⟩⟩⟩
    obtain ⟨dx, e⟩ := am.mo s
    obtain ⟨dr, er⟩ := a2
    refine ⟨a, A, _, _, _, rfl, e, U.cls, U.nT, rfl, r, A, _, _, _, rfl, er, U.cls, U.nB, rfl, St.cMul Sd, r, A, _, _, _, rfl, er, U.cls, U.nT, rfl, a, A, _, _, _, rfl, e, U.cls, U.nB, rfl, Sc.cMul Sb, ?_⟩
    show Q (.bl (decide (c * b ≤ t * d))) G
    rw [show decide (c * b ≤ t * d) = gGe t b c d from by unfold gGe; rw [Int.neg_mul]; exact decide_eq_decide.mpr (by omega)]
    exact k G s

def gEq (t b c d : Int) : Bool := decide (t = c) && decide (b = d)
def spCmpW (A : Addr) (g : Int → Int → Int → Int → Bool) : Sp := fun vs H Q _ => ∃ (a : Addr) (v : V) (t b c d : Int), vs = [.ref a, v] ∧ Am A H a t b ∧ Nu A H v c d ∧ Low t b ∧ Low c d ∧ Sm 7800 t ∧ Sm 7800 b ∧ Sm 7800 c ∧ Sm 7800 d ∧ ∀ G, Same H G → Q (.bl (g t b c d)) G

theorem ok_Amount_eq {A fI pO gO pN gN f : Addr} {mc : Value} {fd : FuncData} (F : Fun K "__eq__" "Amount.__eq__" s_Amount_eq f fd) (T : Txt K mg) (U : AmC K mg A fI pO gO pN gN mc) (cI : CalO P w K mg base "is_int" 1 ["value"] (spIsInt A) (fun _ => True)) : FnOk P w K mg base CX0 5 f fd ["self", "other"] (spCmp A gEq) := by
  refine F.ok sc_Amount_eq (fun vs H Q E h => ?_) (fun cdv A' outer s H vs Q E hr h => ?_)
  · obtain ⟨a, v, t, b, c, d, rfl, _⟩ := h
    rfl
  · obtain ⟨a, v, t, b, c, d, rfl, am, n, lo, lo2, St, Sb, Sc, Sd, k⟩ := h
    refine ⟨_, (pss_cons (s_if (t_val (pe_callB c_isi (by rfl) T.b_isinstance (by decide +kernel) (pa_cons (pc 1) (pa_cons (p_gc U.g_Amount) pa_nil)))) (pss_one (ps_ret (e_and (p_cmp (o_eq hr.units) (pe_fld (pc 0) rfl) (pe_fld (pc 1) rfl)) (pe_one (p_cmp (o_eq hr.units) (pe_fld (pc 0) rfl) (pe_fld (pc 1) rfl)))))) pss_nil)
    (pss_one (ps_ret (e_and (pe_cO cI (hr.mono (by decide)) (pa_cons (pc 1) pa_nil)) (e_and (p_cmp (o_eq hr.units) (pe_fld (pc 0) rfl) pe_int) (pe_one (p_cmp (o_eq hr.units) (pe_fld (pc 0) rfl) (pc 1)))))))), ?_⟩
    rcases n with ⟨y, rfl, an⟩ | ⟨rfl, rfl⟩
    · obtain ⟨dx, e⟩ := id am
      obtain ⟨dr, er⟩ := id an
      refine ⟨_, _, _, _, true, rfl, .ins er U.cls U.ha U.hn U.ht U.hm, (fun u r => r), kit_self K A, ⟨fun _ => ?_, fun h => absurd h (by decide)⟩⟩
      refine ⟨a, A, _, _, _, rfl, e, U.cls, U.nT, rfl, y, A, _, _, _, rfl, er, U.cls, U.nT, rfl, ⟨fun x => ?_, fun x => ?_⟩⟩
      · have x : t = c := by simpa using x
        refine ⟨a, A, _, _, _, rfl, e, U.cls, U.nB, rfl, y, A, _, _, _, rfl, er, U.cls, U.nB, rfl, ?_⟩
        have z := k H (Same.refl H)
        rw [show gEq t b c d = xor false (decide (b = d)) by simp [gEq, x]] at z
        exact z
      · have x : ¬ t = c := by simpa using x
        have z := k H (Same.refl H)
        rw [show gEq t b c d = false by simp [gEq, x]] at z
        exact z
    · obtain ⟨dx, e⟩ := id am
      refine ⟨_, _, _, _, false, rfl, .int c, (fun u r => r), U.kA, ⟨fun h => absurd h (by decide), fun _ => ⟨_, rfl, .inl ⟨⟨c, rfl⟩, ⟨fun _ => ?_, fun h => absurd h (by decide)⟩⟩⟩⟩⟩
      refine ⟨a, A, _, _, _, rfl, e, U.cls, U.nB, rfl, ⟨fun x => ?_, fun x => ?_⟩⟩
      · have x : b = 1 := by simpa using x
        refine ⟨a, A, _, _, _, rfl, e, U.cls, U.nT, rfl, ?_⟩
        have z := k H (Same.refl H)
        rw [show gEq t b c 1 = xor false (decide (t = c)) by simp [gEq, x]] at z
        exact z
      · have x : ¬ b = 1 := by simpa using x
        have z := k H (Same.refl H)
        rw [show gEq t b c 1 = false by simp [gEq, x]] at z
        exact z

theorem ok_eqW {A fI pO gO pN gN f : Addr} {mc : Value} {fd : FuncData} (F : Fun K "__eq__" "Amount.__eq__" s_Amount_eq f fd) (T : Txt K mg) (U : AmC K mg A fI pO gO pN gN mc) (cI : CalO P w K mg base "is_int" 1 ["value"] (spIsInt A) (fun _ => True)) : FnOk P w K mg base CX0 5 f fd ["self", "other"] (spCmpW A gEq) := by
  refine F.ok sc_Amount_eq (fun vs H Q E h => ?_) (fun cdv A' outer s H vs Q E hr h => ?_)
  · obtain ⟨a, v, t, b, c, d, rfl, _⟩ := h
    rfl
  · obtain ⟨a, v, t, b, c, d, rfl, am, n, lo, lo2, St, Sb, Sc, Sd, k⟩ := h
    refine ⟨_, (pss_cons (s_if (t_val (pe_callB c_isi (by rfl) T.b_isinstance (by decide +kernel) (pa_cons (pc 1) (pa_cons (p_gc U.g_Amount) pa_nil)))) (pss_one (ps_ret (e_and (p_cmp (o_eq hr.units) (pe_fld (pc 0) rfl) (pe_fld (pc 1) rfl)) (pe_one (p_cmp (o_eq hr.units) (pe_fld (pc 0) rfl) (pe_fld (pc 1) rfl)))))) pss_nil)
    (pss_one (ps_ret (e_and (pe_cO cI (hr.mono (by decide)) (pa_cons (pc 1) pa_nil)) (e_and (p_cmp (o_eq hr.units) (pe_fld (pc 0) rfl) pe_int) (pe_one (p_cmp (o_eq hr.units) (pe_fld (pc 0) rfl) (pc 1)))))))), ?_⟩
    rcases n with ⟨y, rfl, an⟩ | ⟨rfl, rfl⟩
    · obtain ⟨dx, e⟩ := id am
      obtain ⟨dr, er⟩ := id an
      refine ⟨_, _, _, _, true, rfl, .ins er U.cls U.ha U.hn U.ht U.hm, (fun u r => r), kit_self K A, ⟨fun _ => ?_, fun h => absurd h (by decide)⟩⟩
      refine ⟨a, A, _, _, _, rfl, e, U.cls, U.nT, rfl, y, A, _, _, _, rfl, er, U.cls, U.nT, rfl, ⟨fun x => ?_, fun x => ?_⟩⟩
      · have x : t = c := by simpa using x
        refine ⟨a, A, _, _, _, rfl, e, U.cls, U.nB, rfl, y, A, _, _, _, rfl, er, U.cls, U.nB, rfl, ?_⟩
        have z := k H (Same.refl H)
        rw [show gEq t b c d = xor false (decide (b = d)) by simp [gEq, x]] at z
        exact z
      · have x : ¬ t = c := by simpa using x
        have z := k H (Same.refl H)
        rw [show gEq t b c d = false by simp [gEq, x]] at z
        exact z
    · obtain ⟨dx, e⟩ := id am
      refine ⟨_, _, _, _, false, rfl, .int c, (fun u r => r), U.kA, ⟨fun h => absurd h (by decide), fun _ => ⟨_, rfl, .inl ⟨⟨c, rfl⟩, ⟨fun _ => ?_, fun h => absurd h (by decide)⟩⟩⟩⟩⟩
      refine ⟨a, A, _, _, _, rfl, e, U.cls, U.nB, rfl, ⟨fun x => ?_, fun x => ?_⟩⟩
      · have x : b = 1 := by simpa using x
        refine ⟨a, A, _, _, _, rfl, e, U.cls, U.nT, rfl, ?_⟩
        have z := k H (Same.refl H)
        rw [show gEq t b c 1 = xor false (decide (t = c)) by simp [gEq, x]] at z
        exact z
      · have x : ¬ b = 1 := by simpa using x
        have z := k H (Same.refl H)
        rw [show gEq t b c 1 = false by simp [gEq, x]] at z
        exact z

def Kd (K : PySem.W.Frag) (A : Addr) (H : Hp) (x : V) (b1 b2 b3 : Bool) : Prop := ∃ t, TyOf K H x t ∧ PySem.W.kitOne K t (.type "int") = some b1 ∧ PySem.W.kitOne K t (.type "bool") = some b2 ∧ PySem.W.kitOne K t (.ref A) = some b3
def spIntG (K : PySem.W.Frag) (A : Addr) : Sp := fun vs H Q _ => ∃ x b1 b2 b3, vs = [x] ∧ Kd K A H x b1 b2 b3 ∧ Q (.bl (b1 && !b2)) H
def spNumG (K : PySem.W.Frag) (A : Addr) : Sp := fun vs H Q _ => ∃ x b1 b2 b3, vs = [x] ∧ Kd K A H x b1 b2 b3 ∧ Q (.bl ((b1 && !b2) || b3)) H
/-- == with what is no number -/
def spEqN (K : PySem.W.Frag) (A : Addr) : Sp := fun vs H Q _ => ∃ (a : Addr) (x : V) (b1 b2 : Bool), vs = [.ref a, x] ∧ IsI A H a ∧ Kd K A H x b1 b2 false ∧ (b1 && !b2) = false ∧ Q (.bl false) H

theorem ok_is_intG {A fI pO gO pN gN f : Addr} {mc : Value} {fd : FuncData} (F : Fun K "is_int" "is_int" s_is_int f fd) (T : Txt K mg) (U : AmC K mg A fI pO gO pN gN mc) : FnOk P w K mg base CX0 1 f fd ["value"] (spIntG K A) := by
  refine F.ok sc_is_int (fun vs H Q E h => ?_) (fun cdv A' outer s H vs Q E hr h => ?_)
  · obtain ⟨x, b1, b2, b3, rfl, _⟩ := h
    rfl
  · obtain ⟨x, b1, b2, b3, rfl, ⟨t, ty, k1, k2, k3⟩, k⟩ := h
    refine ⟨_, (pss_one (ps_ret (e_and (pe_callB c_isi (by rfl) T.b_isinstance (by decide +kernel) (pa_cons (pc 0) (pa_cons (pe_bltn (v := .ty "int") (u := .type "int") (by rfl) T.b_int (by decide +kernel) rfl) pa_nil))) (pe_one (e_not (pe_callB c_isi (by rfl) T.b_isinstance (by decide +kernel) (pa_cons (pc 0) (pa_cons (pe_bltn (v := .ty "bool") (u := .type "bool") (by rfl) T.b_bool (by decide +kernel) rfl) pa_nil)))))))), ?_⟩
    refine ⟨x, _, t, _, b1, rfl, ty, (fun u r => r), k1, ⟨fun e => ?_, fun e => ?_⟩⟩
    · subst e
      exact ⟨x, _, t, _, b2, rfl, ty, (fun u r => r), k2, k⟩
    · subst e
      exact k

theorem ok_is_numberG {A fI pO gO pN gN f : Addr} {mc : Value} {fd : FuncData} (F : Fun K "is_number" "Amount.is_number" s_Amount_is_number f fd) (T : Txt K mg) (U : AmC K mg A fI pO gO pN gN mc) (cG : CalO P w K mg base "is_int" 1 ["value"] (spIntG K A) (fun _ => True)) : FnOk P w K mg base CX0 2 f fd ["value"] (spNumG K A) := by
  refine F.ok sc_Amount_is_number (fun vs H Q E h => ?_) (fun cdv A' outer s H vs Q E hr h => ?_)
  · obtain ⟨x, b1, b2, b3, rfl, _⟩ := h
    rfl
  · obtain ⟨x, b1, b2, b3, rfl, kd, k⟩ := h
    refine ⟨_, (pss_one (ps_ret (e_or (pe_cO cG (hr.mono (by decide)) (pa_cons (pc 0) pa_nil)) (pe_one (pe_callB c_isi (by rfl) T.b_isinstance (by decide +kernel) (pa_cons (pc 0) (pa_cons (p_gc U.g_Amount) pa_nil))))))), ?_⟩
    refine ⟨x, b1, b2, b3, rfl, kd, ⟨fun e => ?_, fun e => ?_⟩⟩
    · rw [e] at k
      exact k
    · obtain ⟨t, ty, k1, k2, k3⟩ := kd
      rw [e] at k
      exact ⟨x, _, t, _, b3, rfl, ty, (fun u r => r), k3, by simpa using k⟩

theorem ok_eqN {A fI pO gO pN gN f : Addr} {mc : Value} {fd : FuncData} (F : Fun K "__eq__" "Amount.__eq__" s_Amount_eq f fd) (T : Txt K mg) (U : AmC K mg A fI pO gO pN gN mc) (cG : CalO P w K mg base "is_int" 1 ["value"] (spIntG K A) (fun _ => True)) : FnOk P w K mg base CX0 5 f fd ["self", "other"] (spEqN K A) := by
  refine F.ok sc_Amount_eq (fun vs H Q E h => ?_) (fun cdv A' outer s H vs Q E hr h => ?_)
  · obtain ⟨a, x, b1, b2, rfl, _⟩ := h
    rfl
  · obtain ⟨a, x, b1, b2, rfl, i1, ⟨t, ty, k1, k2, k3⟩, e, k⟩ := h
    refine ⟨_, (pss_cons (s_if (t_val (pe_callB c_isi (by rfl) T.b_isinstance (by decide +kernel) (pa_cons (pc 1) (pa_cons (p_gc U.g_Amount) pa_nil)))) (pss_one ps_dead) pss_nil)
    (pss_one (ps_ret (e_and (pe_cO cG (hr.mono (by decide)) (pa_cons (pc 1) pa_nil)) (e_and (p_cmp (o_eq hr.units) (pe_fld (pc 0) rfl) pe_int) (pe_one (p_cmp (o_eq hr.units) (pe_fld (pc 0) rfl) (pc 1)))))))), ?_⟩
    refine ⟨x, _, t, _, false, rfl, ty, (fun u r => r), k3, ⟨fun h => absurd h (by decide), fun _ => ⟨x, b1, b2, false, rfl, ⟨t, ty, k1, k2, k3⟩, ⟨fun z => ?_, fun _ => k⟩⟩⟩⟩
    rw [e] at z
    exact absurd z (by decide)

def spTruth (A : Addr) : Sp := fun vs H Q _ => ∃ (a : Addr) (t b : Int), vs = [.ref a] ∧ Am A H a t b ∧ Q (.bl (t != 0)) H
def spWhole (A : Addr) : Sp := fun vs H Q _ => ∃ (a : Addr) (t b : Int), vs = [.ref a] ∧ Am A H a t b ∧ Q (.bl (decide (b = 1))) H

theorem ok_Amount_bool {A fI pO gO pN gN f : Addr} {mc : Value} {fd : FuncData} (F : Fun K "__bool__" "Amount.__bool__" s_Amount_bool f fd) (T : Txt K mg) (U : AmC K mg A fI pO gO pN gN mc) : FnOk P w K mg base CX0 1 f fd ["self"] (spTruth A) := by
  refine F.ok sc_Amount_bool (fun vs H Q E h => ?_) (fun cdv A' outer s H vs Q E hr h => ?_)
  · obtain ⟨a, t, b, rfl, _⟩ := h
    rfl
  · obtain ⟨a, t, b, rfl, ⟨dx, e⟩, k⟩ := h
    refine ⟨_, (pss_one (ps_ret (pe_callTy call_bool1 (by rfl) T.b_bool (by decide +kernel) (pa_cons (p_cmp (o_ne hr.units) (pe_fld (pc 0) rfl) pe_int) pa_nil)))), ?_⟩
    refine ⟨a, A, _, _, _, rfl, e, U.cls, U.nT, rfl, .inr ⟨_, rfl, ?_⟩⟩
    rw [show (xor true (decide (t = 0))) = (t != 0) by by_cases z : t = 0 <;> simp [z]]
    exact k

theorem ok_Amount_is_whole {A fI pO gO pN gN f : Addr} {mc : Value} {fd : FuncData} (F : Fun K "is_whole" "Amount.is_whole" s_Amount_is_whole f fd) (T : Txt K mg) (U : AmC K mg A fI pO gO pN gN mc) : FnOk P w K mg base CX0 1 f fd ["self"] (spWhole A) := by
  refine F.ok sc_Amount_is_whole (fun vs H Q E h => ?_) (fun cdv A' outer s H vs Q E hr h => ?_)
  · obtain ⟨a, t, b, rfl, _⟩ := h
    rfl
  · obtain ⟨a, t, b, rfl, ⟨dx, e⟩, k⟩ := h
    refine ⟨_, (pss_one (ps_ret (p_cmp (o_eq hr.units) (pe_fld (pc 0) rfl) pe_int))), ?_⟩
    refine ⟨a, A, _, _, _, rfl, e, U.cls, U.nB, rfl, ?_⟩
    have z : xor false (decide (b = 1)) = decide (b = 1) := by simp
    show Q (.bl (xor false (decide (b = 1)))) H
    rw [z]
    exact k

end
end LW
set_option Elab.async false
set_option linter.all false
set_option maxRecDepth 100000
set_option maxHeartbeats 4000000
namespace LW
open PySem PySem.Spec PyProof.Rows L2 HX NumText
section
variable {P : Program} {w : World} {K : PySem.W.Frag} {mg : Str → Option Value} {base : Heap}

theorem seqT_mo {H G : Hp} {a : Addr} {xs : List V} (s : Same H G) (h : SqT K H a xs) : SqT K G a xs := by
  rcases h with (h | ⟨o, h⟩) | h
  · exact .inl (.inl (s _ _ h))
  · exact .inl (.inr ⟨o, s _ _ h⟩)
  · exact .inr h

theorem repr_sm {i : Int} {n : Nat} (h : Sm n i) (le : n ≤ 1900 := by decide) (h0 : 0 < n := by decide) : i.natAbs.log2 < 1920 := Nat.lt_of_lt_of_le (PySem.Flt.log2_lt_of h0 h) (by omega)
def intT (i : Int) : Str := Str.ofString (toString i)
def amText (t b : Int) : Str := if b = 1 then intT t else ((Str.empty ++ intT t) ++ (Str.ofString "/")) ++ intT b
theorem intT_len {i : Int} {n : Nat} (h : Sm n i) (h0 : 0 < n) : (intT i).length ≤ n + 1 := by
  have e := int_text_length_le (a := i) (k := n) h0 (PySem.Flt.log2_lt_of h0 h)
  show (Str.ofString (toString i)).length ≤ n + 1
  rw [PySem.ofString_length]
  exact e
def spStr (A : Addr) : Sp := fun vs H Q _ => ∃ (a : Addr) (t b : Int), vs = [.ref a] ∧ Am A H a t b ∧ Sm 1300 t ∧ Sm 1300 b ∧ Q (.str (amText t b)) H

theorem ok_Amount_str {A fI pO gO pN gN f : Addr} {mc : Value} {fd : FuncData} (F : Fun K "__str__" "Amount.__str__" s_Amount_str f fd) (T : Txt K mg) (T2 : mg "str" = none) (U : AmC K mg A fI pO gO pN gN mc) : FnOk P w K mg base CX0 1 f fd ["self"] (spStr A) := by
  refine F.ok sc_Amount_str (fun vs H Q E h => ?_) (fun cdv A' outer s H vs Q E hr h => ?_)
  · obtain ⟨a, t, b, rfl, _⟩ := h
    rfl
  · obtain ⟨a, t, b, rfl, ⟨dx, e⟩, St, Sb, k⟩ := h
    refine ⟨_, (pss_cons (s_if (t_cmp (o_eq hr.units) (pe_fld (pc 0) rfl) pe_int) (pss_one (ps_ret (pe_callTy call_str_int (by rfl) T2 (by decide +kernel) (pa_cons (pe_fld (pc 0) rfl) pa_nil)))) pss_nil)
    (pss_one (ps_ret (pe_joined (PJ.cons (pe_fmt (pe_fld (pc 0) rfl)) (PJ.cons pe_str (PJ.cons (pe_fmt (pe_fld (pc 0) rfl)) PJ.nil))))))), ?_⟩
    have l1 := intT_len St (by decide)
    have l2 := intT_len Sb (by decide)
    refine ⟨a, A, _, _, _, rfl, e, U.cls, U.nB, rfl, ⟨fun x => ?_, fun x => ?_⟩⟩
    · have x : b = 1 := by simpa using x
      rw [show amText t b = intT t from if_pos x] at k
      exact ⟨a, A, _, _, _, rfl, e, U.cls, U.nT, rfl, t, rfl, repr_sm St, k⟩
    · have x : ¬ b = 1 := by simpa using x
      rw [show amText t b = ((Str.empty ++ intT t) ++ (Str.ofString "/")) ++ intT b from if_neg x] at k
      have big := size_line_big
      have e0 : Str.empty.length = 0 := rfl
      have e1 : (Str.ofString "/").length = 1 := rfl
      refine ⟨a, A, _, _, _, rfl, e, U.cls, U.nT, rfl, .inr ⟨t, rfl, repr_sm St, intT t, rfl, by rw [Str.length_append]; omega, _, rfl, by rw [Str.length_append, Str.length_append]; omega, a, A, _, _, _, rfl, e, U.cls, U.nB, rfl, .inr ⟨b, rfl, repr_sm Sb, intT b, rfl, by rw [Str.length_append, Str.length_append, Str.length_append]; omega, k⟩⟩⟩

inductive NuL (A : Addr) (H : Hp) : List V → List (Int × Int) → Prop
  | nil : NuL A H [] []
  | cons {v : V} {vs : List V} {t b : Int} {ps : List (Int × Int)} : Nu A H v t b → Low t b → Sm 130 t → Sm 130 b → NuL A H vs ps → NuL A H (v :: vs) ((t, b) :: ps)
theorem NuL.mo {A : Addr} {H G : Hp} (s : Same H G) : ∀ {vs : List V} {ps : List (Int × Int)}, NuL A H vs ps → NuL A G vs ps
  | _, _, .nil => .nil
  | _, _, .cons n lo x1 x2 r => .cons (n.mo s) lo x1 x2 (r.mo s)
theorem NuL.len {A : Addr} {H : Hp} : ∀ {vs : List V} {ps : List (Int × Int)}, NuL A H vs ps → vs.length = ps.length
  | _, _, .nil => rfl
  | _, _, .cons _ _ _ _ r => by rw [List.length_cons, List.length_cons, r.len]
theorem NuL.at_ {A : Addr} {H : Hp} : ∀ {vs : List V} {ps : List (Int × Int)} {i : Nat} {v : V}, NuL A H vs ps → vs[i]? = some v → ∃ t b, ps[i]? = some (t, b) ∧ Nu A H v t b ∧ Low t b ∧ Sm 130 t ∧ Sm 130 b
  | _, _, _, _, .nil, e => by simp at e
  | _, _, 0, v, .cons n lo x1 x2 r, e => by
    simp at e
    subst e
    exact ⟨_, _, rfl, n, lo, x1, x2⟩
  | _, _, i + 1, v, .cons n lo x1 x2 r, e => by
    obtain ⟨t, b, h1, h2⟩ := r.at_ (i := i) (v := v) (by simpa using e)
    exact ⟨t, b, by simpa using h1, h2⟩
theorem NuL.snoc {A : Addr} {H : Hp} {v : V} {t b : Int} (n : Nu A H v t b) (lo : Low t b) (St : Sm 130 t) (Sb : Sm 130 b) : ∀ {vs : List V} {ps : List (Int × Int)}, NuL A H vs ps → NuL A H (vs ++ [v]) (ps ++ [(t, b)])
  | _, _, .nil => .cons n lo St Sb .nil
  | _, _, .cons n' lo' St' Sb' r => .cons n' lo' St' Sb' (r.snoc n lo St Sb)
def stepT (s p : Int × Int) : Int × Int := (nT (s.1 * p.2 + p.1 * s.2) (s.2 * p.2), nB (s.1 * p.2 + p.1 * s.2) (s.2 * p.2))
def totT (ps : List (Int × Int)) : Int × Int := ps.foldl stepT (0, 1)
theorem totT_snoc (ps : List (Int × Int)) (p : Int × Int) : totT (ps ++ [p]) = stepT (totT ps) p := by
  unfold totT
  rw [List.foldl_append]
  rfl
theorem totT_nil : totT [] = (0, 1) := rfl
def spTotal (K : PySem.W.Frag) (A : Addr) (S : PySem.W.Frag → Hp → Addr → List V → Prop) : Sp := fun vs H Q _ => ∃ (a : Addr) (xs : List V) (ps : List (Int × Int)), vs = [.ref a] ∧ S K H a xs ∧ NuL A H xs ps ∧ ps.length ≤ 6 ∧ QA A H Q (totT ps).1 (totT ps).2

theorem ok_sop {A fI pO gO pN gN f : Addr} {mc : Value} {fd : FuncData} (F : Fun K "sum_of_products" "sum_of_products" s_sum_of_products f fd) (T : Txt K mg) (U : AmC K mg A fI pO gO pN gN mc) {fdI : FuncData} (FI : FnOk P w K mg base CX0 2 fI fdI ["self", "top", "bottom"] (spInit A)) {ds : List Value} (bI1 : Binds K fdI ["self", "top", "bottom"] ds) (vI1 : Vals [V.int 1] ds) (bI2 : Binds K fdI ["self", "top", "bottom"] []) (hlcm : mg "lcm" = some (.builtin "math.lcm")) : FnOk P w K mg base CX0 6 f fd ["pairs"] (spSop K A) := by
  refine F.ok sc_sum_of_products (fun vs H Q E h => ?_) (fun cdv A' outer s H vs Q E hr h => ?_)
  · obtain ⟨n, κ, a, xs, ps, rfl, _⟩ := h
    rfl
  · obtain ⟨n, κ, a, xs, ps, rfl, hs, pl, n0, k0, ln, k⟩ := h
    refine ⟨_, (pss_cons (ps_asg (pe_tup (pa_cons pe_int (pa_cons pe_int pa_nil))) (pg_tup rfl (pgs_cons (pg_name (i := 1) sc_sum_of_products.nd rfl (Or.inl rfl)) (pgs_cons (pg_name (i := 2) sc_sum_of_products.nd rfl (Or.inl rfl)) pgs_nil))))
    (pss_cons (ps_for PassesOwn.never rfl (pi_list (pc 0)) (pg_tup rfl (pgs_cons (pg_name (i := 3) sc_sum_of_products.nd rfl (Or.inl rfl)) (pgs_cons (pg_name (i := 4) sc_sum_of_products.nd rfl (Or.inl rfl)) pgs_nil))) (pss_one (s_if (t_cmp (o_eq hr.units) (pe_fld (pc 3) rfl) (pc 2)) (pss_one (ps_set (i := 1) sc_sum_of_products.nd rfl (Or.inl rfl) (pe_op o_add (pc 1) (pe_op o_mulW (pe_fld (pc 3) rfl) (pc 4))))) (pss_cons (ps_set (i := 5) sc_sum_of_products.nd rfl (Or.inl rfl) (pe_callBfun cr_lcm rfl hlcm (pa_cons (pc 2) (pa_cons (pe_fld (pc 3) rfl) pa_nil))))
    (pss_cons (ps_set (i := 1) sc_sum_of_products.nd rfl (Or.inl rfl) (pe_op o_add (pe_op o_mulW (pc 1) (pe_op o_fdivZ (pc 5) (pc 2))) (pe_op o_mulW (pe_op o_mulW (pe_fld (pc 3) rfl) (pc 4)) (pe_op o_fdivZ (pc 5) (pe_fld (pc 3) rfl)))))
    (pss_one (ps_set (i := 2) sc_sum_of_products.nd rfl (Or.inl rfl) (pc 5))))))))
    (pss_one (ps_ret (pe_make U.mkr FI (hr.mono (by decide)) rfl U.g_Amount bI2 .nil pass0 (pa_cons (pc 1) (pa_cons (pc 2) pa_nil))))))), ?_⟩
    refine ⟨by show 2 ≤ sizeLine; decide, fun p0 np0 => ⟨p0, _, rfl, SqT.of upd_same, rfl, _, _, rfl, _, _, rfl, rfl, ?_⟩⟩
    have s0 : Same H (L2.upd H p0 (.tup [.int 0, .int 1])) := Same.new (Same.refl H) np0
    have mo : ∀ G, Same H G → SqL K G a xs := fun G s => s.seq hs
    have nl := pl.len
    refine ⟨a, rfl, ⟨xs, mo _ s0⟩, ?_⟩
    refine for_it (walk_list (xs := xs)) (fun i σ G => ∃ w3 w4 w5 : Option V, σ = [some (.ref a), some (.int (sopV (ps.take i)).1), some (.int (sopV (ps.take i)).2), w3, w4, w5] ∧ Same H G ∧ OkSop n κ i (sopV (ps.take i)) (totK (ps.take i))) ⟨none, none, none, rfl, s0, OkSop.nil n κ⟩ (fun i σ G _ ⟨_, _, _, _, s, _⟩ => mo G s) ?_ ?_
    · rintro i v σ G G2 hi ⟨w3, w4, w5, rfl, s, ok⟩ ⟨rfl, em⟩
      obtain ⟨⟨t, b, z⟩, h1, q, r, rfl, hq, ⟨dx, ea⟩, lo, St, Sb, Sz⟩ := pl.at_ em
      have tk : ps.take (i + 1) = ps.take i ++ [(t, b, z)] := by rw [List.take_add_one, h1]; rfl
      have ok2 := ok.step lo St Sb Sz
      have hW : (n + κ + 1) * (i + 1) ≤ (n + κ + 1) * ps.length := Nat.mul_le_mul_left _ (by omega)
      have x1 : (n + κ + 1) * (i + 1) = (n + κ + 1) * i + (n + κ + 1) := Nat.mul_succ _ _
      have x3 : n * i ≤ (n + κ + 1) * i := Nat.mul_le_mul_right _ (by omega)
      have B0 : 0 < (sopV (ps.take i)).2 := ok.pos
      have b0 : 0 < b := lo.1
      have S0 := lcmZ_pos B0 b0
      obtain ⟨q1, q2, q3, q4⟩ := quo_le B0 b0
      have f1 := Int.fdiv_eq_ediv_of_nonneg (lcmZ (sopV (ps.take i)).2 b) (Int.le_of_lt B0)
      have f2 := Int.fdiv_eq_ediv_of_nonneg (lcmZ (sopV (ps.take i)).2 b) (Int.le_of_lt b0)
      have e := s _ _ ea
      refine ⟨q, _, rfl, SqT.of (s _ _ hq), rfl, _, _, rfl, _, _, rfl, rfl, r, A, dx, _, _, rfl, e, U.cls, U.nB, rfl, ⟨fun c => ?_, fun c => ?_⟩⟩
      · have c : b = (sopV (ps.take i)).2 := by simpa using c
        have ee : sopS (sopV (ps.take i)) (t, b, z) = ((sopV (ps.take i)).1 + t * z, (sopV (ps.take i)).2) := if_pos c
        refine ⟨r, A, dx, _, _, rfl, e, U.cls, U.nT, rfl, St.cMul Sz n0 k0 (by omega), some (.ref r), some (.int z), w5, ?_, s, by rw [tk, sopV_snoc, totK_snoc]; exact ok2⟩
        rw [tk, sopV_snoc, ee]
        rfl
      · have c : ¬ b = (sopV (ps.take i)).2 := by simpa using c
        have ee : sopS (sopV (ps.take i)) (t, b, z) = _ := if_neg c
        have m1 := ok.b2.mono (show 1 + n * i ≤ 3000 by omega)
        have d1 : CDivZ (lcmZ (sopV (ps.take i)).2 b) (sopV (ps.take i)).2 := (ok.b2.mono (show 1 + n * i ≤ 3000 by omega)).cDiv (by omega)
        have d2 : CDivZ (lcmZ (sopV (ps.take i)).2 b) b := (Sb.mono (show n ≤ 3000 by omega)).cDiv (Int.ne_of_gt b0)
        refine ⟨r, A, dx, _, _, rfl, e, U.cls, U.nB, rfl, _, _, rfl, m1, Sb.mono (by omega), d1, ?_, r, A, dx, _, _, rfl, e, U.cls, U.nT, rfl, St.cMul Sz n0 k0 (by omega), r, A, dx, _, _, rfl, e, U.cls, U.nB, rfl, d2, ?_, some (.ref r), some (.int z), some (.int (lcmZ (sopV (ps.take i)).2 b)), ?_, s, by rw [tk, sopV_snoc, totK_snoc]; exact ok2⟩
        · rw [f1]
          exact ok.b1.cMul (sm_le Sb q1 q2) (by omega) n0 (by omega)
        · rw [f2]
          exact (St.mul Sz).cMul (sm_le ok.b2 q3 q4) (by omega) (by omega) (by omega)
        · rw [tk, sopV_snoc, ee, ← f1, ← f2]
          rfl
    · rintro σ G ⟨w3, w4, w5, rfl, s, ok⟩
      rw [List.take_of_length_le (by omega)] at ok ⊢
      have f := ok.fin
      have B0 := ok.pos
      have x3 : n * ps.length ≤ (n + κ + 1) * ps.length := Nat.mul_le_mul_right _ (by omega)
      rw [nl] at ok
      refine mkA (by omega) (ok.b1.mono (by omega)) (ok.b2.mono (by omega)) ?_
      rw [f.1, f.2]
      exact k.mo s

theorem totT_K : ∀ (ps : List (Int × Int)) (s : Int × Int), ps.foldl stepT s = (ps.map fun x => (x.1, x.2, (1 : Int))).foldl HX.stepK s
  | [], _ => rfl
  | (t, b) :: ps, s => by
    rw [List.map_cons, List.foldl_cons, List.foldl_cons, totT_K ps]
    have e : stepT s (t, b) = HX.stepK s (t, b, 1) := by
      unfold stepT HX.stepK
      simp only [Int.mul_one]
    rw [e]
theorem totT_K0 (ps : List (Int × Int)) : totT ps = totK (ps.map fun x => (x.1, x.2, (1 : Int))) := totT_K ps (0, 1)

theorem ok_totalL {A fI pO gO pN gN f : Addr} {mc : Value} {fd : FuncData} (F : Fun K "total" "Amount.total" s_Amount_total f fd) (T : Txt K mg) (U : AmC K mg A fI pO gO pN gN mc) {fdO fdN : FuncData} (FO : FnOk P w K mg base CX0 4 gO fdO ["number"] (spOf A)) (bO : Binds K fdO ["number"] []) (FN : FnOk P w K mg base CX0 2 gN fdN ["value"] (spIsNum A)) (bN : Binds K fdN ["value"] []) (cSp : CalO P w K mg base "sum_of_products" 6 ["pairs"] (spSop K A) (fun _ => True)) : FnOk P w K mg base CX0 7 f fd ["numbers"] (spTotal K A SqL) := by
  refine F.ok sc_Amount_total (fun vs H Q E h => ?_) (fun cdv A' outer s H vs Q E hr h => ?_)
  · obtain ⟨a, xs, ps, rfl, _⟩ := h
    rfl
  · obtain ⟨a, xs, ps, rfl, hs, nl, ln, k⟩ := h
    refine ⟨_, (pss_one (ps_ret (pe_cO cSp (hr.mono (by decide)) (pa_cons (pe_lc (own := [("number", 1)]) (g := gName 1) (tt := tYes) rfl sc_Amount_total.nd (pi_list (pc 0)) (blkOk_by (own := [("number", 1)]) (N := n_Amount_total) (sc := defScope s_Amount_total) (by decide +kernel)) (fun _ _ _ _ _ => pg_name (i := 1) sc_Amount_total.nd rfl (Or.inl rfl)) (fun _ _ _ _ _ => pts_nil) (fun _ _ _ _ _ => (pe_tup (pa_cons (pe_sm (p_gc U.g_Amount) U.sO FO bO (hr.mono (by decide)) pass0 (pa_cons (pc 1) pa_nil)) (pa_cons pe_int pa_nil))))) pa_nil)))), ?_⟩
    have mo : ∀ G, Same H G → SqL K G a xs := fun G s => s.seq hs
    refine ⟨a, rfl, ⟨xs, hs⟩, fun D nD => ?_⟩
    refine lc_it (walk_list (xs := xs)) (fun i G => ∃ vs : List V, vs.length = i ∧ G D = some (.lst vs) ∧ Same H G ∧ PrKL 130 1 A G vs ((ps.map fun x => (x.1, x.2, (1 : Int))).take i)) ⟨[], rfl, upd_same, Same.new (Same.refl H) nD, .nil⟩ (fun i G _ ⟨_, _, _, s, _⟩ => mo G s) ?_ ?_
    · rintro i v G G2 hi ⟨vs, e1, e2, s, pl⟩ ⟨rfl, em⟩
      obtain ⟨t, b, h1, nv, lo, St, Sb⟩ := nl.at_ em
      refine ⟨rfl, rfl, v, t, b, rfl, nv.mo s, St.mono (by decide), fun r G3 s3 am => ⟨by show 2 ≤ sizeLine; decide, fun q nq => ?_⟩⟩
      have d3 : L2.upd G3 q (.tup [.ref r, .int 1]) D = some (.lst vs) := Same.new (Same.refl G3) nq _ _ (s3 _ _ e2)
      have s4 : Same G2 (L2.upd G3 q (.tup [.ref r, .int 1])) := s3.trans (Same.new (Same.refl G3) nq)
      refine ⟨vs, d3, by rw [e1, sizeLine_eq]; have := nl.len; omega, vs ++ [.ref q], by rw [List.length_append, e1]; rfl, upd_same, Same.mut (s.trans s4) nD, ?_⟩
      have tk : (ps.map fun x => (x.1, x.2, (1 : Int))).take (i + 1) = (ps.map fun x => (x.1, x.2, (1 : Int))).take i ++ [(t, b, 1)] := by
        rw [List.take_add_one, List.getElem?_map, h1]
        rfl
      rw [tk]
      exact (PrKL.snoc (x := (t, b, 1)) ⟨q, r, rfl, upd_same, am.mo (Same.new (Same.refl G3) nq), lo, St, Sb, sm_one⟩ (pl.mo s4)).updL d3
    · rintro G ⟨vs, e1, e2, s, pl⟩
      rw [List.take_of_length_le (by rw [List.length_map]; have := nl.len; omega)] at pl
      refine ⟨130, 1, D, vs, _, rfl, SqL.of e2, pl, by decide, by decide, by rw [List.length_map]; omega, fun r G2 nr s2 am => ?_⟩
      rw [← totT_K0] at am
      exact k r G2 (s.free nr) (s.trans s2) am

theorem ok_totalT {A fI pO gO pN gN f : Addr} {mc : Value} {fd : FuncData} (F : Fun K "total" "Amount.total" s_Amount_total f fd) (T : Txt K mg) (U : AmC K mg A fI pO gO pN gN mc) {fdO fdN : FuncData} (FO : FnOk P w K mg base CX0 4 gO fdO ["number"] (spOf A)) (bO : Binds K fdO ["number"] []) (FN : FnOk P w K mg base CX0 2 gN fdN ["value"] (spIsNum A)) (bN : Binds K fdN ["value"] []) (cSp : CalO P w K mg base "sum_of_products" 6 ["pairs"] (spSop K A) (fun _ => True)) : FnOk P w K mg base CX0 7 f fd ["numbers"] (spTotal K A SqT) := by
  refine F.ok sc_Amount_total (fun vs H Q E h => ?_) (fun cdv A' outer s H vs Q E hr h => ?_)
  · obtain ⟨a, xs, ps, rfl, _⟩ := h
    rfl
  · obtain ⟨a, xs, ps, rfl, hs, nl, ln, k⟩ := h
    refine ⟨_, (pss_one (ps_ret (pe_cO cSp (hr.mono (by decide)) (pa_cons (pe_lc (own := [("number", 1)]) (g := gName 1) (tt := tYes) rfl sc_Amount_total.nd (pi_tup (pc 0)) (blkOk_by (own := [("number", 1)]) (N := n_Amount_total) (sc := defScope s_Amount_total) (by decide +kernel)) (fun _ _ _ _ _ => pg_name (i := 1) sc_Amount_total.nd rfl (Or.inl rfl)) (fun _ _ _ _ _ => pts_nil) (fun _ _ _ _ _ => (pe_tup (pa_cons (pe_sm (p_gc U.g_Amount) U.sO FO bO (hr.mono (by decide)) pass0 (pa_cons (pc 1) pa_nil)) (pa_cons pe_int pa_nil))))) pa_nil)))), ?_⟩
    have mo : ∀ G, Same H G → SqT K G a xs := fun G s => seqT_mo s hs
    refine ⟨a, rfl, ⟨xs, hs⟩, fun D nD => ?_⟩
    refine lc_it (walk_tup (xs := xs)) (fun i G => ∃ vs : List V, vs.length = i ∧ G D = some (.lst vs) ∧ Same H G ∧ PrKL 130 1 A G vs ((ps.map fun x => (x.1, x.2, (1 : Int))).take i)) ⟨[], rfl, upd_same, Same.new (Same.refl H) nD, .nil⟩ (fun i G _ ⟨_, _, _, s, _⟩ => mo G s) ?_ ?_
    · rintro i v G G2 hi ⟨vs, e1, e2, s, pl⟩ ⟨rfl, em⟩
      obtain ⟨t, b, h1, nv, lo, St, Sb⟩ := nl.at_ em
      refine ⟨rfl, rfl, v, t, b, rfl, nv.mo s, St.mono (by decide), fun r G3 s3 am => ⟨by show 2 ≤ sizeLine; decide, fun q nq => ?_⟩⟩
      have d3 : L2.upd G3 q (.tup [.ref r, .int 1]) D = some (.lst vs) := Same.new (Same.refl G3) nq _ _ (s3 _ _ e2)
      have s4 : Same G2 (L2.upd G3 q (.tup [.ref r, .int 1])) := s3.trans (Same.new (Same.refl G3) nq)
      refine ⟨vs, d3, by rw [e1, sizeLine_eq]; have := nl.len; omega, vs ++ [.ref q], by rw [List.length_append, e1]; rfl, upd_same, Same.mut (s.trans s4) nD, ?_⟩
      have tk : (ps.map fun x => (x.1, x.2, (1 : Int))).take (i + 1) = (ps.map fun x => (x.1, x.2, (1 : Int))).take i ++ [(t, b, 1)] := by
        rw [List.take_add_one, List.getElem?_map, h1]
        rfl
      rw [tk]
      exact (PrKL.snoc (x := (t, b, 1)) ⟨q, r, rfl, upd_same, am.mo (Same.new (Same.refl G3) nq), lo, St, Sb, sm_one⟩ (pl.mo s4)).updL d3
    · rintro G ⟨vs, e1, e2, s, pl⟩
      rw [List.take_of_length_le (by rw [List.length_map]; have := nl.len; omega)] at pl
      refine ⟨130, 1, D, vs, _, rfl, SqL.of e2, pl, by decide, by decide, by rw [List.length_map]; omega, fun r G2 nr s2 am => ?_⟩
      rw [← totT_K0] at am
      exact k r G2 (s.free nr) (s.trans s2) am

theorem amText_at (t b : Int) : amText t b = ofL (atx t b) := by
  have e : (Str.ofString "/") = ofL [47] := by decide +kernel
  have e0 : Str.empty ++ intT t = intT t := by
    show Str.mk (#[] ++ _) = _
    simp
  unfold amText atx intT at *
  rw [it_text, it_text] at *
  split
  · rfl
  · rw [e0, e, ofL_app, ofL_app]
    simp
def spFigs : Sp := fun vs H Q _ => ∃ l : List Nat, vs = [.str (ofL l)] ∧ l.length ≤ 100000 ∧ Q (.bl (figB l)) H
/-- a text that read takes -/
def spReadN (A : Addr) : Sp := fun vs H Q _ => ∃ (t b : Int), vs = [.ref A, .str (ofL (atx t b))] ∧ RT (atx t b) t b ∧ QA A H Q t b
section
variable (P : Program) (w : World) (K : PySem.W.Frag) (mg : Str → Option Value) (base : Heap)
/-- a method without arguments -/
def UnC (A : Addr) (x : Str) (sp : Sp) : Prop := ∃ (f : Addr) (fd : FuncData), PySem.W.findIn K (.ref A) x = some (some (.ref f)) ∧ PySem.W.isFn K (.ref f) = true ∧ FnOk P w K mg base CX0 5 f fd ["self"] sp ∧ Binds K fd ["self"] []
end
theorem str_c {X : Cx} {A : Addr} (C : UnC X.prog X.w X.K X.mg X.base A "__str__" (spStr A)) (hr : Room 7 X.A) : CallR X (.type "str") (rStrO A (spStr A) (fun _ _ _ => False)) := by
  obtain ⟨f, fd, hs, hf, F1, b⟩ := C
  exact call_strO hs hf F1 b hr pass0
theorem sm_ten {i : Int} (h : i.natAbs < 10 ^ 200) : Sm 700 i := Nat.lt_trans h (by decide +kernel)

theorem most_is : ∃ n : Int, n = 200 := ⟨_, rfl⟩

theorem ok_figs {f : Addr} {fd : FuncData} (F : Fun K "_is_figures" "_is_figures" s__is_figures f fd) (T : Txt K mg) (hmost : ∃ t, mg "MOST_FIGURES" = some (.int 200 t)) : FnOk P w K mg base CX0 1 f fd ["text"] spFigs := by
  refine F.ok sc__is_figures (fun vs H Q E h => ?_) (fun cdv A' outer s H vs Q E hr h => ?_)
  · obtain ⟨l, rfl, _⟩ := h
    rfl
  · obtain ⟨l, rfl, ln, k⟩ := h
    refine ⟨_, (pss_one (ps_ret (e_and (pe_m0 PySem.F.slot_str_isascii PySem.F.type_str_isascii mt_isascii (pc 0)) (e_and (pe_m0 PySem.F.slot_str_isdigit PySem.F.type_str_isdigit mt_isdigit (pc 0)) (pe_one (p_cmp o_le (pe_callB c_len (by rfl) T.b_len (by decide +kernel) (pa_cons (pc 0) pa_nil)) (p_gi hmost))))))), ?_⟩
    unfold figB at k
    refine ⟨⟨_, rfl⟩, _, rfl, rfl, trivial, ⟨fun h1 => ⟨⟨_, rfl⟩, _, rfl, rfl, trivial, ⟨fun h2 => ?_, fun h2 => ?_⟩⟩, fun h1 => ?_⟩⟩
    · rw [h1, h2] at k
      have e : decide (((ofL l).length : Int) ≤ 200) = decide (l.length ≤ 200) := by rw [ofL_len]; exact decide_eq_decide.mpr (by omega)
      refine ⟨by rw [ofL_len, sizeLine_eq]; omega, ?_⟩
      show Q (.bl (decide (((ofL l).length : Int) ≤ 200))) H
      rw [e]
      exact k
    · rw [h1, h2] at k
      exact k
    · rw [h1] at k
      exact k

theorem ok_readN {A fI pO gO pN gN f : Addr} {mc : Value} {fd : FuncData} (F : Fun K "read" "Amount.read" s_Amount_read f fd) (T : Txt K mg) (U : AmC K mg A fI pO gO pN gN mc) {fdI : FuncData} (FI : FnOk P w K mg base CX0 2 fI fdI ["self", "top", "bottom"] (spInit A)) {ds : List Value} (bI1 : Binds K fdI ["self", "top", "bottom"] ds) (vI1 : Vals [V.int 1] ds) (bI2 : Binds K fdI ["self", "top", "bottom"] []) (cFi : CalO P w K mg base "_is_figures" 1 ["text"] spFigs (fun _ => True)) (hstr : mg "str" = none) (cSt : UnC P w K mg base A "__str__" (spStr A)) : FnOk P w K mg base CX0 9 f fd ["cls", "text"] (spReadN A) := by
  refine F.ok sc_Amount_read (fun vs H Q E h => ?_) (fun cdv A' outer s H vs Q E hr h => ?_)
  · obtain ⟨t, b, rfl, _⟩ := h
    rfl
  · obtain ⟨t, b, rfl, ⟨lo, ht, hb, _⟩, k⟩ := h
    refine ⟨_, (pss_cons (s_if (pt_not (t_val (pe_callB c_isi (by rfl) T.b_isinstance (by decide +kernel) (pa_cons (pc 1) (pa_cons (pe_bltn (v := .ty "str") (u := .type "str") (by rfl) hstr (by decide +kernel) rfl) pa_nil))))) (pss_one ps_dead) pss_nil)
    (pss_cons (ps_asg (pe_partition (pc 1) pe_str) (pg_tup rfl (pgs_cons (pg_name (i := 2) sc_Amount_read.nd rfl (Or.inl rfl)) (pgs_cons (pg_name (i := 3) sc_Amount_read.nd rfl (Or.inl rfl)) (pgs_cons (pg_name (i := 4) sc_Amount_read.nd rfl (Or.inl rfl)) pgs_nil)))))
    (pss_cons (s_if (t_cmp (o_eq hr.units) (pc 3) pe_str) (pss_one (ps_set (i := 4) sc_Amount_read.nd rfl (Or.inl rfl) pe_str)) pss_nil)
    (pss_cons (s_if (PW.pt (w_or (pt_not (t_val (pe_cO cFi (hr.mono (by decide)) (pa_cons (pe_m1 PySem.F.slot_str_removeprefix PySem.F.type_str_removeprefix mt_removeprefix (pc 2) pe_str) pa_nil)))) (w_or (pt_not (t_val (pe_cO cFi (hr.mono (by decide)) (pa_cons (pc 4) pa_nil)))) (pw_or1 (t_cmp (o_eq hr.units) (pe_callTy call_int_str (by rfl) T.b_int (by decide +kernel) (pa_cons (pc 4) pa_nil)) pe_int))))) (pss_one ps_dead) pss_nil)
    (pss_cons (ps_set (i := 5) sc_Amount_read.nd rfl (Or.inl rfl) (pe_makeL (i := 0) U.mkr FI (hr.mono (by decide)) bI2 .nil pass0 (pa_cons (pe_callTy call_int_str (by rfl) T.b_int (by decide +kernel) (pa_cons (pc 2) pa_nil)) (pa_cons (pe_callTy call_int_str (by rfl) T.b_int (by decide +kernel) (pa_cons (pc 4) pa_nil)) pa_nil))))
    (pss_cons (s_if (t_cmp (o_ne hr.units) (pe_callTy (str_c cSt (hr.mono (by decide))) (by rfl) hstr (by decide +kernel) (pa_cons (pc 5) pa_nil)) (pc 1)) (pss_one ps_dead) pss_nil)
    (pss_one (ps_ret (pc 5))))))))), ?_⟩
    have bz : b ≠ 0 := by have := lo.1; omega
    have ln := atx_len ht hb
    have lt := it_len (by decide) ht
    have lb := it_len (by decide) hb
    have one : ("1" : Str) = ofL (dg 1) := by decide +kernel
    have fT := figB_dg ht
    have lD : (dg t.natAbs).length ≤ 100000 := by have := (dg_len (n := t.natAbs) (k := 200) (by decide)).mpr ht; omega
    have e3 := part3 (atx t b)
    have c1 : decide (ofL ([] : List Nat) = ("" : Str)) = true := by decide +kernel
    have c2 : decide (ofL [47] = ("" : Str)) = false := by decide +kernel
    refine ⟨_, _, _, _, true, rfl, .str _, (fun u r => r), rfl, ⟨fun h => absurd h (by decide), fun _ => ?_⟩⟩
    refine ⟨⟨_, rfl⟩, _, _, rfl, rfl, by decide +kernel, by rw [ofL_len, sizeLine_eq]; omega, fun p np => ?_⟩
    rw [e3, atx_parts]
    have fin : ∀ (o : HO) (G : Hp) r, L2.upd H p o r = none → Same (L2.upd H p o) G → Am A G r (nT t b) (nB t b) → Am A G r t b ∧ H r = none ∧ Same H G := fun o G r nr s am => by
      have u := n_self lo
      rw [u.1, u.2] at am
      have s1 := Same.new (o := o) (Same.refl H) np
      exact ⟨am, s1.free nr, s1.trans s⟩
    by_cases b1 : b = 1
    · rw [if_pos b1]
      refine ⟨p, _, rfl, SqT.of upd_same, rfl, _, _, rfl, _, _, rfl, _, _, rfl, rfl, ⟨fun _ => ?_, fun h => absurd h (by show ¬ (xor false (decide (ofL ([] : List Nat) = ("" : Str))) = false); rw [c1]; decide)⟩⟩
      refine ⟨⟨_, rfl⟩, _, _, rfl, rfl, by rw [ofL_len, sizeLine_eq]; show (it t).length ≤ _; omega, dg t.natAbs, by rw [unm_eq, unm_it]; rfl, lD, ?_⟩
      rw [fT]
      refine ⟨fun h => absurd h (by decide), fun _ => ⟨dg 1, by rw [one]; rfl, by decide +kernel, ?_⟩⟩
      rw [figB_dg (show 1 < 10 ^ 200 by decide +kernel)]
      refine ⟨fun h => absurd h (by decide), fun _ => ⟨_, 1, rfl, by decide +kernel, by decide +kernel, ⟨fun h => absurd h (by decide), fun _ => ?_⟩⟩⟩
      refine ⟨rfl, _, t, rfl, it_read (k := 200) (by decide) (by decide) ht, by rw [ofL_len]; show (it t).length ≤ _; omega, _, b, rfl, by rw [b1]; decide +kernel, by decide +kernel, ?_⟩
      refine mkR (p := t) (q := b) bz ((sm_ten ht).mono (by decide)) ((sm_ten hb).mono (by decide)) fun r G nr s am => ?_
      obtain ⟨a1, a2, a3⟩ := fin _ G r nr s am
      refine ⟨a1.isI, r, t, b, rfl, a1, (sm_ten ht).mono (by decide), (sm_ten hb).mono (by decide), _, rfl, ⟨fun h => ?_, fun _ => k r G a2 a3 a1⟩⟩
      rw [amText_at] at h
      simp at h
    · rw [if_neg b1]
      have fB := figB_dg hb
      have eB : it b = dg b.natAbs := if_neg (by have := lo.1; omega)
      have lD2 : (dg b.natAbs).length ≤ 100000 := by have := (dg_len (n := b.natAbs) (k := 200) (by decide)).mpr hb; omega
      refine ⟨p, _, rfl, SqT.of upd_same, rfl, _, _, rfl, _, _, rfl, _, _, rfl, rfl, ⟨fun h => absurd h (by show ¬ (xor false (decide (ofL [47] = ("" : Str))) = true); rw [c2]; decide), fun _ => ?_⟩⟩
      refine ⟨⟨_, rfl⟩, _, _, rfl, rfl, by rw [ofL_len, sizeLine_eq]; show (it t).length ≤ _; omega, dg t.natAbs, by rw [unm_eq, unm_it]; rfl, lD, ?_⟩
      rw [fT]
      refine ⟨fun h => absurd h (by decide), fun _ => ⟨dg b.natAbs, by rw [eB]; rfl, lD2, ?_⟩⟩
      rw [fB]
      refine ⟨fun h => absurd h (by decide), fun _ => ⟨_, b, rfl, it_read (k := 200) (by decide) (by decide) hb, by rw [ofL_len]; show (it b).length ≤ _; omega, ⟨fun h => absurd h (by simp [bz]), fun _ => ?_⟩⟩⟩
      refine ⟨rfl, _, t, rfl, it_read (k := 200) (by decide) (by decide) ht, by rw [ofL_len]; show (it t).length ≤ _; omega, _, b, rfl, it_read (k := 200) (by decide) (by decide) hb, by rw [ofL_len]; show (it b).length ≤ _; omega, ?_⟩
      refine mkR (p := t) (q := b) bz ((sm_ten ht).mono (by decide)) ((sm_ten hb).mono (by decide)) fun r G nr s am => ?_
      obtain ⟨a1, a2, a3⟩ := fin _ G r nr s am
      refine ⟨a1.isI, r, t, b, rfl, a1, (sm_ten ht).mono (by decide), (sm_ten hb).mono (by decide), _, rfl, ⟨fun h => ?_, fun _ => k r G a2 a3 a1⟩⟩
      rw [amText_at] at h
      simp at h

end
end LW
set_option Elab.async false
set_option linter.all false
set_option maxRecDepth 100000
set_option maxHeartbeats 4000000
namespace LW
open PySem PySem.Spec PyProof.Rows L2 HX NumText
section
variable {P : Program} {w : World} {K : PySem.W.Frag} {mg : Str → Option Value} {base : Heap}

section
variable (P : Program) (w : World) (K : PySem.W.Frag) (mg : Str → Option Value) (base : Heap)
/-- an operator of Amount, both methods -/
def OpC (A : Addr) (op : Operator) (spF spG : Sp) : Prop := ∃ (f g : Addr) (ff fg : FuncData), PySem.HXO.OwnOp K A op f g ∧ FnOk P w K mg base CX0 8 f ff ["self", "other"] spF ∧ FnOk P w K mg base CX0 8 g fg ["self", "other"] spG ∧ Binds K ff ["self", "other"] [] ∧ Binds K fg ["self", "other"] []
def IpC (A : Addr) (op : Operator) (sp : Sp) : Prop := ∃ (f : Addr) (fd : FuncData), PySem.W.selfFirst K A = true ∧ PySem.W.findIn K (.ref A) (PySem.dunderI op.info.2) = some (some (.ref f)) ∧ PySem.W.isFn K (.ref f) = true ∧ FnOk P w K mg base CX0 8 f fd ["self", "other"] sp ∧ Binds K fd ["self", "other"] []
end
theorem op_c {X : Cx} {A : Addr} {op : Operator} {idl : String} {r0 : L2.R2} {spF spG : Sp} (io : PySem.HXO.IntOp op idl) (h0 : OpR X (binaryOp op) r0) (C : OpC X.prog X.w X.K X.mg X.base A op spF spG) (hr : Room 8 X.A) : OpR X (binaryOp op) (rOw A r0 spF spG (fun _ _ _ => False)) := by
  obtain ⟨f, g, ff, fg, O, Ff, Fg, bf, bg⟩ := C
  exact op_ow io h0 O Ff Fg bf bg hr pass0
theorem ip_c {X : Cx} {A : Addr} {op : Operator} {sp : Sp} (C : IpC X.prog X.w X.K X.mg X.base A op sp) (hr : Room 8 X.A) : PIp X op (rIo A sp (fun _ _ _ => False)) := by
  obtain ⟨f, fd, fi, hs, hf, Fi, b⟩ := C
  exact ip_ow fi hs hf Fi b hr pass0

section
variable (P : Program) (w : World) (K : PySem.W.Frag) (mg : Str → Option Value) (base : Heap)
/-- a comparison of Amount, both methods -/
def CmC (A : Addr) (op : CmpOp) (idl : String) (spF spG : Sp) : Prop := ∃ (f g : Addr) (ff fg : FuncData), CmpO K A op f g idl ∧ FnOk P w K mg base CX0 8 f ff ["self", "other"] spF ∧ FnOk P w K mg base CX0 8 g fg ["self", "other"] spG ∧ Binds K ff ["self", "other"] [] ∧ Binds K fg ["self", "other"] []
/-- what != and == with anything need -/
structure EqC (A : Addr) : Prop where
  sub : PySem.W.subIn K (.ref A) (.type "int") = some false
  hm : PySem.W.mroIn K A (.type "object") = some true
  hn : PySem.W.findIn K (.ref A) "__ne__" = some (some (.builtin "object.__ne__"))
  eq : ∃ (f : Addr) (fd : FuncData), PySem.W.findIn K (.ref A) "__eq__" = some (some (.ref f)) ∧ PySem.W.isFn K (.ref f) = true ∧ FnOk P w K mg base CX0 7 f fd ["self", "other"] (spCmp A gEq) ∧ FnOk P w K mg base CX0 7 f fd ["self", "other"] (spEqN K A) ∧ Binds K fd ["self", "other"] []
end

theorem cm_c {X : Cx} {A : Addr} {op : CmpOp} {idl : String} {r0 : L2.R2} {spF spG : Sp} (h0 : OpR X (compareOp op) r0) (C : CmC X.prog X.w X.K X.mg X.base A op idl spF spG) (hr : Room 8 X.A) : OpR X (compareOp op) (rOw A r0 spF spG (fun _ _ _ => False)) := by
  obtain ⟨f, g, ff, fg, O, Ff, Fg, bf, bg⟩ := C
  exact op_cm h0 O Ff Fg bf bg hr pass0
theorem ne_c {X : Cx} {A : Addr} {r0 : L2.R2} (h0 : OpR X (compareOp .NotEq) r0) (C : EqC X.prog X.w X.K X.mg X.base A) (hr : Room 8 X.A) : OpR X (compareOp .NotEq) (rNw A r0 (spCmp A gEq) (fun _ _ _ => False)) := by
  obtain ⟨f, fd, hs, hf, F1, F2, b⟩ := C.eq
  exact op_new h0 C.sub C.hm C.hn hs hf F1 b hr pass0

theorem bool_c {X : Cx} {A : Addr} (C : UnC X.prog X.w X.K X.mg X.base A "__bool__" (spTruth A)) (hr : Room 7 X.A) : CallR X (.type "bool") (rBoolO A (spTruth A) (fun _ _ _ => False)) := by
  obtain ⟨f, fd, hs, hf, F1, b⟩ := C
  exact call_boolO hs hf F1 b hr pass0
theorem not_c {X : Cx} {A : Addr} {a : Expr} {ta : TE} {pos : Pos} (C : UnC X.prog X.w X.K X.mg X.base A "__bool__" (spTruth A)) (hr : Room 5 X.A) (ha : PE X a ta) : PE X (.UnaryOp .Not a pos) (rNotO A (spTruth A) (fun _ _ _ => False) ta) := by
  obtain ⟨f, fd, hs, hf, F1, b⟩ := C
  exact e_notO hs hf F1 b hr pass0 ha
/-- two numbers compared, either side an Amount -/
theorem rowC {A : Addr} {H : Hp} {Q : VK} {E : XK} {r0 : L2.R2} {v1 v2 : V} {t b c d : Int} {g g' : Int → Int → Int → Int → Bool} (n1 : Nu A H v1 t b) (n2 : Nu A H v2 c d) (one : (∃ a, v1 = .ref a) ∨ ∃ a, v2 = .ref a) (lo : Low t b) (lo2 : Low c d) (St : Sm 3900 t) (Sb : Sm 3900 b) (Sc : Sm 3900 c) (Sd : Sm 3900 d)
    (hm : g' c d t b = g t b c d) (k : ∀ G, Same H G → Q (.bl (g t b c d)) G) : rOw A r0 (spCmp A g) (spCmp A g') E v1 v2 H Q := by
  rcases n1 with ⟨a, rfl, am⟩ | ⟨rfl, rfl⟩
  · rcases n2 with ⟨a2, rfl, am2⟩ | ⟨rfl, rfl⟩
    · exact ⟨am.isI, am2.isI, a, _, t, b, c, d, rfl, am, .inl ⟨a2, rfl, am2⟩, lo, lo2, St, Sb, Sc, Sd, k⟩
    · exact ⟨am.isI, a, _, t, b, c, 1, rfl, am, .inr ⟨rfl, rfl⟩, lo, lo2, St, Sb, Sc, Sd, k⟩
  · rcases n2 with ⟨a2, rfl, am2⟩ | ⟨rfl, rfl⟩
    · exact ⟨am2.isI, a2, _, c, d, t, 1, rfl, am2, .inr ⟨rfl, rfl⟩, lo2, lo, Sc, Sd, St, Sb, fun G s => by rw [hm]; exact k G s⟩
    · rcases one with ⟨a, z⟩ | ⟨a, z⟩ <;> cases z

theorem g_lt (t b c d : Int) : gGt c d t b = gLt t b c d ∧ gLt t b c d = decide (t * d - c * b < 0) := by
  unfold gGt gLt
  rw [Int.neg_mul, Int.neg_mul]
  refine ⟨decide_eq_decide.mpr ?_, decide_eq_decide.mpr ?_⟩ <;> omega
theorem g_le (t b c d : Int) : gGe c d t b = gLe t b c d ∧ gLe t b c d = decide (t * d - c * b ≤ 0) := by
  unfold gGe gLe
  rw [Int.neg_mul, Int.neg_mul]
  refine ⟨decide_eq_decide.mpr ?_, decide_eq_decide.mpr ?_⟩ <;> omega
theorem g_gt (t b c d : Int) : gLt c d t b = gGt t b c d ∧ gGt t b c d = decide (0 < t * d - c * b) := by
  unfold gGt gLt
  rw [Int.neg_mul, Int.neg_mul]
  refine ⟨decide_eq_decide.mpr ?_, decide_eq_decide.mpr ?_⟩ <;> omega
theorem g_ge (t b c d : Int) : gLe c d t b = gGe t b c d ∧ gGe t b c d = decide (0 ≤ t * d - c * b) := by
  unfold gGe gLe
  rw [Int.neg_mul, Int.neg_mul]
  refine ⟨decide_eq_decide.mpr ?_, decide_eq_decide.mpr ?_⟩ <;> omega
theorem g_eq {t b c d : Int} (lo : Low t b) (lo2 : Low c d) : gEq c d t b = gEq t b c d ∧ gEq t b c d = decide (t * d - c * b = 0) := by
  unfold gEq
  refine ⟨by rw [decide_eq_decide.mpr (eq_comm : c = t ↔ t = c), decide_eq_decide.mpr (eq_comm : d = b ↔ b = d)], ?_⟩
  by_cases e : t = c ∧ b = d
  · obtain ⟨rfl, rfl⟩ := e
    simp
  · rw [decide_eq_false (p := t * d - c * b = 0) (fun z => e (low_unique lo lo2 (by omega)))]
    by_cases h : t = c
    · rw [decide_eq_true h, decide_eq_false (fun z => e ⟨h, z⟩)]
      rfl
    · rw [decide_eq_false h]
      rfl

def rsX (t b c d : Int) : Int := nT ((t * d).fdiv (b * c) * c) (1 * d)
def rsY (t b c d : Int) : Int := nB ((t * d).fdiv (b * c) * c) (1 * d)

theorem rowA {A : Addr} {H : Hp} {Q : VK} {E : XK} {r0 : L2.R2} {v1 v2 : V} {t b c d : Int} (n1 : Nu A H v1 t b) (n2 : Nu A H v2 c d) (one : (∃ a, v1 = .ref a) ∨ ∃ a, v2 = .ref a) (lo : Low t b) (lo2 : Low c d) (St : Sm 3900 t) (Sb : Sm 3900 b) (Sc : Sm 3900 c) (Sd : Sm 3900 d)
    (k : QA A H Q (nT (t * d + 1 * c * b) (b * d)) (nB (t * d + 1 * c * b) (b * d))) : rOw A r0 (spBin A 3900 pAdd qBD) (spBin A 3900 pAdd qBD) E v1 v2 H Q := by
  have qz : b * d ≠ 0 := Int.mul_ne_zero (by have := lo.1; omega) (by have := lo2.1; omega)
  rw [Int.one_mul] at k
  rcases n1 with ⟨a, rfl, am⟩ | ⟨rfl, rfl⟩
  · rcases n2 with ⟨a2, rfl, am2⟩ | ⟨rfl, rfl⟩
    · exact ⟨am.isI, am2.isI, a, _, t, b, c, d, rfl, am, .inl ⟨a2, rfl, am2⟩, lo, lo2, St, Sb, Sc, Sd, qz, k⟩
    · exact ⟨am.isI, a, _, t, b, c, 1, rfl, am, .inr ⟨rfl, rfl⟩, lo, lo2, St, Sb, Sc, Sd, qz, k⟩
  · rcases n2 with ⟨a2, rfl, am2⟩ | ⟨rfl, rfl⟩
    · refine ⟨am2.isI, a2, _, c, d, t, 1, rfl, am2, .inr ⟨rfl, rfl⟩, lo2, lo, Sc, Sd, St, Sb, by unfold qBD; rw [Int.mul_comm]; exact qz, ?_⟩
      unfold pAdd qBD
      rw [Int.add_comm, Int.mul_comm d 1]
      exact k
    · rcases one with ⟨a, z⟩ | ⟨a, z⟩ <;> cases z
theorem rowS {A : Addr} {H : Hp} {Q : VK} {E : XK} {r0 : L2.R2} {v1 v2 : V} {t b c d : Int} (n1 : Nu A H v1 t b) (n2 : Nu A H v2 c d) (one : (∃ a, v1 = .ref a) ∨ ∃ a, v2 = .ref a) (lo : Low t b) (lo2 : Low c d) (St : Sm 3900 t) (Sb : Sm 3900 b) (Sc : Sm 3900 c) (Sd : Sm 3900 d)
    (k : QA A H Q (nT (t * d + -1 * c * b) (b * d)) (nB (t * d + -1 * c * b) (b * d))) : rOw A r0 (spBin A 3900 pSub qBD) (spBin A 3900 pRsub qBD) E v1 v2 H Q := by
  have qz : b * d ≠ 0 := Int.mul_ne_zero (by have := lo.1; omega) (by have := lo2.1; omega)
  rw [Int.neg_one_mul] at k
  rcases n1 with ⟨a, rfl, am⟩ | ⟨rfl, rfl⟩
  · rcases n2 with ⟨a2, rfl, am2⟩ | ⟨rfl, rfl⟩
    · exact ⟨am.isI, am2.isI, a, _, t, b, c, d, rfl, am, .inl ⟨a2, rfl, am2⟩, lo, lo2, St, Sb, Sc, Sd, qz, k⟩
    · exact ⟨am.isI, a, _, t, b, c, 1, rfl, am, .inr ⟨rfl, rfl⟩, lo, lo2, St, Sb, Sc, Sd, qz, k⟩
  · rcases n2 with ⟨a2, rfl, am2⟩ | ⟨rfl, rfl⟩
    · refine ⟨am2.isI, a2, _, c, d, t, 1, rfl, am2, .inr ⟨rfl, rfl⟩, lo2, lo, Sc, Sd, St, Sb, by unfold qBD; rw [Int.mul_comm]; exact qz, ?_⟩
      unfold pRsub qBD
      rw [Int.add_comm, Int.mul_comm d 1]
      exact k
    · rcases one with ⟨a, z⟩ | ⟨a, z⟩ <;> cases z
theorem rowM {A : Addr} {H : Hp} {Q : VK} {E : XK} {r0 : L2.R2} {v1 v2 : V} {t b c d : Int} (n1 : Nu A H v1 t b) (n2 : Nu A H v2 c d) (one : (∃ a, v1 = .ref a) ∨ ∃ a, v2 = .ref a) (lo : Low t b) (lo2 : Low c d) (St : Sm 3900 t) (Sb : Sm 3900 b) (Sc : Sm 3900 c) (Sd : Sm 3900 d)
    (k : QA A H Q (nT (t * c) (b * d)) (nB (t * c) (b * d))) : rOw A r0 (spBin A 3900 pMul qBD) (spBin A 3900 pMul qBD) E v1 v2 H Q := by
  have qz : b * d ≠ 0 := Int.mul_ne_zero (by have := lo.1; omega) (by have := lo2.1; omega)
  rcases n1 with ⟨a, rfl, am⟩ | ⟨rfl, rfl⟩
  · rcases n2 with ⟨a2, rfl, am2⟩ | ⟨rfl, rfl⟩
    · exact ⟨am.isI, am2.isI, a, _, t, b, c, d, rfl, am, .inl ⟨a2, rfl, am2⟩, lo, lo2, St, Sb, Sc, Sd, qz, k⟩
    · exact ⟨am.isI, a, _, t, b, c, 1, rfl, am, .inr ⟨rfl, rfl⟩, lo, lo2, St, Sb, Sc, Sd, qz, k⟩
  · rcases n2 with ⟨a2, rfl, am2⟩ | ⟨rfl, rfl⟩
    · refine ⟨am2.isI, a2, _, c, d, t, 1, rfl, am2, .inr ⟨rfl, rfl⟩, lo2, lo, Sc, Sd, St, Sb, by unfold qBD; rw [Int.mul_comm]; exact qz, ?_⟩
      unfold pMul qBD
      rw [Int.mul_comm c t, Int.mul_comm d 1]
      exact k
    · rcases one with ⟨a, z⟩ | ⟨a, z⟩ <;> cases z
theorem rowF {A : Addr} {H : Hp} {Q : VK} {E : XK} {r0 : L2.R2} {v1 v2 : V} {t b c d : Int} (n1 : Nu A H v1 t b) (n2 : Nu A H v2 c d) (one : (∃ a, v1 = .ref a) ∨ ∃ a, v2 = .ref a) (lo : Low t b) (lo2 : Low c d) (St : Sm 3900 t) (Sb : Sm 3900 b) (Sc : Sm 3900 c) (Sd : Sm 3900 d) (cz : c ≠ 0)
    (k : ∀ G, Same H G → Q (.int ((t * d).fdiv (b * c))) G) : rOw A r0 (spFl A pOver qBC) (spFl A pRfl qDT) E v1 v2 H Q := by
  have qz : b * c ≠ 0 := Int.mul_ne_zero (by have := lo.1; omega) cz
  rcases n1 with ⟨a, rfl, am⟩ | ⟨rfl, rfl⟩
  · rcases n2 with ⟨a2, rfl, am2⟩ | ⟨rfl, rfl⟩
    · exact ⟨am.isI, am2.isI, a, _, t, b, c, d, rfl, am, .inl ⟨a2, rfl, am2⟩, lo, lo2, St, Sb, Sc, Sd, qz, k⟩
    · exact ⟨am.isI, a, _, t, b, c, 1, rfl, am, .inr ⟨rfl, rfl⟩, lo, lo2, St, Sb, Sc, Sd, qz, k⟩
  · rcases n2 with ⟨a2, rfl, am2⟩ | ⟨rfl, rfl⟩
    · exact ⟨am2.isI, a2, _, c, d, t, 1, rfl, am2, .inr ⟨rfl, rfl⟩, lo2, lo, Sc, Sd, St, Sb, qz, k⟩
    · rcases one with ⟨a, z⟩ | ⟨a, z⟩ <;> cases z
theorem modX_is (t b c d : Int) : modX t b c d = rsX t b c d ∧ modY t b c d = rsY t b c d := by
  unfold modX modY rsX rsY pOver qBC
  rw [Int.mul_comm c, Int.mul_comm d 1]
  exact ⟨rfl, rfl⟩
theorem rmX_is (t c d : Int) : rmX c d t = rsX t 1 c d ∧ rmY c d t = rsY t 1 c d := by
  unfold rmX rmY rsX rsY pRfl qDT
  rw [Int.mul_comm c, Int.mul_comm d 1]
  exact ⟨rfl, rfl⟩
theorem rowR {A : Addr} {H : Hp} {Q : VK} {E : XK} {r0 : L2.R2} {v1 v2 : V} {t b c d : Int} (n1 : Nu A H v1 t b) (n2 : Nu A H v2 c d) (one : (∃ a, v1 = .ref a) ∨ ∃ a, v2 = .ref a) (lo : Low t b) (lo2 : Low c d) (St : Sm 1200 t) (Sb : Sm 1200 b) (Sc : Sm 1200 c) (Sd : Sm 1200 d) (cz : c ≠ 0)
    (k : QA A H Q (nT (t * rsY t b c d + -1 * rsX t b c d * b) (b * rsY t b c d)) (nB (t * rsY t b c d + -1 * rsX t b c d * b) (b * rsY t b c d))) : rOw A r0 (spMod A) (spRmod A) E v1 v2 H Q := by
  rw [Int.neg_one_mul] at k
  rcases n1 with ⟨a, rfl, am⟩ | ⟨rfl, rfl⟩
  · have e := modX_is t b c d
    rw [← e.1, ← e.2] at k
    rcases n2 with ⟨a2, rfl, am2⟩ | ⟨rfl, rfl⟩
    · exact ⟨am.isI, am2.isI, a, _, t, b, c, d, rfl, am, .inl ⟨a2, rfl, am2⟩, lo, lo2, St, Sb, Sc, Sd, cz, k⟩
    · exact ⟨am.isI, a, _, t, b, c, 1, rfl, am, .inr ⟨rfl, rfl⟩, lo, lo2, St, Sb, Sc, Sd, cz, k⟩
  · rcases n2 with ⟨a2, rfl, am2⟩ | ⟨rfl, rfl⟩
    · have e := rmX_is t c d
      rw [← e.1, ← e.2, Int.add_comm, Int.mul_comm 1 (rmY c d t)] at k
      exact ⟨am2.isI, a2, c, d, t, rfl, am2, lo2, Sc, Sd, St, cz, k⟩
    · rcases one with ⟨a, z⟩ | ⟨a, z⟩ <;> cases z

theorem sm_abs_le {n : Nat} {i j : Int} (h : Sm n j) (l : i.natAbs ≤ j.natAbs) : Sm n i := Nat.lt_of_le_of_lt l h
/-- the value of an integer between numbers -/
theorem sm_fl {n : Nat} {p q j : Int} (h : Sm n p) (z : q ≠ 0) (f : Fl j (rv p q)) : Sm (n + 1) j := by
  rw [f.uniq (fl_fdiv z)]
  exact sm_fdiv h z
section
variable {A : Addr} {H : Hp} {Q : VK} {E : XK} {r0 : L2.R2} {v1 v2 v : V} {n m : Nat} {r s : Rat} {a : Addr}
theorem vAdd (n1 : NV A n H v1 r) (n2 : NV A m H v2 s) (one : (∃ a, v1 = .ref a) ∨ ∃ a, v2 = .ref a) (k : QR A (n + m + 1) H Q (r + s)) (ln : n ≤ 3900 := by decide) (lm : m ≤ 3900 := by decide) : rOw A r0 (spBin A 3900 pAdd qBD) (spBin A 3900 pAdd qBD) E v1 v2 H Q := by
  obtain ⟨t, b, u1, lo, St, Sb, rfl⟩ := n1
  obtain ⟨c, d, u2, lo2, Sc, Sd, rfl⟩ := n2
  have bz : b ≠ 0 := by have := lo.1; omega
  have dz : d ≠ 0 := by have := lo2.1; omega
  have qz : b * d ≠ 0 := Int.mul_ne_zero bz dz
  have S1 : Sm (n + m + 1) (t * d + 1 * c * b) := by
    rw [Int.one_mul]
    exact (St.mul Sd).add ((Sc.mul Sb).mono (by omega))
  exact rowA u1 u2 one lo lo2 (St.mono ln) (Sb.mono ln) (Sc.mono lm) (Sd.mono lm) fun z G nz s am => k z G nz s ⟨_, _, am, low_n qz, S1.nT qz, ((Sb.mul Sd).mono (by omega)).nB qz, by rw [rv_n qz, rv_add bz dz]⟩
theorem vSub (n1 : NV A n H v1 r) (n2 : NV A m H v2 s) (one : (∃ a, v1 = .ref a) ∨ ∃ a, v2 = .ref a) (k : QR A (n + m + 1) H Q (r - s)) (ln : n ≤ 3900 := by decide) (lm : m ≤ 3900 := by decide) : rOw A r0 (spBin A 3900 pSub qBD) (spBin A 3900 pRsub qBD) E v1 v2 H Q := by
  obtain ⟨t, b, u1, lo, St, Sb, rfl⟩ := n1
  obtain ⟨c, d, u2, lo2, Sc, Sd, rfl⟩ := n2
  have bz : b ≠ 0 := by have := lo.1; omega
  have dz : d ≠ 0 := by have := lo2.1; omega
  have qz : b * d ≠ 0 := Int.mul_ne_zero bz dz
  have S1 : Sm (n + m + 1) (t * d + -1 * c * b) := by
    rw [Int.neg_one_mul, Int.neg_mul]
    exact (St.mul Sd).add (((Sc.mul Sb).neg).mono (by omega))
  exact rowS u1 u2 one lo lo2 (St.mono ln) (Sb.mono ln) (Sc.mono lm) (Sd.mono lm) fun z G nz s am => k z G nz s ⟨_, _, am, low_n qz, S1.nT qz, ((Sb.mul Sd).mono (by omega)).nB qz, by rw [rv_n qz, rv_sub bz dz]⟩
theorem vMul (n1 : NV A n H v1 r) (n2 : NV A m H v2 s) (one : (∃ a, v1 = .ref a) ∨ ∃ a, v2 = .ref a) (k : QR A (n + m) H Q (r * s)) (ln : n ≤ 3900 := by decide) (lm : m ≤ 3900 := by decide) : rOw A r0 (spBin A 3900 pMul qBD) (spBin A 3900 pMul qBD) E v1 v2 H Q := by
  obtain ⟨t, b, u1, lo, St, Sb, rfl⟩ := n1
  obtain ⟨c, d, u2, lo2, Sc, Sd, rfl⟩ := n2
  have bz : b ≠ 0 := by have := lo.1; omega
  have dz : d ≠ 0 := by have := lo2.1; omega
  have qz : b * d ≠ 0 := Int.mul_ne_zero bz dz
  exact rowM u1 u2 one lo lo2 (St.mono ln) (Sb.mono ln) (Sc.mono lm) (Sd.mono lm) fun z G nz s am => k z G nz s ⟨_, _, am, low_n qz, (St.mul Sc).nT qz, (Sb.mul Sd).nB qz, by rw [rv_n qz, rv_mul bz dz]⟩
theorem vFlo (n1 : NV A n H v1 r) (n2 : NV A m H v2 s) (one : (∃ a, v1 = .ref a) ∨ ∃ a, v2 = .ref a) (sz : s ≠ 0) (k : ∀ G j, Same H G → Fl j (r / s) → Sm (n + m + 1) j → Q (.int j) G) (ln : n ≤ 3900 := by decide) (lm : m ≤ 3900 := by decide) : rOw A r0 (spFl A pOver qBC) (spFl A pRfl qDT) E v1 v2 H Q := by
  obtain ⟨t, b, u1, lo, St, Sb, rfl⟩ := n1
  obtain ⟨c, d, u2, lo2, Sc, Sd, rfl⟩ := n2
  have bz : b ≠ 0 := by have := lo.1; omega
  have dz : d ≠ 0 := by have := lo2.1; omega
  have cz : c ≠ 0 := fun z => sz ((rv_zero dz).mpr z)
  have qz : b * c ≠ 0 := Int.mul_ne_zero bz cz
  refine rowF u1 u2 one lo lo2 (St.mono ln) (Sb.mono ln) (Sc.mono lm) (Sd.mono lm) cz fun G s => k G _ s ?_ (sm_fdiv (St.mul Sd) qz)
  rw [← rv_div bz dz cz]
  exact fl_fdiv qz
theorem vMod (n1 : NV A n H v1 r) (n2 : NV A m H v2 s) (one : (∃ a, v1 = .ref a) ∨ ∃ a, v2 = .ref a) (sz : s ≠ 0) (k : ∀ z G j, H z = none → Same H G → Fl j (r / s) → AV A (n + m + 1 + (n + m) + 1) G z (r - (j : Rat) * s) → Q (.ref z) G) (ln : n ≤ 1200 := by decide) (lm : m ≤ 1200 := by decide) : rOw A r0 (spMod A) (spRmod A) E v1 v2 H Q := by
  obtain ⟨t, b, u1, lo, St, Sb, rfl⟩ := n1
  obtain ⟨c, d, u2, lo2, Sc, Sd, rfl⟩ := n2
  have bz : b ≠ 0 := by have := lo.1; omega
  have dz : d ≠ 0 := by have := lo2.1; omega
  have cz : c ≠ 0 := fun z => sz ((rv_zero dz).mpr z)
  have qz : b * c ≠ 0 := Int.mul_ne_zero bz cz
  have d1 : 1 * d ≠ 0 := by omega
  have yz : rsY t b c d ≠ 0 := Int.ne_of_gt (nB_pos d1)
  have pz : b * rsY t b c d ≠ 0 := Int.mul_ne_zero bz yz
  have f : Fl ((t * d).fdiv (b * c)) (rv t b / rv c d) := by
    rw [← rv_div bz dz cz]
    exact fl_fdiv qz
  refine rowR u1 u2 one lo lo2 (St.mono ln) (Sb.mono ln) (Sc.mono lm) (Sd.mono lm) cz fun z G nz s am => k z G _ nz s f ?_
  have eX : rv (rsX t b c d) (rsY t b c d) = (((t * d).fdiv (b * c) : Int) : Rat) * rv c d := by
    unfold rsX rsY
    rw [rv_n d1, rv_mul (by decide) dz, rv_one]
  have eV : rv (nT (t * rsY t b c d + -1 * rsX t b c d * b) (b * rsY t b c d)) (nB (t * rsY t b c d + -1 * rsX t b c d * b) (b * rsY t b c d)) = rv t b - (((t * d).fdiv (b * c) : Int) : Rat) * rv c d := by
    rw [rv_n pz, rv_sub bz yz, eX]
  generalize (t * d).fdiv (b * c) = j at f eX eV ⊢
  have bd : b * d ≠ 0 := Int.mul_ne_zero bz dz
  have eW : rv t b - (j : Rat) * rv c d = rv (t * d + -1 * (j * c) * b) (b * d) := by
    rw [rv_sub bz dz]
    have := rv_mul (t := j) (b := 1) (c := c) (d := d) (by decide) dz
    rw [Int.one_mul, rv_one] at this
    rw [this]
  have Sj : Sm (n + m + 1) j := sm_fl (St.mul Sd) qz (by rw [rv_div bz dz cz]; exact f)
  have le := low_le (low_n pz) bd (eV.trans eW)
  have Sp : Sm (n + m + 1 + (n + m) + 1) (t * d + -1 * (j * c) * b) := by
    rw [Int.neg_one_mul, Int.neg_mul]
    exact ((St.mul Sd).mono (by omega)).add ((((Sj.mul Sc).mul Sb).neg).mono (by omega))
  exact ⟨_, _, am, low_n pz, sm_abs_le Sp le.1, sm_abs_le ((Sb.mul Sd).mono (by omega)) le.2, eV.symm⟩
theorem vOver (n1 : AV A n H a r) (n2 : NV A m H v s) (sz : s ≠ 0) (k : QR A (n + m) H Q (r / s)) (ln : n ≤ 3900 := by decide) (lm : m ≤ 3900 := by decide) : spBin A 3900 pOver qBC [.ref a, v] H Q E := by
  obtain ⟨t, b, u1, lo, St, Sb, rfl⟩ := n1
  obtain ⟨c, d, u2, lo2, Sc, Sd, rfl⟩ := n2
  have bz : b ≠ 0 := by have := lo.1; omega
  have dz : d ≠ 0 := by have := lo2.1; omega
  have cz : c ≠ 0 := fun z => sz ((rv_zero dz).mpr z)
  have qz : b * c ≠ 0 := Int.mul_ne_zero bz cz
  exact ⟨a, v, t, b, c, d, rfl, u1, u2, lo, lo2, St.mono ln, Sb.mono ln, Sc.mono lm, Sd.mono lm, qz, fun z G nz s am => k z G nz s ⟨_, _, am, low_n qz, (St.mul Sd).nT qz, (Sb.mul Sc).nB qz, by rw [← rv_div bz dz cz]; exact (rv_n qz).symm⟩⟩
theorem vNeg (n1 : AV A n H a r) (k : QR A n H Q (-r)) (ln : n ≤ 7800 := by decide) : spNeg A Neg.neg [.ref a] H Q E := by
  obtain ⟨t, b, u1, lo, St, Sb, rfl⟩ := n1
  exact ⟨a, t, b, rfl, u1, lo, St.mono ln, Sb.mono ln, fun z G nz s am => k z G nz s ⟨_, _, am, low_neg lo, St.neg, Sb, rv_neg.symm⟩⟩
def rabs (r : Rat) : Rat := if r < 0 then -r else r
theorem vAbs (n1 : AV A n H a r) (k : QR A n H Q (rabs r)) (ln : n ≤ 7800 := by decide) : spNeg A absI [.ref a] H Q E := by
  obtain ⟨t, b, u1, lo, St, Sb, rfl⟩ := n1
  refine ⟨a, t, b, rfl, u1, lo, St.mono ln, Sb.mono ln, fun z G nz s am => k z G nz s ⟨_, _, am, low_abs lo, sm_abs St, Sb, ?_⟩⟩
  have e : rv t b < 0 ↔ t < 0 := by
    have := rv_lt (t := t) (b := b) (c := 0) (d := 1) lo.1 (by decide)
    rw [rv_one] at this
    have h0 : ((0 : Int) : Rat) = 0 := by simp
    rw [h0] at this
    rw [this]
    omega
  unfold rabs absI
  by_cases h : t < 0
  · rw [if_pos (e.mpr h), if_pos h, rv_neg]
  · rw [if_neg (fun z => h (e.mp z)), if_neg h]
/-- comparisons: the answer is told ahead -/
theorem vLt {bv : Bool} (n1 : NV A n H v1 r) (n2 : NV A m H v2 s) (one : (∃ a, v1 = .ref a) ∨ ∃ a, v2 = .ref a) (e : bv = decide (r < s)) (k : ∀ G, Same H G → Q (.bl bv) G) (ln : n ≤ 3900 := by decide) (lm : m ≤ 3900 := by decide) : rOw A r0 (spCmp A gLt) (spCmp A gGt) E v1 v2 H Q := by
  subst e
  obtain ⟨t, b, u1, lo, St, Sb, rfl⟩ := n1
  obtain ⟨c, d, u2, lo2, Sc, Sd, rfl⟩ := n2
  refine rowC u1 u2 one lo lo2 (St.mono ln) (Sb.mono ln) (Sc.mono lm) (Sd.mono lm) (g_lt _ _ _ _).1 fun G s => ?_
  rw [(g_lt t b c d).2, show decide (t * d - c * b < 0) = decide (rv t b < rv c d) from decide_eq_decide.mpr (by rw [rv_lt lo.1 lo2.1]; omega)]
  exact k G s
theorem vGt {bv : Bool} (n1 : NV A n H v1 r) (n2 : NV A m H v2 s) (one : (∃ a, v1 = .ref a) ∨ ∃ a, v2 = .ref a) (e : bv = decide (s < r)) (k : ∀ G, Same H G → Q (.bl bv) G) (ln : n ≤ 3900 := by decide) (lm : m ≤ 3900 := by decide) : rOw A r0 (spCmp A gGt) (spCmp A gLt) E v1 v2 H Q := by
  subst e
  obtain ⟨t, b, u1, lo, St, Sb, rfl⟩ := n1
  obtain ⟨c, d, u2, lo2, Sc, Sd, rfl⟩ := n2
  refine rowC u1 u2 one lo lo2 (St.mono ln) (Sb.mono ln) (Sc.mono lm) (Sd.mono lm) (g_gt _ _ _ _).1 fun G s => ?_
  rw [(g_gt t b c d).2, show decide (0 < t * d - c * b) = decide (rv c d < rv t b) from decide_eq_decide.mpr (by rw [rv_lt lo2.1 lo.1]; omega)]
  exact k G s
theorem vLe {bv : Bool} (n1 : NV A n H v1 r) (n2 : NV A m H v2 s) (one : (∃ a, v1 = .ref a) ∨ ∃ a, v2 = .ref a) (e : bv = !decide (s < r)) (k : ∀ G, Same H G → Q (.bl bv) G) (ln : n ≤ 3900 := by decide) (lm : m ≤ 3900 := by decide) : rOw A r0 (spCmp A gLe) (spCmp A gGe) E v1 v2 H Q := by
  subst e
  obtain ⟨t, b, u1, lo, St, Sb, rfl⟩ := n1
  obtain ⟨c, d, u2, lo2, Sc, Sd, rfl⟩ := n2
  refine rowC u1 u2 one lo lo2 (St.mono ln) (Sb.mono ln) (Sc.mono lm) (Sd.mono lm) (g_le _ _ _ _).1 fun G s => ?_
  rw [(g_le t b c d).2, show decide (t * d - c * b ≤ 0) = !decide (rv c d < rv t b) from by rw [decide_eq_decide.mpr (rv_lt lo2.1 lo.1), ← decide_not]; exact decide_eq_decide.mpr (by omega)]
  exact k G s
theorem vGe {bv : Bool} (n1 : NV A n H v1 r) (n2 : NV A m H v2 s) (one : (∃ a, v1 = .ref a) ∨ ∃ a, v2 = .ref a) (e : bv = !decide (r < s)) (k : ∀ G, Same H G → Q (.bl bv) G) (ln : n ≤ 3900 := by decide) (lm : m ≤ 3900 := by decide) : rOw A r0 (spCmp A gGe) (spCmp A gLe) E v1 v2 H Q := by
  subst e
  obtain ⟨t, b, u1, lo, St, Sb, rfl⟩ := n1
  obtain ⟨c, d, u2, lo2, Sc, Sd, rfl⟩ := n2
  refine rowC u1 u2 one lo lo2 (St.mono ln) (Sb.mono ln) (Sc.mono lm) (Sd.mono lm) (g_ge _ _ _ _).1 fun G s => ?_
  rw [(g_ge t b c d).2, show decide (0 ≤ t * d - c * b) = !decide (rv t b < rv c d) from by rw [decide_eq_decide.mpr (rv_lt lo.1 lo2.1), ← decide_not]; exact decide_eq_decide.mpr (by omega)]
  exact k G s
theorem eq_val {t b c d : Int} (lo : Low t b) (lo2 : Low c d) : gEq t b c d = decide (rv t b = rv c d) := by
  rw [(g_eq lo lo2).2]
  exact decide_eq_decide.mpr (by rw [rv_eq (by have := lo.1; omega) (by have := lo2.1; omega)]; omega)
theorem vEq {bv : Bool} (n1 : NV A n H v1 r) (n2 : NV A m H v2 s) (one : (∃ a, v1 = .ref a) ∨ ∃ a, v2 = .ref a) (e : bv = decide (r = s)) (k : ∀ G, Same H G → Q (.bl bv) G) (ln : n ≤ 3900 := by decide) (lm : m ≤ 3900 := by decide) : rOw A r0 (spCmp A gEq) (spCmp A gEq) E v1 v2 H Q := by
  subst e
  obtain ⟨t, b, u1, lo, St, Sb, rfl⟩ := n1
  obtain ⟨c, d, u2, lo2, Sc, Sd, rfl⟩ := n2
  refine rowC u1 u2 one lo lo2 (St.mono ln) (Sb.mono ln) (Sc.mono lm) (Sd.mono lm) (g_eq lo lo2).1 fun G s => ?_
  rw [eq_val lo lo2]
  exact k G s
theorem vNe {bv : Bool} (n1 : NV A n H v1 r) (n2 : NV A m H v2 s) (one : (∃ a, v1 = .ref a) ∨ ∃ a, v2 = .ref a) (e : bv = !decide (r = s)) (k : ∀ G, Same H G → Q (.bl bv) G) (ln : n ≤ 3900 := by decide) (lm : m ≤ 3900 := by decide) : rNw A r0 (spCmp A gEq) E v1 v2 H Q := by
  subst e
  exact ⟨vEq n1 n2 one rfl (fun G s => ⟨_, rfl, k G s⟩) ln lm⟩
end

end
end LW
set_option Elab.async false
set_option linter.all false
set_option maxRecDepth 100000
set_option maxHeartbeats 2000000
namespace HX
open PySem PySem.Spec PyProof.Rows L2

/-! ### repr of a list: the list itself may stand anywhere, what is in it not at sys.modules -/
theorem shows_list {P : Program} {w : World} {hp : Heap} {b : Addr} {ob : Obj} {its : Array Value} {k : Nat} {ds : List PyData} {as : List Addr} (g1 : hp.get? b = some ob) (g2 : ob.cls = .type "list") (g3 : ob.data = .seq its k) (g4 : ReadsAll hp its.toList ds as)
    (sh : (PyData.list ds).showable = true) (ns : sysModules ∉ as) (sz : (PyData.list ds).shown.length ≤ sizeLine) : ShowsBy P w hp b (.list ds) "list" "list.__repr__" := by
  have sz2 : (listText (PyData.shownAll ds)).length ≤ sizeLine := by simpa only [PyData.shown] using sz
  have sh2 : PyData.showableAll ds = true := by simpa [PyData.showable] using sh
  obtain ⟨cs, c1, c2⟩ := ReprAllK.of_readsAll (prog := P) (w := w) g4 sh2 (fun _ => ns) (fun t ht => Nat.le_trans (listText_mem_le ht) sz2)
  have out : b ∉ cs := not_mem_of_deeper (Reads.list g1 g2 g3 g4) (by simp only [PyData.depth]; omega) c1
  exact {
    slotRepr := F.slot_list_repr.toG
    slotStr := F.slot_list_str
    slotFmt := F.slot_list_format
    typeIs := fun s kp => ⟨ob, kp _ _ g1, g2⟩
    call := fun A E s Q hg hu kp hQ => by
      simp only [PyData.depth] at hu
      simp only [PyData.shown] at hQ
      obtain ⟨li⟩ := its
      cases li with
      | cons y r => exact call_list_reprK g1 g2 g3 out (by simpa using c2.length_eq) (fun i z e => c2.item i z (by simpa using e)) hg (fun z _ => Clear.nil z) hu kp hQ sz2
      | nil =>
        have g5 : ReadsAll hp [] ds as := g4
        cases g5
        simp only [PyData.shownAll, listText_nil] at hQ
        exact call_list_repr_empty ⟨ob, kp _ _ g1, g2⟩ (kp _ _ g1) g3 (hQ s.heap _ _ fun _ _ e => e) }
/-- repr of a list of data, at any address -/
def rReprL : List V → Hp → VK → Prop := fun xs H Q => ∃ (a : Addr) (vs : List V) (ds : List PyData), xs = [.ref a] ∧ H a = some (.lst vs) ∧ Das H vs ds ∧ OkD (.list ds) ∧ Q (.str (PyData.list ds).shown) H
theorem call_reprL {X : Cx} (gd : X.A.guards = some []) (hu : X.A.units + 64 < cLine) : CallR X (.builtin "repr") rReprL := by
  intro pins s σ H xs us Q I r h
  obtain ⟨a, vs, ds, rfl, ha, hd, ok, q⟩ := h
  obtain ⟨u, rfl, ru⟩ := vals1 r
  cases ru
  obtain ⟨its, rv, ⟨o, n, ho, hc, _, hda⟩, _⟩ := I.list (SqL.of ha)
  obtain ⟨as, hr, ns⟩ := Das.reads I hd rv
  have S := shows_list (P := X.prog) (w := X.w) ho hc hda (by simpa using hr) ok.sh ns ok.len
  have dp := ok.dp
  exact call_repr_slot (by omega) (S.typeIs s fun _ _ e => e) S.slotRepr (S.call X.A.in1 X.xe s _ gd (by show X.A.units + 1 + (PyData.list ds).depth < cLine; omega) (fun _ _ e => e) fun h' t tk k => ⟨_, _, rfl, .str (PyData.list ds).shown, H, I.kept k, ⟨_, rfl⟩, q⟩)
end HX

set_option Elab.async false
set_option linter.all false
set_option maxRecDepth 100000
set_option maxHeartbeats 2000000
namespace HX
open PySem PySem.Spec PyProof.Rows L2
/-- l.count(x) of plain data -/
def rCntD : V → List V → Hp → VK → Prop := fun x xs H Q => ∃ (p : Addr) (vs : List V) (ds : List PyData) (y : V) (d : PyData), x = .ref p ∧ xs = [y] ∧ H p = some (.lst vs) ∧ Das H vs ds ∧ Da H y d ∧ PyData.plainAll ds = true ∧ d.plain = true ∧ d.depth ≤ 30 ∧
  Q (.int ((ds.countP fun e => PyData.eqv e d : Nat) : Int)) H
theorem mt_countD {X : Cx} (hu : X.A.units + 64 < cLine) : MtR X "list.count" rCntD := by
  intro pins s σ H x xs v us Q I rx rxs h
  obtain ⟨p, vs, ds, y, d, rfl, rfl, hp, hs, hy, p1, p2, dp, q⟩ := h
  cases rx
  obtain ⟨u, rfl, ru⟩ := rxs.one
  obtain ⟨its, rv, hl, _⟩ := I.list (SqL.of hp)
  obtain ⟨as, hr, _⟩ := Das.reads I hs rv
  obtain ⟨bs, hr2, _⟩ := Da.reads I hy ru
  exact PySem.SeqAt.count_list_data hl.isList (by simpa using hr) hr2 p1 p2 (by have : min (PyData.depthAll ds) d.depth ≤ d.depth := Nat.min_le_right _ _; omega) ⟨.int _, H, I.tok _, ⟨_, rfl⟩, q⟩
end HX

set_option Elab.async false
set_option linter.all false
set_option maxRecDepth 100000
set_option maxHeartbeats 4000000
namespace LW
open PySem PySem.Spec PyProof.Rows L2 HX NumText

theorem _root_.HX.NV.av {A : Addr} {n : Nat} {H : Hp} {a : Addr} {r : Rat} (h : NV A n H (.ref a) r) : AV A n H a r := by
  obtain ⟨t, b, x, y⟩ := h
  rcases x with ⟨c, e, x⟩ | ⟨e, _⟩
  · cases e
    exact ⟨t, b, x, y⟩
  · cases e
section
variable {A : Addr} {n m l : Nat} {r s u : Rat} {σ : L2.St} {H G0 : Hp} {t1 t2 t3 te : TE} {f g h : Bool} {i j : Int} {b c : Bool} {t d : Int} {z z' : Str} {r0 r1 : L2.R2} {E E' : XK} {a : Addr} {K : PySem.W.Frag} {D : Ends}
def GN (A : Addr) (f : Bool) (n : Nat) (r : Rat) (σ : L2.St) (H : Hp) (te : TE) : Prop := ∀ G, Same H G → ∀ Q : VK, (∀ v G', Same G G' → NV A n G' v r → (f = true → ∃ a, v = .ref a) → Q v G') → te σ G Q
def GI (i : Int) (σ : L2.St) (H : Hp) (te : TE) : Prop := ∀ G, Same H G → ∀ Q : VK, (∀ G', Same G G' → Q (.int i) G') → te σ G Q
def GL (b : Bool) (σ : L2.St) (H : Hp) (te : TE) : Prop := ∀ G, Same H G → ∀ Q : VK, (∀ G', Same G G' → Q (.bl b) G') → te σ G Q
def GT (b : Bool) (σ : L2.St) (H : Hp) (c : TT) : Prop := ∀ G, Same H G → ∀ Q : Bool → Hp → Prop, (∀ G', Same G G' → Q b G') → c σ G Q
def GP (A : Addr) (t b : Int) (σ : L2.St) (H : Hp) (te : TE) : Prop := ∀ G, Same H G → ∀ Q : VK, (∀ a G', Same G G' → Am A G' a t b → Q (.ref a) G') → te σ G Q
def GS (z : Str) (σ : L2.St) (H : Hp) (te : TE) : Prop := ∀ G, Same H G → ∀ Q : VK, (∀ G', Same G G' → Q (.str z) G') → te σ G Q
theorem GN.mo (q : Same H G0) (h1 : GN A f n r σ H te) : GN A f n r σ G0 te := fun G s => h1 G (q.trans s)
theorem GI.mo (q : Same H G0) (h1 : GI i σ H te) : GI i σ G0 te := fun G s => h1 G (q.trans s)
theorem GL.mo (q : Same H G0) (h1 : GL b σ H te) : GL b σ G0 te := fun G s => h1 G (q.trans s)
theorem GT.mo {c : TT} (q : Same H G0) (h1 : GT b σ H c) : GT b σ G0 c := fun G s => h1 G (q.trans s)
theorem GL.to (h1 : GL b σ H te) (e : b = c) : GL c σ H te := e ▸ h1
theorem GT.to {q : TT} (h1 : GT b σ H q) (e : b = c) : GT c σ H q := e ▸ h1
theorem GN.to (h1 : GN A f n r σ H te) (e : r = s) : GN A f n s σ H te := e ▸ h1
theorem one2 {v w : V} (o : (f || g) = true) (h1 : f = true → ∃ a, v = .ref a) (h2 : g = true → ∃ a, w = .ref a) : (∃ a, v = .ref a) ∨ ∃ a, w = .ref a := by
  cases f with
  | true => exact .inl (h1 rfl)
  | false =>
    cases g with
    | true => exact .inr (h2 rfl)
    | false => cases o
theorem gV {k : Nat} (e : σ[k]? = some (some (.ref a))) (av : AV A n H a r) : GN A true n r σ H (cV k) := fun G s Q q => by
  show (match σ[k]? with | some (some v) => Q v G | _ => False)
  rw [e]
  exact q _ G (Same.refl G) (av.mo s).nv fun _ => ⟨a, rfl⟩
theorem gVP {k : Nat} (e : σ[k]? = some (some (.ref a))) (am : Am A H a t d) : GP A t d σ H (cV k) := fun G s Q q => by
  show (match σ[k]? with | some (some v) => Q v G | _ => False)
  rw [e]
  exact q _ G (Same.refl G) (am.mo s)
theorem gVI {k : Nat} (e : σ[k]? = some (some (.int i))) : GI i σ H (cV k) := fun G s Q q => by
  show (match σ[k]? with | some (some v) => Q v G | _ => False)
  rw [e]
  exact q G (Same.refl G)
theorem gK : GI i σ H (tC (V.int i)) := fun G s Q q => q G (Same.refl G)
theorem gKL : GL b σ H (tC (V.bl b)) := fun G s Q q => q G (Same.refl G)
theorem GI.num (h1 : GI i σ H te) (S : Sm n i) (h0 : 0 < n := by decide) : GN A false n (i : Rat) σ H te := fun G s Q q => h1 G s _ fun G1 s1 => q _ G1 s1 (.int S h0) fun z => nomatch z
theorem gK0 : GN A false 1 0 σ H (tC (V.int 0)) := (GI.num (n := 1) gK (by unfold Sm; decide)).to (by simp)
theorem gK1 : GN A false 1 1 σ H (tC (V.int 1)) := (GI.num (n := 1) gK (by unfold Sm; decide)).to (by simp)
theorem GP.num (h1 : GP A t d σ H te) (lo : Low t d) (S : Sm n t) (S' : Sm n d) : GN A true n (rv t d) σ H te := fun G s Q q => h1 G s _ fun a G1 s1 am => q _ G1 s1 ⟨t, d, .inl ⟨a, rfl, am⟩, lo, S, S', rfl⟩ fun _ => ⟨a, rfl⟩
theorem GN.le (h1 : GN A f n r σ H te) (q : n ≤ m) : GN A f m r σ H te := fun G s Q k => h1 G s Q fun v G1 s1 nv fv => k v G1 s1 (nv.le q) fv

theorem gAdd (h1 : GN A f n r σ H t1) (h2 : GN A g m s σ H t2) (o : (f || g) = true := by rfl) (ln : n ≤ 3900 := by decide) (lm : m ≤ 3900 := by decide) : GN A true (n + m + 1) (r + s) σ H (tOp (rOw A r0 (spBin A 3900 pAdd qBD) (spBin A 3900 pAdd qBD) E) t1 t2) := fun G sG Q k =>
  h1 G sG _ fun v G1 s1 n1 f1 => h2 G1 (sG.trans s1) _ fun w G2 s2 n2 f2 => vAdd (n1.mo s2) n2 (one2 o f1 f2) (fun z G3 nz s3 a3 => k _ G3 ((s1.trans s2).trans s3) a3.nv fun _ => ⟨z, rfl⟩) ln lm

theorem gSub (h1 : GN A f n r σ H t1) (h2 : GN A g m s σ H t2) (o : (f || g) = true := by rfl) (ln : n ≤ 3900 := by decide) (lm : m ≤ 3900 := by decide) : GN A true (n + m + 1) (r - s) σ H (tOp (rOw A r0 (spBin A 3900 pSub qBD) (spBin A 3900 pRsub qBD) E) t1 t2) := fun G sG Q k =>
  h1 G sG _ fun v G1 s1 n1 f1 => h2 G1 (sG.trans s1) _ fun w G2 s2 n2 f2 => vSub (n1.mo s2) n2 (one2 o f1 f2) (fun z G3 nz s3 a3 => k _ G3 ((s1.trans s2).trans s3) a3.nv fun _ => ⟨z, rfl⟩) ln lm

theorem gMul (h1 : GN A f n r σ H t1) (h2 : GN A g m s σ H t2) (o : (f || g) = true := by rfl) (ln : n ≤ 3900 := by decide) (lm : m ≤ 3900 := by decide) : GN A true (n + m) (r * s) σ H (tOp (rOw A r0 (spBin A 3900 pMul qBD) (spBin A 3900 pMul qBD) E) t1 t2) := fun G sG Q k =>
  h1 G sG _ fun v G1 s1 n1 f1 => h2 G1 (sG.trans s1) _ fun w G2 s2 n2 f2 => vMul (n1.mo s2) n2 (one2 o f1 f2) (fun z G3 nz s3 a3 => k _ G3 ((s1.trans s2).trans s3) a3.nv fun _ => ⟨z, rfl⟩) ln lm

theorem gFlo (h1 : GN A f n r σ H t1) (h2 : GN A g m s σ H t2) (sz : s ≠ 0) (fl : Fl j (r / s)) (o : (f || g) = true := by rfl) (ln : n ≤ 3900 := by decide) (lm : m ≤ 3900 := by decide) : GI j σ H (tOp (rOw A r0 (spFl A pOver qBC) (spFl A pRfl qDT) E) t1 t2) := fun G sG Q k =>
  h1 G sG _ fun v G1 s1 n1 f1 => h2 G1 (sG.trans s1) _ fun w G2 s2 n2 f2 => vFlo (n1.mo s2) n2 (one2 o f1 f2) sz (fun G3 i s3 fi _ => by
    rw [fi.uniq fl]
    exact k G3 ((s1.trans s2).trans s3)) ln lm
theorem gFloN (h1 : GN A f n r σ H t1) (h2 : GN A g m s σ H t2) (sz : s ≠ 0) (fl : Fl j (r / s)) (o : (f || g) = true := by rfl) (ln : n ≤ 3900 := by decide) (lm : m ≤ 3900 := by decide) : GN A false (n + m + 1) (j : Rat) σ H (tOp (rOw A r0 (spFl A pOver qBC) (spFl A pRfl qDT) E) t1 t2) := fun G sG Q k =>
  h1 G sG _ fun v G1 s1 n1 f1 => h2 G1 (sG.trans s1) _ fun w G2 s2 n2 f2 => vFlo (n1.mo s2) n2 (one2 o f1 f2) sz (fun G3 i s3 fi S => by
    rw [fi.uniq fl] at S ⊢
    exact k _ G3 ((s1.trans s2).trans s3) (.int S (by omega)) fun z => nomatch z) ln lm
theorem gMod (h1 : GN A f n r σ H t1) (h2 : GN A g m s σ H t2) (sz : s ≠ 0) (fl : Fl j (r / s)) (o : (f || g) = true := by rfl) (ln : n ≤ 1200 := by decide) (lm : m ≤ 1200 := by decide) : GN A true (n + m + 1 + (n + m) + 1) (r - (j : Rat) * s) σ H (tOp (rOw A r0 (spMod A) (spRmod A) E) t1 t2) := fun G sG Q k =>
  h1 G sG _ fun v G1 s1 n1 f1 => h2 G1 (sG.trans s1) _ fun w G2 s2 n2 f2 => vMod (n1.mo s2) n2 (one2 o f1 f2) sz (fun z G3 i nz s3 fi a3 => by
    rw [fi.uniq fl] at a3
    exact k _ G3 ((s1.trans s2).trans s3) a3.nv fun _ => ⟨z, rfl⟩) ln lm
theorem _root_.HX.AV.dx {H : Hp} (h1 : AV A n H a r) : ∃ dx t b, H a = some (.ins A dx (afs t b)) := by
  obtain ⟨t, b, ⟨dx, e⟩, _⟩ := h1
  exact ⟨dx, t, b, e⟩
theorem gOver {x : Str} (h1 : GN A true n r σ H t1) (h2 : GN A g m s σ H t2) (sz : s ≠ 0) (hx : ∀ t b, (afs t b).lookup x = none := by intro t b; rfl) (ln : n ≤ 3900 := by decide) (lm : m ≤ 3900 := by decide) : GN A true (n + m) (r / s) σ H (tMeth A x (spBin A 3900 pOver qBC) [] E t1 (tCons t2 tNil)) := fun G sG Q k =>
  h1 G sG _ fun v G1 s1 n1 f1 => by
    obtain ⟨a, rfl⟩ := f1 rfl
    obtain ⟨dx, t, b, e⟩ := n1.av.dx
    exact ⟨a, dx, _, rfl, e, hx t b, h2 G1 (sG.trans s1) _ fun w G2 s2 n2 f2 => vOver (E := E) (n1.mo s2).av n2 sz (fun z G3 nz s3 a3 => k _ G3 ((s1.trans s2).trans s3) a3.nv fun _ => ⟨z, rfl⟩) ln lm⟩
theorem gNeg (h1 : GN A true n r σ H t1) (ln : n ≤ 7800 := by decide) : GN A true n (-r) σ H (tUn (rNg A (spNeg A Neg.neg) E) t1) := fun G sG Q k =>
  h1 G sG _ fun v G1 s1 n1 f1 => by
    obtain ⟨a, rfl⟩ := f1 rfl
    exact ⟨n1.av.isI, vNeg n1.av (fun z G3 nz s3 a3 => k _ G3 (s1.trans s3) a3.nv fun _ => ⟨z, rfl⟩) ln⟩
theorem gAbs (h1 : GN A true n r σ H t1) (ln : n ≤ 7800 := by decide) : GN A true n (rabs r) σ H (tCB (rAb A (spNeg A absI) E) (tCons t1 tNil)) := fun G sG Q k =>
  h1 G sG _ fun v G1 s1 n1 f1 => by
    obtain ⟨a, rfl⟩ := f1 rfl
    exact ⟨n1.av.isI, vAbs n1.av (fun z G3 nz s3 a3 => k _ G3 (s1.trans s3) a3.nv fun _ => ⟨z, rfl⟩) ln⟩

theorem gCLt (h1 : GN A f n r σ H t1) (h2 : GN A g m s σ H t2) (o : (f || g) = true := by rfl) (ln : n ≤ 3900 := by decide) (lm : m ≤ 3900 := by decide) : GL (decide (r < s)) σ H (tOp (rOw A r0 (spCmp A gLt) (spCmp A gGt) E) t1 t2) := fun G sG Q k =>
  h1 G sG _ fun v G1 s1 n1 f1 => h2 G1 (sG.trans s1) _ fun w G2 s2 n2 f2 => vLt (n1.mo s2) n2 (one2 o f1 f2) rfl (fun G3 s3 => k G3 ((s1.trans s2).trans s3)) ln lm

theorem gCGt (h1 : GN A f n r σ H t1) (h2 : GN A g m s σ H t2) (o : (f || g) = true := by rfl) (ln : n ≤ 3900 := by decide) (lm : m ≤ 3900 := by decide) : GL (decide (s < r)) σ H (tOp (rOw A r0 (spCmp A gGt) (spCmp A gLt) E) t1 t2) := fun G sG Q k =>
  h1 G sG _ fun v G1 s1 n1 f1 => h2 G1 (sG.trans s1) _ fun w G2 s2 n2 f2 => vGt (n1.mo s2) n2 (one2 o f1 f2) rfl (fun G3 s3 => k G3 ((s1.trans s2).trans s3)) ln lm

theorem gCLe (h1 : GN A f n r σ H t1) (h2 : GN A g m s σ H t2) (o : (f || g) = true := by rfl) (ln : n ≤ 3900 := by decide) (lm : m ≤ 3900 := by decide) : GL (!decide (s < r)) σ H (tOp (rOw A r0 (spCmp A gLe) (spCmp A gGe) E) t1 t2) := fun G sG Q k =>
  h1 G sG _ fun v G1 s1 n1 f1 => h2 G1 (sG.trans s1) _ fun w G2 s2 n2 f2 => vLe (n1.mo s2) n2 (one2 o f1 f2) rfl (fun G3 s3 => k G3 ((s1.trans s2).trans s3)) ln lm

theorem gCGe (h1 : GN A f n r σ H t1) (h2 : GN A g m s σ H t2) (o : (f || g) = true := by rfl) (ln : n ≤ 3900 := by decide) (lm : m ≤ 3900 := by decide) : GL (!decide (r < s)) σ H (tOp (rOw A r0 (spCmp A gGe) (spCmp A gLe) E) t1 t2) := fun G sG Q k =>
  h1 G sG _ fun v G1 s1 n1 f1 => h2 G1 (sG.trans s1) _ fun w G2 s2 n2 f2 => vGe (n1.mo s2) n2 (one2 o f1 f2) rfl (fun G3 s3 => k G3 ((s1.trans s2).trans s3)) ln lm

theorem gCEq (h1 : GN A f n r σ H t1) (h2 : GN A g m s σ H t2) (o : (f || g) = true := by rfl) (ln : n ≤ 3900 := by decide) (lm : m ≤ 3900 := by decide) : GL (decide (r = s)) σ H (tOp (rOw A r0 (spCmp A gEq) (spCmp A gEq) E) t1 t2) := fun G sG Q k =>
  h1 G sG _ fun v G1 s1 n1 f1 => h2 G1 (sG.trans s1) _ fun w G2 s2 n2 f2 => vEq (n1.mo s2) n2 (one2 o f1 f2) rfl (fun G3 s3 => k G3 ((s1.trans s2).trans s3)) ln lm

theorem gCNe (h1 : GN A f n r σ H t1) (h2 : GN A g m s σ H t2) (o : (f || g) = true := by rfl) (ln : n ≤ 3900 := by decide) (lm : m ≤ 3900 := by decide) : GL (!decide (r = s)) σ H (tOp (rNw A r0 (spCmp A gEq) E) t1 t2) := fun G sG Q k =>
  h1 G sG _ fun v G1 s1 n1 f1 => h2 G1 (sG.trans s1) _ fun w G2 s2 n2 f2 => vNe (n1.mo s2) n2 (one2 o f1 f2) rfl (fun G3 s3 => k G3 ((s1.trans s2).trans s3)) ln lm
theorem gLeLt (h1 : GN A f n r σ H t1) (h2 : GN A g m s σ H t2) (h3 : GN A h l u σ H t3) (o : (f || g) = true := by rfl) (o2 : (g || h) = true := by rfl) (ln : n ≤ 3900 := by decide) (lm : m ≤ 3900 := by decide) (ll : l ≤ 3900 := by decide) : GL (!decide (s < r) && decide (s < u)) σ H (cChain (rOw A r0 (spCmp A gLe) (spCmp A gGe) E) (rOw A r1 (spCmp A gLt) (spCmp A gGt) E') t1 t2 t3) := fun G sG Q k =>
  h1 G sG _ fun v G1 s1 n1 f1 => h2 G1 (sG.trans s1) _ fun w G2 s2 n2 f2 => vLe (n1.mo s2) n2 (one2 o f1 f2) rfl (fun G3 s3 => by
    have s23 := s2.trans s3
    have s4 := s1.trans s23
    cases e : decide (s < r) with
    | true => exact ⟨(fun z => nomatch z), fun _ => by rw [e] at k; exact k G3 s4⟩
    | false => exact ⟨fun _ => h3 G3 (sG.trans s4) _ fun x G4 s5 n3 f3 => vLt (n2.mo (s3.trans s5)) n3 (one2 o2 f2 f3) rfl (fun G5 s6 => by rw [e] at k; exact k G5 (s4.trans (s5.trans s6))) lm ll, fun z => nomatch z⟩) ln lm
theorem gLtLe (h1 : GN A f n r σ H t1) (h2 : GN A g m s σ H t2) (h3 : GN A h l u σ H t3) (o : (f || g) = true := by rfl) (o2 : (g || h) = true := by rfl) (ln : n ≤ 3900 := by decide) (lm : m ≤ 3900 := by decide) (ll : l ≤ 3900 := by decide) : GL (decide (r < s) && !decide (u < s)) σ H (cChain (rOw A r0 (spCmp A gLt) (spCmp A gGt) E) (rOw A r1 (spCmp A gLe) (spCmp A gGe) E') t1 t2 t3) := fun G sG Q k =>
  h1 G sG _ fun v G1 s1 n1 f1 => h2 G1 (sG.trans s1) _ fun w G2 s2 n2 f2 => vLt (n1.mo s2) n2 (one2 o f1 f2) rfl (fun G3 s3 => by
    have s23 := s2.trans s3
    have s4 := s1.trans s23
    cases e : decide (r < s) with
    | false => exact ⟨(fun z => nomatch z), fun _ => by rw [e] at k; exact k G3 s4⟩
    | true => exact ⟨fun _ => h3 G3 (sG.trans s4) _ fun x G4 s5 n3 f3 => vLe (n2.mo (s3.trans s5)) n3 (one2 o2 f2 f3) rfl (fun G5 s6 => by rw [e] at k; exact k G5 (s4.trans (s5.trans s6))) lm ll, fun z => nomatch z⟩) ln lm
theorem gBEq {neg : Bool} (h1 : GL b σ H t1) (h2 : GL c σ H t2) : GL (xor neg (decide (b = c))) σ H (tOp (rEq2 K neg) t1 t2) := fun G sG Q k => h1 G sG _ fun G1 s1 => h2 G1 (sG.trans s1) _ fun G2 s2 => k G2 (s1.trans s2)
theorem gIEq {neg : Bool} (h1 : GI i σ H t1) (h2 : GI j σ H t2) : GL (xor neg (decide (i = j))) σ H (tOp (rEq2 K neg) t1 t2) := fun G sG Q k => h1 G sG _ fun G1 s1 => h2 G1 (sG.trans s1) _ fun G2 s2 => k G2 (s1.trans s2)
theorem gSEq {neg : Bool} (h1 : GS z σ H t1) (h2 : GS z' σ H t2) : GL (xor neg (decide (z = z'))) σ H (tOp (rEq2 K neg) t1 t2) := fun G sG Q k => h1 G sG _ fun G1 s1 => h2 G1 (sG.trans s1) _ fun G2 s2 => k G2 (s1.trans s2)
theorem gILt {p : Int → Int → Bool} {q : Str → Str → Bool} (h1 : GI i σ H t1) (h2 : GI j σ H t2) : GL (p i j) σ H (tOp (rOrd2 p q) t1 t2) := fun G sG Q k => h1 G sG _ fun G1 s1 => h2 G1 (sG.trans s1) _ fun G2 s2 => k G2 (s1.trans s2)
theorem gIAdd (h1 : GI i σ H t1) (h2 : GI j σ H t2) : GI (i + j) σ H (tOp rAdd2 t1 t2) := fun G sG Q k => h1 G sG _ fun G1 s1 => h2 G1 (sG.trans s1) _ fun G2 s2 => k G2 (s1.trans s2)
theorem gNot (h1 : GL b σ H t1) : GL (!b) σ H (cNotV t1) := fun G sG Q k => h1 G sG _ fun G1 s1 => k G1 s1
theorem gTe (h1 : GL b σ H t1) : GT b σ H (cT t1) := fun G sG Q k => h1 G sG _ fun G1 s1 => k G1 s1
theorem gTN {q : TT} (h1 : GT b σ H q) : GT (!b) σ H (tNot q) := fun G sG Q k => h1 G sG _ fun G1 s1 => k G1 s1
theorem gOr {p q : TT} (h1 : GT b σ H p) (h2 : GT c σ H q) : GT (b || c) σ H (cOr p q) := fun G sG Q k => h1 G sG _ fun G1 s1 => by
  cases b with
  | true => exact ⟨fun _ => k G1 s1, fun z => nomatch z⟩
  | false => exact ⟨fun z => (nomatch z), fun _ => h2 G1 (sG.trans s1) _ fun G2 s2 => k G2 (s1.trans s2)⟩
theorem gOrF {p q : TT} (h1 : GT false σ H p) (h2 : GT c σ H q) : GT c σ H (cOr p q) := (gOr h1 h2).to (by simp)
theorem gAnd {p q : TT} (h1 : GT b σ H p) (h2 : GT c σ H q) : GT (b && c) σ H (cAnd p q) := fun G sG Q k => h1 G sG _ fun G1 s1 => by
  cases b with
  | true => exact ⟨fun _ => h2 G1 (sG.trans s1) _ fun G2 s2 => k G2 (s1.trans s2), fun z => nomatch z⟩
  | false => exact ⟨fun z => (nomatch z), fun _ => k G1 s1⟩
theorem gAndV (h1 : GL b σ H t1) (h2 : GL c σ H t2) : GL (b && c) σ H (cAndV t1 t2) := fun G sG Q k => h1 G sG _ fun G1 s1 => by
  cases b with
  | true => exact ⟨fun _ => h2 G1 (sG.trans s1) _ fun G2 s2 => k G2 (s1.trans s2), fun z => nomatch z⟩
  | false => exact ⟨fun z => (nomatch z), fun _ => k G1 s1⟩
theorem gAndT (h1 : GL true σ H t1) (h2 : GL c σ H t2) : GL c σ H (cAndV t1 t2) := (gAndV h1 h2).to (by simp)
/-- or, where the second is looked at only under the first's not being so -/
theorem gOrT (h1 : GL b σ H t1) (h2 : b = false → GL true σ H t2) : GL true σ H (cOrV t1 t2) := fun G sG Q k => h1 G sG _ fun G1 s1 => by
  cases b with
  | true => exact ⟨fun _ => k G1 s1, fun z => nomatch z⟩
  | false => exact ⟨fun z => (nomatch z), fun _ => h2 rfl G1 (sG.trans s1) _ fun G2 s2 => k G2 (s1.trans s2)⟩
theorem seqF {q : TT} {tt u : TS} (h1 : GT false σ G0 q) (sm : Same G0 H) (k : ∀ G, Same G0 G → u D σ G) : tSeq (cIfS q tt tNext) u D σ H := h1 H sm _ fun G s => ⟨fun z => (nomatch z), fun _ => k G (sm.trans s)⟩
theorem seqPar {u : TS} {p q : Nat} (h1 : GI j σ G0 t1) (h2 : GN A true n r σ G0 t2) (sm : Same G0 H) (k : ∀ a G, Same H G → AV A n G a r → u D ((σ.set p (some (.int j))).set q (some (.ref a))) G) : tSeq (tPar p q (tCons t1 (tCons t2 tNil))) u D σ H := h1 H sm _ fun G1 s1 => h2 G1 (sm.trans s1) _ fun v G2 s2 nv fv => by
  obtain ⟨a, rfl⟩ := fv rfl
  exact ⟨_, _, rfl, k a G2 (s1.trans s2) nv.av⟩
theorem retT (h1 : GL true σ G0 te) (sm : Same G0 H) (k : ∀ G, Same G0 G → D.rt (.bl true) G) : tRet te D σ H := h1 H sm _ fun G s => k G (sm.trans s)
theorem whole_iff {t d : Int} (lo : Low t d) : d = 1 ↔ ∃ j : Int, rv t d = (j : Rat) := by
  constructor
  · rintro rfl
    exact ⟨t, rv_one t⟩
  · rintro ⟨j, e⟩
    rw [← rv_one] at e
    exact (low_rv lo (low_int j) e).2
theorem gWh (h1 : GN A true n r σ H t1) (e : b = true ↔ ∃ j : Int, r = (j : Rat)) : GL b σ H (tProp A (spWhole A) [] E t1) := fun G sG Q k =>
  h1 G sG _ fun v G1 s1 n1 f1 => by
    obtain ⟨a, rfl⟩ := f1 rfl
    obtain ⟨t, d, ⟨dx, ea⟩, lo, _, _, er⟩ := n1.av
    refine ⟨a, dx, _, rfl, ea, a, t, d, rfl, ⟨dx, ea⟩, ?_⟩
    have eb : decide (d = 1) = b := by
      have : (d = 1) ↔ b = true := by rw [whole_iff lo, ← er, e]
      cases b with
      | true => exact decide_eq_true (this.mpr rfl)
      | false => exact decide_eq_false fun z => nomatch this.mp z
    rw [eb]
    exact k G1 s1
theorem gMk1 (h1 : GI i σ H t1) (S : Sm n i) (h0 : 0 < n := by decide) (ln : n ≤ 3900 := by decide) : GN A true n (i : Rat) σ H (tMake A (spInit A) [V.int 1] E (tCons t1 tNil)) := fun G sG Q k =>
  h1 G sG _ fun G1 s1 => mkR (p := i) (q := 1) (by decide) (S.mono (by omega)) (sm_one.mono (by decide)) fun x G2 nx s2 am => by
    rw [(n_self (low_int i)).1, (n_self (low_int i)).2] at am
    exact k _ G2 (s1.trans s2) ⟨i, 1, .inl ⟨x, rfl, am⟩, low_int i, S, sm_one.mono h0, (rv_one i).symm⟩ fun _ => ⟨x, rfl⟩
theorem gMk2 (h1 : GI t σ H t1) (h2 : GI d σ H t2) (lo : Low t d) (S : Sm 7000 t) (S' : Sm 7000 d) : GP A t d σ H (tMake A (spInit A) [] E (tCons t1 (tCons t2 tNil))) := fun G sG Q k =>
  h1 G sG _ fun G1 s1 => h2 G1 (sG.trans s1) _ fun G2 s2 => mkR (p := t) (q := d) (by have := lo.1; omega) (S.mono (by decide)) (S'.mono (by decide)) fun x G3 nx s3 am => by
    rw [(n_self lo).1, (n_self lo).2] at am
    exact k _ G3 ((s1.trans s2).trans s3) am
theorem gRead (h1 : GS (ofL (atx t d)) σ H t1) (rt : RT (atx t d) t d) : GP A t d σ H (ClX.tCMeth A (spReadN A) E (tC (V.ref A)) (tCons t1 tNil)) := fun G sG Q k =>
  ⟨rfl, h1 G sG _ fun G1 s1 => ⟨t, d, rfl, rt, fun x G2 nx s2 am => k _ G2 (s1.trans s2) am⟩⟩
theorem gStr (h1 : GP A t d σ H t1) (S : Sm 1300 t) (S' : Sm 1300 d) : GS (ofL (atx t d)) σ H (tCB (rStrO A (spStr A) E) (tCons t1 tNil)) := fun G sG Q k =>
  h1 G sG _ fun a G1 s1 am => ⟨am.isI, a, t, d, rfl, am, S, S', _, rfl, by rw [amText_at]; exact k G1 s1⟩
theorem gBool (h1 : GN A true n r σ H t1) : GL (!decide (r = 0)) σ H (tCB (rBoolO A (spTruth A) E) (tCons t1 tNil)) := fun G sG Q k =>
  h1 G sG _ fun v G1 s1 n1 f1 => by
    obtain ⟨a, rfl⟩ := f1 rfl
    obtain ⟨t, d, am, lo, _, _, er⟩ := n1.av
    refine ⟨a, rfl, am.isI, a, t, d, rfl, am, _, rfl, ?_⟩
    have e : (t != 0) = !decide (r = 0) := by
      rw [er, decide_eq_decide.mpr (rv_zero (t := t) (b := d) (by have := lo.1; omega))]
      rfl
    rw [e]
    exact k G1 s1
theorem gOf (h1 : GN A f n r σ H t1) (ln : n ≤ 7800 := by decide) : GN A true n r σ H (tSM A (spOf A) E (tC (V.ref A)) (tCons t1 tNil)) := fun G sG Q k =>
  ⟨rfl, h1 G sG _ fun v G1 s1 n1 f1 => by
    obtain ⟨t, d, nu, lo, S, S', er⟩ := n1
    exact ⟨v, t, d, rfl, nu, S.mono (by omega), fun x G2 s2 am => k _ G2 (s1.trans s2) ⟨t, d, .inl ⟨x, rfl, am⟩, lo, S, S', er⟩ fun _ => ⟨x, rfl⟩⟩⟩
theorem gTop (h1 : GP A t d σ H t1) (cl : Cls K A) (nt : NoAttr K A "top") : GI t σ H (tFld K t1 "top") := fun G sG Q k =>
  h1 G sG _ fun a G1 s1 ⟨dx, e⟩ => ⟨a, A, dx, _, _, rfl, e, cl, nt, rfl, k G1 s1⟩
theorem gBot (h1 : GP A t d σ H t1) (cl : Cls K A) (nt : NoAttr K A "bottom") : GI d σ H (tFld K t1 "bottom") := fun G sG Q k =>
  h1 G sG _ fun a G1 s1 ⟨dx, e⟩ => ⟨a, A, dx, _, _, rfl, e, cl, nt, rfl, k G1 s1⟩

theorem das_bl {H : Hp} : ∀ l : List Bool, Das H (l.map V.bl) (l.map PyData.bool)
  | [] => .nil
  | x :: l => .cons (.bl x) (das_bl l)
def b2i (b : Bool) : Int := if b then 1 else 0
theorem gCnt {b1 b2 b3 : Bool} (h1 : GL b1 σ H t1) (h2 : GL b2 σ H t2) (h3 : GL b3 σ H t3) : GI (b2i b1 + b2i b2 + b2i b3) σ H (tBM K "list" rCntD (tLst (tCons t1 (tCons t2 (tCons t3 tNil)))) (tCons (tC (V.bl true)) tNil)) := fun G sG Q k =>
  h1 G sG _ fun G1 s1 => h2 G1 (sG.trans s1) _ fun G2 s2 => h3 G2 (sG.trans (s1.trans s2)) _ fun G3 s3 => ⟨by show 3 ≤ sizeLine; decide, fun p np => by
    refine ⟨.inl ⟨rfl, _, SqL.of upd_same⟩, p, _, [PyData.bool b1, .bool b2, .bool b3], _, .bool true, rfl, rfl, upd_same, das_bl [b1, b2, b3], .bl true, rfl, rfl, by decide, ?_⟩
    have e : (([PyData.bool b1, .bool b2, .bool b3].countP fun e => PyData.eqv e (.bool true) : Nat) : Int) = b2i b1 + b2i b2 + b2i b3 := by
      cases b1 <;> cases b2 <;> cases b3 <;> decide +kernel
    rw [e]
    exact k _ (((s1.trans s2).trans s3).trans (Same.new (Same.refl G3) np))⟩
theorem step_v {s1 s2 t b : Int} (lo : Low s1 s2) (lo2 : Low t b) (S1 : Sm n s1) (S2 : Sm n s2) (St : Sm m t) (Sb : Sm m b) : Low (stepT (s1, s2) (t, b)).1 (stepT (s1, s2) (t, b)).2 ∧ Sm (n + m + 1) (stepT (s1, s2) (t, b)).1 ∧ Sm (n + m + 1) (stepT (s1, s2) (t, b)).2 ∧ rv (stepT (s1, s2) (t, b)).1 (stepT (s1, s2) (t, b)).2 = rv s1 s2 + rv t b := by
  have z1 : s2 ≠ 0 := by have := lo.1; omega
  have z2 : b ≠ 0 := by have := lo2.1; omega
  have qz : s2 * b ≠ 0 := Int.mul_ne_zero z1 z2
  have S : Sm (n + m + 1) (s1 * b + t * s2) := (S1.mul Sb).add ((St.mul S2).mono (by omega))
  unfold stepT
  refine ⟨low_n qz, S.nT qz, ((S2.mul Sb).mono (by omega)).nB qz, ?_⟩
  rw [rv_n qz]
  have := rv_add (t := s1) (b := s2) (c := t) (d := b) z1 z2
  rw [Int.one_mul] at this
  exact this
theorem one_low : Low 0 1 ∧ Sm 1 0 ∧ Sm 1 1 := ⟨low_int 0, by unfold Sm; decide, by unfold Sm; decide⟩
theorem gTot3 (h1 : GN A true n r σ H t1) (h2 : GN A true n s σ H t2) (h3 : GN A true n u σ H t3) (ln : n ≤ 130 := by decide) : GN A true (3 * n + 4) (r + s + u) σ H (tSM A (spTotal K A SqL) E (tC (V.ref A)) (tCons (tLst (tCons t1 (tCons t2 (tCons t3 tNil)))) tNil)) := fun G sG Q k =>
  ⟨rfl, h1 G sG _ fun v1 G1 s1 n1 f1 => h2 G1 (sG.trans s1) _ fun v2 G2 s2 n2 f2 => h3 G2 (sG.trans (s1.trans s2)) _ fun v3 G3 s3 n3 f3 => ⟨by show 3 ≤ sizeLine; decide, fun p np => by
    have s4 := Same.new (o := .lst [v1, v2, v3]) (Same.refl G3) np
    obtain ⟨a1, b1, u1, l1, S1, S1', e1⟩ := n1.mo (s2.trans (s3.trans s4))
    obtain ⟨a2, b2, u2, l2, S2, S2', e2⟩ := n2.mo (s3.trans s4)
    obtain ⟨a3, b3, u3, l3, S3, S3', e3⟩ := n3.mo s4
    refine ⟨p, _, [(a1, b1), (a2, b2), (a3, b3)], rfl, SqL.of upd_same, .cons u1 l1 (S1.mono ln) (S1'.mono ln) (.cons u2 l2 (S2.mono ln) (S2'.mono ln) (.cons u3 l3 (S3.mono ln) (S3'.mono ln) .nil)), (by show 3 ≤ 6; decide), fun x G4 nx s5 am => ?_⟩
    obtain ⟨y1, y2, y3, y4⟩ := step_v one_low.1 l1 one_low.2.1 one_low.2.2 S1 S1'
    obtain ⟨z1, z2, z3, z4⟩ := step_v y1 l2 y2 y3 S2 S2'
    obtain ⟨w1, w2, w3, w4⟩ := step_v z1 l3 z2 z3 S3 S3'
    refine k _ G4 (((s1.trans s2).trans (s3.trans s4)).trans s5) ⟨_, _, .inl ⟨x, rfl, am⟩, w1, w2.mono (by omega), w3.mono (by omega), ?_⟩ fun _ => ⟨x, rfl⟩
    refine Eq.trans ?_ w4.symm
    show r + s + u = _
    rw [z4, y4, rv_one, e1, e2, e3, show ((0 : Int) : Rat) = 0 by simp]
    grind⟩⟩
theorem gTot2 (h1 : GN A true n r σ H t1) (h2 : GN A true n s σ H t2) (ln : n ≤ 130 := by decide) : GN A true (2 * n + 4) (r + s) σ H (tSM A (spTotal K A SqT) E (tC (V.ref A)) (tCons (tTup (tCons t1 (tCons t2 tNil))) tNil)) := fun G sG Q k =>
  ⟨rfl, h1 G sG _ fun v1 G1 s1 n1 f1 => h2 G1 (sG.trans s1) _ fun v2 G2 s2 n2 f2 => ⟨by show 2 ≤ sizeLine; decide, fun p np => by
    have s4 := Same.new (o := .tup [v1, v2]) (Same.refl G2) np
    obtain ⟨a1, b1, u1, l1, S1, S1', e1⟩ := n1.mo (s2.trans s4)
    obtain ⟨a2, b2, u2, l2, S2, S2', e2⟩ := n2.mo s4
    refine ⟨p, _, [(a1, b1), (a2, b2)], rfl, SqT.of upd_same, .cons u1 l1 (S1.mono ln) (S1'.mono ln) (.cons u2 l2 (S2.mono ln) (S2'.mono ln) .nil), (by show 2 ≤ 6; decide), fun x G4 nx s5 am => ?_⟩
    obtain ⟨y1, y2, y3, y4⟩ := step_v one_low.1 l1 one_low.2.1 one_low.2.2 S1 S1'
    obtain ⟨z1, z2, z3, z4⟩ := step_v y1 l2 y2 y3 S2 S2'
    refine k _ G4 ((s1.trans (s2.trans s4)).trans s5) ⟨_, _, .inl ⟨x, rfl, am⟩, z1, z2.mono (by omega), z3.mono (by omega), ?_⟩ fun _ => ⟨x, rfl⟩
    refine Eq.trans ?_ z4.symm
    show r + s = _
    rw [y4, rv_one, e1, e2, show ((0 : Int) : Rat) = 0 by simp]
    grind⟩⟩
theorem gIsiB (h1 : GI i σ H t1) {T : String} {b : Bool} (e : kitB "int" T = some b) : GL b σ H (tCB (rIsi2 K) (tCons t1 (tCons (tC (.ty T)) tNil))) := fun G sG Q k =>
  h1 G sG _ fun G1 s1 => ⟨.int i, .ty T, .type "int", .type T, b, rfl, .int _, fun u r => r, kit_ty e, k G1 s1⟩
theorem gMkOne : GN A true 1 1 σ H (tMake A (spInit A) [V.int 1] E (tCons (tC (V.int 1)) tNil)) := (gMk1 (n := 1) gK (by unfold Sm; decide)).to (by simp)
theorem fl_ex (x : Rat) : ∃ j, Fl j x := by
  refine ⟨x.num.fdiv (x.den : Int), ?_⟩
  have h : (x.den : Int) ≠ 0 := by have := x.den_nz; omega
  have e : rv x.num (x.den : Int) = x := by
    unfold rv
    rw [← Rat.divInt_eq_div, Rat.num_divInt_den]
  have := fl_fdiv (p := x.num) h
  rw [e] at this
  exact this
theorem fl_sm {t d : Int} {j : Int} (lo : Low t d) (S : Sm n t) (f : Fl j (rv t d / 1)) : Sm (n + 1) j :=
  sm_fl (q := d) S (by have := lo.1; omega) (by rw [show rv t d = rv t d / 1 by grind]; exact f)
theorem quo {x y : Rat} {j : Int} (f : Fl j (x / y)) (hy : y ≠ 0) : (0 < y → ¬ (x - (j : Rat) * y < 0) ∧ x - (j : Rat) * y < y) ∧ (y < 0 → y < x - (j : Rat) * y ∧ ¬ (0 < x - (j : Rat) * y)) := by
  obtain ⟨f1, f2⟩ := f
  have e : x / y * y = x := by grind
  generalize x / y = q at f1 f2 e
  generalize (j : Rat) = i at *
  subst e
  constructor
  · intro p
    have m1 : 0 ≤ (q - i) * y := Rat.mul_nonneg (by grind) (by grind)
    have m2 : 0 < (i + 1 - q) * y := Rat.mul_pos (by grind) p
    constructor <;> grind
  · intro p
    have m1 : 0 ≤ (q - i) * (-y) := Rat.mul_nonneg (by grind) (by grind)
    have m2 : 0 < (i + 1 - q) * (-y) := Rat.mul_pos (by grind) (by grind)
    constructor <;> grind
end
end LW
set_option Elab.async false
set_option linter.all false
set_option maxRecDepth 100000
set_option maxHeartbeats 4000000
namespace LW
open PySem PySem.Spec PyProof.Rows L2 HX NumText
section
variable {P : Program} {w : World} {K : PySem.W.Frag} {mg : Str → Option Value} {base : Heap}

theorem ok_pen {f : Addr} {fd : FuncData} (F : Fun K "_law_pen" "_law_pen" s__law_pen f fd) (T : Txt K mg) : FnOk P w K mg base CX0 1 f fd ["_law_script"] (spPen K) := by
  refine F.ok sc__law_pen (fun vs H Q E h => ?_) (fun cdv A outer s H vs Q E hr h => ?_)
  · obtain ⟨a, ns, rfl, _⟩ := h
    rfl
  · obtain ⟨a, ns, rfl, hs, k⟩ := h
    refine ⟨_, (pss_one (ps_ret (pe_lst (pa_cons (pe_callTy call_list_of (by rfl) T.b_list (by decide +kernel) (pa_cons (pe_slice sl_list (pc 0) po_none (po_some pe_int)) pa_nil)) (pa_cons pe_int (pa_cons pe_int pa_nil)))))), ?_⟩
    refine ⟨_, rfl, a, _, rfl, hs, fun q1 n1 => ⟨q1, _, rfl, .inl (SqL.of upd_same), fun q2 n2 => ⟨by show 3 ≤ sizeLine; decide, fun p n3 => ?_⟩⟩⟩
    obtain ⟨ms, hm⟩ := cut_ints ns none (some 63)
    have s1 : Same H (upd H q1 (.lst (cutV (ns.map V.int) none (some 63)))) := Same.new (Same.refl H) n1
    have s2 := Same.new (o := .lst (cutV (ns.map V.int) none (some 63))) s1 n2
    have s3 := Same.new (o := .lst [.ref q2, .int 0, .int 0]) s2 n3
    refine k p q2 _ (s2.free n3) s3 ⟨ms, 0, 0, ⟨upd_same, ?_, ne_of_none upd_same n3, by decide, by decide⟩, by decide⟩
    rw [upd_ne (ne_of_none upd_same n3), upd_same, hm]

theorem ok_draw {f : Addr} {fd : FuncData} (F : Fun K "_law_draw" "_law_draw" s__law_draw f fd) (T : Txt K mg) : FnOk P w K mg base CX0 1 f fd ["_law_pen_here", "_law_many"] spDraw := by
  refine F.ok sc__law_draw (fun vs H Q E h => ?_) (fun cdv A outer s H vs Q E hr h => ?_)
  · obtain ⟨p, l, c, many, rfl, _⟩ := h
    rfl
  · obtain ⟨p, l, cM, many, rfl, ⟨ns, c, g, Pp, cle⟩, hm, hz, hcM, k⟩ := h
    have hc : c < 1000000 := by omega
    obtain ⟨hp, hl, ne, c0, g0⟩ := id Pp
    refine ⟨_, (pss_cons (s_if (t_cmp o_gt (p_ix (pc 0) pe_int) pe_int) (pss_cons (ps_set (i := 2) sc__law_draw.nd rfl (Or.inl rfl) (pe_op o_mod (pe_callTy c_int (by rfl) T.b_int (by decide +kernel) (pa_cons (p_ix (pc 0) pe_int) pa_nil)) (pc 1)))
    (pss_cons (ps_asg (pe_op o_fdiv (pe_callTy c_int (by rfl) T.b_int (by decide +kernel) (pa_cons (p_ix (pc 0) pe_int) pa_nil)) (pc 1)) (pg_sub (pc 0) pe_int set_list))
    (pss_one (ps_ret (pc 2))))) pss_nil)
    (pss_cons (ps_set (i := 3) sc__law_draw.nd rfl (Or.inl rfl) (p_ix (pc 0) pe_int))
    (s_cut (ps_asg (pe_op o_add (pc 3) pe_int) (pg_sub (pc 0) pe_int set_list))
    (pss_cons (ps_set (i := 4) sc__law_draw.nd rfl (Or.inl rfl) (pe_op o_add (pe_op o_mul pe_int (pc 3)) pe_int))
    (s_cut (s_if (t_cmp (o_ne hr.units) (p_ix (pc 0) pe_int) (pe_lst pa_nil)) (pss_one (ps_set (i := 4) sc__law_draw.nd rfl (Or.inl rfl) (p_ix (p_ix (pc 0) pe_int) (pe_op o_mod (pe_callTy c_int (by rfl) T.b_int (by decide +kernel) (pa_cons (pc 3) pa_nil)) (pe_callB c_len (by rfl) T.b_len (by decide +kernel) (pa_cons (p_ix (pc 0) pe_int) pa_nil)))))) pss_nil)
    (s_cut (s_if (PW.pt (w_and (t_cmp o_lt (pc 3) (pe_callB c_len (by rfl) T.b_len (by decide +kernel) (pa_cons (p_ix (pc 0) pe_int) pa_nil))) (pw_and1 (t_cmp o_ge (pe_callB c_abs (by rfl) T.b_abs (by decide +kernel) (pa_cons (pc 4) pa_nil)) (pe_op o_pow pe_int pe_int))))) (pss_cons (ps_set (i := 5) sc__law_draw.nd rfl (Or.inl rfl) (pe_op o_add (pe_op o_mul pe_int (pe_op o_sub (pe_callB c_abs (by rfl) T.b_abs (by decide +kernel) (pa_cons (pc 4) pa_nil)) (pe_op o_pow pe_int pe_int))) (pe_callTy c_int (by rfl) T.b_int (by decide +kernel) (pa_cons (p_cmp o_lt (pc 4) pe_int) pa_nil))))
    (pss_cons (ps_asg (pe_op o_fdiv (pe_callTy c_int (by rfl) T.b_int (by decide +kernel) (pa_cons (pc 5) pa_nil)) (pc 1)) (pg_sub (pc 0) pe_int set_list))
    (pss_one (ps_ret (pe_op o_mod (pe_callTy c_int (by rfl) T.b_int (by decide +kernel) (pa_cons (pc 5) pa_nil)) (pc 1)))))) pss_nil)
    (s_cut (ps_set (i := 6) sc__law_draw.nd rfl (Or.inl rfl) (pe_op o_mod (pe_callTy c_int (by rfl) T.b_int (by decide +kernel) (pa_cons (pe_op o_pow (pe_op o_add (pe_op o_add (pe_op o_mod (pe_callTy c_int (by rfl) T.b_int (by decide +kernel) (pa_cons (pc 4) pa_nil)) pe_int) (pe_op o_mul pe_int (pc 3))) pe_int) pe_int) pa_nil)) pe_int))
    (s_cut (ps_set (i := 6) sc__law_draw.nd rfl (Or.inl rfl) (pe_op o_mod (pe_callTy c_int (by rfl) T.b_int (by decide +kernel) (pa_cons (pe_op o_pow (pe_op o_add (pe_op o_add (pe_op o_mul (pc 6) (pe_op o_add (pe_op o_mul pe_int (pc 3)) pe_int)) (pe_op o_mul (pe_op o_mul pe_int (pc 3)) (pc 3))) pe_int) pe_int) pa_nil)) pe_int))
    (pss_one (ps_ret (pe_op o_mod (pe_callTy c_int (by rfl) T.b_int (by decide +kernel) (pa_cons (pe_op o_fdiv (pc 6) pe_int) pa_nil)) (pc 1)))))))))))), ?_⟩
    -- what is left of a great cell
    refine ⟨_, _, .inl (SqL.of hp), rfl, fun h => ?_, fun _ => ?_⟩
    · have hg := of_decide_eq_true h
      have q0 : 0 ≤ g / many := Int.ediv_nonneg g0 (Int.le_of_lt hm)
      refine ⟨_, _, .inl (SqL.of hp), rfl, hm, _, _, .inl (SqL.of hp), rfl, wide_div hm hz (by decide) (by decide), p, _, _, 2, rfl, rfl, hp, rfl, ?_⟩
      have kk : Kp p H (upd H p (.lst [.ref l, .int c, .int (g / many)])) := Kp.refl.upd
      exact k (g % many) _ (Int.emod_nonneg _ (by omega)) (Int.emod_lt_of_pos _ hm) kk ⟨ns, c, _, Pp.put kk c0 q0 upd_same, by omega⟩
    · -- one more cell is begun
      refine ⟨_, _, .inl (SqL.of hp), rfl, fun σ G => σ = [some (.ref p), some (.int many), none, some (.int c), none, none, none] ∧ Kp p H G ∧ Pn G p l ns (c + 1) g, ?_, ?_⟩
      · exact ⟨p, _, _, 1, rfl, rfl, hp, rfl, rfl, Kp.refl.upd, Pp.put Kp.refl.upd (by omega) g0 upd_same⟩
      rintro σ H1 ⟨rfl, k1, P1⟩
      -- the cell, if there is one
      refine ⟨.inl (.inl ⟨by decide, by decide⟩), fun σ G => ∃ lone : Int, σ = [some (.ref p), some (.int many), none, some (.int c), some (.int lone), none, none] ∧ Kp p H G ∧ Pn G p l ns (c + 1) g, ?_, ?_⟩
      · refine ⟨_, _, .inl (SqL.of P1.at_), rfl, Nat.zero_le _, fun q nq => ?_⟩
        have k2 : Kp p H1 (upd H1 q (.lst [])) := Kp.refl.new nq
        have P2 : Pn (upd H1 q (.lst [])) p l ns (c + 1) g := P1.new nq
        have hq : upd H1 q (.lst []) q = some (.lst []) := upd_same
        refine ⟨.list (ns.map PyData.int), .list [], .lst (SqL.of P2.cel) (dp_ints ns), .lst (SqL.of hq) .nil, shaped_ints ns, rfl, ?_, ?_⟩
        · intro h
          have hn : ns ≠ [] := by
            intro e
            subst e
            cases h
          have hlen : 0 < (ns.length : Int) := by
            have := List.length_pos_iff.mpr hn
            omega
          obtain ⟨z, hzz⟩ := at_mod (ns := ns) c hlen
          refine ⟨_, _, .inl (SqL.of P2.at_), rfl, _, _, .inl (SqL.of P2.at_), rfl, _, .inl (SqL.of P2.cel), by rw [List.length_map]; exact hlen, _, .int z, .inl (SqL.of P2.cel), ?_, ?_⟩
          · rw [List.length_map]
            exact hzz
          · exact ⟨z, rfl, k1.trans k2, P2⟩
        · intro _
          exact ⟨_, rfl, k1.trans k2, P2⟩
      · rintro σ G ⟨lone, rfl, kG, PG⟩
        -- a great cell
        refine ⟨fun σ G' => σ = [some (.ref p), some (.int many), none, some (.int c), some (.int lone), none, none] ∧ Kp p H G' ∧ Pn G' p l ns (c + 1) g, ?_, ?_⟩
        · refine ⟨_, _, .inl (SqL.of PG.at_), rfl, _, .inl (SqL.of PG.cel), fun h1 => ?_, fun _ => ⟨fun z => Bool.noConfusion z, fun _ => ⟨rfl, kG, PG⟩⟩⟩
          refine ⟨⟨by decide, by decide, by decide⟩, fun h2 => ?_, fun _ => ⟨rfl, kG, PG⟩⟩
          have h2 := of_decide_eq_true h2
          refine ⟨⟨by decide, by decide, by decide⟩, .inl (.inl ⟨by decide, by decide⟩), wide_div hm hz (by decide) (by decide), p, _, _, 2, rfl, rfl, PG.at_, rfl, hm, ?_⟩
          have kk := kG.upd (p := p) (o := .lst [.ref l, .int (c + 1), .int ((2 * ((if lone < 0 then -lone else lone) - 10 ^ (18 : Int).toNat) + (if decide (lone < 0) = true then 1 else 0)) / many)])
          refine k _ _ (Int.emod_nonneg _ (by omega)) (Int.emod_lt_of_pos _ hm) kk ⟨ns, c + 1, _, Pp.put kk (by omega) ?_ upd_same, by omega⟩
          refine Int.ediv_nonneg ?_ (Int.le_of_lt hm)
          have z : (0 : Int) ≤ (if decide (lone < 0) = true then 1 else 0) := by split <;> decide
          omega
        · rintro σ' G' ⟨rfl, kG', PG'⟩
          -- a mix
          have e0 := fun b : Int => Int.emod_nonneg lone (b := b)
          have e1 := fun b : Int => Int.emod_lt_of_pos lone (b := b)
          refine ⟨fun σ G => ∃ m : Int, σ = [some (.ref p), some (.int many), none, some (.int c), some (.int lone), none, some (.int m)] ∧ G = G' ∧ 0 ≤ m ∧ m < 2147483648, ?_, ?_⟩
          · refine ⟨(by show (0 : Int) < _; decide), .inl (.inl ⟨by decide, by decide⟩), ⟨by decide, by decide, by omega⟩, (by show (0 : Int) < _; decide), _, rfl, rfl, Int.emod_nonneg _ (by decide), ?_⟩
            exact Int.lt_trans (Int.emod_lt_of_pos _ (by decide)) (by decide)
          rintro σ G2 ⟨m, rfl, rfl, m0, m1⟩
          refine ⟨fun σ G => ∃ m : Int, σ = [some (.ref p), some (.int many), none, some (.int c), some (.int lone), none, some (.int m)] ∧ G = G2 ∧ 0 ≤ m ∧ m < 2147483648, ?_, ?_⟩
          · have hb : ∀ a b d : Int, 0 ≤ a → a ≤ 1000 → 0 ≤ b → b ≤ 100000 → 0 ≤ d → d ≤ 1000 → (m * (2 * c + a) + b * c * c + d).natAbs < 2 ^ 64 := fun a b d h1 h2 h3 h4 h5 h6 => by
              have y1 := mul_lt (a := 2147483648) (b := 2002000) m0 m1 (show 0 ≤ 2 * c + a by omega) (by omega)
              have y2 := Int.mul_nonneg m0 (show 0 ≤ 2 * c + a by omega)
              have y3 := mul_lt (a := 100001) (b := 1000000) h3 (by omega) c0 hc
              have y4 := Int.mul_nonneg h3 c0
              have y5 := mul_lt (a := 100001000000) (b := 1000000) y4 (by omega) c0 hc
              have y6 := Int.mul_nonneg y4 c0
              omega
            have hb2 : ∀ b : Int, 0 ≤ b → b ≤ 100000 → CMulU (b * c) c := fun b h3 h4 => by
              have y3 := mul_lt (a := 100001) (b := 1000000) h3 (by omega) c0 hc
              have y4 := Int.mul_nonneg h3 c0
              exact .inl (.inl ⟨by omega, by omega⟩)
            refine ⟨.inl (.inl ⟨by decide, by decide⟩), .inl (.inl ⟨by omega, by omega⟩), .inl (.inl ⟨by decide, by decide⟩), hb2 _ (by decide) (by decide), ⟨by decide, by decide, ?_⟩, (by show (0 : Int) < _; decide), _, rfl, rfl, Int.emod_nonneg _ (by decide), ?_⟩
            · exact hb _ _ _ (by decide) (by decide) (by decide) (by decide) (by decide) (by decide)
            · exact Int.lt_trans (Int.emod_lt_of_pos _ (by decide)) (by decide)
          rintro σ G3 ⟨m, rfl, rfl, m0, m1⟩
          refine ⟨wide_div (b := 10) (by decide) (by decide) (by decide) (by decide), hm, ?_⟩
          exact k _ _ (Int.emod_nonneg _ (by omega)) (Int.emod_lt_of_pos _ hm) kG' ⟨ns, c + 1, g, PG', by omega⟩

theorem ok_pick {f : Addr} {fd : FuncData} {B : FuncData → Prop} (F : Fun K "_law_pick" "_law_pick" s__law_pick f fd) (T : Txt K mg) (cD : CalO P w K mg base "_law_draw" 1 ["_law_pen_here", "_law_many"] spDraw B) : FnOk P w K mg base CX0 2 f fd ["_law_pen_here", "_law_some"] (spPick K) := by
  refine F.ok sc__law_pick (fun vs H Q E h => ?_) (fun cdv A outer s H vs Q E hr h => ?_)
  · obtain ⟨p, l, c, x, rfl, _⟩ := h
    rfl
  · obtain ⟨p, l, c, x, rfl, Pp, hc, k⟩ := h
    refine ⟨_, (pss_one (ps_ret (p_ix (pc 1) (pe_cO cD (hr.mono (by decide)) (pa_cons (pc 0) (pa_cons (pe_callB c_len (by rfl) T.b_len (by decide +kernel) (pa_cons (pc 1) pa_nil)) pa_nil)))))), ?_⟩
    rcases k with ⟨z, rfl, h0, h1, k⟩ | ⟨a, xs, rfl, ne, hs, h0, h1, k⟩
    · refine ⟨Nat.le_trans h1 size_line_big, p, l, c, (z.length : Int), rfl, Pp, by omega, small_bits h1, hc, fun r H' r0 r1 kk P' => ?_⟩
      have e : z.length = z.cps.toList.length := by simp [Str.length]
      obtain ⟨ch, h2, h3⟩ := at_in (xs := z.cps.toList) r0 (by rw [← e]; exact r1)
      exact ⟨Nat.le_trans h1 size_line_big, ch, h2, k ch H' h3 kk P'⟩
    · refine ⟨xs, hs, p, l, c, (xs.length : Int), rfl, Pp, by omega, small_bits h1, hc, fun r H' r0 r1 kk P' => ?_⟩
      obtain ⟨v, h2, h3⟩ := at_in (xs := xs) r0 r1
      exact ⟨xs, v, hs.elim (fun z => .inl (kk.seq ne z)) (fun z => .inr (kk.seqT ne z)), h2, k v H' h3 kk P'⟩

/-- three amounts -/
def sp3 (A : Addr) : Sp := fun vs H Q _ => ∃ (a b c : Addr) (x y z : Rat), vs = [.ref a, .ref b, .ref c] ∧ AV A 110 H a x ∧ AV A 110 H b y ∧ AV A 110 H c z ∧ ∀ G, Same H G → Q (.bl true) G
theorem dT {p : Prop} [Decidable p] (h : p) : true = decide p := (decide_eq_true h).symm
theorem dF {p : Prop} [Decidable p] (h : ¬ p) : false = decide p := (decide_eq_false h).symm
theorem nT' {p : Prop} [Decidable p] (h : ¬ p) : true = !decide p := by rw [decide_eq_false h]; rfl
theorem nF {p : Prop} [Decidable p] (h : p) : false = !decide p := by rw [decide_eq_true h]; rfl

theorem nE {p : Prop} [Decidable p] (h : p) : (!decide p) = false := by rw [decide_eq_true h]; rfl
theorem xF {p q : Prop} [Decidable p] [Decidable q] (h : p ↔ q) : xor true (decide (decide p = decide q)) = false := by
  have e : decide p = decide q := decide_eq_decide.mpr h
  rw [e]
  simp
theorem xT {p q : Prop} [Decidable p] [Decidable q] (h : p ↔ q) : xor false (decide (decide p = decide q)) = true := by
  have e : decide p = decide q := decide_eq_decide.mpr h
  rw [e]
  simp
theorem nlt {p : Prop} [Decidable p] (h : ¬ p) : (!decide p) = true := by rw [decide_eq_false h]; rfl
theorem rabs_cases (x : Rat) : (x < 0 ∧ rabs x = -x) ∨ (¬ x < 0 ∧ rabs x = x) := by
  unfold rabs
  split
  · exact .inl ⟨by assumption, rfl⟩
  · exact .inr ⟨by assumption, rfl⟩
theorem rabs_add (x y : Rat) : ¬ (rabs x + rabs y < rabs (x + y)) := by
  rcases rabs_cases x with ⟨h1, e1⟩ | ⟨h1, e1⟩ <;> rcases rabs_cases y with ⟨h2, e2⟩ | ⟨h2, e2⟩ <;> rcases rabs_cases (x + y) with ⟨h3, e3⟩ | ⟨h3, e3⟩ <;> rw [e1, e2, e3] <;> grind
theorem rabs_mul (x y : Rat) : rabs (x * y) = rabs x * rabs y := by
  rcases rabs_cases x with ⟨h1, e1⟩ | ⟨h1, e1⟩ <;> rcases rabs_cases y with ⟨h2, e2⟩ | ⟨h2, e2⟩ <;> rcases rabs_cases (x * y) with ⟨h3, e3⟩ | ⟨h3, e3⟩ <;> rw [e1, e2, e3]
  · have : 0 < (-x) * (-y) := Rat.mul_pos (by grind) (by grind)
    grind
  · grind
  · grind
  · have : 0 ≤ (-x) * y := Rat.mul_nonneg (by grind) (by grind)
    grind
  · grind
  · have : 0 ≤ x * (-y) := Rat.mul_nonneg (by grind) (by grind)
    grind
  · have : 0 ≤ x * y := Rat.mul_nonneg (by grind) (by grind)
    grind

theorem ok_sums {A fI pO gO pN gN f : Addr} {mc : Value} {fd : FuncData} (F : Fun K "_law_sums_right" "_law_sums_right" s__law_sums_right f fd) (T : Txt K mg) (U : AmC K mg A fI pO gO pN gN mc) (oA : OpC P w K mg base A .Add (spBin A 3900 pAdd qBD) (spBin A 3900 pAdd qBD)) (oS : OpC P w K mg base A .Sub (spBin A 3900 pSub qBD) (spBin A 3900 pRsub qBD)) (oM : OpC P w K mg base A .Mult (spBin A 3900 pMul qBD) (spBin A 3900 pMul qBD)) (cLt : CmC P w K mg base A .Lt "int.__lt__" (spCmp A gLt) (spCmp A gGt)) (cLe : CmC P w K mg base A .LtE "int.__le__" (spCmp A gLe) (spCmp A gGe)) (cGt : CmC P w K mg base A .Gt "int.__gt__" (spCmp A gGt) (spCmp A gLt)) (cGe : CmC P w K mg base A .GtE "int.__ge__" (spCmp A gGe) (spCmp A gLe)) (cEq : CmC P w K mg base A .Eq "int.__eq__" (spCmp A gEq) (spCmp A gEq)) (eC : EqC P w K mg base A) {fNeg : Addr} {fdNeg : FuncData} (FNeg : FnOk P w K mg base CX0 4 fNeg fdNeg ["self"] (spNeg A Neg.neg)) (bNeg : Binds K fdNeg ["self"] []) (hNeg : PySem.W.findIn K (.ref A) "__neg__" = some (some (.ref fNeg))) (iNeg : PySem.W.isFn K (.ref fNeg) = true) {fAbs : Addr} {fdAbs : FuncData} (FAbs : FnOk P w K mg base CX0 4 fAbs fdAbs ["self"] (spNeg A absI)) (bAbs : Binds K fdAbs ["self"] []) (hAbs : PySem.W.findIn K (.ref A) "__abs__" = some (some (.ref fAbs))) (iAbs : PySem.W.isFn K (.ref fAbs) = true) {pT gT : Addr} {fdT : FuncData} (sTo : SMet K A mc "total" pT gT) (FTL : FnOk P w K mg base CX0 7 gT fdT ["numbers"] (spTotal K A SqL)) (FTT : FnOk P w K mg base CX0 7 gT fdT ["numbers"] (spTotal K A SqT)) (bTo : Binds K fdT ["numbers"] []) : FnOk P w K mg base CX0 10 f fd ["_law_a", "_law_b", "_law_c"] (sp3 A) := by
  refine F.ok sc__law_sums_right (fun vs H Q E h => ?_) (fun cdv A' outer s H vs Q E hr h => ?_)
  · obtain ⟨a, b, c, x, y, z, rfl, _⟩ := h
    rfl
  · obtain ⟨a, b, c, x, y, z, rfl, ha, hb, hc, k⟩ := h
    refine ⟨_, (pss_cons (s_if (PW.pt (w_or (t_cmp (ne_c (o_ne hr.units) eC (hr.mono (by decide))) (pe_op (op_c PySem.HXO.io_add o_add oA (hr.mono (by decide))) (pe_op (op_c PySem.HXO.io_add o_add oA (hr.mono (by decide))) (pc 0) (pc 1)) (pc 2)) (pe_op (op_c PySem.HXO.io_add o_add oA (hr.mono (by decide))) (pc 0) (pe_op (op_c PySem.HXO.io_add o_add oA (hr.mono (by decide))) (pc 1) (pc 2)))) (w_or (t_cmp (ne_c (o_ne hr.units) eC (hr.mono (by decide))) (pe_op (op_c PySem.HXO.io_add o_add oA (hr.mono (by decide))) (pc 0) (pc 1)) (pe_op (op_c PySem.HXO.io_add o_add oA (hr.mono (by decide))) (pc 1) (pc 0))) (w_or (t_cmp (ne_c (o_ne hr.units) eC (hr.mono (by decide))) (pe_op (op_c PySem.HXO.io_mul o_mulW oM (hr.mono (by decide))) (pe_op (op_c PySem.HXO.io_mul o_mulW oM (hr.mono (by decide))) (pc 0) (pc 1)) (pc 2)) (pe_op (op_c PySem.HXO.io_mul o_mulW oM (hr.mono (by decide))) (pc 0) (pe_op (op_c PySem.HXO.io_mul o_mulW oM (hr.mono (by decide))) (pc 1) (pc 2)))) (pw_or1 (t_cmp (ne_c (o_ne hr.units) eC (hr.mono (by decide))) (pe_op (op_c PySem.HXO.io_mul o_mulW oM (hr.mono (by decide))) (pc 0) (pc 1)) (pe_op (op_c PySem.HXO.io_mul o_mulW oM (hr.mono (by decide))) (pc 1) (pc 0)))))))) (pss_one (ps_ret pe_bl)) pss_nil)
    (pss_cons (s_if (PW.pt (w_or (t_cmp (ne_c (o_ne hr.units) eC (hr.mono (by decide))) (pe_op (op_c PySem.HXO.io_mul o_mulW oM (hr.mono (by decide))) (pc 0) (pe_op (op_c PySem.HXO.io_add o_add oA (hr.mono (by decide))) (pc 1) (pc 2))) (pe_op (op_c PySem.HXO.io_add o_add oA (hr.mono (by decide))) (pe_op (op_c PySem.HXO.io_mul o_mulW oM (hr.mono (by decide))) (pc 0) (pc 1)) (pe_op (op_c PySem.HXO.io_mul o_mulW oM (hr.mono (by decide))) (pc 0) (pc 2)))) (w_or (t_cmp (ne_c (o_ne hr.units) eC (hr.mono (by decide))) (pe_op (op_c PySem.HXO.io_sub o_sub oS (hr.mono (by decide))) (pc 0) (pc 1)) (pe_op (op_c PySem.HXO.io_add o_add oA (hr.mono (by decide))) (pc 0) (pe_un (un_ow hNeg iNeg FNeg bNeg (hr.mono (by decide)) pass0) (pc 1)))) (w_or (t_cmp (ne_c (o_ne hr.units) eC (hr.mono (by decide))) (pe_op (op_c PySem.HXO.io_add o_add oA (hr.mono (by decide))) (pe_op (op_c PySem.HXO.io_sub o_sub oS (hr.mono (by decide))) (pc 0) (pc 1)) (pc 1)) (pc 0)) (pw_or1 (t_cmp (ne_c (o_ne hr.units) eC (hr.mono (by decide))) (pe_op (op_c PySem.HXO.io_add o_add oA (hr.mono (by decide))) (pc 0) (pe_un (un_ow hNeg iNeg FNeg bNeg (hr.mono (by decide)) pass0) (pc 0))) pe_int)))))) (pss_one (ps_ret pe_bl)) pss_nil)
    (pss_cons (s_if (PW.pt (w_or (t_cmp (ne_c (o_ne hr.units) eC (hr.mono (by decide))) (pe_op (op_c PySem.HXO.io_add o_add oA (hr.mono (by decide))) (pc 0) pe_int) (pc 0)) (w_or (t_cmp (ne_c (o_ne hr.units) eC (hr.mono (by decide))) (pe_op (op_c PySem.HXO.io_add o_add oA (hr.mono (by decide))) pe_int (pc 0)) (pc 0)) (w_or (t_cmp (ne_c (o_ne hr.units) eC (hr.mono (by decide))) (pe_op (op_c PySem.HXO.io_mul o_mulW oM (hr.mono (by decide))) (pc 0) pe_int) (pc 0)) (w_or (t_cmp (ne_c (o_ne hr.units) eC (hr.mono (by decide))) (pe_op (op_c PySem.HXO.io_mul o_mulW oM (hr.mono (by decide))) pe_int (pc 0)) (pc 0)) (w_or (t_cmp (ne_c (o_ne hr.units) eC (hr.mono (by decide))) (pe_op (op_c PySem.HXO.io_mul o_mulW oM (hr.mono (by decide))) (pc 0) pe_int) pe_int) (pw_or1 (t_cmp (ne_c (o_ne hr.units) eC (hr.mono (by decide))) (pe_un (un_ow hNeg iNeg FNeg bNeg (hr.mono (by decide)) pass0) (pe_un (un_ow hNeg iNeg FNeg bNeg (hr.mono (by decide)) pass0) (pc 0))) (pc 0))))))))) (pss_one (ps_ret pe_bl)) pss_nil)
    (pss_cons (s_if (PW.pt (w_or (t_cmp (ne_c (o_ne hr.units) eC (hr.mono (by decide))) (pe_sm (p_gc U.g_Amount) sTo FTL bTo (hr.mono (by decide)) pass0 (pa_cons (pe_lst (pa_cons (pc 0) (pa_cons (pc 1) (pa_cons (pc 2) pa_nil)))) pa_nil)) (pe_op (op_c PySem.HXO.io_add o_add oA (hr.mono (by decide))) (pe_op (op_c PySem.HXO.io_add o_add oA (hr.mono (by decide))) (pc 0) (pc 1)) (pc 2))) (pw_or1 (t_cmp (ne_c (o_ne hr.units) eC (hr.mono (by decide))) (pe_sm (p_gc U.g_Amount) sTo FTT bTo (hr.mono (by decide)) pass0 (pa_cons (pe_tup (pa_cons (pc 2) (pa_cons (pe_un (un_ow hNeg iNeg FNeg bNeg (hr.mono (by decide)) pass0) (pc 2)) pa_nil))) pa_nil)) pe_int)))) (pss_one (ps_ret pe_bl)) pss_nil)
    (pss_one (ps_ret (e_and (p_cmp (cm_c o_le cLe (hr.mono (by decide))) (pe_callB (call_ab hAbs iAbs FAbs bAbs (hr.mono (by decide)) pass0) (by rfl) T.b_abs (by decide +kernel) (pa_cons (pe_op (op_c PySem.HXO.io_add o_add oA (hr.mono (by decide))) (pc 0) (pc 1)) pa_nil)) (pe_op (op_c PySem.HXO.io_add o_add oA (hr.mono (by decide))) (pe_callB (call_ab hAbs iAbs FAbs bAbs (hr.mono (by decide)) pass0) (by rfl) T.b_abs (by decide +kernel) (pa_cons (pc 0) pa_nil)) (pe_callB (call_ab hAbs iAbs FAbs bAbs (hr.mono (by decide)) pass0) (by rfl) T.b_abs (by decide +kernel) (pa_cons (pc 1) pa_nil)))) (pe_one (p_cmp (cm_c (o_eq hr.units) cEq (hr.mono (by decide))) (pe_callB (call_ab hAbs iAbs FAbs bAbs (hr.mono (by decide)) pass0) (by rfl) T.b_abs (by decide +kernel) (pa_cons (pe_op (op_c PySem.HXO.io_mul o_mulW oM (hr.mono (by decide))) (pc 0) (pc 1)) pa_nil)) (pe_op (op_c PySem.HXO.io_mul o_mulW oM (hr.mono (by decide))) (pe_callB (call_ab hAbs iAbs FAbs bAbs (hr.mono (by decide)) pass0) (by rfl) T.b_abs (by decide +kernel) (pa_cons (pc 0) pa_nil)) (pe_callB (call_ab hAbs iAbs FAbs bAbs (hr.mono (by decide)) pass0) (by rfl) T.b_abs (by decide +kernel) (pa_cons (pc 1) pa_nil)))))))))))), ?_⟩
    refine seqF (G0 := H) (gOrF ((gTe (gCNe (gAdd (gAdd (gV rfl ha) (gV rfl hb)) (gV rfl hc)) (gAdd (gV rfl ha) (gAdd (gV rfl hb) (gV rfl hc))))).to ((nE (by grind)))) (gOrF ((gTe (gCNe (gAdd (gV rfl ha) (gV rfl hb)) (gAdd (gV rfl hb) (gV rfl ha)))).to ((nE (by grind)))) (gOrF ((gTe (gCNe (gMul (gMul (gV rfl ha) (gV rfl hb)) (gV rfl hc)) (gMul (gV rfl ha) (gMul (gV rfl hb) (gV rfl hc))))).to ((nE (by grind)))) ((gTe (gCNe (gMul (gV rfl ha) (gV rfl hb)) (gMul (gV rfl hb) (gV rfl ha)))).to ((nE (by grind))))))) (Same.refl H) fun G0 q0 => ?_
    refine seqF (G0 := H) (gOrF ((gTe (gCNe (gMul (gV rfl ha) (gAdd (gV rfl hb) (gV rfl hc))) (gAdd (gMul (gV rfl ha) (gV rfl hb)) (gMul (gV rfl ha) (gV rfl hc))))).to ((nE (by grind)))) (gOrF ((gTe (gCNe (gSub (gV rfl ha) (gV rfl hb)) (gAdd (gV rfl ha) (gNeg (gV rfl hb))))).to ((nE (by grind)))) (gOrF ((gTe (gCNe (gAdd (gSub (gV rfl ha) (gV rfl hb)) (gV rfl hb)) (gV rfl ha))).to ((nE (by grind)))) ((gTe (gCNe (gAdd (gV rfl ha) (gNeg (gV rfl ha))) gK0)).to ((nE (by grind))))))) (q0) fun G1 q1 => ?_
    refine seqF (G0 := H) (gOrF ((gTe (gCNe (gAdd (gV rfl ha) gK0) (gV rfl ha))).to ((nE (by grind)))) (gOrF ((gTe (gCNe (gAdd gK0 (gV rfl ha)) (gV rfl ha))).to ((nE (by grind)))) (gOrF ((gTe (gCNe (gMul (gV rfl ha) gK1) (gV rfl ha))).to ((nE (by grind)))) (gOrF ((gTe (gCNe (gMul gK1 (gV rfl ha)) (gV rfl ha))).to ((nE (by grind)))) (gOrF ((gTe (gCNe (gMul (gV rfl ha) gK0) gK0)).to ((nE (by grind)))) ((gTe (gCNe (gNeg (gNeg (gV rfl ha))) (gV rfl ha))).to ((nE (by grind))))))))) (q1) fun G2 q2 => ?_
    refine seqF (G0 := H) (gOrF ((gTe (gCNe (gTot3 (gV rfl ha) (gV rfl hb) (gV rfl hc)) (gAdd (gAdd (gV rfl ha) (gV rfl hb)) (gV rfl hc)))).to ((nE (by grind)))) ((gTe (gCNe (gTot2 (gV rfl hc) (gNeg (gV rfl hc))) gK0)).to ((nE (by grind))))) (q2) fun G3 q3 => ?_
    exact retT (G0 := H) (gAndT ((gCLe (gAbs (gAdd (gV rfl ha) (gV rfl hb))) (gAdd (gAbs (gV rfl ha)) (gAbs (gV rfl hb)))).to (nlt (rabs_add x y))) ((gCEq (gAbs (gMul (gV rfl ha) (gV rfl hb))) (gMul (gAbs (gV rfl ha)) (gAbs (gV rfl hb)))).to (decide_eq_true (rabs_mul x y)))) q3 k

theorem tri (x y : Rat) : b2i (decide (x < y)) + b2i (decide (x = y)) + b2i (decide (y < x)) = 1 := by
  rcases (Rat.le_total : x ≤ y ∨ y ≤ x) with h | h
  · rcases Rat.le_iff_lt_or_eq.mp h with h | h
    · rw [decide_eq_true h, decide_eq_false (show ¬ x = y by grind), decide_eq_false (show ¬ y < x by grind)]
      rfl
    · rw [decide_eq_true h, decide_eq_false (show ¬ x < y by grind), decide_eq_false (show ¬ y < x by grind)]
      rfl
  · rcases Rat.le_iff_lt_or_eq.mp h with h | h
    · rw [decide_eq_true h, decide_eq_false (show ¬ x = y by grind), decide_eq_false (show ¬ x < y by grind)]
      rfl
    · rw [decide_eq_true h.symm, decide_eq_false (show ¬ x < y by grind), decide_eq_false (show ¬ y < x by grind)]
      rfl
theorem mul_lt_iff {x y z : Rat} (h : 0 < z) : x < y ↔ x * z < y * z := by
  constructor
  · exact fun l => Rat.mul_lt_mul_of_pos_right l h
  · intro l
    rcases (Rat.le_total : x ≤ y ∨ y ≤ x) with k | k
    · rcases Rat.le_iff_lt_or_eq.mp k with k | k
      · exact k
      · rw [k] at l
        grind
    · have := Rat.mul_le_mul_of_nonneg_right k (Rat.le_of_lt h)
      grind
theorem div_lt_iff {x y z : Rat} (h : 0 < z) : x < y ↔ x / z < y / z := by
  rw [mul_lt_iff (x := x / z) (y := y / z) h, show x / z * z = x by grind, show y / z * z = y by grind]
theorem xS {b : Bool} : xor true (decide (b = b)) = false := by simp
theorem xST {b : Bool} : xor false (decide (b = b)) = true := by simp

theorem pe_wh {X : Cx} {A p : Addr} {e : Expr} {ta : TE} {pos : Pos} (c : Cls X.K A) (C : ∃ (g : Addr) (fd : FuncData), PropOf X.K A "is_whole" p g ∧ FnOk X.prog X.w X.K X.mg X.base CX0 1 g fd ["self"] (spWhole A) ∧ Binds X.K fd ["self"] []) (hr : Room 2 X.A) (he : PE X e ta)
    (hab : attributeBase e "is_whole" X.env (eval e X.env) = eval e X.env := by rfl) : PE X (.Attribute e "is_whole" pos) (tProp A (spWhole A) [] (fun _ _ _ => False) ta) := by
  obtain ⟨g, fd, hp, F1, b⟩ := C
  exact pe_prop he c hp F1 hr b .nil pass0 hab

theorem ok_order {A fI pO gO pN gN f : Addr} {mc : Value} {fd : FuncData} (F : Fun K "_law_order_right" "_law_order_right" s__law_order_right f fd) (T : Txt K mg) (U : AmC K mg A fI pO gO pN gN mc) (oA : OpC P w K mg base A .Add (spBin A 3900 pAdd qBD) (spBin A 3900 pAdd qBD)) (oS : OpC P w K mg base A .Sub (spBin A 3900 pSub qBD) (spBin A 3900 pRsub qBD)) (oM : OpC P w K mg base A .Mult (spBin A 3900 pMul qBD) (spBin A 3900 pMul qBD)) (cLt : CmC P w K mg base A .Lt "int.__lt__" (spCmp A gLt) (spCmp A gGt)) (cLe : CmC P w K mg base A .LtE "int.__le__" (spCmp A gLe) (spCmp A gGe)) (cGt : CmC P w K mg base A .Gt "int.__gt__" (spCmp A gGt) (spCmp A gLt)) (cGe : CmC P w K mg base A .GtE "int.__ge__" (spCmp A gGe) (spCmp A gLe)) (cEq : CmC P w K mg base A .Eq "int.__eq__" (spCmp A gEq) (spCmp A gEq)) {fNeg : Addr} {fdNeg : FuncData} (FNeg : FnOk P w K mg base CX0 4 fNeg fdNeg ["self"] (spNeg A Neg.neg)) (bNeg : Binds K fdNeg ["self"] []) (hNeg : PySem.W.findIn K (.ref A) "__neg__" = some (some (.ref fNeg))) (iNeg : PySem.W.isFn K (.ref fNeg) = true) {fOver : Addr} {fdOver : FuncData} (FOver : FnOk P w K mg base CX0 5 fOver fdOver ["self", "number"] (spBin A 3900 pOver qBC)) (bOver : Binds K fdOver ["self", "number"] []) (mOver : Meth K A "over" fOver) : FnOk P w K mg base CX0 10 f fd ["_law_a", "_law_b", "_law_c"] (sp3 A) := by
  refine F.ok sc__law_order_right (fun vs H Q E h => ?_) (fun cdv A' outer s H vs Q E hr h => ?_)
  · obtain ⟨a, b, c, x, y, z, rfl, _⟩ := h
    rfl
  · obtain ⟨a, b, c, x, y, z, rfl, ha, hb, hc, k⟩ := h
    refine ⟨_, (pss_cons (s_if (PW.pt (w_or (t_cmp (o_ne hr.units) (pe_bm PySem.F.plainAttrs_list PySem.F.slot_list_count PySem.F.type_list_count (mt_countD hr.units) (pe_lst (pa_cons (p_cmp (cm_c o_lt cLt (hr.mono (by decide))) (pc 0) (pc 1)) (pa_cons (p_cmp (cm_c (o_eq hr.units) cEq (hr.mono (by decide))) (pc 0) (pc 1)) (pa_cons (p_cmp (cm_c o_gt cGt (hr.mono (by decide))) (pc 0) (pc 1)) pa_nil)))) (pa_cons pe_bl pa_nil)) pe_int) (w_or (t_cmp (o_ne hr.units) (p_cmp (cm_c o_le cLe (hr.mono (by decide))) (pc 0) (pc 1)) (e_not (p_cmp (cm_c o_gt cGt (hr.mono (by decide))) (pc 0) (pc 1)))) (pw_or1 (t_cmp (o_ne hr.units) (p_cmp (cm_c o_ge cGe (hr.mono (by decide))) (pc 0) (pc 1)) (e_not (p_cmp (cm_c o_lt cLt (hr.mono (by decide))) (pc 0) (pc 1)))))))) (pss_one (ps_ret pe_bl)) pss_nil)
    (pss_cons (s_if (PW.pt (w_or (t_cmp (o_ne hr.units) (p_cmp (cm_c o_lt cLt (hr.mono (by decide))) (pc 0) (pc 1)) (p_cmp (cm_c o_lt cLt (hr.mono (by decide))) (pe_op (op_c PySem.HXO.io_sub o_sub oS (hr.mono (by decide))) (pc 0) (pc 1)) pe_int)) (w_or (t_cmp (o_ne hr.units) (p_cmp (cm_c o_lt cLt (hr.mono (by decide))) (pc 0) (pc 1)) (p_cmp (cm_c o_gt cGt (hr.mono (by decide))) (pc 1) (pc 0))) (w_or (t_cmp (o_ne hr.units) (p_cmp (cm_c o_le cLe (hr.mono (by decide))) (pc 0) (pc 1)) (p_cmp (cm_c o_ge cGe (hr.mono (by decide))) (pc 1) (pc 0))) (pw_or1 (t_cmp (o_ne hr.units) (p_cmp (cm_c o_lt cLt (hr.mono (by decide))) (pc 0) (pc 1)) (p_cmp (cm_c o_lt cLt (hr.mono (by decide))) (pe_un (un_ow hNeg iNeg FNeg bNeg (hr.mono (by decide)) pass0) (pc 1)) (pe_un (un_ow hNeg iNeg FNeg bNeg (hr.mono (by decide)) pass0) (pc 0))))))))) (pss_one (ps_ret pe_bl)) pss_nil)
    (pss_cons (s_if (PW.pt (w_and (t_cmp (cm_c o_le cLe (hr.mono (by decide))) (pc 0) (pc 1)) (w_and (t_cmp (cm_c o_le cLe (hr.mono (by decide))) (pc 1) (pc 2)) (pw_and1 (pt_not (t_cmp (cm_c o_le cLe (hr.mono (by decide))) (pc 0) (pc 2))))))) (pss_one (ps_ret pe_bl)) pss_nil)
    (pss_cons (s_if (t_cmp (o_ne hr.units) (p_cmp (cm_c o_lt cLt (hr.mono (by decide))) (pc 0) (pc 1)) (p_cmp (cm_c o_lt cLt (hr.mono (by decide))) (pe_op (op_c PySem.HXO.io_add o_add oA (hr.mono (by decide))) (pc 0) (pc 2)) (pe_op (op_c PySem.HXO.io_add o_add oA (hr.mono (by decide))) (pc 1) (pc 2)))) (pss_one (ps_ret pe_bl)) pss_nil)
    (pss_one (ps_ret (e_or (p_cmp (cm_c o_le cLe (hr.mono (by decide))) (pc 2) pe_int) (pe_one (e_and (p_cmp (o_eq hr.units) (p_cmp (cm_c o_lt cLt (hr.mono (by decide))) (pc 0) (pc 1)) (p_cmp (cm_c o_lt cLt (hr.mono (by decide))) (pe_op (op_c PySem.HXO.io_mul o_mulW oM (hr.mono (by decide))) (pc 0) (pc 2)) (pe_op (op_c PySem.HXO.io_mul o_mulW oM (hr.mono (by decide))) (pc 1) (pc 2)))) (pe_one (p_cmp (o_eq hr.units) (p_cmp (cm_c o_lt cLt (hr.mono (by decide))) (pc 0) (pc 1)) (p_cmp (cm_c o_lt cLt (hr.mono (by decide))) (pe_meth (pc 0) U.cls mOver FOver (hr.mono (by decide)) bOver .nil pass0 (pa_cons (pc 2) pa_nil)) (pe_meth (pc 1) U.cls mOver FOver (hr.mono (by decide)) bOver .nil pass0 (pa_cons (pc 2) pa_nil)))))))))))))), ?_⟩
    refine seqF (G0 := H) (gOrF ((gTe (gIEq (gCnt (gCLt (gV rfl ha) (gV rfl hb)) (gCEq (gV rfl ha) (gV rfl hb)) (gCGt (gV rfl ha) (gV rfl hb))) gK)).to ((by rw [tri]; rfl))) (gOrF ((gTe (gBEq (gCLe (gV rfl ha) (gV rfl hb)) (gNot (gCGt (gV rfl ha) (gV rfl hb))))).to (xS)) ((gTe (gBEq (gCGe (gV rfl ha) (gV rfl hb)) (gNot (gCLt (gV rfl ha) (gV rfl hb))))).to (xS)))) (Same.refl H) fun G0 q0 => ?_
    refine seqF (G0 := H) (gOrF ((gTe (gBEq (gCLt (gV rfl ha) (gV rfl hb)) (gCLt (gSub (gV rfl ha) (gV rfl hb)) gK0))).to ((xF (by constructor <;> intro <;> grind)))) (gOrF ((gTe (gBEq (gCLt (gV rfl ha) (gV rfl hb)) (gCGt (gV rfl hb) (gV rfl ha)))).to (xS)) (gOrF ((gTe (gBEq (gCLe (gV rfl ha) (gV rfl hb)) (gCGe (gV rfl hb) (gV rfl ha)))).to (xS)) ((gTe (gBEq (gCLt (gV rfl ha) (gV rfl hb)) (gCLt (gNeg (gV rfl hb)) (gNeg (gV rfl ha))))).to ((xF (by constructor <;> intro <;> grind))))))) (q0) fun G1 q1 => ?_
    refine seqF (G0 := H) ((gAnd (gTe (gCLe (gV rfl ha) (gV rfl hb))) (gAnd (gTe (gCLe (gV rfl hb) (gV rfl hc))) (gTN (gTe (gCLe (gV rfl ha) (gV rfl hc)))))).to ((by by_cases h1 : y < x <;> by_cases h2 : z < y <;> by_cases h3 : z < x <;> first | (exfalso; grind) | (simp [h1, h2, h3])))) (q1) fun G2 q2 => ?_
    refine seqF (G0 := H) ((gTe (gBEq (gCLt (gV rfl ha) (gV rfl hb)) (gCLt (gAdd (gV rfl ha) (gV rfl hc)) (gAdd (gV rfl hb) (gV rfl hc))))).to ((xF (by constructor <;> intro <;> grind)))) (q2) fun G3 q3 => ?_
    refine retT (G0 := H) (gOrT (gCLe (gV rfl hc) gK0) fun hz => ?_) q3 k
    have zp : 0 < z := by
      by_cases h : 0 < z
      · exact h
      · rw [decide_eq_false h] at hz
        cases hz
    have cz : z ≠ 0 := by grind
    exact gAndT ((gBEq (gCLt (gV rfl ha) (gV rfl hb)) (gCLt (gMul (gV rfl ha) (gV rfl hc)) (gMul (gV rfl hb) (gV rfl hc)))).to (xT (mul_lt_iff zp))) ((gBEq (gCLt (gV rfl ha) (gV rfl hb)) (gCLt (gOver (gV rfl ha) (gV rfl hc) cz) (gOver (gV rfl hb) (gV rfl hc) cz))).to (xT (div_lt_iff zp)))

def sp1 (A : Addr) : Sp := fun vs H Q _ => ∃ (a : Addr) (x : Rat), vs = [.ref a] ∧ AV A 110 H a x ∧ ∀ G, Same H G → Q (.bl true) G
theorem sm_rt {t d : Int} (lo : Low t d) (S : Sm 110 t) (S' : Sm 110 d) : RT (atx t d) t d := by
  have h : 2 ^ 110 ≤ 10 ^ 200 := by decide +kernel
  exact ⟨lo, Nat.lt_of_lt_of_le S h, Nat.lt_of_lt_of_le S' h, rfl⟩
theorem b_tt : (true = true : Prop) := rfl

theorem ok_text {A fI pO gO pN gN f pW : Addr} {mc : Value} {fd : FuncData} (F : Fun K "_law_text_right" "_law_text_right" s__law_text_right f fd) (T : Txt K mg) (U : AmC K mg A fI pO gO pN gN mc) {fdI : FuncData} (FI : FnOk P w K mg base CX0 2 fI fdI ["self", "top", "bottom"] (spInit A)) {ds : List Value} (bI1 : Binds K fdI ["self", "top", "bottom"] ds) (vI1 : Vals [V.int 1] ds) (bI2 : Binds K fdI ["self", "top", "bottom"] []) {fdO fdN : FuncData} (FO : FnOk P w K mg base CX0 4 gO fdO ["number"] (spOf A)) (bO : Binds K fdO ["number"] []) (FN : FnOk P w K mg base CX0 2 gN fdN ["value"] (spIsNum A)) (bN : Binds K fdN ["value"] []) (oA : OpC P w K mg base A .Add (spBin A 3900 pAdd qBD) (spBin A 3900 pAdd qBD)) (oS : OpC P w K mg base A .Sub (spBin A 3900 pSub qBD) (spBin A 3900 pRsub qBD)) (oM : OpC P w K mg base A .Mult (spBin A 3900 pMul qBD) (spBin A 3900 pMul qBD)) (oF : OpC P w K mg base A .FloorDiv (spFl A pOver qBC) (spFl A pRfl qDT)) (oR : OpC P w K mg base A .Mod (spMod A) (spRmod A)) (cLt : CmC P w K mg base A .Lt "int.__lt__" (spCmp A gLt) (spCmp A gGt)) (cLe : CmC P w K mg base A .LtE "int.__le__" (spCmp A gLe) (spCmp A gGe)) (cGt : CmC P w K mg base A .Gt "int.__gt__" (spCmp A gGt) (spCmp A gLt)) (cGe : CmC P w K mg base A .GtE "int.__ge__" (spCmp A gGe) (spCmp A gLe)) (cEq : CmC P w K mg base A .Eq "int.__eq__" (spCmp A gEq) (spCmp A gEq)) (eC : EqC P w K mg base A) (cWh : ∃ (g : Addr) (fd : FuncData), PropOf K A "is_whole" pW g ∧ FnOk P w K mg base CX0 1 g fd ["self"] (spWhole A) ∧ Binds K fd ["self"] []) {fRd pRd : Addr} (cRd : ClX.CRead K A mc) (cMr : ClX.CMet K A mc "read" pRd fRd) (FRd : FnR P w K mg base CX0 9 fRd (spReadN A)) (cSt : UnC P w K mg base A "__str__" (spStr A)) (hstr : mg "str" = none) (cBo : UnC P w K mg base A "__bool__" (spTruth A)) : FnOk P w K mg base CX0 10 f fd ["_law_a"] (sp1 A) := by
  refine F.ok sc__law_text_right (fun vs H Q E h => ?_) (fun cdv A' outer s H vs Q E hr h => ?_)
  · obtain ⟨a, x, rfl, _⟩ := h
    rfl
  · obtain ⟨a, x, rfl, ha, k⟩ := h
    refine ⟨_, (pss_cons (s_if (PW.pt (w_or (t_cmp (ne_c (o_ne hr.units) eC (hr.mono (by decide))) (ClX.pe_cmeth (p_gc U.g_Amount) cRd cMr FRd (hr.mono (by decide)) pass0 (pa_cons (pe_callTy (str_c cSt (hr.mono (by decide))) (by rfl) hstr (by decide +kernel) (pa_cons (pc 0) pa_nil)) pa_nil)) (pc 0)) (w_or (t_cmp (o_ne hr.units) (pe_callTy (str_c cSt (hr.mono (by decide))) (by rfl) hstr (by decide +kernel) (pa_cons (ClX.pe_cmeth (p_gc U.g_Amount) cRd cMr FRd (hr.mono (by decide)) pass0 (pa_cons (pe_callTy (str_c cSt (hr.mono (by decide))) (by rfl) hstr (by decide +kernel) (pa_cons (pc 0) pa_nil)) pa_nil)) pa_nil)) (pe_callTy (str_c cSt (hr.mono (by decide))) (by rfl) hstr (by decide +kernel) (pa_cons (pc 0) pa_nil))) (pw_or1 (t_cmp (ne_c (o_ne hr.units) eC (hr.mono (by decide))) (pe_make U.mkr FI (hr.mono (by decide)) rfl U.g_Amount bI2 .nil pass0 (pa_cons (pe_fld (pc 0) rfl) (pa_cons (pe_fld (pc 0) rfl) pa_nil))) (pc 0)))))) (pss_one (ps_ret pe_bl)) pss_nil)
    (pss_cons (s_if (PW.pt (w_or (t_cmp o_lt (pe_fld (pc 0) rfl) pe_int) (w_or (t_cmp (ne_c (o_ne hr.units) eC (hr.mono (by decide))) (pe_op (op_c PySem.HXO.io_mul o_mulW oM (hr.mono (by decide))) (pc 0) (pe_fld (pc 0) rfl)) (pe_fld (pc 0) rfl)) (pw_or1 (t_cmp (o_ne hr.units) (pe_wh U.cls cWh (hr.mono (by decide)) (pc 0)) (p_cmp (cm_c (o_eq hr.units) cEq (hr.mono (by decide))) (pe_op (op_c PySem.HXO.io_mod o_mod oR (hr.mono (by decide))) (pc 0) pe_int) pe_int)))))) (pss_one (ps_ret pe_bl)) pss_nil)
    (pss_one (ps_ret (e_and (e_chain (cm_c o_le cLe (hr.mono (by decide))) (cm_c o_lt cLt (hr.mono (by decide))) (pe_op (op_c PySem.HXO.io_fdiv o_fdivZ oF (hr.mono (by decide))) (pc 0) pe_int) (pc 0) (pe_op o_add (pe_op (op_c PySem.HXO.io_fdiv o_fdivZ oF (hr.mono (by decide))) (pc 0) pe_int) pe_int)) (e_and (p_cmp (cm_c (o_eq hr.units) cEq (hr.mono (by decide))) (pe_sm (p_gc U.g_Amount) U.sO FO bO (hr.mono (by decide)) pass0 (pa_cons (pc 0) pa_nil)) (pc 0)) (pe_one (p_cmp (o_eq hr.units) (pe_callTy (bool_c cBo (hr.mono (by decide))) (by rfl) T.b_bool (by decide +kernel) (pa_cons (pc 0) pa_nil)) (p_cmp (ne_c (o_ne hr.units) eC (hr.mono (by decide))) (pc 0) pe_int))))))))), ?_⟩
    obtain ⟨t, d, am, lo, St, Sd, rfl⟩ := id ha
    have S1 : Sm 1300 t := St.mono (by decide)
    have S2 : Sm 1300 d := Sd.mono (by decide)
    have rt := sm_rt lo St Sd
    obtain ⟨j, fl⟩ := fl_ex (rv t d / 1)
    have z1 : (1 : Rat) ≠ 0 := by decide
    have Sj1 : Sm 112 (j + 1) := (fl_sm lo St fl).add (sm_one.mono (by decide))
    have wi : decide (rv t d - (j : Rat) * 1 = 0) = true ↔ ∃ i : Int, rv t d = (i : Rat) := by
      rw [decide_eq_true_iff]
      constructor
      · exact fun h => ⟨j, by grind⟩
      · rintro ⟨i, e⟩
        have f2 : Fl i (rv t d / 1) := by
          rw [e]
          unfold Fl
          constructor <;> grind
        rw [fl.uniq f2, e]
        grind
    have fin : (!decide (rv t d < (j : Rat)) && decide (rv t d < ((j + 1 : Int) : Rat))) = true := by
      obtain ⟨f1, f2⟩ := fl
      have e : ((j + 1 : Int) : Rat) = (j : Rat) + 1 := by push_cast; rfl
      rw [e, decide_eq_false (show ¬ rv t d < (j : Rat) by grind), decide_eq_true (show rv t d < (j : Rat) + 1 by grind)]
      rfl
    refine seqF (G0 := H) (gOrF ((gTe (gCNe (GP.num (gRead (gStr (gVP rfl am) S1 S2) rt) lo St Sd) (gV rfl ha))).to ((nE rfl))) (gOrF ((gTe (gSEq (gStr (gRead (gStr (gVP rfl am) S1 S2) rt) S1 S2) (gStr (gVP rfl am) S1 S2))).to ((by simp))) ((gTe (gCNe (GP.num (gMk2 (gTop (gVP rfl am) U.cls U.nT) (gBot (gVP rfl am) U.cls U.nB) lo (St.mono (by decide)) (Sd.mono (by decide))) lo St Sd) (gV rfl ha))).to ((nE rfl))))) (Same.refl H) fun G0 q0 => ?_
    refine seqF (G0 := H) (gOrF ((gTe (gILt (gBot (gVP rfl am) U.cls U.nB) gK)).to ((by rw [decide_eq_false (by have := lo.1; omega)]))) (gOrF ((gTe (gCNe (gMul (gV rfl ha) (GI.num (gBot (gVP rfl am) U.cls U.nB) Sd)) (GI.num (gTop (gVP rfl am) U.cls U.nT) St))).to ((nE (rv_mulb lo.1)))) ((gTe (gBEq (gWh (b := decide (rv t d - (j : Rat) * 1 = 0)) (gV rfl ha) wi) (gCEq (gMod (gV rfl ha) gK1 z1 fl) gK0))).to (xS)))) (q0) fun G1 q1 => ?_
    exact retT (G0 := H) (gAndT ((gLeLt (gFloN (gV rfl ha) gK1 z1 fl) (gV rfl ha) (GI.num (gIAdd (gFlo (gV rfl ha) gK1 z1 fl) gK) Sj1)).to fin) (gAndT ((gCEq (gOf (gV rfl ha)) (gV rfl ha)).to (decide_eq_true rfl)) ((gBEq (gBool (gV rfl ha)) (gCNe (gV rfl ha) gK0)).to xST))) q1 k

def sp2 (A : Addr) : Sp := fun vs H Q _ => ∃ (a b : Addr) (x y : Rat), vs = [.ref a, .ref b] ∧ AV A 230 H a x ∧ AV A 110 H b y ∧ y ≠ 0 ∧ ∀ G, Same H G → Q (.bl true) G

theorem ok_quot {A fI pO gO pN gN f pW : Addr} {mc : Value} {fd : FuncData} (F : Fun K "_law_quotients_right" "_law_quotients_right" s__law_quotients_right f fd) (T : Txt K mg) (U : AmC K mg A fI pO gO pN gN mc) {fdI : FuncData} (FI : FnOk P w K mg base CX0 2 fI fdI ["self", "top", "bottom"] (spInit A)) {ds : List Value} (bI1 : Binds K fdI ["self", "top", "bottom"] ds) (vI1 : Vals [V.int 1] ds) (bI2 : Binds K fdI ["self", "top", "bottom"] []) (oA : OpC P w K mg base A .Add (spBin A 3900 pAdd qBD) (spBin A 3900 pAdd qBD)) (oS : OpC P w K mg base A .Sub (spBin A 3900 pSub qBD) (spBin A 3900 pRsub qBD)) (oM : OpC P w K mg base A .Mult (spBin A 3900 pMul qBD) (spBin A 3900 pMul qBD)) (oF : OpC P w K mg base A .FloorDiv (spFl A pOver qBC) (spFl A pRfl qDT)) (oR : OpC P w K mg base A .Mod (spMod A) (spRmod A)) (cLt : CmC P w K mg base A .Lt "int.__lt__" (spCmp A gLt) (spCmp A gGt)) (cLe : CmC P w K mg base A .LtE "int.__le__" (spCmp A gLe) (spCmp A gGe)) (cGt : CmC P w K mg base A .Gt "int.__gt__" (spCmp A gGt) (spCmp A gLt)) (cGe : CmC P w K mg base A .GtE "int.__ge__" (spCmp A gGe) (spCmp A gLe)) (cEq : CmC P w K mg base A .Eq "int.__eq__" (spCmp A gEq) (spCmp A gEq)) (eC : EqC P w K mg base A) {fOver : Addr} {fdOver : FuncData} (FOver : FnOk P w K mg base CX0 5 fOver fdOver ["self", "number"] (spBin A 3900 pOver qBC)) (bOver : Binds K fdOver ["self", "number"] []) (mOver : Meth K A "over" fOver) (cWh : ∃ (g : Addr) (fd : FuncData), PropOf K A "is_whole" pW g ∧ FnOk P w K mg base CX0 1 g fd ["self"] (spWhole A) ∧ Binds K fd ["self"] []) : FnOk P w K mg base CX0 10 f fd ["_law_a", "_law_b"] (sp2 A) := by
  refine F.ok sc__law_quotients_right (fun vs H Q E h => ?_) (fun cdv A' outer s H vs Q E hr h => ?_)
  · obtain ⟨a, b, x, y, rfl, _⟩ := h
    rfl
  · obtain ⟨a, b, x, y, rfl, ha, hb, hy, k⟩ := h
    refine ⟨_, (pss_cons (s_if (PW.pt (w_or (t_cmp (ne_c (o_ne hr.units) eC (hr.mono (by decide))) (pe_op (op_c PySem.HXO.io_mul o_mulW oM (hr.mono (by decide))) (pe_meth (pc 0) U.cls mOver FOver (hr.mono (by decide)) bOver .nil pass0 (pa_cons (pc 1) pa_nil)) (pc 1)) (pc 0)) (w_or (t_cmp (ne_c (o_ne hr.units) eC (hr.mono (by decide))) (pe_meth (pe_op (op_c PySem.HXO.io_mul o_mulW oM (hr.mono (by decide))) (pc 0) (pc 1)) U.cls mOver FOver (hr.mono (by decide)) bOver .nil pass0 (pa_cons (pc 1) pa_nil)) (pc 0)) (pw_or1 (t_cmp (ne_c (o_ne hr.units) eC (hr.mono (by decide))) (pe_meth (pc 0) U.cls mOver FOver (hr.mono (by decide)) bOver .nil pass0 (pa_cons (pc 1) pa_nil)) (pe_op (op_c PySem.HXO.io_mul o_mulW oM (hr.mono (by decide))) (pc 0) (pe_meth (pe_make U.mkr FI (hr.mono (by decide)) rfl U.g_Amount bI1 vI1 pass0 (pa_cons pe_int pa_nil)) U.cls mOver FOver (hr.mono (by decide)) bOver .nil pass0 (pa_cons (pc 1) pa_nil)))))))) (pss_one (ps_ret pe_bl)) pss_nil)
    (pss_cons (ps_par (i := 2) (j := 3) (by rfl) sc__law_quotients_right.nd rfl rfl (by decide) rfl rfl (pa_cons (pe_op (op_c PySem.HXO.io_fdiv o_fdivZ oF (hr.mono (by decide))) (pc 0) (pc 1)) (pa_cons (pe_op (op_c PySem.HXO.io_mod o_mod oR (hr.mono (by decide))) (pc 0) (pc 1)) pa_nil)) (by rfl))
    (pss_cons (s_if (PW.pt (w_or (t_val (pe_callB c_isi (by rfl) T.b_isinstance (by decide +kernel) (pa_cons (pc 2) (pa_cons (pe_bltn (v := .ty "bool") (u := .type "bool") (by rfl) T.b_bool (by decide +kernel) rfl) pa_nil)))) (w_or (pt_not (t_val (pe_callB c_isi (by rfl) T.b_isinstance (by decide +kernel) (pa_cons (pc 2) (pa_cons (pe_bltn (v := .ty "int") (u := .type "int") (by rfl) T.b_int (by decide +kernel) rfl) pa_nil))))) (pw_or1 (t_cmp (ne_c (o_ne hr.units) eC (hr.mono (by decide))) (pe_op (op_c PySem.HXO.io_add o_add oA (hr.mono (by decide))) (pe_op (op_c PySem.HXO.io_mul o_mulW oM (hr.mono (by decide))) (pc 1) (pc 2)) (pc 3)) (pc 0)))))) (pss_one (ps_ret pe_bl)) pss_nil)
    (pss_cons (s_if (PW.pt (w_or (PW.pt (w_and (t_cmp (cm_c o_gt cGt (hr.mono (by decide))) (pc 1) pe_int) (pw_and1 (pt_not (t_chain (cm_c o_le cLe (hr.mono (by decide))) (cm_c o_lt cLt (hr.mono (by decide))) pe_int (pc 3) (pc 1)))))) (pw_or1 (PW.pt (w_and (t_cmp (cm_c o_lt cLt (hr.mono (by decide))) (pc 1) pe_int) (pw_and1 (pt_not (t_chain (cm_c o_lt cLt (hr.mono (by decide))) (cm_c o_le cLe (hr.mono (by decide))) (pc 1) (pc 3) pe_int)))))))) (pss_one (ps_ret pe_bl)) pss_nil)
    (pss_one (ps_ret (e_and (p_cmp (o_eq hr.units) (p_cmp (cm_c (o_eq hr.units) cEq (hr.mono (by decide))) (pc 3) pe_int) (pe_wh U.cls cWh (hr.mono (by decide)) (pe_meth (pc 0) U.cls mOver FOver (hr.mono (by decide)) bOver .nil pass0 (pa_cons (pc 1) pa_nil)))) (e_and (p_cmp (o_eq hr.units) (pe_op (op_c PySem.HXO.io_fdiv o_fdivZ oF (hr.mono (by decide))) (pe_op (op_c PySem.HXO.io_sub o_sub oS (hr.mono (by decide))) (pc 0) (pc 3)) (pc 1)) (pc 2)) (pe_one (p_cmp (o_eq hr.units) (pe_op (op_c PySem.HXO.io_fdiv o_fdivZ oF (hr.mono (by decide))) (pe_op (op_c PySem.HXO.io_add o_add oA (hr.mono (by decide))) (pc 0) (pc 1)) (pc 1)) (pe_op o_add (pc 2) pe_int))))))))))), ?_⟩
    obtain ⟨j, fl⟩ := fl_ex (x / y)
    have Sj : Sm 341 j := by
      obtain ⟨t, b, u1, lo, St, Sb, rfl⟩ := ha
      obtain ⟨c, d, u2, lo2, Sc, Sd, rfl⟩ := hb
      have bz : b ≠ 0 := by have := lo.1; omega
      have dz : d ≠ 0 := by have := lo2.1; omega
      have cz : c ≠ 0 := fun z => hy ((rv_zero dz).mpr z)
      exact sm_fl (n := 340) (St.mul Sd) (Int.mul_ne_zero bz cz) (by rw [rv_div bz dz cz]; exact fl)
    refine seqF (G0 := H) (gOrF ((gTe (gCNe (gMul (gOver (gV rfl ha) (gV rfl hb) hy) (gV rfl hb)) (gV rfl ha))).to ((nE (by grind)))) (gOrF ((gTe (gCNe (gOver (gMul (gV rfl ha) (gV rfl hb)) (gV rfl hb) hy) (gV rfl ha))).to ((nE (by grind)))) ((gTe (gCNe (gOver (gV rfl ha) (gV rfl hb) hy) (gMul (gV rfl ha) (gOver gMkOne (gV rfl hb) hy)))).to ((nE (by grind)))))) (Same.refl H) fun G0 q0 => ?_
    refine seqPar (G0 := H) (gFlo (gV rfl ha) (gV rfl hb) hy fl) (gMod (gV rfl ha) (gV rfl hb) hy fl) q0 fun ra G2 s2 hr2 => ?_
    have q2 := q0.trans s2
    have ha2 := ha.mo q2
    have hb2 := hb.mo q2
    have qq := quo fl hy
    have fl2 : Fl j ((x - (x - (j : Rat) * y)) / y) := by
      rw [show (x - (x - (j : Rat) * y)) / y = (j : Rat) by grind]
      unfold Fl
      constructor <;> grind
    have fl3 : Fl (j + 1) ((x + y) / y) := by
      obtain ⟨f1, f2⟩ := fl
      rw [show (x + y) / y = x / y + 1 by grind]
      have e : ((j + 1 : Int) : Rat) = (j : Rat) + 1 := by push_cast; rfl
      unfold Fl
      rw [e]
      constructor <;> grind
    have wi : decide (x - (j : Rat) * y = 0) = true ↔ ∃ i : Int, x / y = (i : Rat) := by
      rw [decide_eq_true_iff]
      constructor
      · exact fun h => ⟨j, by grind⟩
      · rintro ⟨i, e⟩
        have f2 : Fl i (x / y) := by
          rw [e]
          unfold Fl
          constructor <;> grind
        rw [fl.uniq f2, ← e]
        grind
    refine seqF (G0 := G2) (gOrF ((gTe (gIsiB (gVI rfl) (b := false) (by decide +kernel))).to (rfl)) (gOrF ((gTN (gTe (gIsiB (gVI rfl) (b := true) (by decide +kernel)))).to (rfl)) ((gTe (gCNe (gAdd (gMul (gV rfl hb2) (GI.num (gVI rfl) Sj)) (gV rfl hr2)) (gV rfl ha2))).to ((nE (by grind)))))) (Same.refl G2) fun G3 q3 => ?_
    refine seqF (G0 := G2) ((gOr (gAnd (gTe (gCGt (gV rfl hb2) gK0)) (gTN (gTe (gLeLt gK0 (gV rfl hr2) (gV rfl hb2))))) (gAnd (gTe (gCLt (gV rfl hb2) gK0)) (gTN (gTe (gLtLe (gV rfl hb2) (gV rfl hr2) gK0))))).to (by
      by_cases p : 0 < y
      · have := qq.1 p
        have p2 : ¬ y < 0 := by grind
        simp [p, p2, this.1, this.2]
      · have p2 : y < 0 := by grind
        have := qq.2 p2
        simp [p, p2, this.1, this.2])) q3 fun G4 q4 => ?_
    exact retT (G0 := G2) (gAndT ((gBEq (gCEq (gV rfl hr2) gK0) (gWh (b := decide (x - (j : Rat) * y = 0)) (gOver (gV rfl ha2) (gV rfl hb2) hy) wi)).to xST) (gAndT ((gIEq (gFlo (gSub (gV rfl ha2) (gV rfl hr2)) (gV rfl hb2) hy fl2) (gVI rfl)).to (by simp)) ((gIEq (gFlo (gAdd (gV rfl ha2) (gV rfl hb2)) (gV rfl hb2) hy fl3) (gIAdd (gVI rfl) gK)).to (by simp)))) q4 fun G s => k G (q2.trans s)

end
end LW
set_option Elab.async false
set_option linter.all false
set_option maxRecDepth 100000
set_option maxHeartbeats 4000000
namespace LW
open PySem PySem.Spec PyProof.Rows L2 HX NumText
section
variable {P : Program} {w : World} {K : PySem.W.Frag} {mg : Str → Option Value} {base : Heap}

theorem gAndF {σ : L2.St} {H : Hp} {p q : TT} {b : Bool} (h1 : GT b σ H p) (h2 : b = true → GT false σ H q) : GT false σ H (cAnd p q) := fun G sG Q k => h1 G sG _ fun G1 s1 => by
  cases b with
  | true => exact ⟨fun _ => h2 rfl G1 (sG.trans s1) _ fun G2 s2 => k G2 (s1.trans s2), fun z => nomatch z⟩
  | false => exact ⟨fun z => (nomatch z), fun _ => k G1 s1⟩
theorem _root_.HX.AV.kp {A : Addr} {n : Nat} {H G : Hp} {p l a : Addr} {c : Int} {r : Rat} (k : Kp p H G) (P : Pe H p l c) (h : AV A n H a r) : AV A n G a r := by
  obtain ⟨t, b, ⟨dx, e⟩, y⟩ := h
  exact ⟨t, b, ⟨dx, k _ _ (P.ne2 e (fun _ _ _ z => by cases z)) e⟩, y⟩
theorem gS3 {A : Addr} {x y z : Rat} {σ : L2.St} {H : Hp} {t1 t2 t3 : TE} {E : XK} (h1 : GN A true 110 x σ H t1) (h2 : GN A true 110 y σ H t2) (h3 : GN A true 110 z σ H t3) : GL true σ H (tCall (sp3 A) [] E (tCons t1 (tCons t2 (tCons t3 tNil)))) := fun G sG Q k =>
  h1 G sG _ fun v1 G1 s1 n1 f1 => h2 G1 (sG.trans s1) _ fun v2 G2 s2 n2 f2 => h3 G2 (sG.trans (s1.trans s2)) _ fun v3 G3 s3 n3 f3 => by
    obtain ⟨a, rfl⟩ := f1 rfl
    obtain ⟨b, rfl⟩ := f2 rfl
    obtain ⟨c, rfl⟩ := f3 rfl
    exact ⟨a, b, c, x, y, z, rfl, (n1.mo (s2.trans s3)).av, (n2.mo s3).av, n3.av, fun G4 s4 => k G4 ((s1.trans s2).trans (s3.trans s4))⟩
theorem gS1 {A : Addr} {x : Rat} {σ : L2.St} {H : Hp} {t1 : TE} {E : XK} (h1 : GN A true 110 x σ H t1) : GL true σ H (tCall (sp1 A) [] E (tCons t1 tNil)) := fun G sG Q k =>
  h1 G sG _ fun v1 G1 s1 n1 f1 => by
    obtain ⟨a, rfl⟩ := f1 rfl
    exact ⟨a, x, rfl, n1.av, fun G4 s4 => k G4 (s1.trans s4)⟩
theorem gS2 {A : Addr} {n : Nat} {x y : Rat} {σ : L2.St} {H : Hp} {t1 t2 : TE} {E : XK} (h1 : GN A true n x σ H t1) (h2 : GN A true 110 y σ H t2) (hy : y ≠ 0) (ln : n ≤ 230 := by decide) : GL true σ H (tCall (sp2 A) [] E (tCons t1 (tCons t2 tNil))) := fun G sG Q k =>
  h1 G sG _ fun v1 G1 s1 n1 f1 => h2 G1 (sG.trans s1) _ fun v2 G2 s2 n2 f2 => by
    obtain ⟨a, rfl⟩ := f1 rfl
    obtain ⟨b, rfl⟩ := f2 rfl
    exact ⟨a, b, x, y, rfl, ((n1.mo s2).le ln).av, n2.av, hy, fun G4 s4 => k G4 ((s1.trans s2).trans s4)⟩
theorem ifF {σ : L2.St} {H G0 : Hp} {q : TT} {tt : TS} {D : Ends} (h1 : GT false σ G0 q) (sm : Same G0 H) (k : ∀ G, Same G0 G → D.nx σ G) : cIfS q tt tNext D σ H := h1 H sm _ fun G s => ⟨fun z => (nomatch z), fun _ => k G (sm.trans s)⟩
theorem nz_of {w : Rat} (h : (!decide (w = 0)) = true) : w ≠ 0 := fun z => by
  rw [decide_eq_true z] at h
  cases h
theorem nzi_of {i : Int} (h : xor true (decide (i = 0)) = true) : i ≠ 0 := fun z => by
  rw [decide_eq_true z] at h
  cases h
theorem sm_of {i : Int} (h0 : -(2 ^ 100) < i) (h1 : i < 2 ^ 100) : Sm 100 i := by
  unfold Sm
  omega
theorem sm_of4 {i : Int} (h0 : -(2 ^ 40) < i) (h1 : i < 2 ^ 40) : Sm 40 i := by
  unfold Sm
  omega
theorem rI1_go {g : Int → Int → V} {i j : Int} {y : V} {H : Hp} {Q : VK} (e : y = .int j) (h : Q (g i j) H) : rI1 g (.int i) y H Q := by
  subst e
  exact h
theorem gName_go {i : Nat} {v : V} {σ : L2.St} {H : Hp} {D : L2.St → Hp → Prop} (h : D (σ.set i (some v)) H) : gName i v σ H D := h
theorem gName_go' {i : Nat} {v w : V} {σ : L2.St} {H : Hp} {D : L2.St → Hp → Prop} (e : w = v) (h : D (σ.set i (some w)) H) : gName i v σ H D := by
  subst e
  exact h
def spAmt (A : Addr) : Sp := fun vs H Q _ => ∃ (p l : Addr) (c : Int), vs = [.ref p] ∧ Pe H p l c ∧ c < 999000 ∧ ∀ (r : Addr) (x : Rat) (G : Hp), AV A 100 G r x → Kp p H G → Pe G p l (c + 5) → Q (.ref r) G
def spLaw (K : PySem.W.Frag) : Sp := fun vs H Q _ => ∃ (a : Addr) (ns : List Int), vs = [.ref a] ∧ SqL K H a (ns.map V.int) ∧ ∀ H', Q (.bl true) H'

theorem ok_amt {A fI pO gO pN gN f : Addr} {mc : Value} {fd : FuncData} (F : Fun K "_law_amount" "_law_amount" s__law_amount f fd) (T : Txt K mg) (U : AmC K mg A fI pO gO pN gN mc) {fdI : FuncData} (FI : FnOk P w K mg base CX0 2 fI fdI ["self", "top", "bottom"] (spInit A)) {ds : List Value} (bI1 : Binds K fdI ["self", "top", "bottom"] ds) (vI1 : Vals [V.int 1] ds) (bI2 : Binds K fdI ["self", "top", "bottom"] []) (cD : CalO P w K mg base "_law_draw" 1 ["_law_pen_here", "_law_many"] spDraw (fun _ => True)) (cP : CalO P w K mg base "_law_pick" 2 ["_law_pen_here", "_law_some"] (spPick K) (fun _ => True)) : FnOk P w K mg base CX0 4 f fd ["_law_pen_here"] (spAmt A) := by
  refine F.ok sc__law_amount (fun vs H Q E h => ?_) (fun cdv A' outer s H vs Q E hr h => ?_)
  · obtain ⟨p, l, c, rfl, _⟩ := h
    rfl
  · obtain ⟨p, l, c, rfl, Pp, hc, k⟩ := h
    refine ⟨_, (pss_cons (ps_set (i := 1) sc__law_amount.nd rfl (Or.inl rfl) (pe_cO cD (hr.mono (by decide)) (pa_cons (pc 0) (pa_cons (pe_cO cP (hr.mono (by decide)) (pa_cons (pc 0) (pa_cons (pe_lst (pa_cons pe_int (pa_cons pe_int (pa_cons pe_int (pa_cons (pe_op o_pow pe_int pe_int) (pa_cons (pe_op o_pow pe_int pe_int) pa_nil)))))) pa_nil))) pa_nil))))
    (pss_cons (ps_set (i := 2) sc__law_amount.nd rfl (Or.inl rfl) (pe_op o_add pe_int (pe_cO cD (hr.mono (by decide)) (pa_cons (pc 0) (pa_cons (pe_cO cP (hr.mono (by decide)) (pa_cons (pc 0) (pa_cons (pe_lst (pa_cons pe_int (pa_cons pe_int (pa_cons pe_int (pa_cons pe_int (pa_cons (pe_op o_sub (pe_op o_pow pe_int pe_int) pe_int) pa_nil)))))) pa_nil))) pa_nil)))))
    (pss_one (ps_ret (pe_make U.mkr FI (hr.mono (by decide)) rfl U.g_Amount bI2 .nil pass0 (pa_cons (e_if (t_cmp (o_eq hr.units) (pe_cO cD (hr.mono (by decide)) (pa_cons (pc 0) (pa_cons pe_int pa_nil))) pe_int) (pc 1) (pe_op o_sub pe_int (pc 1))) (pa_cons (pc 2) pa_nil))))))), ?_⟩
    refine ⟨⟨by decide, by decide, by decide⟩, ⟨by decide, by decide, by decide⟩, by show 5 ≤ sizeLine; decide, fun q1 n1 => ⟨p, l, _, .ref q1, rfl, Pp.new n1, by omega, .inr ⟨q1, _, rfl, Pp.ne n1, .inl (SqL.of upd_same), by decide, by decide, fun v G1 hv k1 P1 => ?_⟩⟩⟩
    obtain ⟨mm, rfl, m0, m1⟩ : ∃ mm : Int, v = .int mm ∧ 0 < mm ∧ mm < 2 ^ 100 := by
      simp only [List.mem_cons, List.not_mem_nil, or_false] at hv
      rcases hv with rfl | rfl | rfl | rfl | rfl <;> exact ⟨_, rfl, by decide, by decide⟩
    refine ⟨p, l, _, mm, rfl, P1, m0, Nat.lt_of_lt_of_le (show mm.natAbs < 2 ^ 100 by omega) (by decide), by omega, fun r1 G2 r10 r11 k2 P2 => ?_⟩
    have kA : Kp p H G2 := (Kp.refl.new n1).trans (k1.trans k2)
    refine ⟨⟨by decide, by decide, by decide⟩, by show 5 ≤ sizeLine; decide, fun q2 n2 => ⟨p, l, _, .ref q2, rfl, P2.new n2, by omega, .inr ⟨q2, _, rfl, P2.ne n2, .inl (SqL.of upd_same), by decide, by decide, fun v G3 hv k3 P3 => ?_⟩⟩⟩
    obtain ⟨m2, rfl, m20, m21⟩ : ∃ mm : Int, v = .int mm ∧ 0 < mm ∧ mm < 2 ^ 100 := by
      simp only [List.mem_cons, List.not_mem_nil, or_false] at hv
      rcases hv with rfl | rfl | rfl | rfl | rfl <;> exact ⟨_, rfl, by decide, by decide⟩
    refine ⟨p, l, _, m2, rfl, P3, m20, Nat.lt_of_lt_of_le (show m2.natAbs < 2 ^ 100 by omega) (by decide), by omega, fun r2 G4 r20 r21 k4 P4 => ?_⟩
    have kB := (kA.trans (Kp.refl.new n2)).trans (k3.trans k4)
    have qz : 1 + r2 ≠ 0 := by omega
    have S2 : Sm 100 (1 + r2) := sm_of (by omega) (by omega)
    refine ⟨p, l, _, 2, rfl, P4, by decide, by decide, by omega, fun r3 G5 r30 r31 k5 P5 => ?_⟩
    have kC := kB.trans k5
    have fin : ∀ i : Int, Sm 100 i → ∀ x dx, G5 x = none → G5 dx = none → dx ≠ x → spInit A (.ref x :: [.int i, .int (1 + r2)]) (upd (upd G5 dx (.own x)) x (.ins A dx [])) (fun v H2 => v = .non ∧ Q (.ref x) H2) E0 := fun i S => mkR qz (S.mono (by decide)) (S2.mono (by decide)) fun r G nr s am => k r _ G ⟨_, _, am, low_n qz, S.nT qz, S2.nB qz, rfl⟩ (kC.trans (Kp.same s)) ((P5.same s).mono (by omega))
    exact ⟨fun _ => fin r1 (sm_of (by omega) (by omega)), fun _ => fin (0 - r1) (sm_of (by omega) (by omega))⟩

theorem ok_law {A fI pO gO pN gN f : Addr} {mc : Value} {fd : FuncData} (F : Fun K "law" "law" s_law f fd) (T : Txt K mg) (U : AmC K mg A fI pO gO pN gN mc) {fdI : FuncData} (FI : FnOk P w K mg base CX0 2 fI fdI ["self", "top", "bottom"] (spInit A)) {ds : List Value} (bI1 : Binds K fdI ["self", "top", "bottom"] ds) (vI1 : Vals [V.int 1] ds) (bI2 : Binds K fdI ["self", "top", "bottom"] []) (oA : OpC P w K mg base A .Add (spBin A 3900 pAdd qBD) (spBin A 3900 pAdd qBD)) (oS : OpC P w K mg base A .Sub (spBin A 3900 pSub qBD) (spBin A 3900 pRsub qBD)) (oM : OpC P w K mg base A .Mult (spBin A 3900 pMul qBD) (spBin A 3900 pMul qBD)) (oF : OpC P w K mg base A .FloorDiv (spFl A pOver qBC) (spFl A pRfl qDT)) (oR : OpC P w K mg base A .Mod (spMod A) (spRmod A)) (eC : EqC P w K mg base A) {fNeg : Addr} {fdNeg : FuncData} (FNeg : FnOk P w K mg base CX0 4 fNeg fdNeg ["self"] (spNeg A Neg.neg)) (bNeg : Binds K fdNeg ["self"] []) (hNeg : PySem.W.findIn K (.ref A) "__neg__" = some (some (.ref fNeg))) (iNeg : PySem.W.isFn K (.ref fNeg) = true) (cPen : CalO P w K mg base "_law_pen" 1 ["_law_script"] (spPen K) (fun _ => True)) (cD : CalO P w K mg base "_law_draw" 1 ["_law_pen_here", "_law_many"] spDraw (fun _ => True)) (cP : CalO P w K mg base "_law_pick" 2 ["_law_pen_here", "_law_some"] (spPick K) (fun _ => True)) (cAm : CalO P w K mg base "_law_amount" 4 ["_law_pen_here"] (spAmt A) (fun _ => True)) (cS : CalO P w K mg base "_law_sums_right" 10 ["_law_a", "_law_b", "_law_c"] (sp3 A) (fun _ => True)) (cO : CalO P w K mg base "_law_order_right" 10 ["_law_a", "_law_b", "_law_c"] (sp3 A) (fun _ => True)) (cT' : CalO P w K mg base "_law_text_right" 10 ["_law_a"] (sp1 A) (fun _ => True)) (cQ : CalO P w K mg base "_law_quotients_right" 10 ["_law_a", "_law_b"] (sp2 A) (fun _ => True)) : FnOk P w K mg base CX0 11 f fd ["_law_script"] (spLaw K) := by
  refine F.ok sc_law (fun vs H Q E h => ?_) (fun cdv A' outer s H vs Q E hr h => ?_)
  · obtain ⟨a, ns, rfl, _⟩ := h
    rfl
  · obtain ⟨a, ns, rfl, hs, k⟩ := h
    refine ⟨_, (pss_cons (ps_set (i := 1) sc_law.nd rfl (Or.inl rfl) (pe_cO cPen (hr.mono (by decide)) (pa_cons (pc 0) pa_nil)))
    (pss_cons (ps_for PassesOwn.never rfl (pi_range1 (by rfl) T.b_range (pa_cons pe_int pa_nil)) (pg_name (i := 2) sc_law.nd rfl (Or.inl rfl)) (pss_cons (ps_par (i := 3) (j := 4) (by rfl) sc_law.nd rfl rfl (by decide) rfl rfl (pa_cons (pe_cO cAm (hr.mono (by decide)) (pa_cons (pc 1) pa_nil)) (pa_cons (pe_cO cAm (hr.mono (by decide)) (pa_cons (pc 1) pa_nil)) pa_nil)) (by rfl))
    (pss_cons (ps_set (i := 5) sc_law.nd rfl (Or.inl rfl) (pe_cO cP (hr.mono (by decide)) (pa_cons (pc 1) (pa_cons (pe_lst (pa_cons (pe_cO cAm (hr.mono (by decide)) (pa_cons (pc 1) pa_nil)) (pa_cons (pc 3) (pa_cons (pe_un (un_ow hNeg iNeg FNeg bNeg (hr.mono (by decide)) pass0) (pc 3)) (pa_cons (pe_op (op_c PySem.HXO.io_add o_add oA (hr.mono (by decide))) (pc 3) pe_int) (pa_cons (pc 4) pa_nil)))))) pa_nil))))
    (pss_cons (s_if (PW.pt (w_or (pt_not (t_val (pe_cO cS (hr.mono (by decide)) (pa_cons (pc 3) (pa_cons (pc 4) (pa_cons (pc 5) pa_nil)))))) (pw_or1 (pt_not (t_val (pe_cO cS (hr.mono (by decide)) (pa_cons (pc 5) (pa_cons (pc 3) (pa_cons (pc 3) pa_nil))))))))) (pss_one (ps_ret pe_bl)) pss_nil)
    (pss_cons (s_if (PW.pt (w_or (pt_not (t_val (pe_cO cO (hr.mono (by decide)) (pa_cons (pc 3) (pa_cons (pc 4) (pa_cons (pc 5) pa_nil)))))) (w_or (pt_not (t_val (pe_cO cO (hr.mono (by decide)) (pa_cons (pc 4) (pa_cons (pc 3) (pa_cons (pc 3) pa_nil)))))) (pw_or1 (pt_not (t_val (pe_cO cO (hr.mono (by decide)) (pa_cons (pc 5) (pa_cons (pc 4) (pa_cons (pc 3) pa_nil)))))))))) (pss_one (ps_ret pe_bl)) pss_nil)
    (pss_cons (ps_for PassesOwn.never rfl (pi_list (pe_lst (pa_cons (pc 3) (pa_cons (pc 4) (pa_cons (pc 5) pa_nil))))) (pg_name (i := 6) sc_law.nd rfl (Or.inl rfl)) (pss_one (s_if (PW.pt (w_or (pt_not (t_val (pe_cO cT' (hr.mono (by decide)) (pa_cons (pc 6) pa_nil)))) (pw_or1 (PW.pt (w_and (t_cmp (ne_c (o_ne hr.units) eC (hr.mono (by decide))) (pc 6) pe_int) (pw_and1 (pt_not (t_val (pe_cO cQ (hr.mono (by decide)) (pa_cons (pe_op (op_c PySem.HXO.io_add o_add oA (hr.mono (by decide))) (pc 3) (pc 4)) (pa_cons (pc 6) pa_nil))))))))))) (pss_one (ps_ret pe_bl)) pss_nil)))
    (pss_cons (ps_set (i := 7) sc_law.nd rfl (Or.inl rfl) (pe_op o_sub (pe_cO cD (hr.mono (by decide)) (pa_cons (pc 1) (pa_cons (pe_op o_pow pe_int pe_int) pa_nil))) (pe_op o_pow pe_int pe_int)))
    (pss_cons (s_if (PW.pt (w_or (t_cmp (ne_c (o_ne hr.units) eC (hr.mono (by decide))) (pe_make U.mkr FI (hr.mono (by decide)) rfl U.g_Amount bI1 vI1 pass0 (pa_cons (pc 7) pa_nil)) (pc 7)) (w_or (t_cmp (ne_c (o_ne hr.units) eC (hr.mono (by decide))) (pc 7) (pe_make U.mkr FI (hr.mono (by decide)) rfl U.g_Amount bI1 vI1 pass0 (pa_cons (pc 7) pa_nil))) (w_or (t_cmp (ne_c (o_ne hr.units) eC (hr.mono (by decide))) (pe_op (op_c PySem.HXO.io_sub o_sub oS (hr.mono (by decide))) (pe_op (op_c PySem.HXO.io_add o_add oA (hr.mono (by decide))) (pc 3) (pc 7)) (pc 7)) (pc 3)) (pw_or1 (t_cmp (ne_c (o_ne hr.units) eC (hr.mono (by decide))) (pe_op (op_c PySem.HXO.io_sub o_sub oS (hr.mono (by decide))) (pc 7) (pc 3)) (pe_un (un_ow hNeg iNeg FNeg bNeg (hr.mono (by decide)) pass0) (pe_op (op_c PySem.HXO.io_sub o_sub oS (hr.mono (by decide))) (pc 3) (pc 7))))))))) (pss_one (ps_ret pe_bl)) pss_nil)
    (pss_one (s_if (PW.pt (w_and (t_cmp (o_ne hr.units) (pc 7) pe_int) (pw_and1 (PW.pt (w_or (t_cmp (o_ne hr.units) (pe_op (op_c PySem.HXO.io_fdiv o_fdivZ oF (hr.mono (by decide))) (pc 7) (pe_make U.mkr FI (hr.mono (by decide)) rfl U.g_Amount bI1 vI1 pass0 (pa_cons (pc 7) pa_nil))) pe_int) (pw_or1 (t_cmp (ne_c (o_ne hr.units) eC (hr.mono (by decide))) (pe_op (op_c PySem.HXO.io_mod o_mod oR (hr.mono (by decide))) (pc 7) (pe_make U.mkr FI (hr.mono (by decide)) rfl U.g_Amount bI1 vI1 pass0 (pa_cons (pc 7) pa_nil))) pe_int))))))) (pss_one (ps_ret pe_bl)) pss_nil))))))))))
    (pss_one (ps_ret pe_bl)))), ?_⟩
    refine ⟨a, ns, rfl, hs, fun p l H1 np s1 P1 => ⟨_, rfl, by decide, by decide, for_range (lo := 0) (n := 6) (fun i σ G => ∃ t o1 o2 o3 o4 o5 : Option V, σ = [some (.ref a), some (.ref p), t, o1, o2, o3, o4, o5] ∧ Pe G p l (20 * i)) ⟨none, none, none, none, none, none, rfl, P1.mono (by simp)⟩ ?_ ?_⟩⟩
    · rintro i σ G hi ⟨t0, o1, o2, o3, o4, o5, rfl, Pp⟩
      refine ⟨p, l, _, rfl, Pp, by omega, fun r1 x G1 h1 k1 P1 => ⟨p, l, _, rfl, P1, by omega, fun r2 y G2 h2 k2 P2 => ⟨_, _, rfl, ?_⟩⟩⟩
      have a2 := AV.kp k2 P1 h1
      refine ⟨p, l, _, rfl, P2, by omega, fun r3 z G3 h3 k3 P3 => ?_⟩
      have a3 := AV.kp k3 P2 a2
      have b3 := AV.kp k3 P2 h2
      refine ⟨a3.isI, vNeg a3 fun r4 G4 n4 s4 h4 => ?_⟩
      refine vAdd (r0 := rAdd2) (a3.mo s4).nv (NV.int (n := 1) (j := 1) (by unfold Sm; decide) (by decide)) (.inl ⟨_, rfl⟩) fun r5 G5 n5 s5 h5 => ?_
      have s45 := s4.trans s5
      have P5 := P3.same s45
      refine ⟨by show 5 ≤ sizeLine; decide, fun q nq => ?_⟩
      have sq := Same.new (o := .lst [.ref r3, .ref r1, .ref r4, .ref r5, .ref r2]) (Same.refl G5) nq
      have Pq := P5.same sq
      refine ⟨p, l, _, .ref q, rfl, Pq, by omega, .inr ⟨q, _, rfl, P5.ne nq, .inl (SqL.of upd_same), by show 0 < 5; decide, by show 5 ≤ 1000000; decide, fun v G6 hv k6 P6 => ?_⟩⟩
      obtain ⟨c, w, rfl, hc⟩ : ∃ (c : Addr) (w : Rat), v = .ref c ∧ AV A 110 G6 c w := by
        simp only [List.mem_cons, List.not_mem_nil, or_false] at hv
        rcases hv with rfl | rfl | rfl | rfl | rfl
        · exact ⟨_, _, rfl, AV.kp k6 Pq ((h3.mo (s45.trans sq)).le (by decide))⟩
        · exact ⟨_, _, rfl, AV.kp k6 Pq ((a3.mo (s45.trans sq)).le (by decide))⟩
        · exact ⟨_, _, rfl, AV.kp k6 Pq ((h4.mo (s5.trans sq)).le (by decide))⟩
        · exact ⟨_, _, rfl, AV.kp k6 Pq ((h5.mo sq).le (by decide))⟩
        · exact ⟨_, _, rfl, AV.kp k6 Pq ((b3.mo (s45.trans sq)).le (by decide))⟩
      have ha : AV A 110 G6 r1 x := AV.kp k6 Pq ((a3.mo (s45.trans sq)).le (by decide))
      have hb : AV A 110 G6 r2 y := AV.kp k6 Pq ((b3.mo (s45.trans sq)).le (by decide))
      refine gName_go ?_
      dsimp only [List.set]
      refine seqF (G0 := G6) (gOrF (gTN (gTe (gS3 (gV rfl ha) (gV rfl hb) (gV rfl hc)))) (gTN (gTe (gS3 (gV rfl hc) (gV rfl ha) (gV rfl ha))))) (Same.refl G6) fun G7 q7 => ?_
      refine seqF (G0 := G6) (gOrF (gTN (gTe (gS3 (gV rfl ha) (gV rfl hb) (gV rfl hc)))) (gOrF (gTN (gTe (gS3 (gV rfl hb) (gV rfl ha) (gV rfl ha)))) (gTN (gTe (gS3 (gV rfl hc) (gV rfl hb) (gV rfl ha)))))) q7 fun G8 q8 => ?_
      refine ⟨by show 3 ≤ sizeLine; decide, fun q2 nq2 => ?_⟩
      have s9 : Same G6 (L2.upd G8 q2 (.lst [.ref r1, .ref r2, .ref c])) := q8.trans (Same.new (Same.refl G8) nq2)
      refine ⟨q2, rfl, ⟨_, SqL.of upd_same⟩, for_it (walk_list (xs := [.ref r1, .ref r2, .ref c])) (fun j σ G => ∃ o : Option V, σ = [some (.ref a), some (.ref p), some (.int (0 + (i : Int))), some (.ref r1), some (.ref r2), some (.ref c), o, o5] ∧ Same (L2.upd G8 q2 (.lst [.ref r1, .ref r2, .ref c])) G) ⟨_, rfl, Same.refl _⟩ (fun j σ G _ ⟨_, _, s⟩ => s.seq (SqL.of upd_same)) ?_ ?_⟩
      · rintro j v σ G' G hj ⟨o, rfl, s⟩ ⟨rfl, em⟩
        have s10 := s9.trans s
        have ha := ha.mo s10
        have hb := hb.mo s10
        have hc := hc.mo s10
        obtain ⟨d, u, rfl, hd⟩ : ∃ (d : Addr) (u : Rat), v = .ref d ∧ AV A 110 G d u := by
          have hv := List.mem_of_getElem? em
          simp only [List.mem_cons, List.not_mem_nil, or_false] at hv
          rcases hv with rfl | rfl | rfl
          · exact ⟨_, _, rfl, ha⟩
          · exact ⟨_, _, rfl, hb⟩
          · exact ⟨_, _, rfl, hc⟩
        exact ifF (G0 := G) (gOrF (gTN (gTe (gS1 (gV rfl hd)))) (gAndF (gTe (gCNe (gV rfl hd) gK0)) fun hz => gTN (gTe (gS2 (gAdd (gV rfl ha) (gV rfl hb)) (gV rfl hd) (nz_of hz))))) (Same.refl G) fun G11 s11 => ⟨_, rfl, s.trans s11⟩
      · rintro σ G9 ⟨o, rfl, s⟩
        have s10 := s9.trans s
        have P9 := P6.same s10
        refine ⟨⟨by decide, by decide, by decide⟩, p, l, _, _, rfl, P9, by decide, by decide, by omega, fun m0 G10 m1 m2 k10 P10 => ⟨⟨by decide, by decide, by decide⟩, ?_⟩⟩
        have ha : AV A 110 G10 r1 x := AV.kp k10 P9 (ha.mo s10)
        obtain ⟨mm, hmm⟩ : ∃ mm : Int, mm = m0 - 10 ^ (8 : Int).toNat := ⟨_, rfl⟩
        have Sm4 : Sm 40 mm := by
          have e8 : (10 : Int) ^ (8 : Int).toNat = 100000000 := by decide +kernel
          have m2' : m0 < 1000000000 := m2
          exact sm_of4 (by omega) (by omega)
        refine rI1_go (j := 10 ^ (8 : Int).toNat) rfl ?_
        show gName 7 (.int (m0 - 10 ^ (8 : Int).toNat)) _ _ _
        rw [← hmm]
        refine gName_go ?_
        dsimp only [List.set]
        refine seqF (G0 := G10) (gOrF ((gTe (gCNe (gMk1 (gVI rfl) Sm4) (GI.num (gVI rfl) Sm4))).to ((nE rfl))) (gOrF ((gTe (gCNe (GI.num (gVI rfl) Sm4) (gMk1 (gVI rfl) Sm4))).to ((nE rfl))) (gOrF ((gTe (gCNe (gSub (gAdd (gV rfl ha) (GI.num (gVI rfl) Sm4)) (GI.num (gVI rfl) Sm4)) (gV rfl ha))).to ((nE (by grind)))) ((gTe (gCNe (gSub (GI.num (gVI rfl) Sm4) (gV rfl ha)) (gNeg (gSub (gV rfl ha) (GI.num (gVI rfl) Sm4))))).to ((nE (by grind))))))) (Same.refl G10) fun G11 s11 => ?_
        refine ifF (G0 := G10) (gAndF (gTe (gIEq (gVI rfl) gK)) fun hz => ?_) s11 fun G12 s12 => ?_
        · have mi := nzi_of hz
          have mz : (mm : Rat) ≠ 0 := castz mi
          have fl : Fl 1 ((mm : Rat) / (mm : Rat)) := by
            rw [show (mm : Rat) / (mm : Rat) = 1 by grind]
            unfold Fl
            constructor <;> grind
          exact gOrF ((gTe (gIEq (gFlo (GI.num (gVI rfl) Sm4) (gMk1 (gVI rfl) Sm4) mz fl) gK)).to ((by simp))) ((gTe (gCNe (gMod (GI.num (gVI rfl) Sm4) (gMk1 (gVI rfl) Sm4) mz fl) gK0)).to ((nE (by grind))))
        · exact ⟨_, _, _, _, _, _, rfl, (P10.same s12).mono (by omega)⟩
    · rintro σ G ⟨t0, o1, o2, o3, o4, o5, rfl, Pp⟩
      exact k _

end
end LW
set_option Elab.async false
set_option linter.all false
set_option maxRecDepth 100000
set_option maxHeartbeats 40000000
namespace LW
open PySem PySem.Spec PyProof.Rows L2 HX
theorem dn_add : PySem.dunder (Operator.info .Add).2 = "__add__" := by first | rfl | decide +kernel
theorem dr_add : PySem.dunderR (Operator.info .Add).2 = "__radd__" := by first | rfl | decide +kernel
theorem dn_sub : PySem.dunder (Operator.info .Sub).2 = "__sub__" := by first | rfl | decide +kernel
theorem dr_sub : PySem.dunderR (Operator.info .Sub).2 = "__rsub__" := by first | rfl | decide +kernel
theorem dn_mul : PySem.dunder (Operator.info .Mult).2 = "__mul__" := by first | rfl | decide +kernel
theorem dr_mul : PySem.dunderR (Operator.info .Mult).2 = "__rmul__" := by first | rfl | decide +kernel
theorem dn_floordiv : PySem.dunder (Operator.info .FloorDiv).2 = "__floordiv__" := by first | rfl | decide +kernel
theorem dr_floordiv : PySem.dunderR (Operator.info .FloorDiv).2 = "__rfloordiv__" := by first | rfl | decide +kernel
theorem dn_mod : PySem.dunder (Operator.info .Mod).2 = "__mod__" := by first | rfl | decide +kernel
theorem dr_mod : PySem.dunderR (Operator.info .Mod).2 = "__rmod__" := by first | rfl | decide +kernel
theorem all_mk {l : PySem.W.OpenLaw} {w : World} {K : PySem.W.Frag} {h : Heap} {mg : Str → Option Value} {fa : Addr} (X : K.In h) (G : h.Ns mainGlobals mg) (hfa : mg "law" = some (.ref fa))
    {A : Addr}
    {fI T : Addr} {odI anI odT : Option Addr} {slI slT : Array (Option Value)} {ocI kVI dcI pmI cdI ctI ocT : Value} {tkT : Tok} {zT : Nat}
    {f_of : Addr} {od_of an_of : Option Addr} {sl_of : Array (Option Value)} {oc_of kV_of dc_of pm_of cd_of ct_of : Value}
    {p_of : Addr} {rest_of : List Value}
    {f_num : Addr} {od_num an_num : Option Addr} {sl_num : Array (Option Value)} {oc_num kV_num dc_num pm_num cd_num ct_num : Value}
    {p_num : Addr} {rest_num : List Value}
    {t_MOST_FIGURES : Nat}
    {f_tot : Addr} {od_tot an_tot : Option Addr} {sl_tot : Array (Option Value)} {oc_tot kV_tot dc_tot pm_tot cd_tot ct_tot : Value}
    {p_tot : Addr} {rest_tot : List Value}
    {f_over : Addr} {od_over an_over : Option Addr} {sl_over : Array (Option Value)} {oc_over kV_over dc_over pm_over cd_over ct_over : Value}
    {f_add : Addr} {od_add an_add : Option Addr} {sl_add : Array (Option Value)} {oc_add kV_add dc_add pm_add cd_add ct_add : Value}
    {f_radd : Addr} {od_radd an_radd : Option Addr} {sl_radd : Array (Option Value)} {oc_radd kV_radd dc_radd pm_radd cd_radd ct_radd : Value}
    {f_sub : Addr} {od_sub an_sub : Option Addr} {sl_sub : Array (Option Value)} {oc_sub kV_sub dc_sub pm_sub cd_sub ct_sub : Value}
    {f_rsub : Addr} {od_rsub an_rsub : Option Addr} {sl_rsub : Array (Option Value)} {oc_rsub kV_rsub dc_rsub pm_rsub cd_rsub ct_rsub : Value}
    {f_mul : Addr} {od_mul an_mul : Option Addr} {sl_mul : Array (Option Value)} {oc_mul kV_mul dc_mul pm_mul cd_mul ct_mul : Value}
    {f_rmul : Addr} {od_rmul an_rmul : Option Addr} {sl_rmul : Array (Option Value)} {oc_rmul kV_rmul dc_rmul pm_rmul cd_rmul ct_rmul : Value}
    {f_flo : Addr} {od_flo an_flo : Option Addr} {sl_flo : Array (Option Value)} {oc_flo kV_flo dc_flo pm_flo cd_flo ct_flo : Value}
    {f_rflo : Addr} {od_rflo an_rflo : Option Addr} {sl_rflo : Array (Option Value)} {oc_rflo kV_rflo dc_rflo pm_rflo cd_rflo ct_rflo : Value}
    {f_mod : Addr} {od_mod an_mod : Option Addr} {sl_mod : Array (Option Value)} {oc_mod kV_mod dc_mod pm_mod cd_mod ct_mod : Value}
    {f_rmod : Addr} {od_rmod an_rmod : Option Addr} {sl_rmod : Array (Option Value)} {oc_rmod kV_rmod dc_rmod pm_rmod cd_rmod ct_rmod : Value}
    {f_neg : Addr} {od_neg an_neg : Option Addr} {sl_neg : Array (Option Value)} {oc_neg kV_neg dc_neg pm_neg cd_neg ct_neg : Value}
    {f_abs : Addr} {od_abs an_abs : Option Addr} {sl_abs : Array (Option Value)} {oc_abs kV_abs dc_abs pm_abs cd_abs ct_abs : Value}
    {f_str : Addr} {od_str an_str : Option Addr} {sl_str : Array (Option Value)} {oc_str kV_str dc_str pm_str cd_str ct_str : Value}
    {f_bool : Addr} {od_bool an_bool : Option Addr} {sl_bool : Array (Option Value)} {oc_bool kV_bool dc_bool pm_bool cd_bool ct_bool : Value}
    {f_eq : Addr} {od_eq an_eq : Option Addr} {sl_eq : Array (Option Value)} {oc_eq kV_eq dc_eq pm_eq cd_eq ct_eq : Value}
    {f_lt : Addr} {od_lt an_lt : Option Addr} {sl_lt : Array (Option Value)} {oc_lt kV_lt dc_lt pm_lt cd_lt ct_lt : Value}
    {f_le : Addr} {od_le an_le : Option Addr} {sl_le : Array (Option Value)} {oc_le kV_le dc_le pm_le cd_le ct_le : Value}
    {f_gt : Addr} {od_gt an_gt : Option Addr} {sl_gt : Array (Option Value)} {oc_gt kV_gt dc_gt pm_gt cd_gt ct_gt : Value}
    {f_ge : Addr} {od_ge an_ge : Option Addr} {sl_ge : Array (Option Value)} {oc_ge kV_ge dc_ge pm_ge cd_ge ct_ge : Value}
    {f_wh p_wh : Addr} {od_wh an_wh : Option Addr} {sl_wh : Array (Option Value)} {oc_wh kV_wh dc_wh pm_wh cd_wh ct_wh : Value} {rest_wh : List Value}
    {f_rd p_rd : Addr} {od_rd an_rd : Option Addr} {sl_rd : Array (Option Value)} {oc_rd kV_rd dc_rd pm_rd cd_rd ct_rd : Value} {rest_rd : List Value}
    {f_isint : Addr} {od_isint an_isint : Option Addr} {sl_isint : Array (Option Value)} {oc_isint kV_isint dc_isint pm_isint cd_isint ct_isint : Value}
    {f_figs : Addr} {od_figs an_figs : Option Addr} {sl_figs : Array (Option Value)} {oc_figs kV_figs dc_figs pm_figs cd_figs ct_figs : Value}
    {f_sop : Addr} {od_sop an_sop : Option Addr} {sl_sop : Array (Option Value)} {oc_sop kV_sop dc_sop pm_sop cd_sop ct_sop : Value}
    {f_pen : Addr} {od_pen an_pen : Option Addr} {sl_pen : Array (Option Value)} {oc_pen kV_pen dc_pen pm_pen cd_pen ct_pen : Value}
    {f_draw : Addr} {od_draw an_draw : Option Addr} {sl_draw : Array (Option Value)} {oc_draw kV_draw dc_draw pm_draw cd_draw ct_draw : Value}
    {f_pick : Addr} {od_pick an_pick : Option Addr} {sl_pick : Array (Option Value)} {oc_pick kV_pick dc_pick pm_pick cd_pick ct_pick : Value}
    {f_amt : Addr} {od_amt an_amt : Option Addr} {sl_amt : Array (Option Value)} {oc_amt kV_amt dc_amt pm_amt cd_amt ct_amt : Value}
    {f_ls : Addr} {od_ls an_ls : Option Addr} {sl_ls : Array (Option Value)} {oc_ls kV_ls dc_ls pm_ls cd_ls ct_ls : Value}
    {f_lo : Addr} {od_lo an_lo : Option Addr} {sl_lo : Array (Option Value)} {oc_lo kV_lo dc_lo pm_lo cd_lo ct_lo : Value}
    {f_lt_ : Addr} {od_lt_ an_lt_ : Option Addr} {sl_lt_ : Array (Option Value)} {oc_lt_ kV_lt_ dc_lt_ pm_lt_ cd_lt_ ct_lt_ : Value}
    {f_lq : Addr} {od_lq an_lq : Option Addr} {sl_lq : Array (Option Value)} {oc_lq kV_lq dc_lq pm_lq cd_lq ct_lq : Value}
    {f_law : Addr} {od_law an_law : Option Addr} {sl_law : Array (Option Value)} {oc_law kV_law dc_law pm_law cd_law ct_law : Value}
    (n_int : PySem.W.nsIn K mainGlobals "int" = some none)
    (n_len : PySem.W.nsIn K mainGlobals "len" = some none)
    (n_abs : PySem.W.nsIn K mainGlobals "abs" = some none)
    (n_list : PySem.W.nsIn K mainGlobals "list" = some none)
    (n_range : PySem.W.nsIn K mainGlobals "range" = some none)
    (n_isinstance : PySem.W.nsIn K mainGlobals "isinstance" = some none)
    (n_repr : PySem.W.nsIn K mainGlobals "repr" = some none)
    (n_bool : PySem.W.nsIn K mainGlobals "bool" = some none)
    (a_A : PySem.W.nsIn K mainGlobals "Amount" = some (some (.ref A)))
    (hgcd : PySem.W.nsIn K mainGlobals "gcd" = some (some (.builtin "math.gcd")))
    (pg : PySem.W.plainGet K A Str.empty = true)
    (hd : PySem.W.hasDictIn K A = true)
    (po : PySem.W.plainOver K A = true)
    (sa : PySem.W.findIn K (.ref A) "__setattr__" = some (some (.builtin "object.__setattr__")))
    (mk : PySem.W.makesIn K A = true)
    (kA : PySem.W.keepIn K (.ref A) = true)
    (nT : PySem.W.findIn K (.ref A) "top" = some none)
    (nB : PySem.W.findIn K (.ref A) "bottom" = some none)
    (ha : PySem.W.findIn K (.ref A) "__class__" = some (some (.builtin "object.__class__")))
    (hn : PySem.W.specialIn K (.builtin "object.__class__") "__get__" = some (some (.builtin "getset_descriptor.__get__")))
    (ht : PySem.W.takesIn K (.builtin "object.__class__") = some true)
    (hm : PySem.W.mroIn K A (.type "object") = some true)
    (first : PySem.W.selfFirst K A = true)
    (sub : PySem.W.subIn K (.ref A) (.type "int") = some false)
    (rd : PySem.W.readsIn K A (.type "type") = true)
    (gat : PySem.W.specialIn K (.ref A) "__getattribute__" = some (some (.builtin "type.__getattribute__")))
    (tI : PySem.W.kitOne K (.ref A) (.type "int") = some false)
    (tA : PySem.W.kitOne K (.type "int") (.ref A) = some false)
    (aI : PySem.W.findIn K (.ref A) "__init__" = some (some (.ref fI)))
    (iI : PySem.W.isFn K (.ref fI) = true)
    (lI : K.lookup fI = some ⟨ocI, odI, .func (PySem.W.fnOf "__init__" "Amount.__init__" (defArgs s_Amount_init) (defBody s_Amount_init) (defScope s_Amount_init) (.ref T) kVI dcI pmI anI cdI ctI), slI⟩)
    (cI_ : PySem.W.codeIn K cdI "Amount.__init__" = true)
    (kpI : PySem.W.keepIn K (.ref fI) = true)
    (lT : K.lookup T = some ⟨ocT, odT, .seq #[.int 1 tkT] zT, slT⟩)
    (a_of : PySem.W.findCls K (.ref A) (.type "type") "of" = some (.get (.builtin "staticmethod.__get__") (.ref p_of) .none (.ref A)))
    (r_of : PySem.W.recIn K p_of "staticmethod" = some (.ref f_of :: rest_of))
    (i_of : PySem.W.isFn K (.ref f_of) = true)
    (l_of : K.lookup f_of = some ⟨oc_of, od_of, .func (PySem.W.fnOf "of" "Amount.of" (defArgs s_Amount_of) (defBody s_Amount_of) (defScope s_Amount_of) .none kV_of dc_of pm_of an_of cd_of ct_of), sl_of⟩)
    (c_of : PySem.W.codeIn K cd_of "Amount.of" = true)
    (k_of : PySem.W.keepIn K (.ref f_of) = true)
    (a_num : PySem.W.findCls K (.ref A) (.type "type") "is_number" = some (.get (.builtin "staticmethod.__get__") (.ref p_num) .none (.ref A)))
    (r_num : PySem.W.recIn K p_num "staticmethod" = some (.ref f_num :: rest_num))
    (i_num : PySem.W.isFn K (.ref f_num) = true)
    (l_num : K.lookup f_num = some ⟨oc_num, od_num, .func (PySem.W.fnOf "is_number" "Amount.is_number" (defArgs s_Amount_is_number) (defBody s_Amount_is_number) (defScope s_Amount_is_number) .none kV_num dc_num pm_num an_num cd_num ct_num), sl_num⟩)
    (c_num : PySem.W.codeIn K cd_num "Amount.is_number" = true)
    (k_num : PySem.W.keepIn K (.ref f_num) = true)
    (n_str : PySem.W.nsIn K mainGlobals "str" = some none)
    (hlcm : PySem.W.nsIn K mainGlobals "lcm" = some (some (.builtin "math.lcm")))
    (g_MOST_FIGURES : PySem.W.nsIn K mainGlobals "MOST_FIGURES" = some (some (.int 200 t_MOST_FIGURES)))
    (a_tot : PySem.W.findCls K (.ref A) (.type "type") "total" = some (.get (.builtin "staticmethod.__get__") (.ref p_tot) .none (.ref A)))
    (r_tot : PySem.W.recIn K p_tot "staticmethod" = some (.ref f_tot :: rest_tot))
    (i_tot : PySem.W.isFn K (.ref f_tot) = true)
    (l_tot : K.lookup f_tot = some ⟨oc_tot, od_tot, .func (PySem.W.fnOf "total" "Amount.total" (defArgs s_Amount_total) (defBody s_Amount_total) (defScope s_Amount_total) .none kV_tot dc_tot pm_tot an_tot cd_tot ct_tot), sl_tot⟩)
    (c_tot : PySem.W.codeIn K cd_tot "Amount.total" = true)
    (k_tot : PySem.W.keepIn K (.ref f_tot) = true)
    (a_over : PySem.W.findIn K (.ref A) "over" = some (some (.ref f_over)))
    (i_over : PySem.W.isFn K (.ref f_over) = true)
    (l_over : K.lookup f_over = some ⟨oc_over, od_over, .func (PySem.W.fnOf "over" "Amount.over" (defArgs s_Amount_over) (defBody s_Amount_over) (defScope s_Amount_over) .none kV_over dc_over pm_over an_over cd_over ct_over), sl_over⟩)
    (c_over : PySem.W.codeIn K cd_over "Amount.over" = true)
    (k_over : PySem.W.keepIn K (.ref f_over) = true)
    (a_add : PySem.W.findIn K (.ref A) "__add__" = some (some (.ref f_add)))
    (i_add : PySem.W.isFn K (.ref f_add) = true)
    (l_add : K.lookup f_add = some ⟨oc_add, od_add, .func (PySem.W.fnOf "__add__" "Amount.__add__" (defArgs s_Amount_add) (defBody s_Amount_add) (defScope s_Amount_add) .none kV_add dc_add pm_add an_add cd_add ct_add), sl_add⟩)
    (c_add : PySem.W.codeIn K cd_add "Amount.__add__" = true)
    (k_add : PySem.W.keepIn K (.ref f_add) = true)
    (a_radd : PySem.W.findIn K (.ref A) "__radd__" = some (some (.ref f_radd)))
    (i_radd : PySem.W.isFn K (.ref f_radd) = true)
    (l_radd : K.lookup f_radd = some ⟨oc_radd, od_radd, .func (PySem.W.fnOf "__radd__" "Amount.__radd__" (defArgs s_Amount_radd) (defBody s_Amount_radd) (defScope s_Amount_radd) .none kV_radd dc_radd pm_radd an_radd cd_radd ct_radd), sl_radd⟩)
    (c_radd : PySem.W.codeIn K cd_radd "Amount.__radd__" = true)
    (k_radd : PySem.W.keepIn K (.ref f_radd) = true)
    (a_sub : PySem.W.findIn K (.ref A) "__sub__" = some (some (.ref f_sub)))
    (i_sub : PySem.W.isFn K (.ref f_sub) = true)
    (l_sub : K.lookup f_sub = some ⟨oc_sub, od_sub, .func (PySem.W.fnOf "__sub__" "Amount.__sub__" (defArgs s_Amount_sub) (defBody s_Amount_sub) (defScope s_Amount_sub) .none kV_sub dc_sub pm_sub an_sub cd_sub ct_sub), sl_sub⟩)
    (c_sub : PySem.W.codeIn K cd_sub "Amount.__sub__" = true)
    (k_sub : PySem.W.keepIn K (.ref f_sub) = true)
    (a_rsub : PySem.W.findIn K (.ref A) "__rsub__" = some (some (.ref f_rsub)))
    (i_rsub : PySem.W.isFn K (.ref f_rsub) = true)
    (l_rsub : K.lookup f_rsub = some ⟨oc_rsub, od_rsub, .func (PySem.W.fnOf "__rsub__" "Amount.__rsub__" (defArgs s_Amount_rsub) (defBody s_Amount_rsub) (defScope s_Amount_rsub) .none kV_rsub dc_rsub pm_rsub an_rsub cd_rsub ct_rsub), sl_rsub⟩)
    (c_rsub : PySem.W.codeIn K cd_rsub "Amount.__rsub__" = true)
    (k_rsub : PySem.W.keepIn K (.ref f_rsub) = true)
    (a_mul : PySem.W.findIn K (.ref A) "__mul__" = some (some (.ref f_mul)))
    (i_mul : PySem.W.isFn K (.ref f_mul) = true)
    (l_mul : K.lookup f_mul = some ⟨oc_mul, od_mul, .func (PySem.W.fnOf "__mul__" "Amount.__mul__" (defArgs s_Amount_mul) (defBody s_Amount_mul) (defScope s_Amount_mul) .none kV_mul dc_mul pm_mul an_mul cd_mul ct_mul), sl_mul⟩)
    (c_mul : PySem.W.codeIn K cd_mul "Amount.__mul__" = true)
    (k_mul : PySem.W.keepIn K (.ref f_mul) = true)
    (a_rmul : PySem.W.findIn K (.ref A) "__rmul__" = some (some (.ref f_rmul)))
    (i_rmul : PySem.W.isFn K (.ref f_rmul) = true)
    (l_rmul : K.lookup f_rmul = some ⟨oc_rmul, od_rmul, .func (PySem.W.fnOf "__rmul__" "Amount.__rmul__" (defArgs s_Amount_rmul) (defBody s_Amount_rmul) (defScope s_Amount_rmul) .none kV_rmul dc_rmul pm_rmul an_rmul cd_rmul ct_rmul), sl_rmul⟩)
    (c_rmul : PySem.W.codeIn K cd_rmul "Amount.__rmul__" = true)
    (k_rmul : PySem.W.keepIn K (.ref f_rmul) = true)
    (a_flo : PySem.W.findIn K (.ref A) "__floordiv__" = some (some (.ref f_flo)))
    (i_flo : PySem.W.isFn K (.ref f_flo) = true)
    (l_flo : K.lookup f_flo = some ⟨oc_flo, od_flo, .func (PySem.W.fnOf "__floordiv__" "Amount.__floordiv__" (defArgs s_Amount_floordiv) (defBody s_Amount_floordiv) (defScope s_Amount_floordiv) .none kV_flo dc_flo pm_flo an_flo cd_flo ct_flo), sl_flo⟩)
    (c_flo : PySem.W.codeIn K cd_flo "Amount.__floordiv__" = true)
    (k_flo : PySem.W.keepIn K (.ref f_flo) = true)
    (a_rflo : PySem.W.findIn K (.ref A) "__rfloordiv__" = some (some (.ref f_rflo)))
    (i_rflo : PySem.W.isFn K (.ref f_rflo) = true)
    (l_rflo : K.lookup f_rflo = some ⟨oc_rflo, od_rflo, .func (PySem.W.fnOf "__rfloordiv__" "Amount.__rfloordiv__" (defArgs s_Amount_rfloordiv) (defBody s_Amount_rfloordiv) (defScope s_Amount_rfloordiv) .none kV_rflo dc_rflo pm_rflo an_rflo cd_rflo ct_rflo), sl_rflo⟩)
    (c_rflo : PySem.W.codeIn K cd_rflo "Amount.__rfloordiv__" = true)
    (k_rflo : PySem.W.keepIn K (.ref f_rflo) = true)
    (a_mod : PySem.W.findIn K (.ref A) "__mod__" = some (some (.ref f_mod)))
    (i_mod : PySem.W.isFn K (.ref f_mod) = true)
    (l_mod : K.lookup f_mod = some ⟨oc_mod, od_mod, .func (PySem.W.fnOf "__mod__" "Amount.__mod__" (defArgs s_Amount_mod) (defBody s_Amount_mod) (defScope s_Amount_mod) .none kV_mod dc_mod pm_mod an_mod cd_mod ct_mod), sl_mod⟩)
    (c_mod : PySem.W.codeIn K cd_mod "Amount.__mod__" = true)
    (k_mod : PySem.W.keepIn K (.ref f_mod) = true)
    (a_rmod : PySem.W.findIn K (.ref A) "__rmod__" = some (some (.ref f_rmod)))
    (i_rmod : PySem.W.isFn K (.ref f_rmod) = true)
    (l_rmod : K.lookup f_rmod = some ⟨oc_rmod, od_rmod, .func (PySem.W.fnOf "__rmod__" "Amount.__rmod__" (defArgs s_Amount_rmod) (defBody s_Amount_rmod) (defScope s_Amount_rmod) .none kV_rmod dc_rmod pm_rmod an_rmod cd_rmod ct_rmod), sl_rmod⟩)
    (c_rmod : PySem.W.codeIn K cd_rmod "Amount.__rmod__" = true)
    (k_rmod : PySem.W.keepIn K (.ref f_rmod) = true)
    (a_neg : PySem.W.findIn K (.ref A) "__neg__" = some (some (.ref f_neg)))
    (i_neg : PySem.W.isFn K (.ref f_neg) = true)
    (l_neg : K.lookup f_neg = some ⟨oc_neg, od_neg, .func (PySem.W.fnOf "__neg__" "Amount.__neg__" (defArgs s_Amount_neg) (defBody s_Amount_neg) (defScope s_Amount_neg) .none kV_neg dc_neg pm_neg an_neg cd_neg ct_neg), sl_neg⟩)
    (c_neg : PySem.W.codeIn K cd_neg "Amount.__neg__" = true)
    (k_neg : PySem.W.keepIn K (.ref f_neg) = true)
    (a_abs : PySem.W.findIn K (.ref A) "__abs__" = some (some (.ref f_abs)))
    (i_abs : PySem.W.isFn K (.ref f_abs) = true)
    (l_abs : K.lookup f_abs = some ⟨oc_abs, od_abs, .func (PySem.W.fnOf "__abs__" "Amount.__abs__" (defArgs s_Amount_abs) (defBody s_Amount_abs) (defScope s_Amount_abs) .none kV_abs dc_abs pm_abs an_abs cd_abs ct_abs), sl_abs⟩)
    (c_abs : PySem.W.codeIn K cd_abs "Amount.__abs__" = true)
    (k_abs : PySem.W.keepIn K (.ref f_abs) = true)
    (a_str : PySem.W.findIn K (.ref A) "__str__" = some (some (.ref f_str)))
    (i_str : PySem.W.isFn K (.ref f_str) = true)
    (l_str : K.lookup f_str = some ⟨oc_str, od_str, .func (PySem.W.fnOf "__str__" "Amount.__str__" (defArgs s_Amount_str) (defBody s_Amount_str) (defScope s_Amount_str) .none kV_str dc_str pm_str an_str cd_str ct_str), sl_str⟩)
    (c_str : PySem.W.codeIn K cd_str "Amount.__str__" = true)
    (k_str : PySem.W.keepIn K (.ref f_str) = true)
    (a_bool : PySem.W.findIn K (.ref A) "__bool__" = some (some (.ref f_bool)))
    (i_bool : PySem.W.isFn K (.ref f_bool) = true)
    (l_bool : K.lookup f_bool = some ⟨oc_bool, od_bool, .func (PySem.W.fnOf "__bool__" "Amount.__bool__" (defArgs s_Amount_bool) (defBody s_Amount_bool) (defScope s_Amount_bool) .none kV_bool dc_bool pm_bool an_bool cd_bool ct_bool), sl_bool⟩)
    (c_bool : PySem.W.codeIn K cd_bool "Amount.__bool__" = true)
    (k_bool : PySem.W.keepIn K (.ref f_bool) = true)
    (a_eq : PySem.W.findIn K (.ref A) "__eq__" = some (some (.ref f_eq)))
    (i_eq : PySem.W.isFn K (.ref f_eq) = true)
    (l_eq : K.lookup f_eq = some ⟨oc_eq, od_eq, .func (PySem.W.fnOf "__eq__" "Amount.__eq__" (defArgs s_Amount_eq) (defBody s_Amount_eq) (defScope s_Amount_eq) .none kV_eq dc_eq pm_eq an_eq cd_eq ct_eq), sl_eq⟩)
    (c_eq : PySem.W.codeIn K cd_eq "Amount.__eq__" = true)
    (k_eq : PySem.W.keepIn K (.ref f_eq) = true)
    (a_lt : PySem.W.findIn K (.ref A) "__lt__" = some (some (.ref f_lt)))
    (i_lt : PySem.W.isFn K (.ref f_lt) = true)
    (l_lt : K.lookup f_lt = some ⟨oc_lt, od_lt, .func (PySem.W.fnOf "__lt__" "Amount.__lt__" (defArgs s_Amount_lt) (defBody s_Amount_lt) (defScope s_Amount_lt) .none kV_lt dc_lt pm_lt an_lt cd_lt ct_lt), sl_lt⟩)
    (c_lt : PySem.W.codeIn K cd_lt "Amount.__lt__" = true)
    (k_lt : PySem.W.keepIn K (.ref f_lt) = true)
    (a_le : PySem.W.findIn K (.ref A) "__le__" = some (some (.ref f_le)))
    (i_le : PySem.W.isFn K (.ref f_le) = true)
    (l_le : K.lookup f_le = some ⟨oc_le, od_le, .func (PySem.W.fnOf "__le__" "Amount.__le__" (defArgs s_Amount_le) (defBody s_Amount_le) (defScope s_Amount_le) .none kV_le dc_le pm_le an_le cd_le ct_le), sl_le⟩)
    (c_le : PySem.W.codeIn K cd_le "Amount.__le__" = true)
    (k_le : PySem.W.keepIn K (.ref f_le) = true)
    (a_gt : PySem.W.findIn K (.ref A) "__gt__" = some (some (.ref f_gt)))
    (i_gt : PySem.W.isFn K (.ref f_gt) = true)
    (l_gt : K.lookup f_gt = some ⟨oc_gt, od_gt, .func (PySem.W.fnOf "__gt__" "Amount.__gt__" (defArgs s_Amount_gt) (defBody s_Amount_gt) (defScope s_Amount_gt) .none kV_gt dc_gt pm_gt an_gt cd_gt ct_gt), sl_gt⟩)
    (c_gt : PySem.W.codeIn K cd_gt "Amount.__gt__" = true)
    (k_gt : PySem.W.keepIn K (.ref f_gt) = true)
    (a_ge : PySem.W.findIn K (.ref A) "__ge__" = some (some (.ref f_ge)))
    (i_ge : PySem.W.isFn K (.ref f_ge) = true)
    (l_ge : K.lookup f_ge = some ⟨oc_ge, od_ge, .func (PySem.W.fnOf "__ge__" "Amount.__ge__" (defArgs s_Amount_ge) (defBody s_Amount_ge) (defScope s_Amount_ge) .none kV_ge dc_ge pm_ge an_ge cd_ge ct_ge), sl_ge⟩)
    (c_ge : PySem.W.codeIn K cd_ge "Amount.__ge__" = true)
    (k_ge : PySem.W.keepIn K (.ref f_ge) = true)
    (a_wh : PySem.W.findIn K (.ref A) "is_whole" = some (some (.ref p_wh)))
    (g_wh : PySem.W.specialIn K (.ref p_wh) "__get__" = some (some (.builtin "property.__get__")))
    (t_wh : PySem.W.takesIn K (.ref p_wh) = some true)
    (r_wh : PySem.W.recIn K p_wh "property" = some (.ref f_wh :: rest_wh))
    (l_wh : K.lookup f_wh = some ⟨oc_wh, od_wh, .func (PySem.W.fnOf "is_whole" "Amount.is_whole" (defArgs s_Amount_is_whole) (defBody s_Amount_is_whole) (defScope s_Amount_is_whole) .none kV_wh dc_wh pm_wh an_wh cd_wh ct_wh), sl_wh⟩)
    (c_wh : PySem.W.codeIn K cd_wh "Amount.is_whole" = true)
    (k_wh : PySem.W.keepIn K (.ref f_wh) = true)
    (hne : PySem.W.findIn K (.ref A) "__ne__" = some (some (.builtin "object.__ne__")))
    (a_rd : PySem.W.findCls K (.ref A) (.type "type") "read" = some (.get (.builtin "classmethod.__get__") (.ref p_rd) .none (.ref A)))
    (r_rd : PySem.W.recIn K p_rd "classmethod" = some (.ref f_rd :: rest_rd))
    (i_rd : PySem.W.fnIn K f_rd = true)
    (l_rd : K.lookup f_rd = some ⟨oc_rd, od_rd, .func (PySem.W.fnOf "read" "Amount.read" (defArgs s_Amount_read) (defBody s_Amount_read) (defScope s_Amount_read) .none kV_rd dc_rd pm_rd an_rd cd_rd ct_rd), sl_rd⟩)
    (c_rd : PySem.W.codeIn K cd_rd "Amount.read" = true)
    (k_rd : PySem.W.keepIn K (.ref f_rd) = true)
    (a_isint : PySem.W.nsIn K mainGlobals "is_int" = some (some (.ref f_isint)))
    (l_isint : K.lookup f_isint = some ⟨oc_isint, od_isint, .func (PySem.W.fnOf "is_int" "is_int" (defArgs s_is_int) (defBody s_is_int) (defScope s_is_int) .none kV_isint dc_isint pm_isint an_isint cd_isint ct_isint), sl_isint⟩)
    (c_isint : PySem.W.codeIn K cd_isint "is_int" = true)
    (k_isint : PySem.W.keepIn K (.ref f_isint) = true)
    (a_figs : PySem.W.nsIn K mainGlobals "_is_figures" = some (some (.ref f_figs)))
    (l_figs : K.lookup f_figs = some ⟨oc_figs, od_figs, .func (PySem.W.fnOf "_is_figures" "_is_figures" (defArgs s__is_figures) (defBody s__is_figures) (defScope s__is_figures) .none kV_figs dc_figs pm_figs an_figs cd_figs ct_figs), sl_figs⟩)
    (c_figs : PySem.W.codeIn K cd_figs "_is_figures" = true)
    (k_figs : PySem.W.keepIn K (.ref f_figs) = true)
    (a_sop : PySem.W.nsIn K mainGlobals "sum_of_products" = some (some (.ref f_sop)))
    (l_sop : K.lookup f_sop = some ⟨oc_sop, od_sop, .func (PySem.W.fnOf "sum_of_products" "sum_of_products" (defArgs s_sum_of_products) (defBody s_sum_of_products) (defScope s_sum_of_products) .none kV_sop dc_sop pm_sop an_sop cd_sop ct_sop), sl_sop⟩)
    (c_sop : PySem.W.codeIn K cd_sop "sum_of_products" = true)
    (k_sop : PySem.W.keepIn K (.ref f_sop) = true)
    (a_pen : PySem.W.nsIn K mainGlobals "_law_pen" = some (some (.ref f_pen)))
    (l_pen : K.lookup f_pen = some ⟨oc_pen, od_pen, .func (PySem.W.fnOf "_law_pen" "_law_pen" (defArgs s__law_pen) (defBody s__law_pen) (defScope s__law_pen) .none kV_pen dc_pen pm_pen an_pen cd_pen ct_pen), sl_pen⟩)
    (c_pen : PySem.W.codeIn K cd_pen "_law_pen" = true)
    (k_pen : PySem.W.keepIn K (.ref f_pen) = true)
    (a_draw : PySem.W.nsIn K mainGlobals "_law_draw" = some (some (.ref f_draw)))
    (l_draw : K.lookup f_draw = some ⟨oc_draw, od_draw, .func (PySem.W.fnOf "_law_draw" "_law_draw" (defArgs s__law_draw) (defBody s__law_draw) (defScope s__law_draw) .none kV_draw dc_draw pm_draw an_draw cd_draw ct_draw), sl_draw⟩)
    (c_draw : PySem.W.codeIn K cd_draw "_law_draw" = true)
    (k_draw : PySem.W.keepIn K (.ref f_draw) = true)
    (a_pick : PySem.W.nsIn K mainGlobals "_law_pick" = some (some (.ref f_pick)))
    (l_pick : K.lookup f_pick = some ⟨oc_pick, od_pick, .func (PySem.W.fnOf "_law_pick" "_law_pick" (defArgs s__law_pick) (defBody s__law_pick) (defScope s__law_pick) .none kV_pick dc_pick pm_pick an_pick cd_pick ct_pick), sl_pick⟩)
    (c_pick : PySem.W.codeIn K cd_pick "_law_pick" = true)
    (k_pick : PySem.W.keepIn K (.ref f_pick) = true)
    (a_amt : PySem.W.nsIn K mainGlobals "_law_amount" = some (some (.ref f_amt)))
    (l_amt : K.lookup f_amt = some ⟨oc_amt, od_amt, .func (PySem.W.fnOf "_law_amount" "_law_amount" (defArgs s__law_amount) (defBody s__law_amount) (defScope s__law_amount) .none kV_amt dc_amt pm_amt an_amt cd_amt ct_amt), sl_amt⟩)
    (c_amt : PySem.W.codeIn K cd_amt "_law_amount" = true)
    (k_amt : PySem.W.keepIn K (.ref f_amt) = true)
    (a_ls : PySem.W.nsIn K mainGlobals "_law_sums_right" = some (some (.ref f_ls)))
    (l_ls : K.lookup f_ls = some ⟨oc_ls, od_ls, .func (PySem.W.fnOf "_law_sums_right" "_law_sums_right" (defArgs s__law_sums_right) (defBody s__law_sums_right) (defScope s__law_sums_right) .none kV_ls dc_ls pm_ls an_ls cd_ls ct_ls), sl_ls⟩)
    (c_ls : PySem.W.codeIn K cd_ls "_law_sums_right" = true)
    (k_ls : PySem.W.keepIn K (.ref f_ls) = true)
    (a_lo : PySem.W.nsIn K mainGlobals "_law_order_right" = some (some (.ref f_lo)))
    (l_lo : K.lookup f_lo = some ⟨oc_lo, od_lo, .func (PySem.W.fnOf "_law_order_right" "_law_order_right" (defArgs s__law_order_right) (defBody s__law_order_right) (defScope s__law_order_right) .none kV_lo dc_lo pm_lo an_lo cd_lo ct_lo), sl_lo⟩)
    (c_lo : PySem.W.codeIn K cd_lo "_law_order_right" = true)
    (k_lo : PySem.W.keepIn K (.ref f_lo) = true)
    (a_lt_ : PySem.W.nsIn K mainGlobals "_law_text_right" = some (some (.ref f_lt_)))
    (l_lt_ : K.lookup f_lt_ = some ⟨oc_lt_, od_lt_, .func (PySem.W.fnOf "_law_text_right" "_law_text_right" (defArgs s__law_text_right) (defBody s__law_text_right) (defScope s__law_text_right) .none kV_lt_ dc_lt_ pm_lt_ an_lt_ cd_lt_ ct_lt_), sl_lt_⟩)
    (c_lt_ : PySem.W.codeIn K cd_lt_ "_law_text_right" = true)
    (k_lt_ : PySem.W.keepIn K (.ref f_lt_) = true)
    (a_lq : PySem.W.nsIn K mainGlobals "_law_quotients_right" = some (some (.ref f_lq)))
    (l_lq : K.lookup f_lq = some ⟨oc_lq, od_lq, .func (PySem.W.fnOf "_law_quotients_right" "_law_quotients_right" (defArgs s__law_quotients_right) (defBody s__law_quotients_right) (defScope s__law_quotients_right) .none kV_lq dc_lq pm_lq an_lq cd_lq ct_lq), sl_lq⟩)
    (c_lq : PySem.W.codeIn K cd_lq "_law_quotients_right" = true)
    (k_lq : PySem.W.keepIn K (.ref f_lq) = true)
    (a_law : PySem.W.nsIn K mainGlobals "law" = some (some (.ref f_law)))
    (l_law : K.lookup f_law = some ⟨oc_law, od_law, .func (PySem.W.fnOf "law" "law" (defArgs s_law) (defBody s_law) (defScope s_law) .none kV_law dc_law pm_law an_law cd_law ct_law), sl_law⟩)
    (c_law : PySem.W.codeIn K cd_law "law" = true)
    (k_law : PySem.W.keepIn K (.ref f_law) = true) :
    ∃ fd : FuncData, (∀ (s : Shared) (v : Value), BindsTo s fd ⟨[v], []⟩ [("_law_script", v)]) ∧ ∀ base : Heap, K.In base → base.Ns mainGlobals mg → FnG l.prog w K mg base CX0 11 fa fd ["_law_script"] (spLaw K) := by
  have e := hfa.symm.trans (PySem.W.mg_of X G a_law)
  cases e
  have mn_int := PySem.W.mg_none_of X G n_int
  have mn_len := PySem.W.mg_none_of X G n_len
  have mn_abs := PySem.W.mg_none_of X G n_abs
  have mn_list := PySem.W.mg_none_of X G n_list
  have mn_range := PySem.W.mg_none_of X G n_range
  have mn_isinstance := PySem.W.mg_none_of X G n_isinstance
  have mn_repr := PySem.W.mg_none_of X G n_repr
  have mn_bool := PySem.W.mg_none_of X G n_bool
  have m_A := PySem.W.mg_of X G a_A
  have FID : FunD K "__init__" "Amount.__init__" (defArgs s_Amount_init) (defBody s_Amount_init) (defScope s_Amount_init) [.int 1] [] fI (PySem.W.fnOf "__init__" "Amount.__init__" (defArgs s_Amount_init) (defBody s_Amount_init) (defScope s_Amount_init) (.ref T) kVI dcI pmI anI cdI ctI) := ⟨⟨ocI, odI, _, kVI, dcI, pmI, anI, cdI, ctI, slI, rfl, lI, cI_, .inr ⟨by decide, T, _, [.int 1 tkT], zT, rfl, lT, rfl, .cons ⟨tkT, rfl⟩ .nil⟩, .inl rfl⟩, kpI⟩
  obtain ⟨ds1, vI1, bI1⟩ := FID.binds1 (ps := ["self", "top", "bottom"]) 2 0 (by decide) rfl fun _ _ _ _ _ _ _ us its h1 h2 => match us, its, h1, h2 with | [_, _], [_], _, _ => ⟨_, rfl, rfl⟩
  obtain ⟨ds2, vI2, bI2⟩ := FID.binds1 (ps := ["self", "top", "bottom"]) 3 1 (by decide) rfl fun _ _ _ _ _ _ _ us its h1 h2 => match us, its, h1, h2 with | [_, _, _], [_], _, _ => ⟨_, rfl, rfl⟩
  cases vI2
  have F_of := fun_mk (st := s_Amount_of) l_of c_of k_of
  have b_of := F_of.binds (ps := ["number"]) fun _ _ _ _ _ _ us hl => match us, hl with | [_], _ => rfl
  have F_num := fun_mk (st := s_Amount_is_number) l_num c_num k_num
  have b_num := F_num.binds (ps := ["value"]) fun _ _ _ _ _ _ us hl => match us, hl with | [_], _ => rfl
  have mn_str := PySem.W.mg_none_of X G n_str
  have mg_MOST_FIGURES := PySem.W.mg_of X G g_MOST_FIGURES
  have F_tot := fun_mk (st := s_Amount_total) l_tot c_tot k_tot
  have b_tot := F_tot.binds (ps := ["numbers"]) fun _ _ _ _ _ _ us hl => match us, hl with | [_], _ => rfl
  have F_over := fun_mk (st := s_Amount_over) l_over c_over k_over
  have b_over := F_over.binds (ps := ["self", "number"]) fun _ _ _ _ _ _ us hl => match us, hl with | [_, _], _ => rfl
  have F_add := fun_mk (st := s_Amount_add) l_add c_add k_add
  have b_add := F_add.binds (ps := ["self", "other"]) fun _ _ _ _ _ _ us hl => match us, hl with | [_, _], _ => rfl
  have F_radd := fun_mk (st := s_Amount_radd) l_radd c_radd k_radd
  have b_radd := F_radd.binds (ps := ["self", "other"]) fun _ _ _ _ _ _ us hl => match us, hl with | [_, _], _ => rfl
  have F_sub := fun_mk (st := s_Amount_sub) l_sub c_sub k_sub
  have b_sub := F_sub.binds (ps := ["self", "other"]) fun _ _ _ _ _ _ us hl => match us, hl with | [_, _], _ => rfl
  have F_rsub := fun_mk (st := s_Amount_rsub) l_rsub c_rsub k_rsub
  have b_rsub := F_rsub.binds (ps := ["self", "other"]) fun _ _ _ _ _ _ us hl => match us, hl with | [_, _], _ => rfl
  have F_mul := fun_mk (st := s_Amount_mul) l_mul c_mul k_mul
  have b_mul := F_mul.binds (ps := ["self", "other"]) fun _ _ _ _ _ _ us hl => match us, hl with | [_, _], _ => rfl
  have F_rmul := fun_mk (st := s_Amount_rmul) l_rmul c_rmul k_rmul
  have b_rmul := F_rmul.binds (ps := ["self", "other"]) fun _ _ _ _ _ _ us hl => match us, hl with | [_, _], _ => rfl
  have F_flo := fun_mk (st := s_Amount_floordiv) l_flo c_flo k_flo
  have b_flo := F_flo.binds (ps := ["self", "other"]) fun _ _ _ _ _ _ us hl => match us, hl with | [_, _], _ => rfl
  have F_rflo := fun_mk (st := s_Amount_rfloordiv) l_rflo c_rflo k_rflo
  have b_rflo := F_rflo.binds (ps := ["self", "other"]) fun _ _ _ _ _ _ us hl => match us, hl with | [_, _], _ => rfl
  have F_mod := fun_mk (st := s_Amount_mod) l_mod c_mod k_mod
  have b_mod := F_mod.binds (ps := ["self", "other"]) fun _ _ _ _ _ _ us hl => match us, hl with | [_, _], _ => rfl
  have F_rmod := fun_mk (st := s_Amount_rmod) l_rmod c_rmod k_rmod
  have b_rmod := F_rmod.binds (ps := ["self", "other"]) fun _ _ _ _ _ _ us hl => match us, hl with | [_, _], _ => rfl
  have F_neg := fun_mk (st := s_Amount_neg) l_neg c_neg k_neg
  have b_neg := F_neg.binds (ps := ["self"]) fun _ _ _ _ _ _ us hl => match us, hl with | [_], _ => rfl
  have F_abs := fun_mk (st := s_Amount_abs) l_abs c_abs k_abs
  have b_abs := F_abs.binds (ps := ["self"]) fun _ _ _ _ _ _ us hl => match us, hl with | [_], _ => rfl
  have F_str := fun_mk (st := s_Amount_str) l_str c_str k_str
  have b_str := F_str.binds (ps := ["self"]) fun _ _ _ _ _ _ us hl => match us, hl with | [_], _ => rfl
  have F_bool := fun_mk (st := s_Amount_bool) l_bool c_bool k_bool
  have b_bool := F_bool.binds (ps := ["self"]) fun _ _ _ _ _ _ us hl => match us, hl with | [_], _ => rfl
  have F_eq := fun_mk (st := s_Amount_eq) l_eq c_eq k_eq
  have b_eq := F_eq.binds (ps := ["self", "other"]) fun _ _ _ _ _ _ us hl => match us, hl with | [_, _], _ => rfl
  have F_lt := fun_mk (st := s_Amount_lt) l_lt c_lt k_lt
  have b_lt := F_lt.binds (ps := ["self", "other"]) fun _ _ _ _ _ _ us hl => match us, hl with | [_, _], _ => rfl
  have F_le := fun_mk (st := s_Amount_le) l_le c_le k_le
  have b_le := F_le.binds (ps := ["self", "other"]) fun _ _ _ _ _ _ us hl => match us, hl with | [_, _], _ => rfl
  have F_gt := fun_mk (st := s_Amount_gt) l_gt c_gt k_gt
  have b_gt := F_gt.binds (ps := ["self", "other"]) fun _ _ _ _ _ _ us hl => match us, hl with | [_, _], _ => rfl
  have F_ge := fun_mk (st := s_Amount_ge) l_ge c_ge k_ge
  have b_ge := F_ge.binds (ps := ["self", "other"]) fun _ _ _ _ _ _ us hl => match us, hl with | [_, _], _ => rfl
  have F_wh := fun_mk (st := s_Amount_is_whole) l_wh c_wh k_wh
  have b_wh := F_wh.binds (ps := ["self"]) fun _ _ _ _ _ _ us hl => match us, hl with | [_], _ => rfl
  have F_rd := fun_mk (st := s_Amount_read) l_rd c_rd k_rd
  have b_rd := F_rd.binds (ps := ["cls", "text"]) fun _ _ _ _ _ _ us hl => match us, hl with | [_, _], _ => rfl
  have F_isint := fun_mk (st := s_is_int) l_isint c_isint k_isint
  have b_isint := F_isint.binds (ps := ["value"]) fun _ _ _ _ _ _ us hl => match us, hl with | [_], _ => rfl
  have m_isint := PySem.W.mg_of X G a_isint
  have F_figs := fun_mk (st := s__is_figures) l_figs c_figs k_figs
  have b_figs := F_figs.binds (ps := ["text"]) fun _ _ _ _ _ _ us hl => match us, hl with | [_], _ => rfl
  have m_figs := PySem.W.mg_of X G a_figs
  have F_sop := fun_mk (st := s_sum_of_products) l_sop c_sop k_sop
  have b_sop := F_sop.binds (ps := ["pairs"]) fun _ _ _ _ _ _ us hl => match us, hl with | [_], _ => rfl
  have m_sop := PySem.W.mg_of X G a_sop
  have F_pen := fun_mk (st := s__law_pen) l_pen c_pen k_pen
  have b_pen := F_pen.binds (ps := ["_law_script"]) fun _ _ _ _ _ _ us hl => match us, hl with | [_], _ => rfl
  have m_pen := PySem.W.mg_of X G a_pen
  have F_draw := fun_mk (st := s__law_draw) l_draw c_draw k_draw
  have b_draw := F_draw.binds (ps := ["_law_pen_here", "_law_many"]) fun _ _ _ _ _ _ us hl => match us, hl with | [_, _], _ => rfl
  have m_draw := PySem.W.mg_of X G a_draw
  have F_pick := fun_mk (st := s__law_pick) l_pick c_pick k_pick
  have b_pick := F_pick.binds (ps := ["_law_pen_here", "_law_some"]) fun _ _ _ _ _ _ us hl => match us, hl with | [_, _], _ => rfl
  have m_pick := PySem.W.mg_of X G a_pick
  have F_amt := fun_mk (st := s__law_amount) l_amt c_amt k_amt
  have b_amt := F_amt.binds (ps := ["_law_pen_here"]) fun _ _ _ _ _ _ us hl => match us, hl with | [_], _ => rfl
  have m_amt := PySem.W.mg_of X G a_amt
  have F_ls := fun_mk (st := s__law_sums_right) l_ls c_ls k_ls
  have b_ls := F_ls.binds (ps := ["_law_a", "_law_b", "_law_c"]) fun _ _ _ _ _ _ us hl => match us, hl with | [_, _, _], _ => rfl
  have m_ls := PySem.W.mg_of X G a_ls
  have F_lo := fun_mk (st := s__law_order_right) l_lo c_lo k_lo
  have b_lo := F_lo.binds (ps := ["_law_a", "_law_b", "_law_c"]) fun _ _ _ _ _ _ us hl => match us, hl with | [_, _, _], _ => rfl
  have m_lo := PySem.W.mg_of X G a_lo
  have F_lt_ := fun_mk (st := s__law_text_right) l_lt_ c_lt_ k_lt_
  have b_lt_ := F_lt_.binds (ps := ["_law_a"]) fun _ _ _ _ _ _ us hl => match us, hl with | [_], _ => rfl
  have m_lt_ := PySem.W.mg_of X G a_lt_
  have F_lq := fun_mk (st := s__law_quotients_right) l_lq c_lq k_lq
  have b_lq := F_lq.binds (ps := ["_law_a", "_law_b"]) fun _ _ _ _ _ _ us hl => match us, hl with | [_, _], _ => rfl
  have m_lq := PySem.W.mg_of X G a_lq
  have F_law := fun_mk (st := s_law) l_law c_law k_law
  have b_law := F_law.binds (ps := ["_law_script"]) fun _ _ _ _ _ _ us hl => match us, hl with | [_], _ => rfl
  have m_law := PySem.W.mg_of X G a_law
  refine ⟨PySem.W.fnOf "law" "law" (defArgs s_law) (defBody s_law) (defScope s_law) .none kV_law dc_law pm_law an_law cd_law ct_law, fun s v => .of_eq rfl, fun base _ _ => ?_⟩
  have T_ : Txt K mg := ⟨mn_int, mn_len, mn_abs, mn_list, mn_range, mn_isinstance, mn_repr, mn_bool⟩
  have U : AmC K mg A fI p_of f_of p_num f_num (.type "type") := ⟨m_A, PySem.W.mg_of X G hgcd, ⟨pg, hd, po, sa⟩, nT, nB, ⟨mk, aI, iI, kA⟩, ha, hn, ht, hm, tI, tA, ⟨⟨rd, gat⟩, a_of, ⟨_, r_of⟩, k_of⟩, ⟨⟨rd, gat⟩, a_num, ⟨_, r_num⟩, k_num⟩⟩
  have cI : CalO l.prog w K mg base "is_int" 1 ["value"] (spIsInt A) (fun _ => True) := ⟨_, _, ok_is_int F_isint T_ U, m_isint, k_isint, b_isint, trivial⟩
  have FI : FnOk l.prog w K mg base CX0 2 fI _ ["self", "top", "bottom"] (spInit A) := ok_init FID T_ U cI
  have FN := ok_is_number (P := l.prog) (w := w) (base := base) F_num T_ U cI
  have FO := ok_of (P := l.prog) (w := w) (base := base) F_of T_ U FI bI1 vI1 bI2
  have fOver := ok_Amount_over (P := l.prog) (w := w) (base := base) F_over T_ U FI bI1 vI1 bI2 FO b_of FN b_num
  have fAdd := ok_Amount_add (P := l.prog) (w := w) (base := base) F_add T_ U FI bI1 vI1 bI2 cI
  have fMul := ok_Amount_mul (P := l.prog) (w := w) (base := base) F_mul T_ U FI bI1 vI1 bI2 cI
  have fNeg := ok_Amount_neg (P := l.prog) (w := w) (base := base) F_neg T_ U FI bI1 vI1 bI2
  have fAbs := ok_Amount_abs (P := l.prog) (w := w) (base := base) F_abs T_ U FI bI1 vI1 bI2
  have O_add : PySem.HXO.OwnOp K A .Add f_add f_radd := ⟨first, sub, by rw [dn_add]; exact a_add, by rw [dr_add]; exact a_radd, i_add, i_radd⟩
  have O_sub : PySem.HXO.OwnOp K A .Sub f_sub f_rsub := ⟨first, sub, by rw [dn_sub]; exact a_sub, by rw [dr_sub]; exact a_rsub, i_sub, i_rsub⟩
  have O_mul : PySem.HXO.OwnOp K A .Mult f_mul f_rmul := ⟨first, sub, by rw [dn_mul]; exact a_mul, by rw [dr_mul]; exact a_rmul, i_mul, i_rmul⟩
  have O_flo : PySem.HXO.OwnOp K A .FloorDiv f_flo f_rflo := ⟨first, sub, by rw [dn_floordiv]; exact a_flo, by rw [dr_floordiv]; exact a_rflo, i_flo, i_rflo⟩
  have O_mod : PySem.HXO.OwnOp K A .Mod f_mod f_rmod := ⟨first, sub, by rw [dn_mod]; exact a_mod, by rw [dr_mod]; exact a_rmod, i_mod, i_rmod⟩
  have fRadd := ok_Amount_radd (P := l.prog) (w := w) (base := base) F_radd T_ U FO b_of FN b_num fAdd b_add O_add
  have fRmul := ok_Amount_rmul (P := l.prog) (w := w) (base := base) F_rmul T_ U FO b_of FN b_num fMul b_mul O_mul
  have fSub := ok_Amount_sub (P := l.prog) (w := w) (base := base) F_sub T_ U FO b_of FN b_num fAdd b_add O_add fNeg b_neg a_neg i_neg
  have fRsub := ok_Amount_rsub (P := l.prog) (w := w) (base := base) F_rsub T_ U FO b_of FN b_num fAdd b_add O_add fNeg b_neg a_neg i_neg
  have mOver : Meth K A "over" f_over := ⟨a_over, i_over, k_over⟩
  have fFlo := ok_Amount_floordiv (P := l.prog) (w := w) (base := base) F_flo T_ U FO b_of FN b_num fOver b_over mOver
  have fRflo := ok_Amount_rfloordiv (P := l.prog) (w := w) (base := base) F_rflo T_ U FO b_of FN b_num fFlo b_flo O_flo
  have fMod := ok_Amount_mod (P := l.prog) (w := w) (base := base) F_mod T_ U fFlo b_flo O_flo fRmul b_rmul O_mul fSub b_sub O_sub
  have fRmod := ok_Amount_rmod (P := l.prog) (w := w) (base := base) F_rmod T_ U fRflo b_rflo O_flo fRmul b_rmul O_mul fRsub b_rsub O_sub
  have o_add : OpC l.prog w K mg base A .Add (spBin A 3900 pAdd qBD) (spBin A 3900 pAdd qBD) := ⟨_, _, _, _, O_add, fAdd.mono (by decide), fRadd.mono (by decide), b_add, b_radd⟩
  have o_sub : OpC l.prog w K mg base A .Sub (spBin A 3900 pSub qBD) (spBin A 3900 pRsub qBD) := ⟨_, _, _, _, O_sub, fSub.mono (by decide), fRsub.mono (by decide), b_sub, b_rsub⟩
  have o_mul : OpC l.prog w K mg base A .Mult (spBin A 3900 pMul qBD) (spBin A 3900 pMul qBD) := ⟨_, _, _, _, O_mul, fMul.mono (by decide), fRmul.mono (by decide), b_mul, b_rmul⟩
  have o_flo : OpC l.prog w K mg base A .FloorDiv (spFl A pOver qBC) (spFl A pRfl qDT) := ⟨_, _, _, _, O_flo, fFlo.mono (by decide), fRflo.mono (by decide), b_flo, b_rflo⟩
  have o_mod : OpC l.prog w K mg base A .Mod (spMod A) (spRmod A) := ⟨_, _, _, _, O_mod, fMod.mono (by decide), fRmod.mono (by decide), b_mod, b_rmod⟩
  have f_lt_ := ok_Amount_lt (P := l.prog) (w := w) (base := base) F_lt T_ U FO b_of FN b_num
  have f_le_ := ok_Amount_le (P := l.prog) (w := w) (base := base) F_le T_ U FO b_of FN b_num
  have f_gt_ := ok_Amount_gt (P := l.prog) (w := w) (base := base) F_gt T_ U FO b_of FN b_num
  have f_ge_ := ok_Amount_ge (P := l.prog) (w := w) (base := base) F_ge T_ U FO b_of FN b_num
  have cLt : CmC l.prog w K mg base A .Lt "int.__lt__" (spCmp A gLt) (spCmp A gGt) := ⟨_, _, _, _, cmpO_lt sub a_lt a_gt i_lt i_gt, f_lt_.mono (by decide), f_gt_.mono (by decide), b_lt, b_gt⟩
  have cLe : CmC l.prog w K mg base A .LtE "int.__le__" (spCmp A gLe) (spCmp A gGe) := ⟨_, _, _, _, cmpO_le sub a_le a_ge i_le i_ge, f_le_.mono (by decide), f_ge_.mono (by decide), b_le, b_ge⟩
  have cGt : CmC l.prog w K mg base A .Gt "int.__gt__" (spCmp A gGt) (spCmp A gLt) := ⟨_, _, _, _, cmpO_gt sub a_gt a_lt i_gt i_lt, f_gt_.mono (by decide), f_lt_.mono (by decide), b_gt, b_lt⟩
  have cGe : CmC l.prog w K mg base A .GtE "int.__ge__" (spCmp A gGe) (spCmp A gLe) := ⟨_, _, _, _, cmpO_ge sub a_ge a_le i_ge i_le, f_ge_.mono (by decide), f_le_.mono (by decide), b_ge, b_le⟩
  have f_eq_ := ok_Amount_eq (P := l.prog) (w := w) (base := base) F_eq T_ U cI
  have cG : CalO l.prog w K mg base "is_int" 1 ["value"] (spIntG K A) (fun _ => True) := ⟨_, _, ok_is_intG F_isint T_ U, m_isint, k_isint, b_isint, trivial⟩
  have f_eqN_ := ok_eqN (P := l.prog) (w := w) (base := base) F_eq T_ U cG
  have cEq : CmC l.prog w K mg base A .Eq "int.__eq__" (spCmp A gEq) (spCmp A gEq) := ⟨_, _, _, _, cmpO_eq sub a_eq i_eq, f_eq_.mono (by decide), f_eq_.mono (by decide), b_eq, b_eq⟩
  have eC : EqC l.prog w K mg base A := ⟨sub, hm, hne, _, _, a_eq, i_eq, f_eq_.mono (by decide), f_eqN_.mono (by decide), b_eq⟩
  have cSt : UnC l.prog w K mg base A "__str__" (spStr A) := ⟨_, _, a_str, i_str, (ok_Amount_str (P := l.prog) (w := w) (base := base) F_str T_ mn_str U).mono (by decide), b_str⟩
  have cBo : UnC l.prog w K mg base A "__bool__" (spTruth A) := ⟨_, _, a_bool, i_bool, (ok_Amount_bool (P := l.prog) (w := w) (base := base) F_bool T_ U).mono (by decide), b_bool⟩
  have cSp : CalO l.prog w K mg base "sum_of_products" 6 ["pairs"] (spSop K A) (fun _ => True) := ⟨_, _, ok_sop F_sop T_ U FI bI1 vI1 bI2 (PySem.W.mg_of X G hlcm), m_sop, k_sop, b_sop, trivial⟩
  have sTo : SMet K A (.type "type") "total" p_tot f_tot := ⟨⟨rd, gat⟩, a_tot, ⟨_, r_tot⟩, k_tot⟩
  have FTL := ok_totalL (P := l.prog) (w := w) (base := base) F_tot T_ U FO b_of FN b_num cSp
  have FTT := ok_totalT (P := l.prog) (w := w) (base := base) F_tot T_ U FO b_of FN b_num cSp
  have cWh : ∃ (g : Addr) (fd : FuncData), PropOf K A "is_whole" p_wh g ∧ FnOk l.prog w K mg base CX0 1 g fd ["self"] (spWhole A) ∧ Binds K fd ["self"] [] := ⟨_, _, ⟨a_wh, g_wh, t_wh, ⟨_, r_wh⟩⟩, ok_Amount_is_whole F_wh T_ U, b_wh⟩
  have cFi : CalO l.prog w K mg base "_is_figures" 1 ["text"] spFigs (fun _ => True) := ⟨_, _, ok_figs F_figs T_ ⟨_, mg_MOST_FIGURES⟩, m_figs, k_figs, b_figs, trivial⟩
  have FRd : FnR l.prog w K mg base CX0 9 f_rd (spReadN A) := ((ok_readN F_rd T_ U FI bI1 vI1 bI2 cFi mn_str cSt).raw b_rd .nil).imp fun vs H Q E h => by rw [List.append_nil]; exact h
  have cRd : ClX.CRead K A (.type "type") := ⟨rd, gat⟩
  have cMr : ClX.CMet K A (.type "type") "read" p_rd f_rd := ⟨a_rd, ⟨_, r_rd⟩, i_rd⟩
  have cPen : CalO l.prog w K mg base "_law_pen" 1 ["_law_script"] (spPen K) (fun _ => True) := ⟨_, _, ok_pen F_pen T_, m_pen, k_pen, b_pen, trivial⟩
  have cD : CalO l.prog w K mg base "_law_draw" 1 ["_law_pen_here", "_law_many"] spDraw (fun _ => True) := ⟨_, _, ok_draw F_draw T_, m_draw, k_draw, b_draw, trivial⟩
  have cP : CalO l.prog w K mg base "_law_pick" 2 ["_law_pen_here", "_law_some"] (spPick K) (fun _ => True) := ⟨_, _, ok_pick F_pick T_ cD, m_pick, k_pick, b_pick, trivial⟩
  have cAm : CalO l.prog w K mg base "_law_amount" 4 ["_law_pen_here"] (spAmt A) (fun _ => True) := ⟨_, _, ok_amt F_amt T_ U FI bI1 vI1 bI2 cD cP, m_amt, k_amt, b_amt, trivial⟩
  have cS : CalO l.prog w K mg base "_law_sums_right" 10 ["_law_a", "_law_b", "_law_c"] (sp3 A) (fun _ => True) := ⟨_, _, ok_sums F_ls T_ U o_add o_sub o_mul cLt cLe cGt cGe cEq eC fNeg b_neg a_neg i_neg fAbs b_abs a_abs i_abs sTo FTL FTT b_tot, m_ls, k_ls, b_ls, trivial⟩
  have cO : CalO l.prog w K mg base "_law_order_right" 10 ["_law_a", "_law_b", "_law_c"] (sp3 A) (fun _ => True) := ⟨_, _, ok_order F_lo T_ U o_add o_sub o_mul cLt cLe cGt cGe cEq fNeg b_neg a_neg i_neg fOver b_over mOver, m_lo, k_lo, b_lo, trivial⟩
  have cT' : CalO l.prog w K mg base "_law_text_right" 10 ["_law_a"] (sp1 A) (fun _ => True) := ⟨_, _, ok_text F_lt_ T_ U FI bI1 vI1 bI2 FO b_of FN b_num o_add o_sub o_mul o_flo o_mod cLt cLe cGt cGe cEq eC cWh cRd cMr FRd cSt mn_str cBo, m_lt_, k_lt_, b_lt_, trivial⟩
  have cQ : CalO l.prog w K mg base "_law_quotients_right" 10 ["_law_a", "_law_b"] (sp2 A) (fun _ => True) := ⟨_, _, ok_quot F_lq T_ U FI bI1 vI1 bI2 o_add o_sub o_mul o_flo o_mod cLt cLe cGt cGe cEq eC fOver b_over mOver cWh, m_lq, k_lq, b_lq, trivial⟩
  exact FnG.of (ok_law F_law T_ U FI bI1 vI1 bI2 o_add o_sub o_mul o_flo o_mod eC fNeg b_neg a_neg i_neg cPen cD cP cAm cS cO cT' cQ)
theorem sp_law_of (K : PySem.W.Frag) (H : Hp) (a : Addr) (ns : List Int) (hl : ns.length ≤ 63) (ho : Only H) (h : SqL K H a (ns.map V.int)) : spLaw K [.ref a] H (fun v _ => v = .bl true) fun _ _ _ => False := ⟨a, ns, rfl, h, fun _ => rfl⟩
end LW
open HX
open PySem PySem.W PyProof.Rows
set_option maxRecDepth 100000 in
set_option maxHeartbeats 0 in
theorem PySem.Challenge.cw_holeshift_k23_whole_amounts_as_a_field_holds : PySem.Challenge.rw_holeshift_k23_whole_amounts_as_a_field.Holds := by
  w_on; o_law; k_head; (case hw => w_witness2)
  k_fill
  refine walkG (l := PySem.Challenge.rw_holeshift_k23_whole_amounts_as_a_field) (n := 63) (k := 11) (x := "_law_script") (sp := LW.spLaw) rfl (by decide) rfl ⟨rfl, by decide, by decide⟩ (fun w h Y => PySem.W.kIn_of Y) ?F (fun K H a ns hl ho h => LW.sp_law_of K H a ns hl ho h)
  case F =>
    intro w mg fa h KX G hmg
    refine' LW.all_mk KX G hmg ?n_int ?n_len ?n_abs ?n_list ?n_range ?n_isinstance ?n_repr ?n_bool ?a_A ?hgcd ?pg ?hd ?po ?sa ?mk ?kA ?nT ?nB ?ha ?hn ?ht ?hm ?first ?sub ?rd ?gat ?tI ?tA ?aI ?iI ?lI ?cI_ ?kpI ?lT ?a_of ?r_of ?i_of ?l_of ?c_of ?k_of ?a_num ?r_num ?i_num ?l_num ?c_num ?k_num ?n_str ?hlcm ?g_MOST_FIGURES ?a_tot ?r_tot ?i_tot ?l_tot ?c_tot ?k_tot ?a_over ?i_over ?l_over ?c_over ?k_over ?a_add ?i_add ?l_add ?c_add ?k_add ?a_radd ?i_radd ?l_radd ?c_radd ?k_radd ?a_sub ?i_sub ?l_sub ?c_sub ?k_sub ?a_rsub ?i_rsub ?l_rsub ?c_rsub ?k_rsub ?a_mul ?i_mul ?l_mul ?c_mul ?k_mul ?a_rmul ?i_rmul ?l_rmul ?c_rmul ?k_rmul ?a_flo ?i_flo ?l_flo ?c_flo ?k_flo ?a_rflo ?i_rflo ?l_rflo ?c_rflo ?k_rflo ?a_mod ?i_mod ?l_mod ?c_mod ?k_mod ?a_rmod ?i_rmod ?l_rmod ?c_rmod ?k_rmod ?a_neg ?i_neg ?l_neg ?c_neg ?k_neg ?a_abs ?i_abs ?l_abs ?c_abs ?k_abs ?a_str ?i_str ?l_str ?c_str ?k_str ?a_bool ?i_bool ?l_bool ?c_bool ?k_bool ?a_eq ?i_eq ?l_eq ?c_eq ?k_eq ?a_lt ?i_lt ?l_lt ?c_lt ?k_lt ?a_le ?i_le ?l_le ?c_le ?k_le ?a_gt ?i_gt ?l_gt ?c_gt ?k_gt ?a_ge ?i_ge ?l_ge ?c_ge ?k_ge ?a_wh ?g_wh ?t_wh ?r_wh ?l_wh ?c_wh ?k_wh ?hne ?a_rd ?r_rd ?i_rd ?l_rd ?c_rd ?k_rd ?a_isint ?l_isint ?c_isint ?k_isint ?a_figs ?l_figs ?c_figs ?k_figs ?a_sop ?l_sop ?c_sop ?k_sop ?a_pen ?l_pen ?c_pen ?k_pen ?a_draw ?l_draw ?c_draw ?k_draw ?a_pick ?l_pick ?c_pick ?k_pick ?a_amt ?l_amt ?c_amt ?k_amt ?a_ls ?l_ls ?c_ls ?k_ls ?a_lo ?l_lo ?c_lo ?k_lo ?a_lt_ ?l_lt_ ?c_lt_ ?k_lt_ ?a_lq ?l_lq ?c_lq ?k_lq ?a_law ?l_law ?c_law ?k_law
    (case n_int => k_is)
    (case n_len => k_is)
    (case n_abs => k_is)
    (case n_list => k_is)
    (case n_range => k_is)
    (case n_isinstance => k_is)
    (case n_repr => k_is)
    (case n_bool => k_is)
    (case a_A => k_is)
    (case hgcd => k_is)
    (case pg => k_is)
    (case hd => k_is)
    (case po => k_is)
    (case sa => k_is)
    (case mk => k_is)
    (case kA => k_is)
    (case nT => k_is)
    (case nB => k_is)
    (case ha => k_is)
    (case hn => k_is)
    (case ht => k_is)
    (case hm => k_is)
    (case first => k_is)
    (case sub => k_is)
    (case rd => k_is)
    (case gat => k_is)
    (case tI => exact (by kernel_rfl))
    (case tA => exact (by kernel_rfl))
    (case aI => k_is)
    (case iI => k_is)
    (case lI => k_is)
    (case cI_ => k_is)
    (case kpI => k_is)
    (case lT => k_is)
    (case a_of => k_is)
    (case r_of => k_is)
    (case i_of => k_is)
    (case l_of => k_is)
    (case c_of => k_is)
    (case k_of => k_is)
    (case a_num => k_is)
    (case r_num => k_is)
    (case i_num => k_is)
    (case l_num => k_is)
    (case c_num => k_is)
    (case k_num => k_is)
    (case n_str => k_is)
    (case hlcm => k_is)
    (case g_MOST_FIGURES => k_is)
    (case a_tot => k_is)
    (case r_tot => k_is)
    (case i_tot => k_is)
    (case l_tot => k_is)
    (case c_tot => k_is)
    (case k_tot => k_is)
    (case a_over => k_is)
    (case i_over => k_is)
    (case l_over => k_is)
    (case c_over => k_is)
    (case k_over => k_is)
    (case a_add => k_is)
    (case i_add => k_is)
    (case l_add => k_is)
    (case c_add => k_is)
    (case k_add => k_is)
    (case a_radd => k_is)
    (case i_radd => k_is)
    (case l_radd => k_is)
    (case c_radd => k_is)
    (case k_radd => k_is)
    (case a_sub => k_is)
    (case i_sub => k_is)
    (case l_sub => k_is)
    (case c_sub => k_is)
    (case k_sub => k_is)
    (case a_rsub => k_is)
    (case i_rsub => k_is)
    (case l_rsub => k_is)
    (case c_rsub => k_is)
    (case k_rsub => k_is)
    (case a_mul => k_is)
    (case i_mul => k_is)
    (case l_mul => k_is)
    (case c_mul => k_is)
    (case k_mul => k_is)
    (case a_rmul => k_is)
    (case i_rmul => k_is)
    (case l_rmul => k_is)
    (case c_rmul => k_is)
    (case k_rmul => k_is)
    (case a_flo => k_is)
    (case i_flo => k_is)
    (case l_flo => k_is)
    (case c_flo => k_is)
    (case k_flo => k_is)
    (case a_rflo => k_is)
    (case i_rflo => k_is)
    (case l_rflo => k_is)
    (case c_rflo => k_is)
    (case k_rflo => k_is)
    (case a_mod => k_is)
    (case i_mod => k_is)
    (case l_mod => k_is)
    (case c_mod => k_is)
    (case k_mod => k_is)
    (case a_rmod => k_is)
    (case i_rmod => k_is)
    (case l_rmod => k_is)
    (case c_rmod => k_is)
    (case k_rmod => k_is)
    (case a_neg => k_is)
    (case i_neg => k_is)
    (case l_neg => k_is)
    (case c_neg => k_is)
    (case k_neg => k_is)
    (case a_abs => k_is)
    (case i_abs => k_is)
    (case l_abs => k_is)
    (case c_abs => k_is)
    (case k_abs => k_is)
    (case a_str => k_is)
    (case i_str => k_is)
    (case l_str => k_is)
    (case c_str => k_is)
    (case k_str => k_is)
    (case a_bool => k_is)
    (case i_bool => k_is)
    (case l_bool => k_is)
    (case c_bool => k_is)
    (case k_bool => k_is)
    (case a_eq => k_is)
    (case i_eq => k_is)
    (case l_eq => k_is)
    (case c_eq => k_is)
    (case k_eq => k_is)
    (case a_lt => k_is)
    (case i_lt => k_is)
    (case l_lt => k_is)
    (case c_lt => k_is)
    (case k_lt => k_is)
    (case a_le => k_is)
    (case i_le => k_is)
    (case l_le => k_is)
    (case c_le => k_is)
    (case k_le => k_is)
    (case a_gt => k_is)
    (case i_gt => k_is)
    (case l_gt => k_is)
    (case c_gt => k_is)
    (case k_gt => k_is)
    (case a_ge => k_is)
    (case i_ge => k_is)
    (case l_ge => k_is)
    (case c_ge => k_is)
    (case k_ge => k_is)
    (case a_wh => k_is)
    (case g_wh => k_is)
    (case t_wh => k_is)
    (case r_wh => k_is)
    (case l_wh => k_is)
    (case c_wh => k_is)
    (case k_wh => k_is)
    (case hne => k_is)
    (case a_rd => k_is)
    (case r_rd => k_is)
    (case i_rd => k_is)
    (case l_rd => k_is)
    (case c_rd => k_is)
    (case k_rd => k_is)
    (case a_isint => k_is)
    (case l_isint => k_is)
    (case c_isint => k_is)
    (case k_isint => k_is)
    (case a_figs => k_is)
    (case l_figs => k_is)
    (case c_figs => k_is)
    (case k_figs => k_is)
    (case a_sop => k_is)
    (case l_sop => k_is)
    (case c_sop => k_is)
    (case k_sop => k_is)
    (case a_pen => k_is)
    (case l_pen => k_is)
    (case c_pen => k_is)
    (case k_pen => k_is)
    (case a_draw => k_is)
    (case l_draw => k_is)
    (case c_draw => k_is)
    (case k_draw => k_is)
    (case a_pick => k_is)
    (case l_pick => k_is)
    (case c_pick => k_is)
    (case k_pick => k_is)
    (case a_amt => k_is)
    (case l_amt => k_is)
    (case c_amt => k_is)
    (case k_amt => k_is)
    (case a_ls => k_is)
    (case l_ls => k_is)
    (case c_ls => k_is)
    (case k_ls => k_is)
    (case a_lo => k_is)
    (case l_lo => k_is)
    (case c_lo => k_is)
    (case k_lo => k_is)
    (case a_lt_ => k_is)
    (case l_lt_ => k_is)
    (case c_lt_ => k_is)
    (case k_lt_ => k_is)
    (case a_lq => k_is)
    (case l_lq => k_is)
    (case c_lq => k_is)
    (case k_lq => k_is)
    (case a_law => k_is)
    (case l_law => k_is)
    (case c_law => k_is)
    (case k_law => k_is)
