import PyProof.Rows.All
import Wide.All
import OpenK.AllK
import Wide.FinOn
import HandS.ForMost
import HandS.ForExc
import HandS.ExcInit
import HandS.Wide
import PyProof.ReprRoads
import PyProof.ReprLen
import HandS.ExcField
import HandS.ExcIs
import KE.KExcIs
import HandS.IsInst
import HandS.Defaults
import HandS.AnyAll
import HandS.Walk
import HandS.Text
import HandS.StrMore
import PySem.Challenge.RW_holeshift_k02_names_told
set_option Elab.async false
set_option linter.all false
set_option maxRecDepth 100000
set_option maxHeartbeats 2000000
namespace HX
open PySem PySem.Spec PyProof.Rows L2

/-- a def's promise where nothing is being shown (no repr runs around it) -/
structure FnG (P : Program) (w : World) (K : PySem.W.Frag) (mg : Str → Option Value) (base : Heap) (CX : CXT) (k : Nat) (f : Addr) (fd : FuncData) (ps : List Str) (sp : Sp) : Prop where
  len : ∀ vs H Q E, sp vs H Q E → vs.length = ps.length
  go : ∀ (A : Around) (out : List Env) (s : Shared) (H : Hp) (ar : Args) (us : List Value) (vs : List V) (Q : VK) (E : XK),
    A.guards = some [] → Room k A → Env0 P w K mg base A out s H → BindsTo s fd ar (ps.zip us) → Vals vs us → sp vs H Q E →
      codeAny (model P w) A (.call (.ref f) ar) (CR CX out P w H s Q E) s

section
variable {P : Program} {w : World} {K : PySem.W.Frag} {mg : Str → Option Value} {base : Heap} {CX : CXT} {k : Nat} {f : Addr} {fd : FuncData} {ps : List Str} {sp : Sp}
theorem FnG.of (F : FnOk P w K mg base CX k f fd ps sp) : FnG P w K mg base CX k f fd ps sp :=
  ⟨F.len, fun A out s H ar us vs Q E _ r e b v h => F.run A out s H ar us vs Q E r e b v h⟩
theorem FnG.mono {j : Nat} (F : FnG P w K mg base CX j f fd ps sp) (h : j ≤ k) : FnG P w K mg base CX k f fd ps sp :=
  ⟨F.len, fun A out s H ar us vs Q E g r => F.go A out s H ar us vs Q E g (r.mono h)⟩

/-- a def by its body -/
theorem fnG_of {nm qual : Str} {prm : Arguments} {body : List Stmt} {sc : Scope} {dV kV doc pm cdv ct oc : Value} {an od : Option Addr} {osl : Array (Option Value)} {N : List Str}
    (lk : K.lookup f = some ⟨oc, od, .func (PySem.W.fnOf nm qual prm body sc dV kV doc pm an cdv ct), osl⟩)
    (hcd : PySem.W.codeIn K cdv qual = true) (S : FnScope N ps sc) (ln : ∀ vs H Q E, sp vs H Q E → vs.length = ps.length)
    (hb : ∀ (A : Around) (out : List Env) (s : Shared) (H : Hp) (vs : List V) (Q : VK) (E : XK), A.guards = some [] →
      Room k (A.deeper (envOfC qual sc s.heap.objs.size f cdv)) → sp vs H Q E →
        ∃ t, PSs (cxOf CX P w K mg base N qual sc f cdv A out s H E) body t ∧ t { nx := fun _ G => Q .non G, rt := Q } (start N vs) H) :
    FnG P w K mg base CX (k + 1) f (PySem.W.fnOf nm qual prm body sc dV kV doc pm an cdv ct) ps sp := by
  refine ⟨ln, fun A out s H ar us vs Q E hgd hr e0 bd rv hsp => ?_⟩
  have n0 := ln _ _ _ _ hsp
  have stay : ∀ b o, base.get? b = some o → s.heap.get? b = some o := fun b o z => (e0.bs b o z).1
  have kin : K.In s.heap := e0.mod.kin.keeps stay
  have lim : s.heap.NoLimit := e0.mod.nolimit.keeps stay
  refine codeAny_call_function hr.depth (kin _ _ lk) rfl S.co S.gen rfl (PySem.W.codeRec_of kin hcd) (bd _ _ _ _ ?_)
  refine wpAny_newFunctionEnv_cells S.kind (fun ⟨x, u⟩ hx => ?_) fun env he s1 ic => ?_
  · rcases S.par x (List.of_mem_zip hx).1 with z | z
    · exact .inl z
    · exact .inr ⟨z, PySem.W.cellsFrom_some _ _ _ (.inl z)⟩
  · subst he
    refine ⟨lim.keeps ic.toInCall.keep, codeAny_func ?_⟩
    obtain ⟨t, pt, go⟩ := hb A out s H vs Q E hgd (hr.deeper _) hsp
    refine wpAny_mono (pt.run [] s1 _ H _ (inv_start S hr.hd e0 n0 rv ic) go) (fun fl s' q => ?_) fun _ _ z => z
    cases fl with
    | ret u =>
      obtain ⟨v, _, G, J, r, z⟩ := q
      exact ⟨v, G, J.os, J.bare, J.base, J.hok, r, z⟩
    | next =>
      obtain ⟨_, G, J, z⟩ := q
      exact ⟨V.non, G, J.os, J.bare, J.base, J.hok, rfl, z⟩
    | brk => exact False.elim (let ⟨_, _, _, z⟩ := q; z)
    | cont => exact False.elim (let ⟨_, _, _, z⟩ := q; z)

theorem fun_okG {x qual : Str} {st : Stmt} {N : List Str} (F : Fun K x qual st f fd) (S : FnScope N ps (defScope st)) (ln : ∀ vs H Q E, sp vs H Q E → vs.length = ps.length)
    (hb : ∀ (cdv : Value) (A : Around) (out : List Env) (s : Shared) (H : Hp) (vs : List V) (Q : VK) (E : XK), A.guards = some [] →
      Room k (A.deeper (envOfC qual (defScope st) s.heap.objs.size f cdv)) → sp vs H Q E →
        ∃ t, PSs (cxOf CX0 P w K mg base N qual (defScope st) f cdv A out s H E).nox (defBody st) t ∧ t { nx := fun _ G => Q .non G, rt := Q } (start N vs) H) :
    FnG P w K mg base CX0 (k + 1) f fd ps sp := by
  obtain ⟨_, _, _, _, _, _, cdv, _, _, rfl, lk, hcd⟩ := F.ex
  refine fnG_of lk hcd S ln fun A out s H vs Q E g hr hs => ?_
  obtain ⟨t, p, q⟩ := hb cdv A out s H vs Q E g hr hs
  exact ⟨t, p.nox, q⟩
end

section
variable {X : Cx} {CX : CXT} {k : Nat} {f : Addr} {fd : FuncData} {ps : List Str} {sp : Sp} {dvs : List V} {ds : List Value} {E : XK} {x : Str} {p pos : Pos} {e : Expr} {es : List Expr} {t : TA}
theorem run_fnG {pins : List (Addr × Obj)} {σ : L2.St} {H : Hp} {s : Shared} {Q : VK} {us : List Value} {vs : List V} (F : FnG X.prog X.w X.K X.mg X.base CX k f fd ps sp) (gd : X.A.guards = some []) (hr : Room k X.A)
    (hb : Binds X.K fd ps ds) (hd : Vals dvs ds) (hx : Passes CX X E) (I : Inv X pins σ H s) (r : Vals vs us) (h : sp (vs ++ dvs) H Q E) :
    wpAny (model X.prog X.w) X.A (call (.ref f) us) (EP X pins σ Q) X.xe s := by
  have rr : Vals (vs ++ dvs) (us ++ ds) := r.append hd
  have n0 : (us ++ ds).length = ps.length := rr.length.symm.trans (F.len _ _ _ _ h)
  have run := F.go X.A X.stack s H ⟨us, []⟩ (us ++ ds) (vs ++ dvs) Q E gd hr I.env0 (hb s us I.kIn n0) rr h
  refine wpAny_call (codeAny_mono run fun r s' q => ?_)
  match r, q with
  | .error e, q => exact hx pins σ H s e s' I q
  | .ok (.ret u), q => exact I.after q
  | .ok .next, q => exact False.elim q
  | .ok .brk, q => exact False.elim q
  | .ok .cont, q => exact False.elim q
theorem pe_callG (F : FnG X.prog X.w X.K X.mg X.base CX k f fd ps sp) (gd : X.A.guards = some []) (hr : Room k X.A) (hg : Gl X x) (hm : X.mg x = some (.ref f)) (hk : PySem.W.keepIn X.K (.ref f) = true)
    (hb : Binds X.K fd ps ds) (hd : Vals dvs ds) (hx : Passes CX X E) (ha : PA X (e :: es) t) (hdb : (x == ("__debug__" : Str)) = false := by decide)
    (he : starEach (e :: es) X.env = (false, eval e X.env) :: starEach es X.env := by rfl) (hpl : (backTo pos (starEach es X.env)).any (·.1) = false := by rfl) :
    PE X (.Call (.Name x p) (e :: es) [] pos) (tCall sp dvs E t) :=
  ⟨fun pins s σ H Q I h => wpAny_Call_Name_kw (ld_glob I hg hm (PySem.W.callWith_K (h₀ := X.base) I.ok.mod.kin hk
    (thn (ha.run pos pins s σ H _ I h) fun us s1 ⟨vs, H1, I1, r, q⟩ => ⟨I1.kIn, run_fnG F gd hr hb hd hx I1 r q⟩) he hpl) hdb)⟩
end
end HX

set_option Elab.async false
set_option linter.all false
set_option maxRecDepth 100000
set_option maxHeartbeats 2000000
namespace HX
open PySem PySem.Spec PyProof.Rows L2

/-- the heap that knows the script alone, locked -/
def scr (a : Addr) (o : Obj) (ns : List Int) : Hp := fun b => if b = a then some (.frz o (.lst (ns.map V.int))) else none

section
variable {P : Program} {w : World} {K : PySem.W.Frag} {mg mb : Str → Option Value} {CX : CXT} {k : Nat} {fa a : Addr} {fd : FuncData} {x : Str} {sp : Sp} {s : Shared} {vs : List Value} {ns : List Int}
theorem law_goG (kin : K.In s.heap) (hn : s.heap.Ns mainGlobals mg) (hb : s.heap.Ns builtinsNs mb) (hbb : ∀ y : Str, y ≠ "__name__" → mb y = bootBuiltins y) (lim : s.heap.NoLimit) (hg : s.gens = #[])
    (H : Hp) (only : Only H) (hok : HOk P w H s.heap) (at1 : ∀ b, H b ≠ none → s.heap.get? b = some { cls := .type "list", data := .seq vs.toArray } ∧ K.lookup b = none)
    (hr : Room k callerA) (F : ∀ base : Heap, K.In base → base.Ns mainGlobals mg → FnG P w K mg base CX k fa fd [x] sp)
    (bind1 : ∀ (s : Shared) (u : Value), BindsTo s fd ⟨[u], []⟩ [(x, u)])
    (hsp : sp [.ref a] H (fun v _ => v = .bl true) fun _ _ _ => False) (hCX : ∀ e s', CX [] H s (fun _ _ _ => False) e s' → False) :
    codeAny (model P w) callerA (.call (.ref fa) ⟨[.ref a], []⟩) (fun r s' => r = .ok (.ret (.bool true)) ∧ OldK s.heap s'.heap ∧ s'.os = s.os ∧ AllBare s'.gens) s := by
  have untr : ∀ b o, s.heap.get? b = some o → (o ≠ { cls := .type "list", data := .seq vs.toArray } ∨ K.lookup b ≠ none) → H b = none := fun b o e d => by
    cases q : H b with
    | none => rfl
    | some u =>
      obtain ⟨z1, z2⟩ := at1 b (by rw [q]; exact fun z => nomatch z)
      rcases d with d | d
      · exact absurd (Option.some.inj (e.symm.trans z1)) d
      · exact absurd z2 d
  have isNs : ∀ {b : Addr} {m : Str → Option Value}, s.heap.Ns b m → (hidT s.heap H).Ns b m := fun {b m} z => by
    obtain ⟨o, es, ep, e, d, r⟩ := z
    refine ⟨o, es, ep, hidT_get e (untr b o e (.inl fun z => ?_)), d, r⟩
    rw [z] at d
    cases d
  have kinB : K.In (hidT s.heap H) := fun b o e => hidT_get (kin b o e) (untr b o (kin b o e) (.inr (by rw [e]; exact fun z => nomatch z)))
  have md : Mod K mg (hidT s.heap H) := ⟨kinB, isNs hn, ⟨mb, isNs hb, hbb⟩, let ⟨m, z1, z2⟩ := lim; ⟨m, isNs z1, z2⟩⟩
  have e0 : Env0 P w K mg (hidT s.heap H) callerA [] s H :=
    ⟨rfl, md, fun _ _ e => of_hidT e, Nat.le_of_eq (hidT_size _ _), trivial, fun b z => absurd (show b ∈ ([] : List Addr) from z) List.not_mem_nil, hok, AllBare.of_eq hg⟩
  have run := (F _ kinB (isNs hn)).go callerA [] s H ⟨[.ref a], []⟩ [.ref a] [.ref a] (fun v _ => v = .bl true) (fun _ _ _ => False) rfl hr e0 (bind1 s (.ref a)) (.cons rfl .nil) hsp
  refine codeAny_mono run fun r s' q => ?_
  match r, q with
  | .error e, q => exact (hCX e s' q).elim
  | .ok .next, q => exact False.elim q
  | .ok .brk, q => exact False.elim q
  | .ok .cont, q => exact False.elim q
  | .ok (.ret u), q =>
    obtain ⟨v, G, os, bare, un, hok', rv, ev⟩ := q
    subst ev
    obtain rfl : u = Value.bool true := rv
    refine ⟨rfl, OldK.of_keep fun b o e => ?_, os, bare⟩
    rcases only b with n | ⟨ob, xs, n⟩
    · exact un.keep b o e n (fun z => absurd (show b ∈ ([] : List Addr) from z) List.not_mem_nil) List.not_mem_nil
    · have y1 := (hok b _ n).1
      have y2 := (hok' b _ (un.frzs b ob _ n)).1
      exact (y2.trans y1.symm).trans e
end

/-- the end of a law whose def keeps an FnG promise -/
theorem walkG {l : PySem.W.OpenLaw} {n k : Nat} {q : Program} {loose : List Str} {XP : (Str → Option Value) → Heap → Prop} {YP : World → Heap → Prop} {d : DefRec} {K : Params → PySem.W.Frag} {sp : PySem.W.Frag → Sp} {x : Str}
    (hm : l.most = some n) (hn : n ≤ sizeLine) (hdf : d.params.defaults = []) (hr : Room k callerA) (hY : ∀ (w : World) (h : Heap), YP w h → (K w.params).In h)
    (F : ∀ (w : World) (mg : Str → Option Value) (fa : Addr) (h : Heap), (K w.params).In h → h.Ns mainGlobals mg → mg d.name = some (.ref fa) →
      ∃ fd : FuncData, (∀ (s : Shared) (u : Value), BindsTo s fd ⟨[u], []⟩ [(x, u)]) ∧
        ∀ base : Heap, (K w.params).In base → base.Ns mainGlobals mg → FnG l.prog w (K w.params) mg base CX0 k fa fd [x] (sp (K w.params)))
    (hsp : ∀ (K : PySem.W.Frag) (H : Hp) (a : Addr) (ns : List Int), ns.length ≤ n → Only H → SqL K H a (ns.map V.int) → sp K [.ref a] H (fun v _ => v = .bl true) fun _ _ _ => False) :
    PySem.W.WalkO q loose XP YP l.row.toRowW d [] (fun f vs => PySem.call f vs) := by
  refine Att.attach_call hm hdf fun w s₀ s mg mb fa o pm cd doc a vs ns G Y ho hd hcd hmg hobj hi hlen hg => ?_
  have kin := hY w _ Y
  obtain ⟨fd, b1, f1⟩ := F w mg fa _ kin G.T.g hmg
  have rv := vals_ints hi
  have lv := hi.length
  cases e : (K w.params).lookup a with
  | some ob =>
    have z := kin a ob e
    rw [hobj] at z
    cases z
    refine law_goG (vs := vs) kin G.T.g G.T.b G.T.builtins G.T.nolimit hg (fun _ => none) (fun _ => .inl rfl) (fun _ _ z => nomatch z) (fun _ z => absurd rfl z) hr f1 b1 ?_ fun _ _ z => z
    refine hsp _ _ a ns hlen (fun _ => .inl rfl) (.inr ⟨_, vs.toArray, _, e, rfl, rfl, rfl, ?_, by simpa using rv⟩)
    rw [List.size_toArray, lv]
    exact Nat.le_trans hlen hn
  | none =>
    have at_ : ∀ b u, scr a { cls := .type "list", data := .seq vs.toArray } ns b = some u → b = a ∧ u = .frz { cls := .type "list", data := .seq vs.toArray } (.lst (ns.map V.int)) := fun b u z => by
      unfold scr at z
      split at z
      · rename_i hb
        exact ⟨hb, (Option.some.inj z).symm⟩
      · cases z
    refine law_goG (vs := vs) kin G.T.g G.T.b G.T.builtins G.T.nolimit hg (scr a { cls := .type "list", data := .seq vs.toArray } ns) (fun b => ?_) (fun b u z => ?_) (fun b z => ?_) hr f1 b1 ?_ fun _ _ z => z
    · cases z : scr a { cls := .type "list", data := .seq vs.toArray } ns b with
      | none => exact .inl rfl
      | some u => exact .inr ⟨_, _, by rw [(at_ b u z).2]⟩
    · obtain ⟨rfl, rfl⟩ := at_ b u z
      exact ⟨hobj, by rw [List.length_map]; exact Nat.le_trans hlen hn, vs, _, rv, hobj⟩
    · cases y : scr a { cls := .type "list", data := .seq vs.toArray } ns b with
      | none => exact absurd y z
      | some u =>
        obtain ⟨rfl, _⟩ := at_ b u y
        exact ⟨hobj, e⟩
    · refine hsp _ _ a ns hlen (fun b => ?_) (.inl (.inr ⟨_, if_pos rfl⟩))
      cases z : scr a { cls := .type "list", data := .seq vs.toArray } ns b with
      | none => exact .inl rfl
      | some u => exact .inr ⟨_, _, by rw [(at_ b u z).2]⟩
end HX

set_option Elab.async false
set_option linter.all false
set_option maxRecDepth 100000
set_option maxHeartbeats 2000000
namespace HX
open PySem PySem.Spec PyProof.Rows L2

/-! ### what a value tells as data: None, bools, ints, texts, lists, tuples, dicts with int and text keys -/
def keyD : Key → PyData
  | .inl i => .int i
  | .inr x => .str x
mutual
inductive Da (H : Hp) : V → PyData → Prop
  | non : Da H .non .none
  | bl (b : Bool) : Da H (.bl b) (.bool b)
  | int (i : Int) : Da H (.int i) (.int i)
  | str (x : Str) : Da H (.str x) (.str x)
  | lst {a : Addr} {xs : List V} {ds : List PyData} : H a = some (.lst xs) → Das H xs ds → Da H (.ref a) (.list ds)
  | tup {a : Addr} {xs : List V} {ds : List PyData} : H a = some (.tup xs) → Das H xs ds → Da H (.ref a) (.tuple ds)
  | dic {a : Addr} {kvs : List (Key × V)} {ps : List (PyData × PyData)} : H a = some (.dK kvs) → Dks H kvs ps → Da H (.ref a) (.dict ps)
inductive Das (H : Hp) : List V → List PyData → Prop
  | nil : Das H [] []
  | cons {v : V} {vs : List V} {d : PyData} {ds : List PyData} : Da H v d → Das H vs ds → Das H (v :: vs) (d :: ds)
inductive Dks (H : Hp) : List (Key × V) → List (PyData × PyData) → Prop
  | nil : Dks H [] []
  | cons {k : Key} {v : V} {kvs : List (Key × V)} {d : PyData} {ps : List (PyData × PyData)} : Da H v d → Dks H kvs ps → Dks H ((k, v) :: kvs) ((keyD k, d) :: ps)
end
theorem Das.len {H : Hp} : ∀ {vs : List V} {ds : List PyData}, Das H vs ds → vs.length = ds.length
  | _, _, .nil => rfl
  | _, _, .cons _ t => by rw [List.length_cons, List.length_cons, t.len]
theorem Das.get {H : Hp} : ∀ {vs : List V} {ds : List PyData} {i : Nat} {v : V}, Das H vs ds → vs[i]? = some v → ∃ d, ds[i]? = some d ∧ Da H v d
  | _, _, _, _, .nil, e => by simp at e
  | _, _, 0, v, .cons h _, e => by
    simp at e
    subst e
    exact ⟨_, rfl, h⟩
  | _, _, i + 1, v, .cons _ t, e => by
    obtain ⟨d, h1, h2⟩ := t.get (i := i) (v := v) (by simpa using e)
    exact ⟨d, by simpa using h1, h2⟩
theorem Das.app {H : Hp} : ∀ {vs us : List V} {ds es : List PyData}, Das H vs ds → Das H us es → Das H (vs ++ us) (ds ++ es)
  | _, _, _, _, .nil, t => t
  | _, _, _, _, .cons h t, t2 => .cons h (t.app t2)
mutual
theorem Da.mo {H H' : Hp} (m : Same H H') : ∀ {d : PyData} {v : V}, Da H v d → Da H' v d
  | _, _, .non => .non
  | _, _, .bl b => .bl b
  | _, _, .int i => .int i
  | _, _, .str x => .str x
  | _, _, .lst s t => .lst (m _ _ s) (Das.mo m t)
  | _, _, .tup s t => .tup (m _ _ s) (Das.mo m t)
  | _, _, .dic s t => .dic (m _ _ s) (Dks.mo m t)
theorem Das.mo {H H' : Hp} (m : Same H H') : ∀ {ds : List PyData} {vs : List V}, Das H vs ds → Das H' vs ds
  | _, _, .nil => .nil
  | _, _, .cons h t => .cons (Da.mo m h) (Das.mo m t)
theorem Dks.mo {H H' : Hp} (m : Same H H') : ∀ {ps : List (PyData × PyData)} {kvs : List (Key × V)}, Dks H kvs ps → Dks H' kvs ps
  | _, _, .nil => .nil
  | _, _, .cons h t => .cons (Da.mo m h) (Dks.mo m t)
end
/-! the data has a list somewhere -/
mutual
def hasL : PyData → Bool
  | .list _ => true
  | .tuple xs => hasLs xs
  | .dict ps => hasLk ps
  | .none => false
  | .bool _ => false
  | .int _ => false
  | .str _ => false
def hasLs : List PyData → Bool
  | [] => false
  | x :: xs => hasL x || hasLs xs
def hasLk : List (PyData × PyData) → Bool
  | [] => false
  | (a, b) :: r => hasL a || hasL b || hasLk r
end
section
variable {X : Cx} {pins : List (Addr × Obj)} {σ : L2.St} {H : Hp} {s : Shared}
theorem key_reads {h : Heap} {k : Key} {v : Value} (e : keyIs k v = true) : Reads h v (keyD k) [] := by
  rcases keyIs_shape e with ⟨i, t, rfl, rfl⟩ | ⟨x, t, rfl, rfl⟩
  · exact .int i t
  · exact .str x t
mutual
/-- .. as it stands in the heap; of the addresses that are read, none is sys.modules unless there are lists -/
theorem Da.reads (I : Inv X pins σ H s) : ∀ {d : PyData} {v : V} {u : Value}, Da H v d → RelV v u → ∃ as, Reads s.heap u d as ∧ (hasL d = false → sysModules ∉ as)
  | _, _, _, .non, r => by cases r; exact ⟨_, .none, fun _ z => nomatch z⟩
  | _, _, _, .bl b, r => by cases r; exact ⟨_, .bool b, fun _ z => nomatch z⟩
  | _, _, _, .int i, r => by obtain ⟨t, rfl⟩ := r; exact ⟨_, .int i t, fun _ z => nomatch z⟩
  | _, _, _, .str x, r => by obtain ⟨t, rfl⟩ := r; exact ⟨_, .str x t, fun _ z => nomatch z⟩
  | _, _, _, .lst h t, r => by
    cases r
    obtain ⟨its, rv, ⟨o, n, ho, hc, _, hd⟩, _⟩ := I.list (SqL.of h)
    obtain ⟨as, hr, _⟩ := Das.reads I t rv
    exact ⟨_, .list ho hc hd (by simpa using hr), fun z => by simp [hasL] at z⟩
  | _, _, _, .tup h t, r => by
    cases r
    obtain ⟨its, rv, ⟨o, ho, hc, n, hd⟩, _⟩ := I.tuple (SqT.of h)
    obtain ⟨as, hr, q⟩ := Das.reads I t rv
    exact ⟨_, .tuple ho hc hd (by simpa using hr), fun z => q (by simpa [hasL] using z)⟩
  | _, _, _, .dic (a := a) (kvs := kvs) h t, r => by
    cases r
    obtain ⟨_, nsys, vs, kv, o, es, ep, ho, hx, hd, _, hp, _⟩ := (show ObjOk X.prog X.w H s.heap a (.dK kvs) from I.hok a _ h)
    obtain ⟨bs, hr1, hr2, q⟩ := Dks.reads I t kv hp
    refine ⟨_, .dict (as := []) (bs := bs) ho hx.1 hd hr1 hr2, fun z hm => ?_⟩
    rcases List.mem_cons.mp hm with e | hm
    · rw [← e] at nsys
      simp at nsys
    · exact q (by simpa [hasL] using z) (by simpa using hm)
theorem Das.reads (I : Inv X pins σ H s) : ∀ {ds : List PyData} {vs : List V} {us : List Value}, Das H vs ds → Vals vs us → ∃ as, ReadsAll s.heap us ds as ∧ (hasLs ds = false → sysModules ∉ as)
  | _, _, _, .nil, r => by cases r; exact ⟨_, .nil, fun _ z => nomatch z⟩
  | _, _, _, .cons h t, r => by
    cases r with
    | cons r1 r2 =>
      obtain ⟨as, h1, q1⟩ := Da.reads I h r1
      obtain ⟨bs, h2, q2⟩ := Das.reads I t r2
      refine ⟨_, .cons h1 h2, fun z hm => ?_⟩
      simp only [hasLs, Bool.or_eq_false_iff] at z
      exact (List.mem_append.mp hm).elim (q1 z.1) (q2 z.2)
theorem Dks.reads (I : Inv X pins σ H s) : ∀ {ps : List (PyData × PyData)} {kvs : List (Key × V)} {vs : List (Key × Value)} {es : List DictEntry}, Dks H kvs ps → KV kvs vs → Pairs (mixKind X.prog X.w) es vs →
    ∃ bs, ReadsAll s.heap (es.map (·.key)) (ps.map (·.1)) [] ∧ ReadsAll s.heap (es.map (·.val)) (ps.map (·.2)) bs ∧ (hasLk ps = false → sysModules ∉ bs)
  | _, _, _, _, .nil, r, p => by cases r; cases p; exact ⟨_, .nil, .nil, fun _ z => nomatch z⟩
  | _, _, _, _, .cons h t, r, p => by
    cases r with
    | cons r1 r2 =>
      cases p with
      | cons p1 p2 p3 =>
        obtain ⟨e1, e2⟩ := r1
        obtain ⟨as, h1, q1⟩ := Da.reads I h e2
        obtain ⟨bs, h2, h3, q2⟩ := Dks.reads I t r2 p3
        rw [← e1] at p1
        refine ⟨as ++ bs, .cons (key_reads p1) h2, .cons (by show Reads s.heap (DictEntry.val _) _ _; rw [p2]; exact h1) h3, fun z hm => ?_⟩
        simp only [hasLk, Bool.or_eq_false_iff] at z
        exact (List.mem_append.mp hm).elim (q1 z.1.2) (q2 z.2)
end
/-- data that repr can show: no list beside a dict, not deep, not long -/
structure OkD (d : PyData) : Prop where
  sh : d.showable = true
  nd : d.hasDict = true → hasL d = false
  dp : d.depth ≤ 60
  lv : d.leavesShort 1000 = true
  wt : d.weight ≤ 10000
theorem OkD.len {d : PyData} (h : OkD d) : d.shown.length ≤ sizeLine := by
  have e := PyData.shown_le 1000 (by decide) d h.lv
  have w := h.wt
  rw [sizeLine_eq]
  omega
/-- repr of a list, a tuple, a dict -/
def rRepr : List V → Hp → VK → Prop := fun xs H Q => ∃ (a : Addr) (d : PyData), xs = [.ref a] ∧ Da H (.ref a) d ∧ OkD d ∧ Q (.str d.shown) H
theorem call_reprD (gd : X.A.guards = some []) (hu : X.A.units + 64 < cLine) : CallR X (.builtin "repr") rRepr := by
  intro pins s σ H xs us Q I r h
  obtain ⟨a, d, rfl, hd, ok, q⟩ := h
  obtain ⟨u, rfl, ru⟩ := vals1 r
  obtain ⟨as, hr, hsys⟩ := Da.reads I hd ru
  cases ru
  have hz := ok.dp
  exact repr_of_reads' hr ok.sh (fun z => hsys (ok.nd z)) gd (by omega) (fun _ _ e => e) (fun h' t tk k => ⟨.str d.shown, H, I.kept k, ⟨_, rfl⟩, q⟩) ok.len
end
end HX

set_option Elab.async false
set_option linter.all false
set_option maxRecDepth 100000
set_option maxHeartbeats 2000000
namespace HX
open PySem PySem.Spec PyProof.Rows L2

/-! ### an exception that was caught, kept as a value: at a, of the class cls, its own dict at d -/
def exT (a : Addr) (cls : Value) (d : Option Addr) : HO := .ext fun h => ∃ oe vs, h.get? a = some oe ∧ Zc cls d oe ∧ oe.data = .fields vs
theorem exT_ok {P : Program} {w : World} {H : Hp} {h : Heap} {a : Addr} {cls : Value} {d : Option Addr} {oe : Obj} {vs : Array Value} (e : h.get? a = some oe) (z : Zc cls d oe) (q : oe.data = .fields vs) : ObjOk P w H h a (exT a cls d) :=
  ⟨⟨oe, vs, e, z, q⟩, ⟨oe, e⟩, fun _ _ ⟨o, us, x1, x2⟩ k => ⟨o, us, k o x1, x2⟩⟩
theorem exT_at {P : Program} {w : World} {H : Hp} {h : Heap} {a : Addr} {cls : Value} {d : Option Addr} (ok : HOk P w H h) (e : H a = some (exT a cls d)) : ∃ oe vs, h.get? a = some oe ∧ Zc cls d oe ∧ oe.data = .fields vs := by
  have x : ObjOk P w H h a (.ext fun h => ∃ oe vs, h.get? a = some oe ∧ Zc cls d oe ∧ oe.data = .fields vs) := ok a _ e
  exact x.1

section
variable {X : Cx} {pins : List (Addr × Obj)} {σ : L2.St} {H : Hp} {sI s' s : Shared} {B : Heap}
/-- back on the ground, the exception tracked -/
theorem landedK {a : Addr} {cls : Value} {d : Option Addr} {oe : Obj} {vs : Array Value} (I : Inv X pins σ H sI) (nb : ∀ b o, sI.heap.get? b = some o → b ∉ frs X.stack → B.get? b = some o) (st : B.StaysIn s'.heap)
    (up : sI.heap.UpToSlots s'.heap) (os : s'.os = sI.os) (ag : AllBare s'.gens) (na : H a = none) (nB : B.get? a = none) (nf : a ∉ frs X.stack) (he : s'.heap.get? a = some oe) (hz : Zc cls d oe) (hd : oe.data = .fields vs) :
    Inv X pins σ (upd H a (exT a cls d)) s' := by
  have nI : ∀ b o, sI.heap.get? b = some o → b ≠ a := fun b o e z => by
    subst z
    rw [nb b o e nf] at nB
    cases nB
  have fr : ∀ b ∈ frs X.stack, ∀ o, sI.heap.get? b = some o → ∃ sl, s'.heap.get? b = some { o with slots := sl } := fun b hb o e => by
    obtain ⟨_, o', e', q⟩ := I.stack.mem hb
    rw [e] at e'
    cases e'
    exact up b o e q
  have hk : HOk X.prog X.w H s'.heap := (I.inGround nb).kept st
  have hok : HOk X.prog X.w (upd H a (exT a cls d)) s'.heap := fun b u e => by
    by_cases hb : b = a
    · subst hb
      rw [upd_same] at e
      cases e
      exact exT_ok he hz hd
    · rw [upd_ne hb] at e
      exact (hk b u e).stay (fun _ _ _ z => z) (fun c z => by rw [upd_ne (ne_of_none z na)]; exact z) fun c xs z => by rw [upd_ne (ne_of_none z na)]; exact z
  have un : Un (frs X.stack) [] H (upd H a (exT a cls d)) sI.heap s'.heap := {
    keep := fun b o e _ hb _ => st b o (nb b o e hb)
    slot := fun b o e _ hb _ => fr b hb o e
    free := fun b o e n _ => by rw [upd_ne (nI b o e)]; exact n
    there := fun b o e _ => by
      by_cases hb : b ∈ frs X.stack
      · obtain ⟨sl, q⟩ := fr b hb o e
        exact ⟨_, q⟩
      · exact ⟨o, st b o (nb b o e hb)⟩
    tups := fun b xs e => by rw [upd_ne (ne_of_none e na)]; exact e
    frzs := fun b o u e => by rw [upd_ne (ne_of_none e na)]; exact e
    tbls := fun b ps e => ⟨#[], by rw [upd_ne (ne_of_none e na), e]; simp⟩ }
  exact I.call' (ch := []) os un hok ag fun _ z => nomatch z
theorem inSuite (I : Inv X pins σ H s) (a : Addr) : Inv (X.suite a (X.pn ++ pins)) [] σ H s :=
  ⟨I.ok.suite _ _, I.os, I.bare, I.base, I.loc, I.cell, I.free, I.freeC, fun p hp => I.pin p (by rw [List.append_nil] at hp; exact hp), I.hok, I.len⟩
theorem outSuite {a : Addr} {pn' : List (Addr × Obj)} (I : Inv (X.suite a (X.pn ++ pins)) pn' σ H s) (ok : X.Ok) : Inv X pins σ H s :=
  ⟨ok, I.os, I.bare, I.base, I.loc, I.cell, I.free, I.freeC, fun p hp => I.pin p (List.mem_append_left _ hp), I.hok, I.len⟩
end

/-- what 'except x as n' wishes of an exception of the body, where the suite keeps it as a value -/
def wKeep (K : PySem.W.Frag) (c : Value) (i : Nat) (ts : TS) (Wout : WX) (D : Ends) : WX := fun cls d σ H =>
  ∃ b, PySem.W.exmOne K cls c = some b ∧
    (b = true → ∀ a, H a = none → ts { nx := fun σ' G => D.nx (σ'.set i none) G, rt := D.rt, bk := fun σ' G => D.bk (σ'.set i none) G, ct := fun σ' G => D.ct (σ'.set i none) G } (σ.set i (some (.ref a))) (upd H a (exT a cls d))) ∧
    (b = false → Wout cls d σ H)

section
variable {X : Cx} {x n : Str} {c : Value} {i : Nat} {body rest : List Stmt} {b₀ : Stmt} {np pos pos' : Pos} {tb : WX → TS} {ts : TS} {Wout : WX}
theorem ps_try_keep (hs : X.stack = X.env :: X.outer) (hf : X.env.frame = some X.env.locals) (hN : X.N.Nodup) (hi : X.N[i]? = some n) (hln : X.env.kindOf n = some .local) (hc : Names X x c) (tk : Takes X Wout)
    (hb : ∀ (W : WX) (pn : List (Addr × Obj)) (xe : Value → Shared → Prop), Takes (X.tr pn xe) W → PassesOwn (model X.prog X.w) X.A X.env xe → PSs (X.tr pn xe) body (tb W))
    (hsu : ∀ (a : Addr) (pn : List (Addr × Obj)), PSs (X.suite a pn) (b₀ :: rest) ts) :
    PS X (.Try body [.ExceptHandler (some (.Name x np)) (some n) (b₀ :: rest) pos'] [] [] pos) (fun D σ H => tb (wKeep X.K c i ts Wout D) D σ H) := by
  refine ⟨fun pins s σ H D I h => ?_⟩
  have ok := I.ok
  have hfr : X.A.frames = some (X.env :: X.outer) := by rw [ok.frames, hs]
  have hloc : Loc X.env.scope n := .inl hln
  refine wpAny_Try_except ?_
  refine wpAny_mono ((hb (wKeep X.K c i ts Wout D) (X.pn ++ pins)
    (fun e s₁ => wpAny (model X.prog X.w) X.A (noteFrame e X.env) (fun _ s₂ => wpAny (model X.prog X.w) X.A (setFlight e none)
      (fun _ s₃ => wpAny (model X.prog X.w) X.A (handleBy e X.env [.ExceptHandler (some (.Name x np)) (some n) (b₀ :: rest) pos']) (SP X pins D) X.xe s₃) X.xe s₂) X.xe s₁)
    (fun u s' xx => ?_) PassesOwn.looking).run [] s σ H D (I.toTry _) h) (fun f s1 q => ?_) (fun _ _ z => z)
  · obtain ⟨a, B, sI, pins', σ', G, cls, d, rfl, J', nb, up, sky, na, os, ag, b, hb1, yes, no⟩ := xx
    have J : Inv X pins σ' G sI := J'.ofTry ok
    have sky2 : Sky B (X.env :: X.outer) a (Zc cls d) X.env.locals s'.heap := by rw [← hs]; exact sky
    show wpAny (model X.prog X.w) X.A (noteFrame (.ref a) X.env) _ _ _
    refine Sky.land Zc.steady hfr hf sky2 fun h3 fl3 up3 => ?_
    obtain ⟨oe3, vs3, he3, hz3, hd3⟩ := fl3.there
    have nfr : a ∉ frs X.stack := by
      rw [hs]
      intro hm
      obtain ⟨_, o, e, q⟩ := fl3.2.2.1.mem hm
      rw [he3] at e
      cases e
      exact q _ hd3
    have J3 := landedK (s' := { s' with heap := h3 }) J nb fl3.1 (up.trans up3) os ag na fl3.2.1 nfr he3 hz3 hd3
    have S3 := inSuite J3 a
    refine wpAny_handleBy_cons (codeAny_handlers_test ?_) (by intro q; cases q)
    have LT : PySem.W.Looks (model X.prog X.w) h3 (typeOf (.ref a)) cls := fun A Q E s k q => wpAny_typeOf_ref (k _ _ he3) (by rw [hz3.1]; exact q)
    have LM := PySem.W.exm_one (M := model X.prog X.w) J3.kIn LT hb1
    have test : ∀ {Q : Value → Shared → Prop} {E : Value → Shared → Prop}, Q c { s' with heap := h3 } → wpAny (model X.prog X.w) (X.A.mark (some (.ref a))) (eval (.Name x np) X.env) Q E { s' with heap := h3 } := fun {Q E} q => by
      obtain ⟨z1, z2, z3 | ⟨z3, z4, z5⟩⟩ := hc
      · exact ld_glob S3 z1 z3 q z2
      · exact ld_blt S3 z1 z3 z4 q z5 z2
    refine test (LM.here ?_)
    cases b with
    | true =>
      refine codeAny_handlers_suite_as ?_
      refine HandSPX.lands_againZ fl3 fun h4 fl4 up4 => ?_
      obtain ⟨oe4, vs4, he4, hz4, hd4⟩ := fl4.there
      have J4 := landedK (s' := { s' with heap := h4 }) J nb fl4.1 ((up.trans up3).trans up4) os ag na fl4.2.1 nfr he4 hz4 hd4
      refine store_ok (X := X.suite a (X.pn ++ pins)) (v := .ref a) (inSuite J4 a) hN hi hloc rfl (fun s5 S5 => ?_) (.inr hln)
      have leave : ∀ {σ6 : L2.St} {G6 : Hp} {s6 : Shared} {Q : Shared → Prop}, Inv (X.suite a (X.pn ++ pins)) [] σ6 G6 s6 → (∀ s7, Inv X pins (σ6.set i none) G6 s7 → Q s7) →
          wpAny (model X.prog X.w) X.A (do bindName X.env n .none; unbindBehindTheSuite X.env n pos') (fun _ s7 => Q s7) X.xe s6 := fun S6 hq => gone_ok (outSuite S6 ok) hN hi hln hq
      refine wpAny_mono ((hsu a (X.pn ++ pins)).run [] s5 _ _ _ S5 (yes rfl a na)) (fun f s6 q => ?_) (fun _ _ z => False.elim z)
      match f, q with
      | .next, ⟨σ6, G6, S6, q6⟩ => exact leave S6 fun s7 J7 => ⟨_, _, J7, q6⟩
      | .brk, ⟨σ6, G6, S6, q6⟩ => exact leave S6 fun s7 J7 => ⟨_, _, J7, q6⟩
      | .cont, ⟨σ6, G6, S6, q6⟩ => exact leave S6 fun s7 J7 => ⟨_, _, J7, q6⟩
      | .ret u, ⟨v6, σ6, G6, S6, r6, q6⟩ => exact leave S6 fun s7 J7 => ⟨_, _, _, J7, r6, q6⟩
    | false =>
      show wpAny _ X.A (handleBy (.ref a) X.env []) _ _ _
      refine wpAny_handleBy_nil ?_
      obtain ⟨k1, k2, k3, oe, vs, T, oT, ts', he, hz, hd, h1, hr⟩ := id fl3
      unfold PySem.passOn
      refine wpAny_bind (wpAny_field he hd h1 ?_)
      rw [if_neg (show ¬ ((Value.ref T == Value.none) = true) from by simp)]
      have fin : wpAny (model X.prog X.w) X.A (setFlight (.ref a) X.env.frame) (fun _ s4 => wpAny (model X.prog X.w) X.A (throw (.ref a) : Sem Flow) (SP X pins D) X.xe s4) X.xe { s' with heap := h3 } := by
        rw [hf]
        refine HandSPX.setFlight_upZ fl3 fun h4 hh4 up4 => wpAny_throw (tk _ _ ?_)
        exact ⟨a, B, sI, pins, σ', G, cls, d, rfl, J, nb, (up.trans up3).trans up4, .inr (.inr (by rw [hs]; exact hh4)), na, os, ag, no rfl⟩
      first
        | exact wpAny_bind (wpAny_pure (wpAny_bind fin))
        | exact wpAny_bind fin
  · match f, q with
    | .next, ⟨σ', G, J', z⟩ => exact wpAny_execs_nil ⟨σ', G, J'.ofTry ok, z⟩
    | .brk, ⟨σ', G, J', z⟩ => exact ⟨σ', G, J'.ofTry ok, z⟩
    | .cont, ⟨σ', G, J', z⟩ => exact ⟨σ', G, J'.ofTry ok, z⟩
    | .ret u, ⟨v, σ', G, J', r, z⟩ => exact ⟨v, σ', G, J'.ofTry ok, r, z⟩
end

/-! ### such a value's class and fields -/
/-- what an own exception class must have -/
structure ExC (K : PySem.W.Frag) (C : Addr) : Prop where
  ga : PySem.W.findIn K (.ref C) "__getattribute__" = some (some (.builtin "BaseException.__getattribute__"))
  gg : PySem.W.findIn K (.ref C) "__getattr__" = some none
  sub : PySem.W.subIn K (.ref C) (.type "BaseException") = some true
  hd : PySem.W.hasDictIn K C = true
  ha : PySem.W.findIn K (.ref C) "__class__" = some (some (.builtin "object.__class__"))
  hn : PySem.W.specialIn K (.builtin "object.__class__") "__get__" = some (some (.builtin "getset_descriptor.__get__"))
  ht : PySem.W.takesIn K (.builtin "object.__class__") = some true
  hm : PySem.W.mroIn K C (.type "object") = some true
theorem instAt_of {h : Heap} {a C : Addr} {oe od : Obj} {vs : Array Value} {d : Addr} (he : h.get? a = some oe) (hz : Zc (.ref C) (some d) oe) (hf : oe.data = .fields vs) (ho : h.get? d = some od) : PySem.W.InstAt h a oe C (some od) := by
  obtain ⟨c1, d1, dt, sl⟩ := oe
  obtain ⟨rfl, rfl⟩ := hz
  dsimp only at hf
  subst hf
  exact ⟨he, rfl, rfl, ho⟩
theorem instAt_of0 {h : Heap} {a C : Addr} {oe : Obj} {vs : Array Value} (he : h.get? a = some oe) (hz : Zc (.ref C) none oe) (hf : oe.data = .fields vs) : PySem.W.InstAt h a oe C none := by
  obtain ⟨c1, d1, dt, sl⟩ := oe
  obtain ⟨rfl, rfl⟩ := hz
  dsimp only at hf
  subst hf
  exact ⟨he, rfl, rfl, trivial⟩
section
variable {X : Cx} {e : Expr} {te : TE} {f : Str} {pos : Pos}
/-- e.f -/
def tExf (K : PySem.W.Frag) (f : Str) (te : TE) : TE := fun σ H Q => te σ H fun x G => ∃ (a C d : Addr) (fs : List (Str × V)) (v : V), x = .ref a ∧ G a = some (exT a (.ref C) (some d)) ∧ G d = some (.xd fs) ∧ ExC K C ∧ PySem.W.findIn K (.ref C) f = some none ∧ fs.lookup f = some v ∧ Q v G
theorem pe_exf (he : PE X e te) (hb : attributeBase e f X.env (eval e X.env) = eval e X.env := by rfl) : PE X (.Attribute e f pos) (tExf X.K f te) := by
  refine ⟨fun pins s σ H Q I h => attr_of hb (thn (he.run pins s σ H _ I h) fun u s1 ⟨x, G, I1, rx, a, C, d, fs, v, ex, ea, ed, T, no, l, q⟩ => ?_)⟩
  subst ex
  obtain rfl : u = Value.ref a := rx
  obtain ⟨oe, vs, z1, z2, z3⟩ := exT_at I1.hok ea
  obtain ⟨mA, hns, hr⟩ := (show ObjOk X.prog X.w G s1.heap d (.xd fs) from I1.hok d _ ed)
  obtain ⟨od, ho, hl⟩ := lookIn_ns hns
  obtain ⟨w', hu, ru⟩ := RelO.some_of (v := v) (o := mA f) (by rw [← l]; exact hr f)
  exact HandSPX.exc_get I1.kIn (instAt_of z1 z2 z3 ho) T.ga T.gg T.sub (PySem.W.findObj_own T.hd no rfl (by rw [hl, hu])) (handed_of ru) ⟨v, G, I1.tok _, ru, q⟩
/-- isinstance(e, c) -/
def rIsX (K : PySem.W.Frag) : List V → Hp → VK → Prop := fun xs H Q => ∃ (a D : Addr) (d : Option Addr) (c : V) (cv : Value) (b : Bool), xs = [.ref a, c] ∧ H a = some (exT a (.ref D) d) ∧ (∀ dd, d = some dd → ∃ fs, H dd = some (.xd fs)) ∧ ExC K D ∧ (∀ u, RelV c u → u = cv) ∧
  PySem.W.kitOne K (.ref D) cv = some b ∧ Q (.bl b) H
theorem call_isX : CallR X (.builtin "isinstance") (rIsX X.K) := by
  intro pins s σ H xs us Q I r h
  obtain ⟨a, D, d, c, cv, b, rfl, ea, ed, T, hc, hk, q⟩ := h
  obtain ⟨u, u2, rfl, r1, r2⟩ := vals2 r
  cases r1
  have e2 := hc _ r2
  subst e2
  obtain ⟨oe, vs, z1, z2, z3⟩ := exT_at I.hok ea
  have hcl : (PySem.W.clsIn X.K D).isSome = true := by
    obtain ⟨cd, z, _⟩ := PySem.W.any_some T.hd
    rw [z]
    rfl
  cases d with
  | none => exact PySem.W.kia_one (PySem.W.kitx_exc hcl T.ga T.gg T.sub T.ha T.hn T.ht T.hm) I.kIn (instAt_of0 z1 z2 z3) hk (fun z => nomatch z) fun tk => ⟨.bl b, H, I.kept (t' := tk) fun _ _ z => z, rfl, q⟩
  | some dd =>
    obtain ⟨fs, ed⟩ := ed dd rfl
    obtain ⟨mA, ⟨od, _, _, ho, _⟩, _⟩ := (show ObjOk X.prog X.w H s.heap dd (.xd fs) from I.hok dd _ ed)
    exact PySem.W.kia_one (PySem.W.kitx_exc hcl T.ga T.gg T.sub T.ha T.hn T.ht T.hm) I.kIn (instAt_of z1 z2 z3 ho) hk (fun z => nomatch z) fun tk => ⟨.bl b, H, I.kept (t' := tk) fun _ _ z => z, rfl, q⟩
end
end HX

set_option Elab.async false
set_option linter.all false
set_option maxRecDepth 100000
set_option maxHeartbeats 2000000
namespace HX
open PySem PySem.Spec PyProof.Rows L2

/-! ### own error classes whose __init__ keeps one field, two fields -/
def spI1 (C : Addr) (f : Str) : Sp := fun vs H Q _ => ∃ (a : Addr) (v : V), vs = [.ref a, v] ∧ H a = some (exo a C none) ∧
  ∀ dx, H dx = none → dx ≠ a → Q .non (upd (upd H dx (exd dx [(f, v)])) a (exo a C (some dx)))
def spI2 (C : Addr) (f g : Str) : Sp := fun vs H Q _ => ∃ (a : Addr) (v u : V), vs = [.ref a, v, u] ∧ H a = some (exo a C none) ∧
  ∀ dx, H dx = none → dx ≠ a → Q .non (upd (upd (upd H dx (exd dx [(f, v)])) a (exo a C (some dx))) dx (exd dx [(g, u), (f, v)]))
/-- what the written part says of such a class -/
structure RxC (K : PySem.W.Frag) (mg : Str → Option Value) (x : Str) (C fI : Addr) : Prop where
  o : OexC K C
  iC : PySem.W.findIn K (.ref C) "__init__" = some (some (.ref fI))
  tI : PySem.W.typeIn K (.ref fI) = some (.type "function")
  gC : mg x = some (.ref C)
section
variable {P : Program} {w : World} {K : PySem.W.Frag} {mg : Str → Option Value} {base : Heap} {C fI : Addr} {fd : FuncData} {qual f g : Str} {st : Stmt}
theorem ok_init1 (F : Fun K "__init__" qual st fI fd) (T : OexC K C) (no : PySem.W.findIn K (.ref C) f = some none) (S : FnScope ["self", f] ["self", f] (defScope st))
    (hb : ∃ p1 p2 p3 p4, defBody st = [.Assign [.Attribute (.Name "self" p1) f p2] (.Name f p3) p4])
    (v0 : Vis (defScope st) "self" := by exact Or.inl rfl) (v1 : Vis (defScope st) f := by exact Or.inl rfl)
    (hd : (f == ("__debug__" : Str)) = false := by decide) (hcd : (f == ("__classdict__" : Str)) = false := by decide) : FnOk P w K mg base CX0 1 fI fd ["self", f] (spI1 C f) := by
  obtain ⟨p1, p2, p3, p4, eb⟩ := hb
  refine F.ok S (fun vs H Q E h => ?_) (fun cdv A outer s H vs Q E hr h => ?_)
  · obtain ⟨a, v, rfl, _⟩ := h
    rfl
  · obtain ⟨a, v, rfl, ha, k⟩ := h
    rw [eb]
    refine ⟨_, pss_one (ps_ost (pe_var (i := 0) rfl v0) (pe_var (i := 1) rfl v1 hd hcd)), ?_⟩
    exact ⟨v, rfl, _, rfl, a, C, rfl, T, no, .inl ⟨ha, fun dx n ne => k dx n ne⟩⟩
theorem ok_init2 (F : Fun K "__init__" qual st fI fd) (T : OexC K C) (no : PySem.W.findIn K (.ref C) f = some none) (no2 : PySem.W.findIn K (.ref C) g = some none) (S : FnScope ["self", f, g] ["self", f, g] (defScope st))
    (hb : ∃ p1 p2 p3 p4 q1 q2 q3 q4, defBody st = [.Assign [.Attribute (.Name "self" p1) f p2] (.Name f p3) p4, .Assign [.Attribute (.Name "self" q1) g q2] (.Name g q3) q4])
    (v0 : Vis (defScope st) "self" := by exact Or.inl rfl) (v1 : Vis (defScope st) f := by exact Or.inl rfl) (v2 : Vis (defScope st) g := by exact Or.inl rfl)
    (hd : (f == ("__debug__" : Str)) = false := by decide) (hcd : (f == ("__classdict__" : Str)) = false := by decide)
    (hd2 : (g == ("__debug__" : Str)) = false := by decide) (hcd2 : (g == ("__classdict__" : Str)) = false := by decide) : FnOk P w K mg base CX0 1 fI fd ["self", f, g] (spI2 C f g) := by
  obtain ⟨p1, p2, p3, p4, q1, q2, q3, q4, eb⟩ := hb
  refine F.ok S (fun vs H Q E h => ?_) (fun cdv A outer s H vs Q E hr h => ?_)
  · obtain ⟨a, v, u, rfl, _⟩ := h
    rfl
  · obtain ⟨a, v, u, rfl, ha, k⟩ := h
    rw [eb]
    refine ⟨_, pss_cons (ps_ost (pe_var (i := 0) rfl v0) (pe_var (i := 1) rfl v1 hd hcd)) (pss_one (ps_ost (pe_var (i := 0) rfl v0) (pe_var (i := 2) rfl v2 hd2 hcd2))), ?_⟩
    refine ⟨v, rfl, _, rfl, a, C, rfl, T, no, .inl ⟨ha, fun dx n ne => ?_⟩⟩
    exact ⟨u, rfl, _, rfl, a, C, rfl, T, no2, .inr ⟨dx, [(f, v)], upd_same, by rw [upd_ne ne, upd_same], by show 1 ≤ 900; decide, k dx n ne⟩⟩
end

theorem lay_gone {H : Hp} {a dx : Addr} {o1 o2 o3 u : HO} (na : H a = none) (ne : dx ≠ a) : upd (del (upd (upd (upd H a o1) dx o2) a o3) a) dx u = upd H dx u := by
  funext b
  by_cases h1 : b = dx
  · rw [h1, upd_same, upd_same]
  · rw [upd_ne h1, upd_ne h1]
    by_cases h2 : b = a
    · rw [h2, del_same, na]
    · rw [del_ne h2, upd_ne h2, upd_ne h1, upd_ne h2]
theorem lay_gone2 {H : Hp} {a dx : Addr} {o1 o2 o3 o4 u : HO} (na : H a = none) (ne : dx ≠ a) : upd (del (upd (upd (upd (upd H a o1) dx o2) a o3) dx o4) a) dx u = upd H dx u := by
  funext b
  by_cases h1 : b = dx
  · rw [h1, upd_same, upd_same]
  · rw [upd_ne h1, upd_ne h1]
    by_cases h2 : b = a
    · rw [h2, del_same, na]
    · rw [del_ne h2, upd_ne h1, upd_ne h2, upd_ne h1, upd_ne h2]

/-- the answer where such an error is made: its own dict d is new and holds the field -/
theorem mk1_ans {H : Hp} {C : Addr} {f : Str} {v : V} {Q : XK} (h : ∀ d, H d = none → Q (.ref C) (some d) (upd H d (.xd [(f, v)]))) :
    [v].length ≤ 1000 ∧ ∀ a, H a = none → spI1 C f (.ref a :: ([v] ++ [])) (upd H a (exo a C none))
      (fun u G => u = .non ∧ ∃ (d : Addr) (fs : List (Str × V)), G a = some (exo a C (some d)) ∧ G d = some (exd d fs) ∧ H d = none ∧ Q (.ref C) (some d) (upd (del G a) d (.xd fs))) (fun _ _ _ => False) := by
  refine ⟨by show 1 ≤ 1000; decide, fun a na => ⟨a, v, rfl, upd_same, fun dx nx ne => ?_⟩⟩
  rw [upd_ne ne] at nx
  exact ⟨rfl, dx, _, upd_same, by rw [upd_ne ne, upd_same], nx, by rw [lay_gone na ne]; exact h dx nx⟩
theorem mk2_ans {H : Hp} {C : Addr} {f g : Str} {v u : V} {Q : XK} (h : ∀ d, H d = none → Q (.ref C) (some d) (upd H d (.xd [(g, u), (f, v)]))) :
    [v, u].length ≤ 1000 ∧ ∀ a, H a = none → spI2 C f g (.ref a :: ([v, u] ++ [])) (upd H a (exo a C none))
      (fun z G => z = .non ∧ ∃ (d : Addr) (fs : List (Str × V)), G a = some (exo a C (some d)) ∧ G d = some (exd d fs) ∧ H d = none ∧ Q (.ref C) (some d) (upd (del G a) d (.xd fs))) (fun _ _ _ => False) := by
  refine ⟨by show 2 ≤ 1000; decide, fun a na => ⟨a, v, u, rfl, upd_same, fun dx nx ne => ?_⟩⟩
  rw [upd_ne ne] at nx
  exact ⟨rfl, dx, _, by rw [upd_ne (Ne.symm ne), upd_same], upd_same, nx, by rw [lay_gone2 na ne]; exact h dx nx⟩
section
variable {X : Cx} {x f g : Str} {C fI : Addr} {fd : FuncData} {k : Nat} {e : Expr} {es : List Expr} {ta : TA} {W : WX} {p pos pos2 : Pos} {ps : List Str} {sp : Sp}
/-- raise C(e, ..) -/
theorem ps_raiseO (hc : X.calm = true) (T : RxC X.K X.mg x C fI) (F : FnOk X.prog X.w X.K X.mg X.base CX0 k fI fd ps sp) (b : Binds X.K fd ps []) (hr : Room (k + 1) X.A) (tk : Takes X W) (he : PA X (e :: es) ta) (hg : Gl X x)
    (hdb : (x == ("__debug__" : Str)) = false := by decide) (hs : starEach (e :: es) X.env = (false, eval e X.env) :: starEach es X.env := by rfl) (hpl : (backTo pos (starEach es X.env)).any (·.1) = false := by rfl) :
    PS X (.Raise (some (.Call (.Name x p) (e :: es) [] pos)) none pos2) (fun _ σ H => tMkO C sp [] ta σ H fun cls d G => W cls d σ G) :=
  ps_raise hc tk (pmk_oex T.o T.iC T.tI F hr b .nil (fun _ _ _ _ _ _ _ z => z.elim) hg T.gC he hdb hs hpl)
end
end HX

set_option Elab.async false
set_option linter.all false
set_option maxRecDepth 100000
set_option maxHeartbeats 2000000
namespace HX
open PySem PySem.Spec PyProof.Rows L2

/-! ### readings that reckon: a name, a test, operators by the values' kinds -/
def cV (i : Nat) : TE := fun σ H Q => match σ[i]? with
  | some (some v) => Q v H
  | _ => False
def cT (te : TE) : TT := fun σ H Q => te σ H fun x G => match x with
  | .bl k => Q k G
  | _ => False
def rI2 (C : Int → Int → Prop) (g : Int → Int → V) : R2 := fun x y H Q => match x, y with
  | .int i, .int j => C i j ∧ Q (g i j) H
  | _, _ => False
/-- one factor below 2 ^ 64, or both together below a million bits -/
def CMulU (i j : Int) : Prop := CMul i j ∨ CMulW i j
def rI1 (g : Int → Int → V) : R2 := fun x y H Q => match x, y with
  | .int i, .int j => Q (g i j) H
  | _, _ => False
def rAdd2 : R2 := fun x y H Q => match x, y with
  | .int i, .int j => Q (.int (i + j)) H
  | .str a, .str b => a.length + b.length ≤ sizeLine ∧ Q (.str (a ++ b)) H
  | _, _ => False
def eqD2 (K : PySem.W.Frag) (a b : Addr) (H : Hp) (Q : Bool → Prop) : Prop := ∃ d e, Dp K H (.ref a) d ∧ Dp K H (.ref b) e ∧ SeqAt.shaped d = true ∧ SeqAt.shaped e = true ∧ Q (PyData.eqv d e)
def rEq2 (K : PySem.W.Frag) (neg : Bool) : R2 := fun x y H Q => match x, y with
  | .int i, .int j => Q (.bl (xor neg (decide (i = j)))) H
  | .str i, .str j => Q (.bl (xor neg (decide (i = j)))) H
  | .bl i, .bl j => Q (.bl (xor neg (decide (i = j)))) H
  | .non, .non => Q (.bl (xor neg true)) H
  | .non, .int _ => Q (.bl neg) H
  | .int _, .non => Q (.bl neg) H
  | .non, .str _ => Q (.bl neg) H
  | .str _, .non => Q (.bl neg) H
  | .int _, .str _ => Q (.bl neg) H
  | .str _, .int _ => Q (.bl neg) H
  | .ref a, .ref b => eqD2 K a b H fun k => Q (.bl (xor neg k)) H
  | _, _ => False
def rOrd2 (g : Int → Int → Bool) (h : Str → Str → Bool) : R2 := fun x y H Q => match x, y with
  | .int i, .int j => Q (.bl (g i j)) H
  | .str i, .str j => Q (.bl (h i j)) H
  | _, _ => False
def rIs2 (neg : Bool) : R2 := fun x y H Q => match y with
  | .non => Q (.bl (xor neg (decide (x = .non)))) H
  | _ => False
/-- t[i]: of lists, tuples, texts, dicts with text keys -/
def rIx2 (K : PySem.W.Frag) : R2 := fun x y H Q => match x, y with
  | .ref p, .int i => ∃ xs v, (SqL K H p xs ∨ SqT K H p xs) ∧ atI xs i = some v ∧ Q v H
  | .str z, .int i => z.length ≤ sizeLine ∧ ∃ c, atI z.cps.toList i = some c ∧ Q (.str ⟨#[c]⟩) H
  | _, _ => False
section
variable {X : Cx} {a b e : Expr} {ta tb te : TE} {pos : Pos} {f : Value → Value → Sem Value}
theorem pc (i : Nat) {x : Str} (hN : X.N[i]? = some x := by rfl) (hv : Vis X.env.scope x := by first | exact Or.inl rfl | exact Or.inr (Or.inl rfl) | exact Or.inr (Or.inr rfl)) (hd : (x == ("__debug__" : Str)) = false := by decide)
    (hcd : (x == ("__classdict__" : Str)) = false := by decide) : PE X (.Name x pos) (cV i) := by
  refine ⟨fun pins s σ H Q I h => ?_⟩
  refine (pe_var hN hv hd hcd).run pins s σ H Q I ?_
  unfold cV at h
  split at h
  · rename_i v e
    exact ⟨v, e, h⟩
  · exact h.elim
theorem opC {C : Int → Int → Prop} {g : Int → Int → V} (h : OpR X f (rI C g)) : OpR X f (rI2 C g) := fun pins s σ H x y v u Q I rx ry q => by
  unfold rI2 at q
  split at q
  · exact h pins s σ H _ _ v u Q I rx ry ⟨_, _, rfl, rfl, q.1, q.2⟩
  · exact q.elim
theorem opC0 {g : Int → Int → V} (h : OpR X f (rI0 g)) : OpR X f (rI1 g) := fun pins s σ H x y v u Q I rx ry q => by
  unfold rI1 at q
  split at q
  · exact h pins s σ H _ _ v u Q I rx ry ⟨_, _, rfl, rfl, q⟩
  · exact q.elim
theorem o_add : OpR X (binaryOp .Add) rAdd2 := fun pins s σ H x y v u Q I rx ry q => by
  unfold rAdd2 at q
  split at q
  · exact op_add pins s σ H _ _ v u Q I rx ry ⟨_, _, rfl, rfl, q⟩
  · exact op_add_str pins s σ H _ _ v u Q I rx ry ⟨_, _, rfl, rfl, q.1, q.2⟩
  · exact q.elim
theorem o_sub : OpR X (binaryOp .Sub) (rI1 fun i j => .int (i - j)) := opC0 op_sub
theorem o_mul : OpR X (binaryOp .Mult) (rI2 CMulU fun i j => .int (i * j)) := fun pins s σ H x y v u Q I rx ry q => by
  unfold rI2 at q
  split at q
  · rcases q.1 with c | c
    · exact op_mul pins s σ H _ _ v u Q I rx ry ⟨_, _, rfl, rfl, c, q.2⟩
    · exact op_mulW pins s σ H _ _ v u Q I rx ry ⟨_, _, rfl, rfl, c, q.2⟩
  · exact q.elim
theorem o_fdiv : OpR X (binaryOp .FloorDiv) (rI2 CDivW fun i j => .int (i / j)) := opC op_fdivW
theorem o_mod : OpR X (binaryOp .Mod) (rI2 (fun _ j => 0 < j) fun i j => .int (i % j)) := opC op_mod
theorem o_pow : OpR X (binaryOp .Pow) (rI2 CPow fun i j => .int (i ^ j.toNat)) := opC op_pow
theorem o_lt : OpR X (compareOp .Lt) (rOrd2 (fun i j => decide (i < j)) fun i j => decide (i.cps.toList < j.cps.toList)) := fun pins s σ H x y v u Q I rx ry q => by
  unfold rOrd2 at q
  split at q
  · exact op_lt pins s σ H _ _ v u Q I rx ry ⟨_, _, rfl, rfl, q⟩
  · exact op_lt_str pins s σ H _ _ v u Q I rx ry ⟨_, _, rfl, rfl, q⟩
  · exact q.elim
theorem o_le : OpR X (compareOp .LtE) (rI1 fun i j => .bl (decide (i ≤ j))) := opC0 op_le
theorem o_gt : OpR X (compareOp .Gt) (rI1 fun i j => .bl (decide (j < i))) := opC0 op_gt
theorem o_ge : OpR X (compareOp .GtE) (rI1 fun i j => .bl (decide (j ≤ i))) := opC0 op_ge
theorem o_is : OpR X (compareOp .Is) (rIs2 false) := fun pins s σ H x y v u Q I rx ry q => by
  unfold rIs2 at q
  split at q
  · exact op_isN pins s σ H _ _ v u Q I rx ry ⟨rfl, by simpa using q⟩
  · exact q.elim
theorem o_isnot : OpR X (compareOp .IsNot) (rIs2 true) := fun pins s σ H x y v u Q I rx ry q => by
  unfold rIs2 at q
  split at q
  · exact op_notN pins s σ H _ _ v u Q I rx ry ⟨rfl, by simpa using q⟩
  · exact q.elim
theorem o_eq (hu : X.A.units + 64 < cLine) : OpR X (compareOp .Eq) (rEq2 X.K false) := fun pins s σ H x y v u Q I rx ry q => by
  unfold rEq2 at q
  split at q
  case h_11 =>
    obtain ⟨d, e, q1, q2, q3, q4, q5⟩ := q
    exact op_eqD hu pins s σ H _ _ v u Q I rx ry ⟨d, e, q1, q2, q3, q4, by simpa using q5⟩
  case h_12 => exact q.elim
  all_goals exact op_eq pins s σ H _ _ v u Q I rx ry ⟨rfl, by simpa [dec_int, dec_bl, dec_str] using q⟩
theorem o_ne (hu : X.A.units + 64 < cLine) : OpR X (compareOp .NotEq) (rEq2 X.K true) := fun pins s σ H x y v u Q I rx ry q => by
  unfold rEq2 at q
  split at q
  case h_11 =>
    obtain ⟨d, e, q1, q2, q3, q4, q5⟩ := q
    exact op_neD hu pins s σ H _ _ v u Q I rx ry ⟨d, e, q1, q2, q3, q4, by simpa using q5⟩
  case h_12 => exact q.elim
  all_goals exact op_ne pins s σ H _ _ v u Q I rx ry ⟨rfl, by simpa [dec_int, dec_bl, dec_str] using q⟩
theorem ix2 : IxR X (rIx2 X.K) := fun ve se pins s σ H x y v u Q I rx ry q hs => by
  unfold rIx2 at q
  split at q
  · obtain ⟨xs, w', z | z, h1, h2⟩ := q
    · exact ix_list ve se pins s σ H _ _ v u Q I rx ry ⟨_, xs, _, w', rfl, rfl, z, h1, h2⟩ hs
    · exact ix_tup ve se pins s σ H _ _ v u Q I rx ry ⟨_, xs, _, w', rfl, rfl, z, h1, h2⟩ hs
  · obtain ⟨h1, c, h2, h3⟩ := q
    exact ix_str ve se pins s σ H _ _ v u Q I rx ry ⟨_, _, c, rfl, rfl, h1, h2, h3⟩ hs
  · exact q.elim
theorem p_ix (ha : PE X a ta) (hb : PE X b tb) (hs : PlainIx b := by exact fun _ _ => rfl) : PE X (.Subscript a b pos) (tOp (rIx2 X.K) ta tb) := pe_ix ix2 ha hb hs
theorem p_cmp {op : CmpOp} {r : R2} (ho : OpR X (compareOp op) r) (ha : PE X a ta) (hb : PE X b tb) (hm : behindInMarks op b = false := by first | exact nomark _ | rfl) : PE X (.Compare a [op] [b] pos) (tOp r ta tb) := pe_cmpR ho ha hb hm
theorem tT_of {te : TE} {σ : L2.St} {H : Hp} {Q : Bool → Hp → Prop} (mono : ∀ {R R' : VK}, (∀ v G, R v G → R' v G) → te σ H R → te σ H R') (h : cT te σ H Q) : tTest te σ H Q :=
  mono (fun v G q => by
    split at q
    · exact ⟨_, rfl, q⟩
    · exact q.elim) h
/-- a value that is True or False as a test -/
theorem t_val (h : PE X e te) (he : ∀ whole, isTrue e X.env whole = (do let v ← whole; standAt e.pos; holding [v] (truthy v)) := by intro _; rfl) : PT X e (cT te) := by
  refine ⟨fun pins s σ H Q I hw => isTrue_plain (thn (h.run pins s σ H _ I hw) fun v s1 ⟨x, G, I1, r1, q1⟩ => ?_) (he _)⟩
  dsimp only at q1
  split at q1
  · cases r1
    exact wpAny_truthy_bool ⟨G, I1, q1⟩
  · exact q1.elim
theorem t_cmp {op : CmpOp} {r : R2} (ho : OpR X (compareOp op) r) (ha : PE X a ta) (hb : PE X b tb) (hm : behindInMarks op b = false := by first | exact nomark _ | rfl) : PT X (.Compare a [op] [b] pos) (cT (tOp r ta tb)) := by
  refine ⟨fun pins s σ H Q I h => wpAny_isTrue_Compare1 (thn (ha.run pins s σ H _ I h) fun v s1 ⟨x, H1, I1, r1, q1⟩ => thn (hb.run pins s1 σ H1 _ I1 q1) fun u s2 ⟨y, H2, I2, r2, q2⟩ =>
    thn (ho pins s2 σ H2 x y v u _ I2 r1 r2 q2) fun c s3 ⟨z, H3, I3, r3, q3⟩ => ?_) hm⟩
  dsimp only at q3
  split at q3
  · cases r3
    exact wpAny_truthy_bool ⟨H3, I3, q3⟩
  · exact q3.elim
/-! ### ways: each under its own answer -/
def cIfS (c : TT) (t u : TS) : TS := fun D σ H => c σ H fun b G => (b = true → t D σ G) ∧ (b = false → u D σ G)
theorem s_if {c : Expr} {p q : List Stmt} {tc : TT} {t u : TS} (hc : PT X c tc) (hp : PSs X p t) (hq : PSs X q u) : PS X (.If c p q pos) (cIfS tc t u) := by
  refine ⟨fun pins s σ H D I h => wpAny_If (thn (hc.run pins s σ H _ I h) fun d s1 ⟨G, I1, z⟩ => ?_)⟩
  cases d with
  | true => exact hp.run pins s1 σ G D I1 (z.1 rfl)
  | false => exact hq.run pins s1 σ G D I1 (z.2 rfl)
def cIfE (t : TT) (ta tb : TE) : TE := fun σ H Q => t σ H fun c G => (c = true → ta σ G Q) ∧ (c = false → tb σ G Q)
theorem e_if {c : Expr} {tc : TT} (hc : PT X c tc) (ha : PE X a ta) (hb : PE X b tb) : PE X (.IfExp c a b pos) (cIfE tc ta tb) := by
  refine ⟨fun pins s σ H Q I h => wpAny_IfExp (thn (hc.run pins s σ H _ I h) fun d s1 ⟨G, I1, z⟩ => ?_)⟩
  cases d with
  | true => exact ha.run pins s1 σ G Q I1 (z.1 rfl)
  | false => exact hb.run pins s1 σ G Q I1 (z.2 rfl)
def cAnd (t u : TT) : TT := fun σ H Q => t σ H fun c G => (c = true → u σ G Q) ∧ (c = false → Q false G)
def cOr (t u : TT) : TT := fun σ H Q => t σ H fun c G => (c = true → Q true G) ∧ (c = false → u σ G Q)
theorem w_and {rest : List Expr} {t u : TT} (ha : PT X a t) (hb : PW X (.BoolOp .And (b :: rest) pos) u) : PW X (.BoolOp .And (a :: b :: rest) pos) (cAnd t u) := by
  refine ⟨fun wh pins s σ H Q I h => isTrue_and (thn (ha.run pins s σ H _ I h) fun c s1 ⟨G, I1, z⟩ => ?_)⟩
  cases c with
  | true => exact hb.run wh pins s1 σ G Q I1 (z.1 rfl)
  | false => exact ⟨G, I1, z.2 rfl⟩
theorem w_or {rest : List Expr} {t u : TT} (ha : PT X a t) (hb : PW X (.BoolOp .Or (b :: rest) pos) u) : PW X (.BoolOp .Or (a :: b :: rest) pos) (cOr t u) := by
  refine ⟨fun wh pins s σ H Q I h => isTrue_or (thn (ha.run pins s σ H _ I h) fun c s1 ⟨G, I1, z⟩ => ?_)⟩
  cases c with
  | true => exact ⟨G, I1, z.1 rfl⟩
  | false => exact hb.run wh pins s1 σ G Q I1 (z.2 rfl)
/-- and, or, not as values, of True and False -/
def cAndV (ta tb : TE) : TE := fun σ H Q => ta σ H fun x G => match x with
  | .bl c => (c = true → tb σ G Q) ∧ (c = false → Q (.bl false) G)
  | _ => False
def cOrV (ta tb : TE) : TE := fun σ H Q => ta σ H fun x G => match x with
  | .bl c => (c = true → Q (.bl true) G) ∧ (c = false → tb σ G Q)
  | _ => False
def cNotV (ta : TE) : TE := fun σ H Q => ta σ H fun x G => match x with
  | .bl c => Q (.bl (!c)) G
  | _ => False
theorem e_and {rest : List Expr} (ha : PE X a ta) (hb : PE X (.BoolOp .And (b :: rest) pos) tb) : PE X (.BoolOp .And (a :: b :: rest) pos) (cAndV ta tb) := by
  refine ⟨fun pins s σ H Q I h => BoolOp_and (thn (ha.run pins s σ H _ I h) fun v s1 ⟨x, G, I1, r1, z⟩ => ?_)⟩
  dsimp only at z
  split at z
  · rename_i c
    cases r1
    refine wpAny_truthy_bool ?_
    cases c with
    | true => exact hb.run pins s1 σ G Q I1 (z.1 rfl)
    | false => exact ⟨.bl false, G, I1, rfl, z.2 rfl⟩
  · exact z.elim
theorem e_or {rest : List Expr} (ha : PE X a ta) (hb : PE X (.BoolOp .Or (b :: rest) pos) tb) : PE X (.BoolOp .Or (a :: b :: rest) pos) (cOrV ta tb) := by
  refine ⟨fun pins s σ H Q I h => BoolOp_or (thn (ha.run pins s σ H _ I h) fun v s1 ⟨x, G, I1, r1, z⟩ => ?_)⟩
  dsimp only at z
  split at z
  · rename_i c
    cases r1
    refine wpAny_truthy_bool ?_
    cases c with
    | false => exact hb.run pins s1 σ G Q I1 (z.2 rfl)
    | true => exact ⟨.bl true, G, I1, rfl, z.1 rfl⟩
  · exact z.elim
theorem e_not (ha : PE X a ta) : PE X (.UnaryOp .Not a pos) (cNotV ta) := by
  refine ⟨fun pins s σ H Q I h => UnaryOp_ (thn (ha.run pins s σ H _ I h) fun v s1 ⟨x, G, I1, r1, z⟩ => ?_)⟩
  dsimp only at z
  split at z
  · cases r1
    exact not_of (wpAny_truthy_bool ⟨.bl _, G, I1, rfl, z⟩)
  · exact z.elim
/-- a op b op' c, as a test, as a value -/
def cChain (r r' : R2) (ta tb tc : TE) : TE := fun σ H Q => ta σ H fun x H1 => tb σ H1 fun y H2 => r x y H2 fun z H3 => match z with
  | .bl k => (k = true → tc σ H3 fun u H4 => r' y u H4 Q) ∧ (k = false → Q (.bl false) H3)
  | _ => False
theorem t_chain {c : Expr} {tc : TE} {op op' : CmpOp} {r r' : R2} (ho : OpR X (compareOp op) r) (ho' : OpR X (compareOp op') r') (ha : PE X a ta) (hb : PE X b tb) (hc : PE X c tc)
    (hm : lastMarks [op, op'] [b, c] = false := by with_unfolding_all rfl) : PT X (.Compare a [op, op'] [b, c] pos) (cT (cChain r r' ta tb tc)) := by
  refine ⟨fun pins s σ H Q I h => isTrue_chain (thn (ha.run pins s σ H _ I h) fun v s1 ⟨x, H1, I1, r1, q1⟩ => test_link (thn (hb.run pins s1 σ H1 _ I1 q1) fun u s2 ⟨y, H2, I2, r2, q2⟩ =>
    thn (ho pins s2 σ H2 x y v u _ I2 r1 r2 q2) fun d s3 ⟨z, H3, I3, r3, q3⟩ => ?_)) hm⟩
  dsimp only at q3
  split at q3
  · rename_i k
    cases r3
    refine wpAny_truthy_bool ?_
    cases k with
    | false => exact ite_ff ⟨H3, I3, q3.2 rfl⟩
    | true =>
      refine ite_tt (test_last (thn (hc.run pins s3 σ H3 _ I3 (q3.1 rfl)) fun w4 s4 ⟨z4, H4, I4, r4, q4⟩ => thn (ho' pins s4 σ H4 y z4 u w4 _ I4 r2 r4 q4) fun d' s5 ⟨z5, H5, I5, r5, q5⟩ => ?_))
      dsimp only at q5
      split at q5
      · cases r5
        exact wpAny_truthy_bool ⟨H5, I5, q5⟩
      · exact q5.elim
  · exact q3.elim
theorem e_chain {c : Expr} {tc : TE} {op op' : CmpOp} {r r' : R2} (ho : OpR X (compareOp op) r) (ho' : OpR X (compareOp op') r') (ha : PE X a ta) (hb : PE X b tb) (hc : PE X c tc)
    (hm : lastMarks [op, op'] [b, c] = false := by with_unfolding_all rfl) : PE X (.Compare a [op, op'] [b, c] pos) (cChain r r' ta tb tc) := by
  refine ⟨fun pins s σ H Q I h => Compare_chain (thn (ha.run pins s σ H _ I h) fun v s1 ⟨x, H1, I1, r1, q1⟩ => chain_link (thn (hb.run pins s1 σ H1 _ I1 q1) fun u s2 ⟨y, H2, I2, r2, q2⟩ =>
    thn (ho pins s2 σ H2 x y v u _ I2 r1 r2 q2) fun d s3 ⟨z, H3, I3, r3, q3⟩ => ?_)) hm⟩
  dsimp only at q3
  split at q3
  · rename_i k
    cases r3
    refine wpAny_truthy_bool ?_
    cases k with
    | false => exact ite_ff ⟨.bl false, H3, I3, rfl, q3.2 rfl⟩
    | true => exact ite_tt (chain_last (thn (hc.run pins s3 σ H3 _ I3 (q3.1 rfl)) fun w4 s4 ⟨z4, H4, I4, r4, q4⟩ => ho' pins s4 σ H4 y z4 u w4 Q I4 r2 r4 q4))
  · exact q3.elim
/-- two statements with a word of one's own between them -/
def cCut (t u : TS) : TS := fun D σ H => ∃ M : L2.St → Hp → Prop, t { D with nx := M } σ H ∧ ∀ σ' G, M σ' G → u D σ' G
theorem s_cut {st : Stmt} {rest : List Stmt} {t u : TS} (h1 : PS X st t) (h2 : PSs X rest u) : PSs X (st :: rest) (cCut t u) := by
  refine ⟨fun pins s σ H D I ⟨M, h, k⟩ => wpAny_execs_cons (thn (h1.run pins s σ H { D with nx := M } I h) fun f s1 q => ?_)⟩
  match f, q with
  | .next, ⟨σ', G, I', q⟩ => exact h2.run pins s1 σ' G D I' (k σ' G q)
  | .ret v, q => exact q
  | .brk, q => exact q
  | .cont, q => exact q
theorem eqs {α : Type} [DecidableEq α] {a : α} {R : Bool → Prop} (h : R true) : R (xor false (decide (a = a))) := by
  rw [decide_eq_true rfl]
  exact h
end
end HX

set_option Elab.async false
set_option linter.all false
set_option maxRecDepth 100000
set_option maxHeartbeats 2000000
namespace HX
open PySem PySem.Spec PyProof.Rows L2

/-! ### the defs of the text, as their callers see them: by the module's name x -/
section
variable (P : Program) (w : World) (K : PySem.W.Frag) (mg : Str → Option Value) (base : Heap)
/-- raises nothing -/
def CalO (x : Str) (k : Nat) (ps : List Str) (sp : Sp) (B : FuncData → Prop) : Prop := ∃ (f : Addr) (fd : FuncData), FnOk P w K mg base CX0 k f fd ps sp ∧ mg x = some (.ref f) ∧ PySem.W.keepIn K (.ref f) = true ∧ Binds K fd ps [] ∧ B fd
/-- raises nothing, where nothing is being shown -/
def CalG (x : Str) (k : Nat) (ps : List Str) (sp : Sp) (B : FuncData → Prop) : Prop := ∃ (f : Addr) (fd : FuncData), FnG P w K mg base CX0 k f fd ps sp ∧ mg x = some (.ref f) ∧ PySem.W.keepIn K (.ref f) = true ∧ Binds K fd ps [] ∧ B fd
/-- may raise -/
def CalX (x : Str) (k : Nat) (ps : List Str) (sp : Sp) (B : FuncData → Prop) : Prop := ∃ (f : Addr) (fd : FuncData), FnOk P w K mg base (CX P w) k f fd ps sp ∧ mg x = some (.ref f) ∧ PySem.W.keepIn K (.ref f) = true ∧ Binds K fd ps [] ∧ B fd
end
section
variable {X : Cx} {k : Nat} {ps : List Str} {sp : Sp} {x : Str} {p pos : Pos} {e : Expr} {es : List Expr} {t tk' : TA} {W : WX} {B : FuncData → Prop} {ks : List Str} {kws : List Keyword} {g : List Value → List Value → List Value} {gV : List V → List V → List V}
theorem pe_cO (C : CalO X.prog X.w X.K X.mg X.base x k ps sp B) (hr : Room k X.A) (ha : PA X (e :: es) t) (hg : Gl X x := by rfl) (hdb : (x == ("__debug__" : Str)) = false := by decide)
    (he : starEach (e :: es) X.env = (false, eval e X.env) :: starEach es X.env := by rfl) (hpl : (backTo pos (starEach es X.env)).any (·.1) = false := by rfl) : PE X (.Call (.Name x p) (e :: es) [] pos) (tCall sp [] E0 t) := by
  obtain ⟨f, fd, F, hm, hk, hb, _⟩ := C
  exact pe_call F hr hg hm hk hb .nil pass0 ha hdb he hpl
theorem pe_cG (C : CalG X.prog X.w X.K X.mg X.base x k ps sp B) (gd : X.A.guards = some []) (hr : Room k X.A) (ha : PA X (e :: es) t) (hg : Gl X x := by rfl) (hdb : (x == ("__debug__" : Str)) = false := by decide)
    (he : starEach (e :: es) X.env = (false, eval e X.env) :: starEach es X.env := by rfl) (hpl : (backTo pos (starEach es X.env)).any (·.1) = false := by rfl) : PE X (.Call (.Name x p) (e :: es) [] pos) (tCall sp [] E0 t) := by
  obtain ⟨f, fd, F, hm, hk, hb, _⟩ := C
  exact pe_callG F gd hr hg hm hk hb .nil pass0 ha hdb he hpl
theorem pe_cX (C : CalX X.prog X.w X.K X.mg X.base x k ps sp B) (hr : Room k X.A) (tk : Takes X W) (ha : PA X (e :: es) t) (hg : Gl X x := by rfl) (hdb : (x == ("__debug__" : Str)) = false := by decide)
    (he : starEach (e :: es) X.env = (false, eval e X.env) :: starEach es X.env := by rfl) (hpl : (backTo pos (starEach es X.env)).any (·.1) = false := by rfl) : PE X (.Call (.Name x p) (e :: es) [] pos) (tCallS sp (WE W) t) := by
  obtain ⟨f, fd, F, hm, hk, hb, _⟩ := C
  exact pe_callS F hr hg hm hk hb (fun σ => passAt tk σ) ha hdb he hpl
end
/-! ### calls by keywords alone -/
section
variable {X : Cx} {k : Nat} {ps : List Str} {sp : Sp} {x : Str} {p pos : Pos} {t : TA} {W : WX} {B : FuncData → Prop} {ks : List Str} {kws : List Keyword} {g : List Value → List Value → List Value} {gV : List V → List V → List V} {CY : CXT} {f : Addr} {fd : FuncData} {E : XK}
theorem run_kw {pins : List (Addr × Obj)} {σ : L2.St} {H : Hp} {s : Shared} {Q : VK} {ws : List Value} {zs : List V} (F : FnOk X.prog X.w X.K X.mg X.base CY k f fd ps sp) (hr : Room k X.A) (hb : KBn X.K fd ps 0 ks g gV)
    (hx : ∀ e s', CY X.stack H s E e s' → X.xe e s') (I : Inv X pins σ H s) (rz : Vals zs ws) (l2 : zs.length = ks.length) (h : sp (gV [] zs) H Q E) : wpAny (model X.prog X.w) X.A (call (.ref f) [] (ks.zip ws)) (EP X pins σ Q) X.xe s := by
  have l3 : ws.length = ks.length := rz.length.symm.trans l2
  have run := F.run X.A X.stack s H ⟨[], ks.zip ws⟩ (g [] ws) (gV [] zs) Q E hr I.env0 (hb.to s [] ws I.kIn rfl l3) (hb.rel .nil rz) h
  refine wpAny_call (codeAny_mono run fun r s' q => ?_)
  match r, q with
  | .error e, q => exact hx e s' q
  | .ok (.ret u), q => exact I.after q
  | .ok .next, q => exact False.elim q
  | .ok .brk, q => exact False.elim q
  | .ok .cont, q => exact False.elim q
/-- f(k = e, ..) -/
def cKw (m : Nat) (sp : Sp) (gV : List V → List V → List V) (E : L2.St → XK) (t : TA) : TE := fun σ H Q => t σ H fun zs G => zs.length = m ∧ sp (gV [] zs) G Q (E σ)
theorem pe_kO (C : CalO X.prog X.w X.K X.mg X.base x k ps sp B) (hB : ∀ fd, B fd → KBn X.K fd ps 0 ks g gV) (hr : Room k X.A) (hkw : PK X kws t) (hg : Gl X x := by rfl)
    (hall : (backToKw pos (keywordEach kws X.env)).all (·.1.isSome) = true := by rfl) (hks : (backToKw pos (keywordEach kws X.env)).filterMap (·.1) = ks := by rfl) (hdb : (x == ("__debug__" : Str)) = false := by decide)
    (hpl : ((backTo pos (starEach [] X.env)).any (·.1) || (backToKw pos (keywordEach kws X.env)).any (·.1.isNone)) = false := by rfl) : PE X (.Call (.Name x p) [] kws pos) (cKw ks.length sp gV (fun _ => E0) t) := by
  obtain ⟨f, fd, F, hm, hk, _, hb⟩ := C
  refine ⟨fun pins s σ H Q I h => wpAny_Call_Name_kw (ld_glob I hg hm ?_ hdb)⟩
  refine PySem.W.callWith_KW0 (h₀ := X.base) I.ok.mod.kin hk hall (thn (hkw.run pos pins s σ H _ I h) fun ws s2 ⟨zs, G, I2, rz, l2, q⟩ => ⟨I2.kIn, ?_⟩) hpl
  rw [hks]
  exact run_kw F hr (hB fd hb) (fun _ _ z => z.elim) I2 rz l2 q
theorem pe_kX (C : CalX X.prog X.w X.K X.mg X.base x k ps sp B) (hB : ∀ fd, B fd → KBn X.K fd ps 0 ks g gV) (hr : Room k X.A) (tk : Takes X W) (hkw : PK X kws t) (hg : Gl X x := by rfl)
    (hall : (backToKw pos (keywordEach kws X.env)).all (·.1.isSome) = true := by rfl) (hks : (backToKw pos (keywordEach kws X.env)).filterMap (·.1) = ks := by rfl) (hdb : (x == ("__debug__" : Str)) = false := by decide)
    (hpl : ((backTo pos (starEach [] X.env)).any (·.1) || (backToKw pos (keywordEach kws X.env)).any (·.1.isNone)) = false := by rfl) : PE X (.Call (.Name x p) [] kws pos) (cKw ks.length sp gV (WE W) t) := by
  obtain ⟨f, fd, F, hm, hk, _, hb⟩ := C
  refine ⟨fun pins s σ H Q I h => wpAny_Call_Name_kw (ld_glob I hg hm ?_ hdb)⟩
  refine PySem.W.callWith_KW0 (h₀ := X.base) I.ok.mod.kin hk hall (thn (hkw.run pos pins s σ H _ I h) fun ws s2 ⟨zs, G, I2, rz, l2, q⟩ => ⟨I2.kIn, ?_⟩) hpl
  rw [hks]
  exact run_kw F hr (hB fd hb) (fun e s' c => passAt tk σ pins G s2 e s' I2 c) I2 rz l2 q
end
/-! ### built-ins by the values' kinds -/
section
variable {X : Cx}
def rInt2 : List V → Hp → VK → Prop := fun xs H Q => match xs with
  | [.int i] => Q (.int i) H
  | [.bl k] => Q (.int (if k then 1 else 0)) H
  | _ => False
theorem c_int : CallR X (.type "int") rInt2 := fun pins s σ H xs us Q I r q => by
  unfold rInt2 at q
  split at q
  · exact call_int1 pins s σ H _ us Q I r (.inl ⟨_, rfl, q⟩)
  · exact call_int1 pins s σ H _ us Q I r (.inr ⟨_, rfl, q⟩)
  · exact q.elim
def rAbs2 : List V → Hp → VK → Prop := fun xs H Q => match xs with
  | [.int i] => Q (.int (if i < 0 then -i else i)) H
  | _ => False
theorem c_abs : CallR X (.builtin "abs") rAbs2 := fun pins s σ H xs us Q I r q => by
  unfold rAbs2 at q
  split at q
  · exact call_abs pins s σ H _ us Q I r ⟨_, rfl, q⟩
  · exact q.elim
def rLen2 (K : PySem.W.Frag) : List V → Hp → VK → Prop := fun xs H Q => match xs with
  | [.str y] => y.length ≤ sizeLine ∧ Q (.int y.length) H
  | [.ref p] => ∃ ys : List V, (SqL K H p ys ∨ SqT K H p ys) ∧ Q (.int ys.length) H
  | _ => False
theorem c_len : CallR X (.builtin "len") (rLen2 X.K) := fun pins s σ H xs us Q I r q => by
  unfold rLen2 at q
  split at q
  · exact call_len pins s σ H _ us Q I r ⟨_, _, rfl, ⟨q.1, rfl⟩, q.2⟩
  · obtain ⟨ys, h | h, q⟩ := q
    · exact call_len pins s σ H _ us Q I r ⟨_, _, rfl, .inl ⟨ys, h, rfl⟩, q⟩
    · exact call_len pins s σ H _ us Q I r ⟨_, _, rfl, .inr ⟨ys, h, rfl⟩, q⟩
  · exact q.elim
/-- isinstance of plain values and own instances, and one class -/
def rIsi2 (K : PySem.W.Frag) : List V → Hp → VK → Prop := fun xs H Q => ∃ (x c : V) (t cv : Value) (b : Bool), xs = [x, c] ∧ TyOf K H x t ∧ (∀ u, RelV c u → u = cv) ∧ PySem.W.kitOne K t cv = some b ∧ Q (.bl b) H
theorem c_isi : CallR X (.builtin "isinstance") (rIsi2 X.K) := fun pins s σ H xs us Q I r q => by
  obtain ⟨x, c, t, cv, b, rfl, ty, hc, hk, q⟩ := q
  obtain ⟨u, u2, rfl, r1, r2⟩ := vals2 r
  have e2 := hc _ r2
  subst e2
  exact isinst_ok I r1 ty hk fun tk => ⟨.bl b, H, I.tok tk, rfl, q⟩
end
end HX

set_option Elab.async false
set_option linter.all false
set_option maxRecDepth 100000
set_option maxHeartbeats 2000000
namespace HX
open PySem PySem.Spec PyProof.Rows L2

/-! ### the pen: its cells at l, how many were begun, what is left of a great one -/
structure Pn (H : Hp) (p l : Addr) (ns : List Int) (c g : Int) : Prop where
  at_ : H p = some (.lst [.ref l, .int c, .int g])
  cel : H l = some (.lst (ns.map V.int))
  ne : l ≠ p
  c0 : 0 ≤ c
  g0 : 0 ≤ g
/-- all but p is as it was -/
def Kp (p : Addr) (H H' : Hp) : Prop := ∀ b o, b ≠ p → H b = some o → H' b = some o
/-- H without p -/
def Hd (p : Addr) (H : Hp) : Hp := fun b => if b = p then none else H b
theorem Hd.at_ {p b : Addr} {H : Hp} {o : HO} (n : b ≠ p) (e : H b = some o) : Hd p H b = some o := by unfold Hd; rw [if_neg n]; exact e
theorem Hd.un {p b : Addr} {H : Hp} {o : HO} (e : Hd p H b = some o) : b ≠ p ∧ H b = some o := by
  unfold Hd at e
  split at e
  · cases e
  · rename_i n
    exact ⟨n, e⟩
theorem Kp.hd {p : Addr} {H H' : Hp} (k : Kp p H H') : Same (Hd p H) (Hd p H') := fun b o e => Hd.at_ (Hd.un e).1 (k b o (Hd.un e).1 (Hd.un e).2)
theorem Hd.sub {p : Addr} {H : Hp} : Same (Hd p H) H := fun _ _ e => (Hd.un e).2
theorem Kp.refl {p : Addr} {H : Hp} : Kp p H H := fun _ _ _ e => e
theorem Kp.trans {p : Addr} {H H1 H2 : Hp} (a : Kp p H H1) (b : Kp p H1 H2) : Kp p H H2 := fun c o n e => b c o n (a c o n e)
theorem Kp.upd {p : Addr} {H H1 : Hp} {o : HO} (a : Kp p H H1) : Kp p H (L2.upd H1 p o) := fun c u n e => by rw [upd_ne n]; exact a c u n e
theorem Kp.new {p q : Addr} {H H1 : Hp} {o : HO} (a : Kp p H H1) (h : H1 q = none) : Kp p H (L2.upd H1 q o) := fun c u n e => by
  have z := a c u n e
  rw [upd_ne (ne_of_none z h)]
  exact z
theorem Kp.same {p : Addr} {H H1 : Hp} (a : Same H H1) : Kp p H H1 := fun c u _ e => a c u e
theorem Same.new {H H1 : Hp} {q : Addr} {o : HO} (a : Same H H1) (h : H1 q = none) : Same H (L2.upd H1 q o) := fun c u e => by
  have z := a c u e
  rw [upd_ne (ne_of_none z h)]
  exact z
theorem Same.mut {H H1 : Hp} {q : Addr} {o : HO} (a : Same H H1) (h : H q = none) : Same H (L2.upd H1 q o) := fun c u e => by
  rw [upd_ne (ne_of_none e h)]
  exact a c u e
theorem Kp.mut {p : Addr} {H H1 : Hp} {q : Addr} {o : HO} (a : Kp p H H1) (h : H q = none) : Kp p H (L2.upd H1 q o) := fun c u n e => by
  rw [upd_ne (ne_of_none e h)]
  exact a c u n e
theorem Kp.seq {K : PySem.W.Frag} {p a : Addr} {H H1 : Hp} {xs : List V} (k : Kp p H H1) (n : a ≠ p) (h : SqL K H a xs) : SqL K H1 a xs := by
  rcases h with (h | ⟨o, h⟩) | h
  · exact .inl (.inl (k _ _ n h))
  · exact .inl (.inr ⟨o, k _ _ n h⟩)
  · exact .inr h
theorem Kp.seqT {K : PySem.W.Frag} {p a : Addr} {H H1 : Hp} {xs : List V} (k : Kp p H H1) (n : a ≠ p) (h : SqT K H a xs) : SqT K H1 a xs := by
  rcases h with (h | ⟨o, h⟩) | h
  · exact .inl (.inl (k _ _ n h))
  · exact .inl (.inr ⟨o, k _ _ n h⟩)
  · exact .inr h
theorem Pn.put {H H1 : Hp} {p l : Addr} {ns : List Int} {c g c' g' : Int} (P : Pn H p l ns c g) (k : Kp p H H1) (hc : 0 ≤ c') (hg : 0 ≤ g') (e : H1 p = some (.lst [.ref l, .int c', .int g'])) : Pn H1 p l ns c' g' :=
  ⟨e, k _ _ P.ne P.cel, P.ne, hc, hg⟩
theorem Pn.same {H H1 : Hp} {p l : Addr} {ns : List Int} {c g : Int} (P : Pn H p l ns c g) (k : Same H H1) : Pn H1 p l ns c g := P.put (.same k) P.c0 P.g0 (k _ _ P.at_)
theorem Pn.new {H : Hp} {p l q : Addr} {ns : List Int} {c g : Int} {o : HO} (P : Pn H p l ns c g) (h : H q = none) : Pn (L2.upd H q o) p l ns c g := P.same (Same.new (Same.refl H) h)
/-- a pen at p, its cells at l, that has been asked c times at most -/
def Pe (H : Hp) (p l : Addr) (c : Int) : Prop := ∃ ns c0 g, Pn H p l ns c0 g ∧ c0 ≤ c
theorem Pe.mono {H : Hp} {p l : Addr} {c c' : Int} (P : Pe H p l c) (h : c ≤ c') : Pe H p l c' := let ⟨ns, c0, g, q, e⟩ := P; ⟨ns, c0, g, q, Int.le_trans e h⟩
theorem Pe.same {H H1 : Hp} {p l : Addr} {c : Int} (P : Pe H p l c) (k : Same H H1) : Pe H1 p l c := let ⟨ns, c0, g, q, e⟩ := P; ⟨ns, c0, g, q.same k, e⟩
theorem Pe.new {H : Hp} {p l q : Addr} {c : Int} {o : HO} (P : Pe H p l c) (h : H q = none) : Pe (L2.upd H q o) p l c := P.same (Same.new (Same.refl H) h)
theorem Pe.atP {H : Hp} {p l : Addr} {c : Int} (P : Pe H p l c) : ∃ o, H p = some o := let ⟨_, _, _, q, _⟩ := P; ⟨_, q.at_⟩
theorem Pe.atL {H : Hp} {p l : Addr} {c : Int} (P : Pe H p l c) : ∃ o, H l = some o := let ⟨_, _, _, q, _⟩ := P; ⟨_, q.cel⟩
theorem Pe.ne {H : Hp} {p l q : Addr} {c : Int} (P : Pe H p l c) (h : H q = none) : q ≠ p := let ⟨_, e⟩ := P.atP; Ne.symm (ne_of_none e h)
theorem Pe.neL {H : Hp} {p l q : Addr} {c : Int} (P : Pe H p l c) (h : H q = none) : q ≠ l := let ⟨_, e⟩ := P.atL; Ne.symm (ne_of_none e h)
theorem Pe.mut {H : Hp} {p l q : Addr} {c : Int} {o : HO} (P : Pe H p l c) (h : q ≠ p) (h2 : q ≠ l) : Pe (L2.upd H q o) p l c := by
  obtain ⟨ns, c0, g, q0, e⟩ := P
  exact ⟨ns, c0, g, ⟨by rw [upd_ne (Ne.symm h)]; exact q0.at_, by rw [upd_ne (Ne.symm h2)]; exact q0.cel, q0.ne, q0.c0, q0.g0⟩, e⟩
/-- an object that the pen isn't: it is no list of a list and two numbers -/
theorem Pe.ne2 {H : Hp} {p l a : Addr} {c : Int} {o : HO} (P : Pe H p l c) (h : H a = some o) (n : ∀ l c g, o ≠ .lst [.ref l, .int c, .int g]) : a ≠ p := by
  obtain ⟨ns, c0, g, q, _⟩ := P
  exact ne_of h q.at_ (n _ _ _)

/-! ### what the draws promise -/
def spPen (K : PySem.W.Frag) : Sp := fun vs H Q _ => ∃ (a : Addr) (ns : List Int), vs = [.ref a] ∧ SqL K H a (ns.map V.int) ∧ ∀ (p l : Addr) (H' : Hp), H p = none → Same H H' → Pe H' p l 0 → Q (.ref p) H'
def spDraw : Sp := fun vs H Q _ => ∃ (p l : Addr) (c many : Int), vs = [.ref p, .int many] ∧ Pe H p l c ∧ 0 < many ∧ many.natAbs < 2 ^ 250 ∧ c < 1000000 ∧
  ∀ (r : Int) (H' : Hp), 0 ≤ r → r < many → Kp p H H' → Pe H' p l (c + 1) → Q (.int r) H'
/-- one of a text's signs, of a list's or a tuple's items -/
def spPick (K : PySem.W.Frag) : Sp := fun vs H Q _ => ∃ (p l : Addr) (c : Int) (x : V), vs = [.ref p, x] ∧ Pe H p l c ∧ c < 1000000 ∧
  ((∃ z : Str, x = .str z ∧ 0 < z.length ∧ z.length ≤ 1000000 ∧ ∀ (ch : Nat) (H' : Hp), ch ∈ z.cps.toList → Kp p H H' → Pe H' p l (c + 1) → Q (.str ⟨#[ch]⟩) H') ∨
    ∃ (a : Addr) (xs : List V), x = .ref a ∧ a ≠ p ∧ (SqL K H a xs ∨ SqT K H a xs) ∧ 0 < xs.length ∧ xs.length ≤ 1000000 ∧ ∀ (v : V) (H' : Hp), v ∈ xs → Kp p H H' → Pe H' p l (c + 1) → Q v H')

theorem mul_lt {a b x y : Int} (h0 : 0 ≤ x) (h1 : x < a) (h2 : 0 ≤ y) (h3 : y < b) : x * y < a * b := by
  have z1 : x * y ≤ x * b := Int.mul_le_mul_of_nonneg_left (by omega) h0
  have z2 : x * b ≤ (a - 1) * b := Int.mul_le_mul_of_nonneg_right (by omega) (by omega)
  have z3 : (a - 1) * b = a * b - b := by rw [Int.sub_mul]; omega
  omega
theorem dp_ints {K : PySem.W.Frag} {H : Hp} : ∀ ns : List Int, DpAll K H (ns.map V.int) (ns.map PyData.int)
  | [] => .nil
  | n :: ns => .cons (.int n) (dp_ints ns)
theorem can_ints : ∀ ns : List Int, PyData.canLayAll0 (ns.map PyData.int) = true
  | [] => rfl
  | n :: ns => by
    rw [List.map_cons, PyData.canLayAll0, PyData.canLay0, can_ints ns]
    rfl
theorem depth_ints : ∀ ns : List Int, PyData.depthAll (ns.map PyData.int) = 0
  | [] => by simp [PyData.depthAll]
  | n :: ns => by
    have := depth_ints ns
    simp [PyData.depthAll, PyData.depth, this]
theorem shaped_ints (ns : List Int) : SeqAt.shaped (.list (ns.map PyData.int)) = true := by
  unfold SeqAt.shaped
  rw [PyData.canLay0, can_ints, PyData.depth, depth_ints]
  rfl
theorem at_mod {ns : List Int} (c : Int) (h : 0 < (ns.length : Int)) : ∃ z, atI (ns.map V.int) (c % ns.length) = some (.int z) := by
  have h0 := Int.emod_nonneg c (b := (ns.length : Int)) (by omega)
  have h1 := Int.emod_lt_of_pos c h
  obtain ⟨j, hj⟩ : ∃ j : Nat, c % ns.length = (j : Int) := ⟨(c % ns.length).toNat, by omega⟩
  have hlt : j < ns.length := by omega
  refine ⟨ns[j], ?_⟩
  rw [hj]
  exact atI_nat (by rw [List.getElem?_map, List.getElem?_eq_getElem hlt]; rfl)
theorem at_in {α : Type} {xs : List α} {r : Int} (h0 : 0 ≤ r) (h1 : r < xs.length) : ∃ v, atI xs r = some v ∧ v ∈ xs := by
  obtain ⟨j, rfl⟩ : ∃ j : Nat, r = (j : Int) := ⟨r.toNat, by omega⟩
  have hlt : j < xs.length := by omega
  exact ⟨xs[j], atI_nat (List.getElem?_eq_getElem hlt), List.getElem_mem hlt⟩
theorem small_bits {n : Nat} (h : n ≤ 1000000) : (n : Int).natAbs < 2 ^ 250 := Nat.lt_of_le_of_lt (show (n : Int).natAbs ≤ 1000000 by omega) (by decide)
theorem cut_ints (ns : List Int) (lo hi : Option Int) : ∃ ms : List Int, cutV (ns.map V.int) lo hi = ms.map V.int := by
  unfold cutV
  exact ⟨_, by rw [← List.map_drop, ← List.map_take]⟩
theorem size_line_big : 1000000 ≤ sizeLine := by rw [sizeLine_eq]; decide
/-! ### letters -/
def abc : List Nat := ("abcdefghijklmnopqrstuvwxyz" : Str).cps.toList
theorem tl_join1 {a : Str} (ha : TL.tl a = []) : ∀ cs : List Nat, (Txt.join a (cs.map fun c => (⟨#[c]⟩ : Str))).cps.toList = cs := fun cs => by
  show TL.tl _ = cs
  rw [TL.join_eq, TL.tl_join, ha]
  induction cs with
  | nil => rfl
  | cons c cs ih =>
    cases cs with
    | nil => rfl
    | cons d cs =>
      rw [List.map_cons, List.map_cons, List.map_cons, List.map_cons, TL.joinL]
      rw [List.map_cons, List.map_cons] at ih
      rw [ih]
      rfl
def spLetters : Sp := fun vs H Q _ => ∃ (p l : Addr) (c n : Int), vs = [.ref p, .int n] ∧ Pe H p l c ∧ 0 ≤ n ∧ n ≤ 1000 ∧ c + n < 1000000 ∧
  ∀ (z : Str) (H' : Hp), (z.length : Int) = n → (∀ ch ∈ z.cps.toList, ch ∈ abc) → Kp p H H' → Pe H' p l (c + n) → Q (.str z) H'
/-! ### a module's constants -/
theorem p_gs {X : Cx} {x z : Str} {pos : Pos} (h : ∃ t, X.mg x = some (.str z t)) (hg : Gl X x := by rfl) (hd : (x == ("__debug__" : Str)) = false := by decide) : PE X (.Name x pos) (tC (.str z)) := by
  obtain ⟨t, h⟩ := h
  exact pe_glob hg h ⟨t, rfl⟩ hd
theorem p_gi {X : Cx} {x : Str} {i : Int} {pos : Pos} (h : ∃ t, X.mg x = some (.int i t)) (hg : Gl X x := by rfl) (hd : (x == ("__debug__" : Str)) = false := by decide) : PE X (.Name x pos) (tC (.int i)) := by
  obtain ⟨t, h⟩ := h
  exact pe_glob hg h ⟨t, rfl⟩ hd
theorem p_gc {X : Cx} {x : Str} {C : Addr} {pos : Pos} (h : X.mg x = some (.ref C)) (hg : Gl X x := by rfl) (hd : (x == ("__debug__" : Str)) = false := by decide) : PE X (.Name x pos) (tC (.ref C)) := pe_glob hg h rfl hd
/-! ### own error classes, as the text that raises them sees them -/
def ErrC (P : Program) (w : World) (K : PySem.W.Frag) (mg : Str → Option Value) (base : Heap) (x : Str) (C : Addr) (ps : List Str) (sp : Sp) : Prop :=
  ∃ (fI : Addr) (fd : FuncData), RxC K mg x C fI ∧ FnOk P w K mg base CX0 1 fI fd ps sp ∧ Binds K fd ps []
theorem ps_rz {X : Cx} {x : Str} {C : Addr} {ps : List Str} {sp : Sp} {e : Expr} {es : List Expr} {ta : TA} {W : WX} {p pos pos2 : Pos} (Z : ErrC X.prog X.w X.K X.mg X.base x C ps sp) (hc : X.calm = true) (hr : Room 2 X.A) (tk : Takes X W) (he : PA X (e :: es) ta)
    (hg : Gl X x := by rfl) (hdb : (x == ("__debug__" : Str)) = false := by decide) (hs : starEach (e :: es) X.env = (false, eval e X.env) :: starEach es X.env := by rfl) (hpl : (backTo pos (starEach es X.env)).any (·.1) = false := by rfl) :
    PS X (.Raise (some (.Call (.Name x p) (e :: es) [] pos)) none pos2) (fun _ σ H => tMkO C sp [] ta σ H fun cls d G => W cls d σ G) := by
  obtain ⟨fI, fd, T, F, b⟩ := Z
  exact ps_raiseO hc T F b hr tk he hg hdb hs hpl
/-! ### names -/
def isStrD : PyData → Bool
  | .str _ => true
  | _ => false
theorem Da.isStr {K : PySem.W.Frag} {H : Hp} {x : V} {d : PyData} (h : Da H x d) : ∃ t, TyOf K H x t ∧ PySem.W.kitOne K t (.type "str") = some (isStrD d) := by
  cases h with
  | non => exact ⟨_, .non, kit_ty (by show kitB _ _ = some false; decide +kernel)⟩
  | bl b => exact ⟨_, .bl b, kit_ty (by show kitB _ _ = some false; decide +kernel)⟩
  | int i => exact ⟨_, .int i, kit_ty (by show kitB _ _ = some false; decide +kernel)⟩
  | str x => exact ⟨_, .str x, kit_ty (by show kitB _ _ = some true; decide +kernel)⟩
  | lst e _ => exact ⟨_, .lst e, kit_ty (by show kitB _ _ = some false; decide +kernel)⟩
  | tup e _ => exact ⟨_, .tup e, kit_ty (by show kitB _ _ = some false; decide +kernel)⟩
  | dic e _ => exact ⟨_, .dK e, kit_ty (by show kitB _ _ = some false; decide +kernel)⟩
def nameS (z : Str) : Bool := decide (1 ≤ z.length) && (decide (z.length ≤ 8) && z.cps.toList.all fun c => decide (c ∈ abc))
def nameD : PyData → Bool
  | .str z => nameS z
  | _ => false
def shortD : PyData → Prop
  | .str z => z.length ≤ 1000000
  | _ => True
def spIsName : Sp := fun vs H Q _ => ∃ (x : V) (d : PyData), vs = [x] ∧ Da H x d ∧ shortD d ∧ ∀ H', Same H H' → Q (.bl (nameD d)) H'
def spNeedName (C : Addr) : Sp := fun vs H Q E => ∃ (x : V) (d : PyData), vs = [x] ∧ Da H x d ∧ shortD d ∧ (nameD d = true → ∀ H', Same H H' → Q .non H') ∧
  (nameD d = false → ∀ H' dd, Same H H' → H dd = none → H' dd = some (.xd [("value", x)]) → E (.ref C) (some dd) H')
theorem isStr_str {d : PyData} (h : isStrD d = true) : ∃ z, d = .str z := by
  cases d <;> first | exact ⟨_, rfl⟩ | cases h
theorem nameD_not {d : PyData} (h : isStrD d = false) : nameD d = false := by
  cases d <;> first | rfl | cases h
theorem abc_lt {c : Nat} (h : c ∈ abc) : c < 200 := by
  have e : (abc.all fun c => decide (c < 200)) = true := by decide +kernel
  exact of_decide_eq_true (List.all_eq_true.mp e c h)
theorem nameS_true {z : Str} (h1 : 1 ≤ z.length) (h2 : z.length ≤ 8) (h3 : ∀ c ∈ z.cps.toList, c ∈ abc) : nameS z = true := by
  unfold nameS
  rw [decide_eq_true h1, decide_eq_true h2]
  simp only [Bool.true_and]
  rw [List.all_eq_true]
  exact fun c hc => decide_eq_true (h3 c hc)
theorem nameS_false {z : Str} (h : z.length = 0 ∨ 8 < z.length ∨ ∃ c ∈ z.cps.toList, c ∉ abc) : nameS z = false := by
  cases e : nameS z with
  | false => rfl
  | true =>
    unfold nameS at e
    simp only [Bool.and_eq_true, decide_eq_true_eq] at e
    obtain ⟨e1, e2, e3⟩ := e
    rcases h with h | h | ⟨c, hc, h⟩
    · omega
    · omega
    · exact absurd (of_decide_eq_true (List.all_eq_true.mp e3 c hc)) h
theorem cutS_sub (z : Str) (lo hi : Option Int) : (cutS z lo hi).length ≤ z.length ∧ ∀ c ∈ (cutS z lo hi).cps.toList, c ∈ z.cps.toList :=
  ⟨cutS_length z lo hi, fun c hc => List.mem_of_mem_drop (List.mem_of_mem_take hc)⟩
/-- a short text of small signs -/
def OkS (z : Str) : Prop := z.length ≤ 200 ∧ ∀ c ∈ z.cps.toList, c < 200
theorem OkS.app {x y : Str} (hx : OkS x) (hy : OkS y) (h : x.length + y.length ≤ 200) : OkS (x ++ y) :=
  ⟨by rw [Str.length_append]; exact h, fun c hc => by
    have e : c ∈ TL.tl x ++ TL.tl y := by rw [← TL.tl_append]; exact hc
    exact (List.mem_append.mp e).elim (hx.2 c) (hy.2 c)⟩
theorem OkS.sub {x y : Str} (hx : OkS x) (h1 : y.length ≤ x.length) (h2 : ∀ c ∈ y.cps.toList, c ∈ x.cps.toList) : OkS y := ⟨Nat.le_trans h1 hx.1, fun c hc => hx.2 c (h2 c hc)⟩
theorem mem_appL {x y : Str} {c : Nat} (h : c ∈ x.cps.toList) : c ∈ (x ++ y).cps.toList := by
  show c ∈ TL.tl (x ++ y)
  rw [TL.tl_append]
  exact List.mem_append_left _ h
theorem mem_appR {x y : Str} {c : Nat} (h : c ∈ y.cps.toList) : c ∈ (x ++ y).cps.toList := by
  show c ∈ TL.tl (x ++ y)
  rw [TL.tl_append]
  exact List.mem_append_right _ h
theorem okS_one {c : Nat} (h : c < 200) : OkS ⟨#[c]⟩ := ⟨by show 1 ≤ 200; decide, fun x hx => by rw [List.mem_singleton.mp hx]; exact h⟩
theorem len_tl (z : Str) : z.length = z.cps.toList.length := by simp [Str.length]
end HX

set_option Elab.async false
set_option linter.all false
set_option maxRecDepth 100000
set_option maxHeartbeats 4000000
namespace LW
open PySem PySem.Spec PyProof.Rows L2 HX
def top (i : Nat) : Stmt := PySem.Challenge.pw_holeshift_k02_names_told.main.body.getD i (.Pass ⟨0, 0, 0, 0⟩)

abbrev s_BadName_init : Stmt := inClass (top 3) 0
abbrev n_BadName_init : List Str := ["self", "value"]
theorem sc_BadName_init : FnScope n_BadName_init ["self", "value"] (defScope s_BadName_init) := ⟨rfl, rfl, rfl, by decide +kernel, rfl, by decide +kernel, by decide +kernel⟩

abbrev s_is_name : Stmt := top 6
abbrev n_is_name : List Str := ["value"]
theorem sc_is_name : FnScope n_is_name ["value"] (defScope s_is_name) := ⟨rfl, rfl, rfl, by decide +kernel, rfl, by decide +kernel, by decide +kernel⟩

abbrev s_need_name : Stmt := top 7
abbrev n_need_name : List Str := ["value"]
theorem sc_need_name : FnScope n_need_name ["value"] (defScope s_need_name) := ⟨rfl, rfl, rfl, by decide +kernel, rfl, by decide +kernel, by decide +kernel⟩

abbrev s__law_pen : Stmt := top 9
abbrev n__law_pen : List Str := ["_law_script"]
theorem sc__law_pen : FnScope n__law_pen ["_law_script"] (defScope s__law_pen) := ⟨rfl, rfl, rfl, by decide +kernel, rfl, by decide +kernel, by decide +kernel⟩

abbrev s__law_draw : Stmt := top 10
abbrev n__law_draw : List Str := ["_law_pen_here", "_law_many", "_law_digit", "_law_begun", "_law_lone", "_law_great", "_law_mixed"]
theorem sc__law_draw : FnScope n__law_draw ["_law_pen_here", "_law_many"] (defScope s__law_draw) := ⟨rfl, rfl, rfl, by decide +kernel, rfl, by decide +kernel, by decide +kernel⟩

abbrev s__law_pick : Stmt := top 11
abbrev n__law_pick : List Str := ["_law_pen_here", "_law_some"]
theorem sc__law_pick : FnScope n__law_pick ["_law_pen_here", "_law_some"] (defScope s__law_pick) := ⟨rfl, rfl, rfl, by decide +kernel, rfl, by decide +kernel, by decide +kernel⟩

abbrev s__law_letters : Stmt := top 12
abbrev n__law_letters : List Str := ["_law_pen_here", "_law_many", "_law_turn"]
theorem sc__law_letters : FnScope n__law_letters ["_law_pen_here", "_law_many"] (defScope s__law_letters) := ⟨rfl, rfl, rfl, by decide +kernel, rfl, by decide +kernel, by decide +kernel⟩

abbrev s__law_heard : Stmt := top 13
abbrev n__law_heard : List Str := ["_law_thing", "_law_caught", "_law_found", "error"]
theorem sc__law_heard : FnScope n__law_heard ["_law_thing"] (defScope s__law_heard) := ⟨rfl, rfl, rfl, by decide +kernel, rfl, by decide +kernel, by decide +kernel⟩

abbrev s__law_right : Stmt := top 14
abbrev n__law_right : List Str := ["_law_thing", "_law_is_so"]
theorem sc__law_right : FnScope n__law_right ["_law_thing", "_law_is_so"] (defScope s__law_right) := ⟨rfl, rfl, rfl, by decide +kernel, rfl, by decide +kernel, by decide +kernel⟩

abbrev s_law : Stmt := top 15
abbrev n_law : List Str := ["_law_script", "_law_pen_here", "_law_turn", "_law_word", "_law_at", "_law_odd", "_law_thing"]
theorem sc_law : FnScope n_law ["_law_script"] (defScope s_law) := ⟨rfl, rfl, rfl, by decide +kernel, rfl, by decide +kernel, by decide +kernel⟩

/-- what the module's names are -/
structure Txt (K : PySem.W.Frag) (mg : Str → Option Value) : Prop where
  b_int : mg "int" = none
  b_len : mg "len" = none
  b_abs : mg "abs" = none
  b_list : mg "list" = none
  b_range : mg "range" = none
  b_isinstance : mg "isinstance" = none
  b_str : mg "str" = none
  b_repr : mg "repr" = none
  g_MOST_LETTERS : ∃ t, mg "MOST_LETTERS" = some (.int 8 t)
/-- .. and its errors: S ShiftError, C BadName -/
structure TxE (K : PySem.W.Frag) (mg : Str → Option Value) (S C : Addr) : Prop where
  g_ShiftError : mg "ShiftError" = some (.ref S)
  g_BadName : mg "BadName" = some (.ref C)
  ex : ExC K C
  exm : PySem.W.exmOne K (.ref C) (.ref S) = some true
  kit : PySem.W.kitOne K (.ref C) (.ref C) = some true
  no : PySem.W.findIn K (.ref C) "value" = some none

section
variable {P : Program} {w : World} {K : PySem.W.Frag} {mg : Str → Option Value} {base : Heap}

theorem ok_pen {f : Addr} {fd : FuncData} (F : Fun K "_law_pen" "_law_pen" s__law_pen f fd) (T : Txt K mg) : FnOk P w K mg base CX0 1 f fd ["_law_script"] (spPen K) := by
  refine F.ok sc__law_pen (fun vs H Q E h => ?_) (fun cdv A outer s H vs Q E hr h => ?_)
  · obtain ⟨a, ns, rfl, _⟩ := h
    rfl
  · obtain ⟨a, ns, rfl, hs, k⟩ := h
    refine ⟨_, (pss_one (ps_ret (pe_lst (pa_cons (pe_callTy call_list_of (by rfl) T.b_list (by decide +kernel) (pa_cons (pe_slice sl_list (pc 0) po_none (po_some pe_int)) pa_nil)) (pa_cons pe_int (pa_cons pe_int pa_nil)))))), ?_⟩
    refine ⟨_, rfl, a, _, rfl, hs, fun q1 n1 => ⟨q1, _, rfl, .inl (SqL.of upd_same), fun q2 n2 => ⟨by show 3 ≤ sizeLine; decide, fun p n3 => ?_⟩⟩⟩
    obtain ⟨ms, hm⟩ := cut_ints ns none (some 63)
    have s1 : Same H (upd H q1 (.lst (cutV (ns.map V.int) none (some 63)))) := Same.new (Same.refl H) n1
    have s2 := Same.new (o := .lst (cutV (ns.map V.int) none (some 63))) s1 n2
    have s3 := Same.new (o := .lst [.ref q2, .int 0, .int 0]) s2 n3
    refine k p q2 _ (s2.free n3) s3 ⟨ms, 0, 0, ⟨upd_same, ?_, ne_of_none upd_same n3, by decide, by decide⟩, by decide⟩
    rw [upd_ne (ne_of_none upd_same n3), upd_same, hm]

theorem ok_draw {f : Addr} {fd : FuncData} (F : Fun K "_law_draw" "_law_draw" s__law_draw f fd) (T : Txt K mg) : FnOk P w K mg base CX0 1 f fd ["_law_pen_here", "_law_many"] spDraw := by
  refine F.ok sc__law_draw (fun vs H Q E h => ?_) (fun cdv A outer s H vs Q E hr h => ?_)
  · obtain ⟨p, l, c, many, rfl, _⟩ := h
    rfl
  · obtain ⟨p, l, cM, many, rfl, ⟨ns, c, g, Pp, cle⟩, hm, hz, hcM, k⟩ := h
    have hc : c < 1000000 := by omega
    obtain ⟨hp, hl, ne, c0, g0⟩ := id Pp
    refine ⟨_, (pss_cons (s_if (t_cmp o_gt (p_ix (pc 0) pe_int) pe_int) (pss_cons (ps_set (i := 2) sc__law_draw.nd rfl (Or.inl rfl) (pe_op o_mod (pe_callTy c_int (by rfl) T.b_int (by decide +kernel) (pa_cons (p_ix (pc 0) pe_int) pa_nil)) (pc 1)))
    (pss_cons (ps_asg (pe_op o_fdiv (pe_callTy c_int (by rfl) T.b_int (by decide +kernel) (pa_cons (p_ix (pc 0) pe_int) pa_nil)) (pc 1)) (pg_sub (pc 0) pe_int set_list))
    (pss_one (ps_ret (pc 2))))) pss_nil)
    (pss_cons (ps_set (i := 3) sc__law_draw.nd rfl (Or.inl rfl) (p_ix (pc 0) pe_int))
    (s_cut (ps_asg (pe_op o_add (pc 3) pe_int) (pg_sub (pc 0) pe_int set_list))
    (pss_cons (ps_set (i := 4) sc__law_draw.nd rfl (Or.inl rfl) (pe_op o_add (pe_op o_mul pe_int (pc 3)) pe_int))
    (s_cut (s_if (t_cmp (o_ne hr.units) (p_ix (pc 0) pe_int) (pe_lst pa_nil)) (pss_one (ps_set (i := 4) sc__law_draw.nd rfl (Or.inl rfl) (p_ix (p_ix (pc 0) pe_int) (pe_op o_mod (pe_callTy c_int (by rfl) T.b_int (by decide +kernel) (pa_cons (pc 3) pa_nil)) (pe_callB c_len (by rfl) T.b_len (by decide +kernel) (pa_cons (p_ix (pc 0) pe_int) pa_nil)))))) pss_nil)
    (s_cut (s_if (PW.pt (w_and (t_cmp o_lt (pc 3) (pe_callB c_len (by rfl) T.b_len (by decide +kernel) (pa_cons (p_ix (pc 0) pe_int) pa_nil))) (pw_and1 (t_cmp o_ge (pe_callB c_abs (by rfl) T.b_abs (by decide +kernel) (pa_cons (pc 4) pa_nil)) (pe_op o_pow pe_int pe_int))))) (pss_cons (ps_set (i := 5) sc__law_draw.nd rfl (Or.inl rfl) (pe_op o_add (pe_op o_mul pe_int (pe_op o_sub (pe_callB c_abs (by rfl) T.b_abs (by decide +kernel) (pa_cons (pc 4) pa_nil)) (pe_op o_pow pe_int pe_int))) (pe_callTy c_int (by rfl) T.b_int (by decide +kernel) (pa_cons (p_cmp o_lt (pc 4) pe_int) pa_nil))))
    (pss_cons (ps_asg (pe_op o_fdiv (pe_callTy c_int (by rfl) T.b_int (by decide +kernel) (pa_cons (pc 5) pa_nil)) (pc 1)) (pg_sub (pc 0) pe_int set_list))
    (pss_one (ps_ret (pe_op o_mod (pe_callTy c_int (by rfl) T.b_int (by decide +kernel) (pa_cons (pc 5) pa_nil)) (pc 1)))))) pss_nil)
    (s_cut (ps_set (i := 6) sc__law_draw.nd rfl (Or.inl rfl) (pe_op o_mod (pe_callTy c_int (by rfl) T.b_int (by decide +kernel) (pa_cons (pe_op o_pow (pe_op o_add (pe_op o_add (pe_op o_mod (pe_callTy c_int (by rfl) T.b_int (by decide +kernel) (pa_cons (pc 4) pa_nil)) pe_int) (pe_op o_mul pe_int (pc 3))) pe_int) pe_int) pa_nil)) pe_int))
    (s_cut (ps_set (i := 6) sc__law_draw.nd rfl (Or.inl rfl) (pe_op o_mod (pe_callTy c_int (by rfl) T.b_int (by decide +kernel) (pa_cons (pe_op o_pow (pe_op o_add (pe_op o_add (pe_op o_mul (pc 6) (pe_op o_add (pe_op o_mul pe_int (pc 3)) pe_int)) (pe_op o_mul (pe_op o_mul pe_int (pc 3)) (pc 3))) pe_int) pe_int) pa_nil)) pe_int))
    (pss_one (ps_ret (pe_op o_mod (pe_callTy c_int (by rfl) T.b_int (by decide +kernel) (pa_cons (pe_op o_fdiv (pc 6) pe_int) pa_nil)) (pc 1)))))))))))), ?_⟩
    -- what is left of a great cell
    refine ⟨_, _, .inl (SqL.of hp), rfl, fun h => ?_, fun _ => ?_⟩
    · have hg := of_decide_eq_true h
      have q0 : 0 ≤ g / many := Int.ediv_nonneg g0 (Int.le_of_lt hm)
      refine ⟨_, _, .inl (SqL.of hp), rfl, hm, _, _, .inl (SqL.of hp), rfl, wide_div hm hz (by decide) (by decide), p, _, _, 2, rfl, rfl, hp, rfl, ?_⟩
      have kk : Kp p H (upd H p (.lst [.ref l, .int c, .int (g / many)])) := Kp.refl.upd
      exact k (g % many) _ (Int.emod_nonneg _ (by omega)) (Int.emod_lt_of_pos _ hm) kk ⟨ns, c, _, Pp.put kk c0 q0 upd_same, by omega⟩
    · -- one more cell is begun
      refine ⟨_, _, .inl (SqL.of hp), rfl, fun σ G => σ = [some (.ref p), some (.int many), none, some (.int c), none, none, none] ∧ Kp p H G ∧ Pn G p l ns (c + 1) g, ?_, ?_⟩
      · exact ⟨p, _, _, 1, rfl, rfl, hp, rfl, rfl, Kp.refl.upd, Pp.put Kp.refl.upd (by omega) g0 upd_same⟩
      rintro σ H1 ⟨rfl, k1, P1⟩
      -- the cell, if there is one
      refine ⟨.inl (.inl ⟨by decide, by decide⟩), fun σ G => ∃ lone : Int, σ = [some (.ref p), some (.int many), none, some (.int c), some (.int lone), none, none] ∧ Kp p H G ∧ Pn G p l ns (c + 1) g, ?_, ?_⟩
      · refine ⟨_, _, .inl (SqL.of P1.at_), rfl, Nat.zero_le _, fun q nq => ?_⟩
        have k2 : Kp p H1 (upd H1 q (.lst [])) := Kp.refl.new nq
        have P2 : Pn (upd H1 q (.lst [])) p l ns (c + 1) g := P1.new nq
        have hq : upd H1 q (.lst []) q = some (.lst []) := upd_same
        refine ⟨.list (ns.map PyData.int), .list [], .lst (SqL.of P2.cel) (dp_ints ns), .lst (SqL.of hq) .nil, shaped_ints ns, rfl, ?_, ?_⟩
        · intro h
          have hn : ns ≠ [] := by
            intro e
            subst e
            cases h
          have hlen : 0 < (ns.length : Int) := by
            have := List.length_pos_iff.mpr hn
            omega
          obtain ⟨z, hzz⟩ := at_mod (ns := ns) c hlen
          refine ⟨_, _, .inl (SqL.of P2.at_), rfl, _, _, .inl (SqL.of P2.at_), rfl, _, .inl (SqL.of P2.cel), by rw [List.length_map]; exact hlen, _, .int z, .inl (SqL.of P2.cel), ?_, ?_⟩
          · rw [List.length_map]
            exact hzz
          · exact ⟨z, rfl, k1.trans k2, P2⟩
        · intro _
          exact ⟨_, rfl, k1.trans k2, P2⟩
      · rintro σ G ⟨lone, rfl, kG, PG⟩
        -- a great cell
        refine ⟨fun σ G' => σ = [some (.ref p), some (.int many), none, some (.int c), some (.int lone), none, none] ∧ Kp p H G' ∧ Pn G' p l ns (c + 1) g, ?_, ?_⟩
        · refine ⟨_, _, .inl (SqL.of PG.at_), rfl, _, .inl (SqL.of PG.cel), fun h1 => ?_, fun _ => ⟨fun z => Bool.noConfusion z, fun _ => ⟨rfl, kG, PG⟩⟩⟩
          refine ⟨⟨by decide, by decide, by decide⟩, fun h2 => ?_, fun _ => ⟨rfl, kG, PG⟩⟩
          have h2 := of_decide_eq_true h2
          refine ⟨⟨by decide, by decide, by decide⟩, .inl (.inl ⟨by decide, by decide⟩), wide_div hm hz (by decide) (by decide), p, _, _, 2, rfl, rfl, PG.at_, rfl, hm, ?_⟩
          have kk := kG.upd (p := p) (o := .lst [.ref l, .int (c + 1), .int ((2 * ((if lone < 0 then -lone else lone) - 10 ^ (18 : Int).toNat) + (if decide (lone < 0) = true then 1 else 0)) / many)])
          refine k _ _ (Int.emod_nonneg _ (by omega)) (Int.emod_lt_of_pos _ hm) kk ⟨ns, c + 1, _, Pp.put kk (by omega) ?_ upd_same, by omega⟩
          refine Int.ediv_nonneg ?_ (Int.le_of_lt hm)
          have z : (0 : Int) ≤ (if decide (lone < 0) = true then 1 else 0) := by split <;> decide
          omega
        · rintro σ' G' ⟨rfl, kG', PG'⟩
          -- a mix
          have e0 := fun b : Int => Int.emod_nonneg lone (b := b)
          have e1 := fun b : Int => Int.emod_lt_of_pos lone (b := b)
          refine ⟨fun σ G => ∃ m : Int, σ = [some (.ref p), some (.int many), none, some (.int c), some (.int lone), none, some (.int m)] ∧ G = G' ∧ 0 ≤ m ∧ m < 2147483648, ?_, ?_⟩
          · refine ⟨(by show (0 : Int) < _; decide), .inl (.inl ⟨by decide, by decide⟩), ⟨by decide, by decide, by omega⟩, (by show (0 : Int) < _; decide), _, rfl, rfl, Int.emod_nonneg _ (by decide), ?_⟩
            exact Int.lt_trans (Int.emod_lt_of_pos _ (by decide)) (by decide)
          rintro σ G2 ⟨m, rfl, rfl, m0, m1⟩
          refine ⟨fun σ G => ∃ m : Int, σ = [some (.ref p), some (.int many), none, some (.int c), some (.int lone), none, some (.int m)] ∧ G = G2 ∧ 0 ≤ m ∧ m < 2147483648, ?_, ?_⟩
          · have hb : ∀ a b d : Int, 0 ≤ a → a ≤ 1000 → 0 ≤ b → b ≤ 100000 → 0 ≤ d → d ≤ 1000 → (m * (2 * c + a) + b * c * c + d).natAbs < 2 ^ 64 := fun a b d h1 h2 h3 h4 h5 h6 => by
              have y1 := mul_lt (a := 2147483648) (b := 2002000) m0 m1 (show 0 ≤ 2 * c + a by omega) (by omega)
              have y2 := Int.mul_nonneg m0 (show 0 ≤ 2 * c + a by omega)
              have y3 := mul_lt (a := 100001) (b := 1000000) h3 (by omega) c0 hc
              have y4 := Int.mul_nonneg h3 c0
              have y5 := mul_lt (a := 100001000000) (b := 1000000) y4 (by omega) c0 hc
              have y6 := Int.mul_nonneg y4 c0
              omega
            have hb2 : ∀ b : Int, 0 ≤ b → b ≤ 100000 → CMulU (b * c) c := fun b h3 h4 => by
              have y3 := mul_lt (a := 100001) (b := 1000000) h3 (by omega) c0 hc
              have y4 := Int.mul_nonneg h3 c0
              exact .inl (.inl ⟨by omega, by omega⟩)
            refine ⟨.inl (.inl ⟨by decide, by decide⟩), .inl (.inl ⟨by omega, by omega⟩), .inl (.inl ⟨by decide, by decide⟩), hb2 _ (by decide) (by decide), ⟨by decide, by decide, ?_⟩, (by show (0 : Int) < _; decide), _, rfl, rfl, Int.emod_nonneg _ (by decide), ?_⟩
            · exact hb _ _ _ (by decide) (by decide) (by decide) (by decide) (by decide) (by decide)
            · exact Int.lt_trans (Int.emod_lt_of_pos _ (by decide)) (by decide)
          rintro σ G3 ⟨m, rfl, rfl, m0, m1⟩
          refine ⟨wide_div (b := 10) (by decide) (by decide) (by decide) (by decide), hm, ?_⟩
          exact k _ _ (Int.emod_nonneg _ (by omega)) (Int.emod_lt_of_pos _ hm) kG' ⟨ns, c + 1, g, PG', by omega⟩

theorem ok_pick {f : Addr} {fd : FuncData} {B : FuncData → Prop} (F : Fun K "_law_pick" "_law_pick" s__law_pick f fd) (T : Txt K mg) (cD : CalO P w K mg base "_law_draw" 1 ["_law_pen_here", "_law_many"] spDraw B) : FnOk P w K mg base CX0 2 f fd ["_law_pen_here", "_law_some"] (spPick K) := by
  refine F.ok sc__law_pick (fun vs H Q E h => ?_) (fun cdv A outer s H vs Q E hr h => ?_)
  · obtain ⟨p, l, c, x, rfl, _⟩ := h
    rfl
  · obtain ⟨p, l, c, x, rfl, Pp, hc, k⟩ := h
    refine ⟨_, (pss_one (ps_ret (p_ix (pc 1) (pe_cO cD (hr.mono (by decide)) (pa_cons (pc 0) (pa_cons (pe_callB c_len (by rfl) T.b_len (by decide +kernel) (pa_cons (pc 1) pa_nil)) pa_nil)))))), ?_⟩
    rcases k with ⟨z, rfl, h0, h1, k⟩ | ⟨a, xs, rfl, ne, hs, h0, h1, k⟩
    · refine ⟨Nat.le_trans h1 size_line_big, p, l, c, (z.length : Int), rfl, Pp, by omega, small_bits h1, hc, fun r H' r0 r1 kk P' => ?_⟩
      have e : z.length = z.cps.toList.length := by simp [Str.length]
      obtain ⟨ch, h2, h3⟩ := at_in (xs := z.cps.toList) r0 (by rw [← e]; exact r1)
      exact ⟨Nat.le_trans h1 size_line_big, ch, h2, k ch H' h3 kk P'⟩
    · refine ⟨xs, hs, p, l, c, (xs.length : Int), rfl, Pp, by omega, small_bits h1, hc, fun r H' r0 r1 kk P' => ?_⟩
      obtain ⟨v, h2, h3⟩ := at_in (xs := xs) r0 r1
      exact ⟨xs, v, hs.elim (fun z => .inl (kk.seq ne z)) (fun z => .inr (kk.seqT ne z)), h2, k v H' h3 kk P'⟩

theorem ok_letters {f : Addr} {fd : FuncData} {B : FuncData → Prop} (F : Fun K "_law_letters" "_law_letters" s__law_letters f fd) (T : Txt K mg) (cP : CalO P w K mg base "_law_pick" 2 ["_law_pen_here", "_law_some"] (spPick K) B) : FnOk P w K mg base CX0 3 f fd ["_law_pen_here", "_law_many"] spLetters := by
  refine F.ok sc__law_letters (fun vs H Q E h => ?_) (fun cdv A outer s H vs Q E hr h => ?_)
  · obtain ⟨p, l, c, n, rfl, _⟩ := h
    rfl
  · obtain ⟨p, l, c, n, rfl, Pp, n0, n1, hc, k⟩ := h
    refine ⟨_, (pss_one (ps_ret (pe_join pe_str (pe_lc (own := [("_law_turn", 2)]) (g := gName 2) (tt := tYes) rfl sc__law_letters.nd (pi_range1 (by rfl) T.b_range (pa_cons (pc 1) pa_nil)) (blkOk_by (own := [("_law_turn", 2)]) (N := n__law_letters) (sc := defScope s__law_letters) (by decide +kernel)) (fun _ _ _ _ _ => pg_name (i := 2) sc__law_letters.nd rfl (Or.inl rfl)) (fun _ _ _ _ _ => pts_nil) (fun _ _ _ _ _ => (pe_cO cP (hr.mono (by decide)) (pa_cons (pc 0) (pa_cons pe_str pa_nil)))))))), ?_⟩
    refine ⟨⟨_, rfl⟩, n, rfl, by omega, by omega, fun D nD => lc_range (lo := 0) (n := n.toNat)
      (fun i G => ∃ cs : List Nat, cs.length = i ∧ (∀ ch ∈ cs, ch ∈ abc) ∧ G D = some (.lst (cs.map fun c => .str ⟨#[c]⟩)) ∧ Kp p H G ∧ Pe G p l (c + i))
      ⟨[], rfl, (fun _ z => nomatch z), upd_same, Kp.refl.new nD, by simpa using Pp.new nD⟩
      (fun i G hi ⟨cs, e1, e2, e3, e4, e5⟩ => ⟨rfl, p, l, c + i, _, rfl, e5, by omega, .inl ⟨_, rfl, by decide, by decide, fun ch G' hch kk P' => ?_⟩⟩)
      (fun G ⟨cs, e1, e2, e3, e4, e5⟩ => ⟨_, D, cs.map fun c => ⟨#[c]⟩, rfl, rfl, .inl (SqL.of (by rw [List.map_map]; exact e3)), ?_, ?_⟩)⟩
    · have nDp : D ≠ p := Pp.ne nD
      refine ⟨_, kk D _ nDp e3, by rw [List.length_map, sizeLine_eq]; omega, cs ++ [ch], by rw [List.length_append, e1]; rfl, fun x hx => ?_, by rw [upd_same, List.map_append]; rfl, (e4.trans kk).mut nD, ?_⟩
      · rcases List.mem_append.mp hx with z | z
        · exact e2 x z
        · rw [List.mem_singleton.mp z]
          exact hch
      · have e6 : c + ((i + 1 : Nat) : Int) = c + i + 1 := by omega
        rw [e6]
        exact P'.mut (Pp.ne nD) (Pp.neL nD)
    · have e0 : ∀ l : List Nat, ((l.map fun c => (⟨#[c]⟩ : Str)).map (·.length)).sum = l.length := fun l => by
        induction l with
        | nil => rfl
        | cons a l ih =>
          rw [List.map_cons, List.map_cons, List.sum_cons, ih, List.length_cons]
          show 1 + l.length = l.length + 1
          omega
      rw [e0, List.length_map]
      show cs.length + cs.length * 0 ≤ 16777216
      omega
    · have e7 := tl_join1 (a := Str.ofString "") rfl cs
      refine k _ G ?_ (by rw [e7]; exact e2) e4 (e5.mono (by omega))
      rw [len_tl, e7]
      omega

theorem low_c : ∀ c, c < 128 → Unicode.isAlpha c = true → (Unicode.isUpper c || Unicode.isTitle c) = false → c ∈ abc := by decide +kernel
theorem low_r : ∀ c ∈ abc, (decide (c < 128) && (Unicode.isAlpha c && (Unicode.isLower c && !(Unicode.isUpper c || Unicode.isTitle c)))) = true := by decide +kernel
theorem low_all {z : Str} (h1 : 1 ≤ z.length) : (z.cps.toList.all fun c => decide (c ∈ abc)) = (Txt.isascii z && (Txt.isalpha z && Txt.islower z)) := by
  have l0 : z.length = z.cps.toList.length := by simp [Str.length]
  rw [Bool.eq_iff_iff]
  unfold Txt.isascii Txt.isalpha Txt.islower
  simp only [Bool.and_eq_true, List.all_eq_true, decide_eq_true_eq, ← Array.all_toList, ← Array.any_toList, List.any_eq_true, Bool.not_eq_true']
  constructor
  · intro h
    have hr : ∀ c ∈ z.cps.toList, c < 128 ∧ Unicode.isAlpha c = true ∧ Unicode.isLower c = true ∧ (Unicode.isUpper c || Unicode.isTitle c) = false := fun c hc => by
      have e := low_r c (h c hc)
      simp only [Bool.and_eq_true, decide_eq_true_eq, Bool.not_eq_true'] at e
      exact ⟨e.1, e.2.1, e.2.2.1, e.2.2.2⟩
    refine ⟨fun c hc => (hr c hc).1, ⟨by omega, fun c hc => (hr c hc).2.1⟩, ?_, ?_⟩
    · cases hz : z.cps.toList with
      | nil =>
        rw [hz] at l0
        simp at l0
        omega
      | cons a l => exact ⟨a, List.mem_cons_self .., (hr a (by rw [hz]; exact List.mem_cons_self ..)).2.2.1⟩
    · rw [List.any_eq_false]
      intro c hc
      rw [(hr c hc).2.2.2]
      exact Bool.false_ne_true
  · rintro ⟨h1, ⟨_, h2⟩, _, h3⟩ c hc
    rw [List.any_eq_false] at h3
    have h4 := h3 c hc
    exact low_c c (h1 c hc) (h2 c hc) (by simpa using h4)
theorem ok_is_name {f : Addr} {fd : FuncData} (F : Fun K "is_name" "is_name" s_is_name f fd) (T : Txt K mg) : FnOk P w K mg base CX0 1 f fd ["value"] spIsName := by
  refine F.ok sc_is_name (fun vs H Q E h => ?_) (fun cdv A outer s H vs Q E hr h => ?_)
  · obtain ⟨x, d, rfl, _⟩ := h
    rfl
  · obtain ⟨x, d, rfl, hx, hz, k⟩ := h
    refine ⟨_, (pss_cons (s_if (PW.pt (w_or (pt_not (t_val (pe_callB c_isi (by rfl) T.b_isinstance (by decide +kernel) (pa_cons (pc 0) (pa_cons (pe_bltn (v := .ty "str") (u := .type "str") (by rfl) T.b_str (by decide +kernel) rfl) pa_nil))))) (pw_or1 (pt_not (t_chain o_le o_le pe_int (pe_callB c_len (by rfl) T.b_len (by decide +kernel) (pa_cons (pc 0) pa_nil)) (p_gi T.g_MOST_LETTERS)))))) (pss_one (ps_ret pe_bl)) pss_nil)
    (pss_one (ps_ret (e_and (pe_m0 PySem.F.slot_str_isascii PySem.F.type_str_isascii mt_isascii (pc 0)) (e_and (pe_m0 PySem.F.slot_str_isalpha PySem.F.type_str_isalpha mt_isalpha (pc 0)) (pe_one (pe_m0 PySem.F.slot_str_islower PySem.F.type_str_islower mt_islower (pc 0)))))))), ?_⟩
    obtain ⟨t, ty, kt⟩ := hx.isStr (K := K)
    refine ⟨_, _, t, _, _, rfl, ty, (fun u r => r), kt, fun h => ?_, fun h => ?_⟩
    · have h2 : isStrD d = false := by simpa using h
      have e := k H (Same.refl H)
      rw [nameD_not h2] at e
      exact ⟨fun _ => e, fun z => Bool.noConfusion z⟩
    · have h2 : isStrD d = true := by simpa using h
      obtain ⟨z, rfl⟩ := isStr_str h2
      cases hx
      have hz : z.length ≤ 1000000 := hz
      have hz2 := Nat.le_trans hz size_line_big
      have far : nameS z = false → Q (.bl false) H := fun h => by
        have e := k H (Same.refl H)
        rw [show nameD (.str z) = false from h] at e
        exact e
      refine ⟨hz2, fun h1 => ⟨fun h => far ?_, fun h => ?_⟩, fun h1 => ⟨fun _ => far ?_, fun h => Bool.noConfusion h⟩⟩
      · have h3 : ¬ z.length ≤ 8 := by
          intro q
          have q' : (z.length : Int) ≤ 8 := by omega
          rw [decide_eq_true q'] at h
          cases h
        unfold nameS
        rw [decide_eq_false h3]
        simp
      · have h4 : 1 ≤ z.length := by
          have := of_decide_eq_true h1
          omega
        have h3 : z.length ≤ 8 := by
          have q : decide ((z.length : Int) ≤ 8) = true := by simpa using h
          have := of_decide_eq_true q
          omega
        have e := k H (Same.refl H)
        have e7 : nameD (.str z) = (Txt.isascii z && (Txt.isalpha z && Txt.islower z)) := by
          rw [← low_all h4]
          show nameS z = _
          unfold nameS
          rw [decide_eq_true h4, decide_eq_true h3]
          rfl
        rw [e7] at e
        refine ⟨⟨z, rfl⟩, z, rfl, rfl, trivial, ⟨fun h5 => ⟨⟨z, rfl⟩, z, rfl, rfl, trivial, ⟨fun h6 => ⟨⟨z, rfl⟩, z, rfl, rfl, trivial, ?_⟩, fun h6 => ?_⟩⟩, fun h5 => ?_⟩⟩
        · rw [h5, h6] at e
          exact e
        · rw [h5, h6] at e
          exact e
        · rw [h5] at e
          exact e
      · have h3 : ¬ 1 ≤ z.length := by
          intro q
          have q' : (1 : Int) ≤ z.length := by omega
          rw [decide_eq_true q'] at h1
          cases h1
        unfold nameS
        rw [decide_eq_false h3]
        simp

theorem ok_need_name {f C : Addr} {fd : FuncData} {B : FuncData → Prop} (F : Fun K "need_name" "need_name" s_need_name f fd) (cI : CalO P w K mg base "is_name" 1 ["value"] spIsName B) (Z : ErrC P w K mg base "BadName" C ["self", "value"] (spI1 C "value")) : FnOk P w K mg base (CX P w) 3 f fd ["value"] (spNeedName C) := by
  refine F.okX sc_need_name (fun vs H Q E h => ?_) (fun cdv A outer s H vs Q E hr h => ?_)
  · obtain ⟨x, d, rfl, _⟩ := h
    rfl
  · obtain ⟨x, d, rfl, hx, hz, k1, k2⟩ := h
    refine ⟨_, (pss_one (s_if (pt_not (t_val (pe_cO cI (hr.mono (by decide)) (pa_cons (pc 0) pa_nil)))) (pss_one (ps_rz Z rfl hr (takes_of rfl rfl rfl rfl) (pa_cons (pc 0) pa_nil))) pss_nil)), ?_⟩
    refine ⟨x, d, rfl, hx, hz, fun H' s1 => ⟨fun h => ?_, fun h => ?_⟩⟩
    · have e : nameD d = false := by simpa using h
      exact mk1_ans (Q := fun cls dd G => E cls dd G) fun dd nd => k2 e _ dd (Same.new s1 nd) (s1.free nd) upd_same
    · have e : nameD d = true := by simpa using h
      exact k1 e H' s1

def spHeard : Sp := fun vs H Q _ => ∃ (x : V) (d : PyData), vs = [x] ∧ Da H x d ∧ shortD d ∧ (nameD d = true → ∀ (q : Addr) (H' : Hp), H q = none → Same H H' → H' q = some (.lst [.non]) → Q (.ref q) H') ∧
  (nameD d = false → ∀ (q : Addr) (H' : Hp), H q = none → Same H H' → H' q = some (.tup [x]) → Q (.ref q) H')
def kbV (K : PySem.W.Frag) (fd : FuncData) : Prop := KBn K fd ["value"] 0 ["value"] (fun _ ws => ws) (fun _ zs => zs)
theorem ok_heard {f S C : Addr} {fd : FuncData} (F : Fun K "_law_heard" "_law_heard" s__law_heard f fd) (T : Txt K mg) (U : TxE K mg S C) (cN : CalX P w K mg base "need_name" 3 ["value"] (spNeedName C) (kbV K)) : FnOk P w K mg base CX0 4 f fd ["_law_thing"] spHeard := by
  refine F.ok sc__law_heard (fun vs H Q E h => ?_) (fun cdv A outer s H vs Q E hr h => ?_)
  · obtain ⟨x, d, rfl, _⟩ := h
    rfl
  · obtain ⟨x, d, rfl, hx, hz, k1, k2⟩ := h
    refine ⟨_, (pss_cons (ps_asg (pe_tup (pa_cons pe_non (pa_cons pe_non pa_nil))) (pg_tup rfl (pgs_cons (pg_name (i := 1) sc__law_heard.nd rfl (Or.inl rfl)) (pgs_cons (pg_name (i := 2) sc__law_heard.nd rfl (Or.inl rfl)) pgs_nil))))
    (pss_cons (ps_try_keep (i := 3) (Wout := fun _ _ _ _ => False) rfl rfl sc__law_heard.nd rfl rfl ⟨rfl, by decide, Or.inl U.g_ShiftError⟩ takes0 (fun W pn xe tk _ => (pss_cons (ps_expr (pe_cX cN (hr.mono (by decide)) tk (pa_cons (pc 0) pa_nil)))
    (pss_one (ps_set (i := 2) sc__law_heard.nd rfl (Or.inl rfl) (pe_kX cN (fun _ h => h) (hr.mono (by decide)) tk (pk_cons (pc 0) pk_nil)))))) (fun a pn => (pss_one (ps_set (i := 1) sc__law_heard.nd rfl (Or.inl rfl) (pc 3)))))
    (pss_cons (s_if (t_cmp o_is (pc 1) pe_non) (pss_one (ps_ret (pe_lst (pa_cons (pc 2) pa_nil)))) pss_nil)
    (pss_one (ps_ret (e_if (t_val (pe_callB call_isX (by rfl) T.b_isinstance (by decide +kernel) (pa_cons (pc 1) (pa_cons (p_gc U.g_BadName) pa_nil)))) (pe_tup (pa_cons (pe_exf (pc 1)) pa_nil)) pe_str)))))), ?_⟩
    refine ⟨by show 2 ≤ sizeLine; decide, fun p0 n0 => ⟨p0, _, rfl, SqT.of upd_same, rfl, _, _, rfl, _, _, rfl, rfl, ?_⟩⟩
    have s0 : Same H (upd H p0 (.tup [.non, .non])) := Same.new (Same.refl H) n0
    refine ⟨x, d, rfl, hx.mo s0, hz, fun hn H1 s1 => ?_, fun hn H1 dd s1 nd ed => ?_⟩
    · refine ⟨rfl, x, d, rfl, hx.mo (s0.trans s1), hz, fun _ H2 s2 => ⟨fun _ => ?_, fun h => absurd h (by decide)⟩, fun z => absurd z (by rw [hn]; decide)⟩
      have s3 := (s0.trans s1).trans s2
      exact ⟨by show 1 ≤ sizeLine; decide, fun q nq => k1 hn q _ (s3.free nq) (Same.new s3 nq) upd_same⟩
    · refine ⟨true, U.exm, fun _ a na => ⟨fun h => ?_, fun _ => ?_⟩, fun z => Bool.noConfusion z⟩
      · simp at h
      · have s2 := s0.trans s1
        have s3 := Same.new (o := exT a (.ref C) (some dd)) s2 na
        have e2 : upd H1 a (exT a (.ref C) (some dd)) dd = some (.xd [("value", x)]) := by rw [upd_ne (ne_of_none ed na)]; exact ed
        refine ⟨a, C, some dd, _, _, true, rfl, upd_same, fun _ e => ⟨_, by cases e; exact e2⟩, U.ex, (fun u r => r), U.kit, fun _ => ?_, fun z => Bool.noConfusion z⟩
        exact ⟨a, C, dd, _, x, rfl, upd_same, e2, U.ex, U.no, rfl, by show 1 ≤ sizeLine; decide, fun q nq => k2 hn q _ (s3.free nq) (Same.new s3 nq) upd_same⟩

def spRight : Sp := fun vs H Q _ => ∃ (x : V) (d : PyData) (b : Bool), vs = [x, .bl b] ∧ nameD d = b ∧ Da H x d ∧ shortD d ∧ OkD (.tuple [d]) ∧ ∀ H', Same H H' → Q (.bl true) H'
theorem ok_bools (b : Bool) : OkD (.list [.bool b, .bool b]) := by cases b <;> exact ⟨by decide +kernel, by decide +kernel, by decide +kernel, by decide +kernel, by decide +kernel⟩
theorem ok_none : OkD (.list [.none]) := ⟨by decide +kernel, by decide +kernel, by decide +kernel, by decide +kernel, by decide +kernel⟩
theorem ok_right {f : Addr} {fd : FuncData} {B : FuncData → Prop} (F : Fun K "_law_right" "_law_right" s__law_right f fd) (T : Txt K mg) (cI : CalO P w K mg base "is_name" 1 ["value"] spIsName (kbV K)) (cH : CalO P w K mg base "_law_heard" 4 ["_law_thing"] spHeard B) :
    FnG P w K mg base CX0 5 f fd ["_law_thing", "_law_is_so"] spRight := by
  refine fun_okG F sc__law_right (fun vs H Q E h => ?_) (fun cdv A outer s H vs Q E gd hr h => ?_)
  · obtain ⟨x, d, b, rfl, _⟩ := h
    rfl
  · obtain ⟨x, d, b, rfl, rfl, hx, hz, ok, k⟩ := h
    refine ⟨_, (pss_cons (s_if (t_cmp (o_ne hr.units) (pe_callB (call_reprD gd hr.units) (by rfl) T.b_repr (by decide +kernel) (pa_cons (pe_lst (pa_cons (pe_cO cI (hr.mono (by decide)) (pa_cons (pc 0) pa_nil)) (pa_cons (pe_kO cI (fun _ h => h) (hr.mono (by decide)) (pk_cons (pc 0) pk_nil)) pa_nil))) pa_nil)) (pe_callB (call_reprD gd hr.units) (by rfl) T.b_repr (by decide +kernel) (pa_cons (pe_lst (pa_cons (pc 1) (pa_cons (pc 1) pa_nil))) pa_nil))) (pss_one (ps_ret pe_bl)) pss_nil)
    (pss_one (ps_ret (p_cmp (o_eq hr.units) (pe_callB (call_reprD gd hr.units) (by rfl) T.b_repr (by decide +kernel) (pa_cons (pe_cO cH (hr.mono (by decide)) (pa_cons (pc 0) pa_nil)) pa_nil)) (pe_callB (call_reprD gd hr.units) (by rfl) T.b_repr (by decide +kernel) (pa_cons (e_if (t_val (pc 1)) (pe_lst (pa_cons pe_non pa_nil)) (pe_tup (pa_cons (pc 0) pa_nil))) pa_nil)))))), ?_⟩
    refine ⟨x, d, rfl, hx, hz, fun H1 s1 => ⟨rfl, x, d, rfl, hx.mo s1, hz, fun H2 s2 => ⟨by show 2 ≤ sizeLine; decide, fun q1 n1 => ?_⟩⟩⟩
    have s3 := s1.trans s2
    refine ⟨q1, _, rfl, .lst upd_same (.cons (.bl _) (.cons (.bl _) .nil)), ok_bools _, by show 2 ≤ sizeLine; decide, fun q2 n2 => ⟨q2, _, rfl, .lst upd_same (.cons (.bl _) (.cons (.bl _) .nil)), ok_bools _, fun h => ?_, fun _ => ?_⟩⟩
    · simp at h
    · have s4 := Same.new (o := .lst [.bl (nameD d), .bl (nameD d)]) s3 n1
      have s5 := Same.new (o := .lst [.bl (nameD d), .bl (nameD d)]) s4 n2
      refine ⟨x, d, rfl, hx.mo s5, hz, fun hn q3 H3 f3 s6 e3 => ?_, fun hn q3 H3 f3 s6 e3 => ?_⟩
      · refine ⟨q3, _, rfl, .lst e3 (.cons .non .nil), ok_none, fun _ => ⟨by show 1 ≤ sizeLine; decide, fun q4 n4 => ⟨q4, _, rfl, .lst upd_same (.cons .non .nil), ok_none, ?_⟩⟩, fun h => absurd h (by rw [hn]; decide)⟩
        exact eqs (R := fun c => Q (.bl c) _) (k _ (Same.new (s5.trans s6) n4))
      · have ed : Da H3 (.ref q3) (.tuple [d]) := .tup e3 (.cons (hx.mo (s5.trans s6)) .nil)
        refine ⟨q3, _, rfl, ed, ok, fun h => absurd h (by rw [hn]; decide), fun _ => ⟨by show 1 ≤ sizeLine; decide, fun q4 n4 => ⟨q4, .tuple [d], rfl, .tup upd_same (.cons (hx.mo (Same.new (s5.trans s6) n4)) .nil), ok, ?_⟩⟩⟩
        exact eqs (R := fun c => Q (.bl c) _) (k _ (Same.new (s5.trans s6) n4))

theorem kpN {H : Hp} {q b : Addr} {o u : HO} (e : H b = some u) (h : H q = none) : L2.upd H q o b = some u := by rw [upd_ne (ne_of_none e h)]; exact e
theorem kp2 {H : Hp} {q b : Addr} {o o' u : HO} (e : H b = some u) (h : H q = none) : L2.upd (L2.upd H q o) q o' b = some u := by rw [upd_ne (ne_of_none e h)]; exact kpN e h

theorem okS_d {z : Str} (h : OkS z) : shortD (.str z) ∧ OkD (.tuple [.str z]) ∧ OkD (.tuple [.tuple [.str z]]) ∧ OkD (.tuple [.list [.str z]]) ∧ OkD (.tuple [.dict [(.str z, .int 1)]]) := by
  have h1 := h.1
  have h2 : (z.cps.toList.all fun c => decide (c < 16 ^ 8)) = true := by
    rw [List.all_eq_true]
    intro c hc
    exact decide_eq_true (Nat.lt_of_lt_of_le (h.2 c hc) (by decide))
  have h3 : z.cps.size ≤ 200 := h1
  have hl : Nat.log2 1 = 0 := by decide +kernel
  have hI : (PyData.shown (.int 1)).length ≤ 1000 := by decide +kernel
  refine ⟨by show z.length ≤ 1000000; omega, ⟨?_, ?_, ?_, ?_, ?_⟩, ⟨?_, ?_, ?_, ?_, ?_⟩, ⟨?_, ?_, ?_, ?_, ?_⟩, ⟨?_, ?_, ?_, ?_, ?_⟩⟩
  all_goals first
    | (simp [PyData.showable, PyData.showableAll, PyData.showableKv]; done)
    | (simp [PyData.hasDict, PyData.hasDictAll, hasL, hasLs, hasLk]; done)
    | (simp [PyData.depth, PyData.depthAll, PyData.depthKv]; done)
    | (simp [PyData.leavesShort, PyData.leavesShortAll, PyData.leavesShortKv, h2]; done)
    | (simp [PyData.weight, PyData.weightAll, PyData.weightKv]; omega)
    | (simp [PyData.showable, PyData.showableAll, PyData.showableKv, hl]; done)
    | (simp [PyData.leavesShort, PyData.leavesShortAll, PyData.leavesShortKv, h2, hI]; done)
    | (simp [PyData.weight, PyData.weightAll, PyData.weightKv, hl]; omega)
    | skip

theorem thing_d {H : Hp} {q2 q3 q4 q5 q6 q7 : Addr} {z : Str} {v : V} (hz : OkS z) (g2 : H q2 = some (.tup [.str z])) (g3 : H q3 = some (.lst [.str z])) (g4 : H q4 = some (.dK (mergeK [] [(.inr z, .int 1)])))
    (g5 : H q5 = some (.tup [])) (g6 : H q6 = some (.lst [])) (g7 : H q7 = some (.dK [])) (h : v ∈ [V.non, .bl true, .bl false, .int 0, .int 7, .str "", .ref q2, .ref q3, .ref q4, .ref q5, .ref q6, .ref q7]) :
    ∃ d, nameD d = false ∧ Da H v d ∧ shortD d ∧ OkD (.tuple [d]) := by
  have ok : ∀ d, (PyData.showable (.tuple [d]) && !(PyData.hasDict (.tuple [d]) && hasL (.tuple [d])) && decide (PyData.depth (.tuple [d]) ≤ 60) && PyData.leavesShort 1000 (.tuple [d]) && decide (PyData.weight (.tuple [d]) ≤ 10000)) = true → OkD (.tuple [d]) := by
    intro d e
    simp only [Bool.and_eq_true, decide_eq_true_eq, Bool.not_eq_true', Bool.and_eq_false_iff] at e
    obtain ⟨⟨⟨⟨e1, e2⟩, e3⟩, e4⟩, e5⟩ := e
    exact ⟨e1, fun h => e2.elim (fun z => by rw [h] at z; cases z) id, e3, e4, e5⟩
  simp only [List.mem_cons, List.not_mem_nil, or_false] at h
  rcases h with rfl | rfl | rfl | rfl | rfl | rfl | rfl | rfl | rfl | rfl | rfl | rfl
  · exact ⟨.none, rfl, .non, trivial, ok _ (by decide +kernel)⟩
  · exact ⟨.bool true, rfl, .bl _, trivial, ok _ (by decide +kernel)⟩
  · exact ⟨.bool false, rfl, .bl _, trivial, ok _ (by decide +kernel)⟩
  · exact ⟨.int 0, rfl, .int _, trivial, ok _ (by decide +kernel)⟩
  · exact ⟨.int 7, rfl, .int _, trivial, ok _ (by decide +kernel)⟩
  · exact ⟨.str "", by decide +kernel, .str _, by show (_ : Nat) ≤ _; decide, ok _ (by decide +kernel)⟩
  · exact ⟨.tuple [.str z], rfl, .tup g2 (.cons (.str z) .nil), trivial, (okS_d hz).2.2.1⟩
  · exact ⟨.list [.str z], rfl, .lst g3 (.cons (.str z) .nil), trivial, (okS_d hz).2.2.2.1⟩
  · exact ⟨.dict [(.str z, .int 1)], rfl, .dic g4 (.cons (.int 1) .nil), trivial, (okS_d hz).2.2.2.2⟩
  · exact ⟨.tuple [], rfl, .tup g5 .nil, trivial, ok _ (by decide +kernel)⟩
  · exact ⟨.list [], rfl, .lst g6 .nil, trivial, ok _ (by decide +kernel)⟩
  · exact ⟨.dict [], rfl, .dic g7 .nil, trivial, ok _ (by decide +kernel)⟩
def spLaw (K : PySem.W.Frag) : Sp := fun vs H Q _ => ∃ (a : Addr) (ns : List Int), vs = [.ref a] ∧ SqL K H a (ns.map V.int) ∧ ∀ H', Q (.bl true) H'
theorem ok_law {f : Addr} {fd : FuncData} {B : FuncData → Prop} (F : Fun K "law" "law" s_law f fd) (T : Txt K mg) (cPn : CalO P w K mg base "_law_pen" 1 ["_law_script"] (spPen K) B) (cD : CalO P w K mg base "_law_draw" 1 ["_law_pen_here", "_law_many"] spDraw B)
    (cP : CalO P w K mg base "_law_pick" 2 ["_law_pen_here", "_law_some"] (spPick K) B) (cL : CalO P w K mg base "_law_letters" 3 ["_law_pen_here", "_law_many"] spLetters B) (cR : CalG P w K mg base "_law_right" 5 ["_law_thing", "_law_is_so"] spRight B) :
    FnG P w K mg base CX0 6 f fd ["_law_script"] (spLaw K) := by
  refine fun_okG F sc_law (fun vs H Q E h => ?_) (fun cdv A outer s H vs Q E gd hr h => ?_)
  · obtain ⟨a, ns, rfl, _⟩ := h
    rfl
  · obtain ⟨a, ns, rfl, hs, k⟩ := h
    refine ⟨_, (pss_cons (ps_set (i := 1) sc_law.nd rfl (Or.inl rfl) (pe_cO cPn (hr.mono (by decide)) (pa_cons (pc 0) pa_nil)))
    (pss_cons (ps_for PassesOwn.never rfl (pi_range1 (by rfl) T.b_range (pa_cons pe_int pa_nil)) (pg_name (i := 2) sc_law.nd rfl (Or.inl rfl)) (pss_cons (ps_set (i := 3) sc_law.nd rfl (Or.inl rfl) (pe_cO cL (hr.mono (by decide)) (pa_cons (pc 1) (pa_cons (pe_op o_add pe_int (pe_cO cD (hr.mono (by decide)) (pa_cons (pc 1) (pa_cons pe_int pa_nil)))) pa_nil))))
    (pss_cons (ps_set (i := 4) sc_law.nd rfl (Or.inl rfl) (pe_cO cD (hr.mono (by decide)) (pa_cons (pc 1) (pa_cons (pe_callB c_len (by rfl) T.b_len (by decide +kernel) (pa_cons (pc 3) pa_nil)) pa_nil))))
    (pss_cons (ps_set (i := 5) sc_law.nd rfl (Or.inl rfl) (pe_cO cP (hr.mono (by decide)) (pa_cons (pc 1) (pa_cons (pe_lst (pa_cons pe_str (pa_cons pe_str (pa_cons pe_str (pa_cons pe_str (pa_cons pe_str (pa_cons pe_str (pa_cons pe_str (pa_cons pe_str (pa_cons pe_str (pa_cons pe_str (pa_cons pe_str (pa_cons pe_str (pa_cons pe_str pa_nil)))))))))))))) pa_nil))))
    (pss_cons (s_if (PW.pt (w_or (pt_not (t_val (pe_cG cR gd (hr.mono (by decide)) (pa_cons (pc 3) (pa_cons pe_bl pa_nil))))) (pw_or1 (pt_not (t_val (pe_cG cR gd (hr.mono (by decide)) (pa_cons (pe_op o_add (pe_op o_add (pe_slice sl_str (pc 3) po_none (po_some (pc 4))) (pc 5)) (pe_slice sl_str (pc 3) (po_some (pe_op o_add (pc 4) pe_int)) po_none)) (pa_cons pe_bl pa_nil)))))))) (pss_one (ps_ret pe_bl)) pss_nil)
    (pss_cons (s_if (pt_not (t_val (pe_cG cR gd (hr.mono (by decide)) (pa_cons (pe_cO cL (hr.mono (by decide)) (pa_cons (pc 1) (pa_cons (pe_op o_add pe_int (pe_cO cD (hr.mono (by decide)) (pa_cons (pc 1) (pa_cons pe_int pa_nil)))) pa_nil))) (pa_cons pe_bl pa_nil))))) (pss_one (ps_ret pe_bl)) pss_nil)
    (pss_cons (ps_set (i := 6) sc_law.nd rfl (Or.inl rfl) (pe_cO cP (hr.mono (by decide)) (pa_cons (pc 1) (pa_cons (pe_lst (pa_cons pe_non (pa_cons pe_bl (pa_cons pe_bl (pa_cons pe_int (pa_cons pe_int (pa_cons pe_str (pa_cons (pe_tup (pa_cons (pc 3) pa_nil)) (pa_cons (pe_lst (pa_cons (pc 3) pa_nil)) (pa_cons (pe_disp (pps_cons (pc 3) pe_int pps_nil) (by rfl) (by rfl) (fun z => by cases z) (by decide)) (pa_cons (pe_tup pa_nil) (pa_cons (pe_lst pa_nil) (pa_cons pe_dnewK pa_nil))))))))))))) pa_nil))))
    (pss_one (s_if (PW.pt (w_or (pt_not (t_val (pe_cG cR gd (hr.mono (by decide)) (pa_cons (pc 6) (pa_cons pe_bl pa_nil))))) (w_or (pt_not (t_val (pe_cG cR gd (hr.mono (by decide)) (pa_cons (pe_op o_add (pc 3) (pc 5)) (pa_cons pe_bl pa_nil))))) (pw_or1 (pt_not (t_val (pe_cG cR gd (hr.mono (by decide)) (pa_cons (pe_op o_add (pc 5) (pc 3)) (pa_cons pe_bl pa_nil))))))))) (pss_one (ps_ret pe_bl)) pss_nil)))))))))
    (pss_one (ps_ret (e_and (pe_cG cR gd (hr.mono (by decide)) (pa_cons pe_str (pa_cons pe_bl pa_nil))) (e_and (pe_cG cR gd (hr.mono (by decide)) (pa_cons pe_str (pa_cons pe_bl pa_nil))) (pe_one (pe_cG cR gd (hr.mono (by decide)) (pa_cons pe_str (pa_cons pe_bl pa_nil)))))))))), ?_⟩
    refine ⟨a, ns, rfl, hs, fun p l H1 np s1 P1 => ⟨_, rfl, by decide, by decide, for_range (lo := 0) (n := 12) (fun i σ G => ∃ t w1 w2 w3 w4 : Option V, σ = [some (.ref a), some (.ref p), t, w1, w2, w3, w4] ∧ Pe G p l (100 * i)) ⟨none, none, none, none, none, rfl, P1.mono (by simp)⟩ ?_ ?_⟩⟩
    · rintro i σ G hi ⟨t, w1, w2, w3, w4, rfl, Pp⟩
      -- word = letters(1 + draw(8))
      refine ⟨p, l, _, 8, rfl, Pp, by decide, by decide, by omega, fun r1 G1 r10 r11 k1 P1 => ⟨p, l, _, 1 + r1, rfl, P1, by omega, by omega, by omega, fun z G2 zl za k2 P2 => ?_⟩⟩
      have zn : (1 : Int) ≤ z.length ∧ (z.length : Int) ≤ 8 := by omega
      have hz : OkS z := ⟨by omega, fun c hc => abc_lt (za c hc)⟩
      -- at = draw(len(word)); odd = pick([..])
      refine ⟨by rw [sizeLine_eq]; omega, p, l, _, _, rfl, P2, by omega, small_bits (by omega), by omega, fun at_ G3 a0 a1 k3 P3 => ?_⟩
      refine ⟨by show 13 ≤ sizeLine; decide, fun q1 n1 => ⟨p, l, _, _, rfl, P3.new n1, by omega, .inr ⟨q1, _, rfl, P3.ne n1, .inl (SqL.of upd_same), by decide, by decide, fun o G4 ho k4 P4 => ?_⟩⟩⟩
      obtain ⟨c, rfl, hc1, hc2⟩ : ∃ c : Nat, o = .str ⟨#[c]⟩ ∧ c < 200 ∧ c ∉ abc := by
        simp only [List.mem_cons, List.not_mem_nil, or_false] at ho
        rcases ho with rfl | rfl | rfl | rfl | rfl | rfl | rfl | rfl | rfl | rfl | rfl | rfl | rfl <;> exact ⟨_, rfl, by decide, by decide⟩
      have hO : OkS ⟨#[c]⟩ := okS_one hc1
      have e5 : 100 * (i : Int) + 1 + (1 + r1) + 1 + 1 ≤ 100 * i + 20 := by omega
      have P5 := P4.mono e5
      -- right(word, True)
      refine ⟨.str z, .str z, true, rfl, nameS_true (by omega) (by omega) za, .str z, (okS_d hz).1, (okS_d hz).2.1, fun G6 s6 => ⟨fun h => absurd h (by decide), fun _ => ?_⟩⟩
      -- right(word[:at] + odd + word[at + 1:], False)
      have cut1 := cutS_sub z none (some at_)
      have cut2 := cutS_sub z (some (at_ + 1)) none
      have hm1 := (hz.sub cut1.1 cut1.2).app hO (by show _ + 1 ≤ 200; omega)
      have l1 : (cutS z none (some at_) ++ (⟨#[c]⟩ : Str)).length = (cutS z none (some at_)).length + 1 := by rw [Str.length_append]; rfl
      have hm := hm1.app (hz.sub cut2.1 cut2.2) (by rw [l1]; omega)
      have hx1 := nameS_false (z := cutS z none (some at_) ++ (⟨#[c]⟩ : Str) ++ cutS z (some (at_ + 1)) none) (.inr (.inr ⟨c, mem_appL (mem_appR (List.mem_singleton.mpr rfl)), hc2⟩))
      refine ⟨at_, rfl, z, rfl, by rw [sizeLine_eq]; omega, by rw [sizeLine_eq]; show _ + 1 ≤ _; omega, at_ + 1, rfl, z, rfl, by rw [sizeLine_eq]; omega, by rw [l1, sizeLine_eq]; omega, _, .str _, false, rfl, hx1, .str _, (okS_d hm).1, (okS_d hm).2.1, fun G7 s7 => ⟨fun h => absurd h (by decide), fun _ => ?_⟩⟩
      -- right(letters(9 + draw(30)), False)
      have P7 := P5.same (s6.trans s7)
      refine ⟨p, l, _, 30, rfl, P7, by decide, by decide, by omega, fun r2 G8 r20 r21 k8 P8 => ⟨p, l, _, 9 + r2, rfl, P8, by omega, by omega, by omega, fun y G9 yl ya k9 P9 => ?_⟩⟩
      have hy : OkS y := ⟨by omega, fun c hc => abc_lt (ya c hc)⟩
      refine ⟨.str y, .str y, false, rfl, nameS_false (.inr (.inl (by omega))), .str y, (okS_d hy).1, (okS_d hy).2.1, fun G10 s10 => ⟨fun h => absurd h (by decide), fun _ => ?_⟩⟩
      have P10 := P9.same s10
      -- thing = pick([..])
      refine ⟨by show 1 ≤ sizeLine; decide, fun q2 n2 => ⟨by show 1 ≤ sizeLine; decide, fun q3 n3 => fun q4 n4 => ⟨upd_same, [(.inr z, .int 1)], rfl, by show 1 ≤ 15; decide, ⟨by show 0 ≤ sizeLine; decide, fun q5 n5 => ⟨by show 0 ≤ sizeLine; decide, fun q6 n6 => fun q7 n7 => ⟨by show 12 ≤ sizeLine; decide, fun q8 n8 => ?_⟩⟩⟩⟩⟩⟩
      have PA := ((((((P10.new (o := .tup [.str z]) n2).new (o := .lst [.str z]) n3).new (o := .dK []) n4).mut (o := .dK (mergeK [] [(.inr z, .int 1)])) (((P10.new n2).new n3).ne n4) (((P10.new n2).new n3).neL n4)).new (o := .tup []) n5).new (o := .lst []) n6).new (o := .dK []) n7
      have m2 := (P10).ne n2
      have m3 := (P10.new (o := .tup [.str z]) n2).ne n3
      have m4 := ((P10.new (o := .tup [.str z]) n2).new (o := .lst [.str z]) n3).ne n4
      have m5 := (((((P10.new (o := .tup [.str z]) n2).new (o := .lst [.str z]) n3).new (o := .dK []) n4).mut (o := .dK (mergeK [] [(.inr z, .int 1)])) (((P10.new n2).new n3).ne n4) (((P10.new n2).new n3).neL n4))).ne n5
      have m6 := (((((P10.new (o := .tup [.str z]) n2).new (o := .lst [.str z]) n3).new (o := .dK []) n4).mut (o := .dK (mergeK [] [(.inr z, .int 1)])) (((P10.new n2).new n3).ne n4) (((P10.new n2).new n3).neL n4)).new (o := .tup []) n5).ne n6
      have m7 := ((((((P10.new (o := .tup [.str z]) n2).new (o := .lst [.str z]) n3).new (o := .dK []) n4).mut (o := .dK (mergeK [] [(.inr z, .int 1)])) (((P10.new n2).new n3).ne n4) (((P10.new n2).new n3).neL n4)).new (o := .tup []) n5).new (o := .lst []) n6).ne n7
      refine ⟨p, l, _, .ref q8, rfl, PA.new n8, by omega, .inr ⟨q8, _, rfl, PA.ne n8, .inl (SqL.of upd_same), by show 0 < 12; decide, by show 12 ≤ 1000000; decide, fun v G11 hv k11 P11 => ?_⟩⟩
      have g2 := k11 _ _ m2 (kpN (o := .lst [.non, .bl true, .bl false, .int 0, .int 7, .str "", .ref q2, .ref q3, .ref q4, .ref q5, .ref q6, .ref q7]) (kpN (o := .dK []) (kpN (o := .lst []) (kpN (o := .tup []) (kp2 (o := .dK []) (o' := .dK (mergeK [] [(.inr z, .int 1)])) (kpN (o := .lst [.str z]) (upd_same (H := G10) (a := q2) (o := .tup [.str z])) n3) n4) n5) n6) n7) n8)
      have g3 := k11 _ _ m3 (kpN (o := .lst [.non, .bl true, .bl false, .int 0, .int 7, .str "", .ref q2, .ref q3, .ref q4, .ref q5, .ref q6, .ref q7]) (kpN (o := .dK []) (kpN (o := .lst []) (kpN (o := .tup []) (kp2 (o := .dK []) (o' := .dK (mergeK [] [(.inr z, .int 1)])) (upd_same (o := .lst [.str z])) n4) n5) n6) n7) n8)
      have g4 := k11 _ _ m4 (kpN (o := .lst [.non, .bl true, .bl false, .int 0, .int 7, .str "", .ref q2, .ref q3, .ref q4, .ref q5, .ref q6, .ref q7]) (kpN (o := .dK []) (kpN (o := .lst []) (kpN (o := .tup []) (upd_same (o := .dK (mergeK [] [(.inr z, .int 1)]))) n5) n6) n7) n8)
      have g5 := k11 _ _ m5 (kpN (o := .lst [.non, .bl true, .bl false, .int 0, .int 7, .str "", .ref q2, .ref q3, .ref q4, .ref q5, .ref q6, .ref q7]) (kpN (o := .dK []) (kpN (o := .lst []) (upd_same (o := .tup [])) n6) n7) n8)
      have g6 := k11 _ _ m6 (kpN (o := .lst [.non, .bl true, .bl false, .int 0, .int 7, .str "", .ref q2, .ref q3, .ref q4, .ref q5, .ref q6, .ref q7]) (kpN (o := .dK []) (upd_same (o := .lst [])) n7) n8)
      have g7 := k11 _ _ m7 (kpN (o := .lst [.non, .bl true, .bl false, .int 0, .int 7, .str "", .ref q2, .ref q3, .ref q4, .ref q5, .ref q6, .ref q7]) (upd_same (o := .dK [])) n8)
      obtain ⟨dv, v1, v2, v3, v4⟩ := thing_d hz g2 g3 g4 g5 g6 g7 hv
      refine ⟨v, dv, false, rfl, v1, v2, v3, v4, fun G12 s12 => ⟨fun h => absurd h (by decide), fun _ => ?_⟩⟩
      -- right(word + odd, False), right(odd + word, False)
      have ha := hz.app hO (by show _ + 1 ≤ 200; omega)
      have hb := hO.app hz (by show 1 + _ ≤ 200; omega)
      refine ⟨by rw [sizeLine_eq]; show _ + 1 ≤ _; omega, _, .str _, false, rfl, nameS_false (.inr (.inr ⟨c, mem_appR (List.mem_singleton.mpr rfl), hc2⟩)), .str _, (okS_d ha).1, (okS_d ha).2.1, fun G13 s13 => ⟨fun h => absurd h (by decide), fun _ => ?_⟩⟩
      refine ⟨by rw [sizeLine_eq]; show 1 + _ ≤ _; omega, _, .str _, false, rfl, nameS_false (.inr (.inr ⟨c, mem_appL (List.mem_singleton.mpr rfl), hc2⟩)), .str _, (okS_d hb).1, (okS_d hb).2.1, fun G14 s14 => ⟨fun h => absurd h (by decide), fun _ => ?_⟩⟩
      have P14 := P11.same (s12.trans (s13.trans s14))
      exact ⟨_, _, _, _, _, rfl, P14.mono (by omega)⟩
    · rintro σ G ⟨t, w1, w2, w3, w4, rfl, Pp⟩
      have k1 : OkS "abcdefgh" := ⟨by decide +kernel, by decide +kernel⟩
      have k2 : OkS "z" := ⟨by decide +kernel, by decide +kernel⟩
      have k3 : OkS "abcdefghi" := ⟨by decide +kernel, by decide +kernel⟩
      refine ⟨_, .str "abcdefgh", true, rfl, by decide +kernel, .str _, (okS_d k1).1, (okS_d k1).2.1, fun G1 s1 => ⟨fun _ => ?_, fun h => absurd h (by decide)⟩⟩
      refine ⟨_, .str "z", true, rfl, by decide +kernel, .str _, (okS_d k2).1, (okS_d k2).2.1, fun G2 s2 => ⟨fun _ => ?_, fun h => absurd h (by decide)⟩⟩
      refine ⟨_, .str "abcdefghi", false, rfl, by decide +kernel, .str _, (okS_d k3).1, (okS_d k3).2.1, fun G3 s3 => ?_⟩
      exact k _

end
end LW
set_option Elab.async false
set_option linter.all false
set_option maxRecDepth 100000
set_option maxHeartbeats 4000000
namespace LW
open PySem PySem.Spec PyProof.Rows L2 HX
theorem exm_mk {K : PySem.W.Frag} {C S : Addr} (h1 : PySem.W.subIn K (.ref S) (.type "BaseException") = some true) (h2 : PySem.W.isClsIn K S = true) (h3 : PySem.W.typeIn K (.ref S) = some (.type "type")) (h4 : PySem.W.subIn K (.ref C) (.ref S) = some true) :
    PySem.W.exmOne K (.ref C) (.ref S) = some true := by
  have e1 : (PySem.W.subIn K (.ref S) (.type "BaseException") == some true) = true := by rw [h1] <;> rfl
  have e2 : ((PySem.W.clsIn K S).isSome && PySem.W.typeIn K (.ref S) == some (.type "type")) = true := by
    have h2' : (PySem.W.clsIn K S).isSome = true := h2
    rw [h2', h3] <;> rfl
  unfold PySem.W.exmOne
  rw [if_pos e1]
  show (if ((PySem.W.clsIn K S).isSome && PySem.W.typeIn K (.ref S) == some (.type "type")) = true then PySem.W.subIn K (.ref C) (.ref S) else none) = some true
  rw [if_pos e2, h4]
theorem kit_self (K : PySem.W.Frag) (C : Addr) : PySem.W.kitOne K (.ref C) (.ref C) = some true := by
  unfold PySem.W.kitOne
  rw [if_pos (by simp)]
theorem kb_mk {K : PySem.W.Frag} {f : Addr} {fd : FuncData} (F : Fun K "is_name" "is_name" s_is_name f fd) : kbV K fd := by
  obtain ⟨oc, od, kV, doc, pm, an, cdv, ct, osl, rfl, lk, hcd⟩ := F.ex
  exact ⟨fun s us ws _ l1 l2 => match us, ws, l1, l2 with | [], [_], _, _ => .of_eq rfl, fun _ r => r⟩
theorem kb_mk2 {K : PySem.W.Frag} {f : Addr} {fd : FuncData} (F : Fun K "need_name" "need_name" s_need_name f fd) : kbV K fd := by
  obtain ⟨oc, od, kV, doc, pm, an, cdv, ct, osl, rfl, lk, hcd⟩ := F.ex
  exact ⟨fun s us ws _ l1 l2 => match us, ws, l1, l2 with | [], [_], _, _ => .of_eq rfl, fun _ r => r⟩
theorem all_mk {l : PySem.W.OpenLaw} {w : World} {K : PySem.W.Frag} {h : Heap} {mg : Str → Option Value} {fa : Addr} (X : K.In h) (G : h.Ns mainGlobals mg) (hfa : mg "law" = some (.ref fa))
    {t_MOST_LETTERS : Nat}
    {S : Addr}
    {B1 : Addr}
    {C : Addr}
    {nm_C q_C : Str} {N_C : Addr} {bs_C : List Value} {sn_C : List Str} {sub_C : List Value} {ab_C : Bool} {col_C : Option Bool} {dd_C : Option Addr} {m0_C m1_C m2_C m3_C m5_C : Option Value}
    {f_IC : Addr} {od_IC an_IC : Option Addr} {sl_IC : Array (Option Value)} {oc_IC kV_IC dc_IC pm_IC cd_IC ct_IC : Value}
    {f_isn : Addr} {od_isn an_isn : Option Addr} {sl_isn : Array (Option Value)} {oc_isn kV_isn dc_isn pm_isn cd_isn ct_isn : Value}
    {f_nn : Addr} {od_nn an_nn : Option Addr} {sl_nn : Array (Option Value)} {oc_nn kV_nn dc_nn pm_nn cd_nn ct_nn : Value}
    {f_pen : Addr} {od_pen an_pen : Option Addr} {sl_pen : Array (Option Value)} {oc_pen kV_pen dc_pen pm_pen cd_pen ct_pen : Value}
    {f_draw : Addr} {od_draw an_draw : Option Addr} {sl_draw : Array (Option Value)} {oc_draw kV_draw dc_draw pm_draw cd_draw ct_draw : Value}
    {f_pick : Addr} {od_pick an_pick : Option Addr} {sl_pick : Array (Option Value)} {oc_pick kV_pick dc_pick pm_pick cd_pick ct_pick : Value}
    {f_let : Addr} {od_let an_let : Option Addr} {sl_let : Array (Option Value)} {oc_let kV_let dc_let pm_let cd_let ct_let : Value}
    {f_heard : Addr} {od_heard an_heard : Option Addr} {sl_heard : Array (Option Value)} {oc_heard kV_heard dc_heard pm_heard cd_heard ct_heard : Value}
    {f_right : Addr} {od_right an_right : Option Addr} {sl_right : Array (Option Value)} {oc_right kV_right dc_right pm_right cd_right ct_right : Value}
    {f_law : Addr} {od_law an_law : Option Addr} {sl_law : Array (Option Value)} {oc_law kV_law dc_law pm_law cd_law ct_law : Value}
    (n_int : PySem.W.nsIn K mainGlobals "int" = some none)
    (n_len : PySem.W.nsIn K mainGlobals "len" = some none)
    (n_abs : PySem.W.nsIn K mainGlobals "abs" = some none)
    (n_list : PySem.W.nsIn K mainGlobals "list" = some none)
    (n_range : PySem.W.nsIn K mainGlobals "range" = some none)
    (n_isinstance : PySem.W.nsIn K mainGlobals "isinstance" = some none)
    (n_str : PySem.W.nsIn K mainGlobals "str" = some none)
    (n_repr : PySem.W.nsIn K mainGlobals "repr" = some none)
    (g_MOST_LETTERS : PySem.W.nsIn K mainGlobals "MOST_LETTERS" = some (some (.int 8 t_MOST_LETTERS)))
    (a_S : PySem.W.nsIn K mainGlobals "ShiftError" = some (some (.ref S)))
    (iS : PySem.W.isClsIn K S = true)
    (tS : PySem.W.typeIn K (.ref S) = some (.type "type"))
    (bS : PySem.W.subIn K (.ref S) (.type "BaseException") = some true)
    (a_C : PySem.W.nsIn K mainGlobals "BadName" = some (some (.ref C)))
    (xL_C : K.lookup C = some (excClassObj nm_C q_C C N_C bs_C [.ref B1, .ref S, .type "ValueError", .type "Exception", .type "BaseException", .type "object"] true sn_C sub_C ab_C col_C dd_C m0_C m1_C m2_C m3_C m5_C "ValueError.__new__"))
    (sa_C : PySem.W.findIn K (.ref C) "__setattr__" = some (some (.builtin "object.__setattr__")))
    (eC_C : PySem.W.subIn K (.ref C) (.type "BaseException") = some true)
    (tC_C : PySem.W.typeIn K (.ref C) = some (.type "type"))
    (kC_C : PySem.W.keepIn K (.ref C) = true)
    (ga_C : PySem.W.findIn K (.ref C) "__getattribute__" = some (some (.builtin "BaseException.__getattribute__")))
    (gg_C : PySem.W.findIn K (.ref C) "__getattr__" = some none)
    (hd_C : PySem.W.hasDictIn K C = true)
    (ha_C : PySem.W.findIn K (.ref C) "__class__" = some (some (.builtin "object.__class__")))
    (hn_C : PySem.W.specialIn K (.builtin "object.__class__") "__get__" = some (some (.builtin "getset_descriptor.__get__")))
    (ht_C : PySem.W.takesIn K (.builtin "object.__class__") = some true)
    (hm_C : PySem.W.mroIn K C (.type "object") = some true)
    (no_C_value : PySem.W.findIn K (.ref C) "value" = some none)
    (a_IC : PySem.W.findIn K (.ref C) "__init__" = some (some (.ref f_IC)))
    (t_IC : PySem.W.typeIn K (.ref f_IC) = some (.type "function"))
    (l_IC : K.lookup f_IC = some ⟨oc_IC, od_IC, .func (PySem.W.fnOf "__init__" "BadName.__init__" (defArgs s_BadName_init) (defBody s_BadName_init) (defScope s_BadName_init) .none kV_IC dc_IC pm_IC an_IC cd_IC ct_IC), sl_IC⟩)
    (c_IC : PySem.W.codeIn K cd_IC "BadName.__init__" = true)
    (k_IC : PySem.W.keepIn K (.ref f_IC) = true)
    (sCS : PySem.W.subIn K (.ref C) (.ref S) = some true)
    (a_isn : PySem.W.nsIn K mainGlobals "is_name" = some (some (.ref f_isn)))
    (l_isn : K.lookup f_isn = some ⟨oc_isn, od_isn, .func (PySem.W.fnOf "is_name" "is_name" (defArgs s_is_name) (defBody s_is_name) (defScope s_is_name) .none kV_isn dc_isn pm_isn an_isn cd_isn ct_isn), sl_isn⟩)
    (c_isn : PySem.W.codeIn K cd_isn "is_name" = true)
    (k_isn : PySem.W.keepIn K (.ref f_isn) = true)
    (a_nn : PySem.W.nsIn K mainGlobals "need_name" = some (some (.ref f_nn)))
    (l_nn : K.lookup f_nn = some ⟨oc_nn, od_nn, .func (PySem.W.fnOf "need_name" "need_name" (defArgs s_need_name) (defBody s_need_name) (defScope s_need_name) .none kV_nn dc_nn pm_nn an_nn cd_nn ct_nn), sl_nn⟩)
    (c_nn : PySem.W.codeIn K cd_nn "need_name" = true)
    (k_nn : PySem.W.keepIn K (.ref f_nn) = true)
    (a_pen : PySem.W.nsIn K mainGlobals "_law_pen" = some (some (.ref f_pen)))
    (l_pen : K.lookup f_pen = some ⟨oc_pen, od_pen, .func (PySem.W.fnOf "_law_pen" "_law_pen" (defArgs s__law_pen) (defBody s__law_pen) (defScope s__law_pen) .none kV_pen dc_pen pm_pen an_pen cd_pen ct_pen), sl_pen⟩)
    (c_pen : PySem.W.codeIn K cd_pen "_law_pen" = true)
    (k_pen : PySem.W.keepIn K (.ref f_pen) = true)
    (a_draw : PySem.W.nsIn K mainGlobals "_law_draw" = some (some (.ref f_draw)))
    (l_draw : K.lookup f_draw = some ⟨oc_draw, od_draw, .func (PySem.W.fnOf "_law_draw" "_law_draw" (defArgs s__law_draw) (defBody s__law_draw) (defScope s__law_draw) .none kV_draw dc_draw pm_draw an_draw cd_draw ct_draw), sl_draw⟩)
    (c_draw : PySem.W.codeIn K cd_draw "_law_draw" = true)
    (k_draw : PySem.W.keepIn K (.ref f_draw) = true)
    (a_pick : PySem.W.nsIn K mainGlobals "_law_pick" = some (some (.ref f_pick)))
    (l_pick : K.lookup f_pick = some ⟨oc_pick, od_pick, .func (PySem.W.fnOf "_law_pick" "_law_pick" (defArgs s__law_pick) (defBody s__law_pick) (defScope s__law_pick) .none kV_pick dc_pick pm_pick an_pick cd_pick ct_pick), sl_pick⟩)
    (c_pick : PySem.W.codeIn K cd_pick "_law_pick" = true)
    (k_pick : PySem.W.keepIn K (.ref f_pick) = true)
    (a_let : PySem.W.nsIn K mainGlobals "_law_letters" = some (some (.ref f_let)))
    (l_let : K.lookup f_let = some ⟨oc_let, od_let, .func (PySem.W.fnOf "_law_letters" "_law_letters" (defArgs s__law_letters) (defBody s__law_letters) (defScope s__law_letters) .none kV_let dc_let pm_let an_let cd_let ct_let), sl_let⟩)
    (c_let : PySem.W.codeIn K cd_let "_law_letters" = true)
    (k_let : PySem.W.keepIn K (.ref f_let) = true)
    (a_heard : PySem.W.nsIn K mainGlobals "_law_heard" = some (some (.ref f_heard)))
    (l_heard : K.lookup f_heard = some ⟨oc_heard, od_heard, .func (PySem.W.fnOf "_law_heard" "_law_heard" (defArgs s__law_heard) (defBody s__law_heard) (defScope s__law_heard) .none kV_heard dc_heard pm_heard an_heard cd_heard ct_heard), sl_heard⟩)
    (c_heard : PySem.W.codeIn K cd_heard "_law_heard" = true)
    (k_heard : PySem.W.keepIn K (.ref f_heard) = true)
    (a_right : PySem.W.nsIn K mainGlobals "_law_right" = some (some (.ref f_right)))
    (l_right : K.lookup f_right = some ⟨oc_right, od_right, .func (PySem.W.fnOf "_law_right" "_law_right" (defArgs s__law_right) (defBody s__law_right) (defScope s__law_right) .none kV_right dc_right pm_right an_right cd_right ct_right), sl_right⟩)
    (c_right : PySem.W.codeIn K cd_right "_law_right" = true)
    (k_right : PySem.W.keepIn K (.ref f_right) = true)
    (a_law : PySem.W.nsIn K mainGlobals "law" = some (some (.ref f_law)))
    (l_law : K.lookup f_law = some ⟨oc_law, od_law, .func (PySem.W.fnOf "law" "law" (defArgs s_law) (defBody s_law) (defScope s_law) .none kV_law dc_law pm_law an_law cd_law ct_law), sl_law⟩)
    (c_law : PySem.W.codeIn K cd_law "law" = true)
    (k_law : PySem.W.keepIn K (.ref f_law) = true) :
    ∃ fd : FuncData, (∀ (s : Shared) (v : Value), BindsTo s fd ⟨[v], []⟩ [("_law_script", v)]) ∧ ∀ base : Heap, K.In base → base.Ns mainGlobals mg → FnG l.prog w K mg base CX0 6 fa fd ["_law_script"] (spLaw K) := by
  have e := hfa.symm.trans (PySem.W.mg_of X G a_law)
  cases e
  have mn_int := PySem.W.mg_none_of X G n_int
  have mn_len := PySem.W.mg_none_of X G n_len
  have mn_abs := PySem.W.mg_none_of X G n_abs
  have mn_list := PySem.W.mg_none_of X G n_list
  have mn_range := PySem.W.mg_none_of X G n_range
  have mn_isinstance := PySem.W.mg_none_of X G n_isinstance
  have mn_str := PySem.W.mg_none_of X G n_str
  have mn_repr := PySem.W.mg_none_of X G n_repr
  have mg_MOST_LETTERS := PySem.W.mg_of X G g_MOST_LETTERS
  have m_S := PySem.W.mg_of X G a_S
  have m_C := PySem.W.mg_of X G a_C
  have ox_C : OexC K C := ⟨⟨nm_C, q_C, N_C, bs_C, _, sn_C, sub_C, ab_C, col_C, dd_C, m0_C, m1_C, m2_C, m3_C, m5_C, xL_C, by rfl⟩, sa_C, eC_C, tC_C, kC_C⟩
  have ex_C : ExC K C := ⟨ga_C, gg_C, eC_C, hd_C, ha_C, hn_C, ht_C, hm_C⟩
  have F_IC := fun_mk (st := s_BadName_init) l_IC c_IC k_IC
  have b_IC := F_IC.binds (ps := ["self", "value"]) fun _ _ _ _ _ _ us hl => match us, hl with | [_, _], _ => rfl
  have rx_C : RxC K mg "BadName" C f_IC := ⟨ox_C, a_IC, t_IC, m_C⟩
  have zE_C : ∀ base : Heap, ErrC l.prog w K mg base "BadName" C ["self", "value"] (spI1 C "value") := fun base => ⟨f_IC, _, rx_C, ok_init1 F_IC ox_C no_C_value sc_BadName_init ⟨_, _, _, _, rfl⟩, b_IC⟩
  have F_isn := fun_mk (st := s_is_name) l_isn c_isn k_isn
  have b_isn := F_isn.binds (ps := ["value"]) fun _ _ _ _ _ _ us hl => match us, hl with | [_], _ => rfl
  have m_isn := PySem.W.mg_of X G a_isn
  have F_nn := fun_mk (st := s_need_name) l_nn c_nn k_nn
  have b_nn := F_nn.binds (ps := ["value"]) fun _ _ _ _ _ _ us hl => match us, hl with | [_], _ => rfl
  have m_nn := PySem.W.mg_of X G a_nn
  have F_pen := fun_mk (st := s__law_pen) l_pen c_pen k_pen
  have b_pen := F_pen.binds (ps := ["_law_script"]) fun _ _ _ _ _ _ us hl => match us, hl with | [_], _ => rfl
  have m_pen := PySem.W.mg_of X G a_pen
  have F_draw := fun_mk (st := s__law_draw) l_draw c_draw k_draw
  have b_draw := F_draw.binds (ps := ["_law_pen_here", "_law_many"]) fun _ _ _ _ _ _ us hl => match us, hl with | [_, _], _ => rfl
  have m_draw := PySem.W.mg_of X G a_draw
  have F_pick := fun_mk (st := s__law_pick) l_pick c_pick k_pick
  have b_pick := F_pick.binds (ps := ["_law_pen_here", "_law_some"]) fun _ _ _ _ _ _ us hl => match us, hl with | [_, _], _ => rfl
  have m_pick := PySem.W.mg_of X G a_pick
  have F_let := fun_mk (st := s__law_letters) l_let c_let k_let
  have b_let := F_let.binds (ps := ["_law_pen_here", "_law_many"]) fun _ _ _ _ _ _ us hl => match us, hl with | [_, _], _ => rfl
  have m_let := PySem.W.mg_of X G a_let
  have F_heard := fun_mk (st := s__law_heard) l_heard c_heard k_heard
  have b_heard := F_heard.binds (ps := ["_law_thing"]) fun _ _ _ _ _ _ us hl => match us, hl with | [_], _ => rfl
  have m_heard := PySem.W.mg_of X G a_heard
  have F_right := fun_mk (st := s__law_right) l_right c_right k_right
  have b_right := F_right.binds (ps := ["_law_thing", "_law_is_so"]) fun _ _ _ _ _ _ us hl => match us, hl with | [_, _], _ => rfl
  have m_right := PySem.W.mg_of X G a_right
  have F_law := fun_mk (st := s_law) l_law c_law k_law
  have b_law := F_law.binds (ps := ["_law_script"]) fun _ _ _ _ _ _ us hl => match us, hl with | [_], _ => rfl
  have m_law := PySem.W.mg_of X G a_law
  refine ⟨PySem.W.fnOf "law" "law" (defArgs s_law) (defBody s_law) (defScope s_law) .none kV_law dc_law pm_law an_law cd_law ct_law, fun s v => .of_eq rfl, fun base _ _ => ?_⟩
  have T : Txt K mg := ⟨mn_int, mn_len, mn_abs, mn_list, mn_range, mn_isinstance, mn_str, mn_repr, ⟨_, mg_MOST_LETTERS⟩⟩
  have U : TxE K mg S C := ⟨m_S, m_C, ex_C, exm_mk bS iS tS sCS, kit_self K C, no_C_value⟩
  have cI : CalO l.prog w K mg base "is_name" 1 ["value"] spIsName (kbV K) := ⟨_, _, ok_is_name F_isn T, m_isn, k_isn, b_isn, kb_mk F_isn⟩
  have cN : CalX l.prog w K mg base "need_name" 3 ["value"] (spNeedName C) (kbV K) := ⟨_, _, ok_need_name F_nn cI (zE_C base), m_nn, k_nn, b_nn, kb_mk2 F_nn⟩
  have cPn : CalO l.prog w K mg base "_law_pen" 1 ["_law_script"] (spPen K) (fun _ => True) := ⟨_, _, ok_pen F_pen T, m_pen, k_pen, b_pen, trivial⟩
  have cD : CalO l.prog w K mg base "_law_draw" 1 ["_law_pen_here", "_law_many"] spDraw (fun _ => True) := ⟨_, _, ok_draw F_draw T, m_draw, k_draw, b_draw, trivial⟩
  have cP : CalO l.prog w K mg base "_law_pick" 2 ["_law_pen_here", "_law_some"] (spPick K) (fun _ => True) := ⟨_, _, ok_pick F_pick T cD, m_pick, k_pick, b_pick, trivial⟩
  have cL : CalO l.prog w K mg base "_law_letters" 3 ["_law_pen_here", "_law_many"] spLetters (fun _ => True) := ⟨_, _, ok_letters F_let T cP, m_let, k_let, b_let, trivial⟩
  have cH : CalO l.prog w K mg base "_law_heard" 4 ["_law_thing"] spHeard (fun _ => True) := ⟨_, _, ok_heard F_heard T U cN, m_heard, k_heard, b_heard, trivial⟩
  have cR : CalG l.prog w K mg base "_law_right" 5 ["_law_thing", "_law_is_so"] spRight (fun _ => True) := ⟨_, _, ok_right F_right T cI cH, m_right, k_right, b_right, trivial⟩
  exact ok_law F_law T cPn cD cP cL cR
theorem sp_law_of (K : PySem.W.Frag) (H : Hp) (a : Addr) (ns : List Int) (hl : ns.length ≤ 63) (ho : Only H) (h : SqL K H a (ns.map V.int)) : spLaw K [.ref a] H (fun v _ => v = .bl true) fun _ _ _ => False := ⟨a, ns, rfl, h, fun _ => rfl⟩
end LW
open HX
open PySem PySem.W PyProof.Rows
set_option maxRecDepth 100000 in
set_option maxHeartbeats 0 in
theorem PySem.Challenge.cw_holeshift_k02_names_told_holds : PySem.Challenge.rw_holeshift_k02_names_told.Holds := by
  w_on; o_law; k_head; (case hw => w_witness2)
  k_fill
  refine walkG (l := PySem.Challenge.rw_holeshift_k02_names_told) (n := 63) (k := 6) (x := "_law_script") (sp := LW.spLaw) rfl (by decide) rfl ⟨rfl, by decide, by decide⟩ (fun w h Y => PySem.W.kIn_of Y) ?F (fun K H a ns hl ho h => LW.sp_law_of K H a ns hl ho h)
  case F =>
    intro w mg fa h KX G hmg
    refine' LW.all_mk KX G hmg ?n_int ?n_len ?n_abs ?n_list ?n_range ?n_isinstance ?n_str ?n_repr ?g_MOST_LETTERS ?a_S ?iS ?tS ?bS ?a_C ?xL_C ?sa_C ?eC_C ?tC_C ?kC_C ?ga_C ?gg_C ?hd_C ?ha_C ?hn_C ?ht_C ?hm_C ?no_C_value ?a_IC ?t_IC ?l_IC ?c_IC ?k_IC ?sCS ?a_isn ?l_isn ?c_isn ?k_isn ?a_nn ?l_nn ?c_nn ?k_nn ?a_pen ?l_pen ?c_pen ?k_pen ?a_draw ?l_draw ?c_draw ?k_draw ?a_pick ?l_pick ?c_pick ?k_pick ?a_let ?l_let ?c_let ?k_let ?a_heard ?l_heard ?c_heard ?k_heard ?a_right ?l_right ?c_right ?k_right ?a_law ?l_law ?c_law ?k_law
    (case n_int => k_is)
    (case n_len => k_is)
    (case n_abs => k_is)
    (case n_list => k_is)
    (case n_range => k_is)
    (case n_isinstance => k_is)
    (case n_str => k_is)
    (case n_repr => k_is)
    (case g_MOST_LETTERS => k_is)
    (case a_S => k_is)
    (case iS => k_is)
    (case tS => k_is)
    (case bS => k_is)
    (case a_C => k_is)
    (case xL_C => k_is)
    (case sa_C => k_is)
    (case eC_C => k_is)
    (case tC_C => k_is)
    (case kC_C => k_is)
    (case ga_C => k_is)
    (case gg_C => k_is)
    (case hd_C => k_is)
    (case ha_C => k_is)
    (case hn_C => k_is)
    (case ht_C => k_is)
    (case hm_C => k_is)
    (case no_C_value => k_is)
    (case a_IC => k_is)
    (case t_IC => k_is)
    (case l_IC => k_is)
    (case c_IC => k_is)
    (case k_IC => k_is)
    (case sCS => k_is)
    (case a_isn => k_is)
    (case l_isn => k_is)
    (case c_isn => k_is)
    (case k_isn => k_is)
    (case a_nn => k_is)
    (case l_nn => k_is)
    (case c_nn => k_is)
    (case k_nn => k_is)
    (case a_pen => k_is)
    (case l_pen => k_is)
    (case c_pen => k_is)
    (case k_pen => k_is)
    (case a_draw => k_is)
    (case l_draw => k_is)
    (case c_draw => k_is)
    (case k_draw => k_is)
    (case a_pick => k_is)
    (case l_pick => k_is)
    (case c_pick => k_is)
    (case k_pick => k_is)
    (case a_let => k_is)
    (case l_let => k_is)
    (case c_let => k_is)
    (case k_let => k_is)
    (case a_heard => k_is)
    (case l_heard => k_is)
    (case c_heard => k_is)
    (case k_heard => k_is)
    (case a_right => k_is)
    (case l_right => k_is)
    (case c_right => k_is)
    (case k_right => k_is)
    (case a_law => k_is)
    (case l_law => k_is)
    (case c_law => k_is)
    (case k_law => k_is)
