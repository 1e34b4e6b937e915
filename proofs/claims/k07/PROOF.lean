import PyProof.Rows.All
import Wide.All
import OpenK.AllK
import Wide.FinOn
import HandS.Base
import HandS.Call
import HandS.List
import HandS.Ends
import HandS.Iter
import HandS.Words
import HandS.Wide
import HandS.WideBits
import HandS.IsInst
import HandS.Style
import HandS.TupAny
import HandS.Comp
import HandS.Dict
import HandS.Exc
import HandS.ExcField
import HandS.TryMany
import HandS.Lambda
import PyProof.ExcBaseAll.ArithmeticError
import PyProof.ExcBaseAll.OverflowError
import HandS.Small
import HandS.CallLocal
import KE.KNestM
import HandS.EndTab
import HandS.WordsExc
import HandS.Text
import HandS.StrMore
import HandS.Deep
import PySem.Challenge.RW_trailparts_k07_deeds_known
set_option Elab.async false
set_option linter.all false
set_option maxRecDepth 100000
set_option maxHeartbeats 2000000
namespace Tp
open PySem PySem.Spec PyProof.Rows L2

/-! ### repr of data -/
theorem reprD {X : Cx} (hg : X.A.guards = some []) (hu : X.A.units + 64 < cLine) :
    CallR X (.builtin "repr") (fun xs H Q => ∃ v d, xs = [v] ∧ Dp X.K H v d ∧ d.showable = true ∧ d.hasDict = false ∧ d.depth ≤ 40 ∧ d.shown.length ≤ sizeLine ∧ Q (.str d.shown) H) := by
  intro pins s σ H xs us Q I r h
  obtain ⟨v, d, rfl, hd, hs, hnd, hdep, hsz, q⟩ := h
  obtain ⟨u, rfl, ru⟩ := vals1 r
  obtain ⟨as, rd⟩ := Dp.reads I d v u hd ru
  cases hd with
  | non =>
    cases (show u = Value.none from ru)
    exact PySem.P.repr_of_none ⟨.str _, H, I.tok _, ⟨_, rfl⟩, q⟩
  | bl b =>
    cases (show u = Value.bool b from ru)
    exact PySem.P.repr_of_bool ⟨.str _, H, I.tok _, ⟨_, rfl⟩, q⟩
  | int i =>
    obtain ⟨t, rfl⟩ := (show ∃ t, u = Value.int i t from ru)
    exact PySem.P.repr_of_int (by simpa [PyData.showable] using hs) ⟨.str _, H, I.tok _, ⟨_, rfl⟩, q⟩
  | str x =>
    obtain ⟨t, rfl⟩ := (show ∃ t, u = Value.str x t from ru)
    exact PySem.P.repr_of_str ⟨.str _, H, I.tok _, ⟨_, rfl⟩, q⟩ hsz
  | lst hq ha =>
    cases (show u = Value.ref _ from ru)
    exact repr_of_reads' rd hs (fun z => by rw [hnd] at z; cases z) hg (by omega) (fun _ _ e => e) (fun h' u tk hk => ⟨.str _, H, I.kept hk, ⟨_, rfl⟩, q⟩) hsz
  | tup hq ha =>
    cases (show u = Value.ref _ from ru)
    exact repr_of_reads' rd hs (fun z => by rw [hnd] at z; cases z) hg (by omega) (fun _ _ e => e) (fun h' u tk hk => ⟨.str _, H, I.kept hk, ⟨_, rfl⟩, q⟩) hsz

/-! ### the law itself: its call is at a known place, so the guards are known -/
/-- the law's promise at the caller's place alone -/
def AtC (P : Program) (w : World) (K : PySem.W.Frag) (mg : Str → Option Value) (base : Heap) (CX : CXT) (f : Addr) (fd : FuncData) (x : Str) (sp : Sp) : Prop :=
  ∀ (s : Shared) (H : Hp) (args : Args) (u : Value) (v : V) (Q : VK) (E : XK), Env0 P w K mg base callerA [] s H → BindsTo s fd args [(x, u)] → RelV v u → sp [v] H Q E →
    codeAny (model P w) callerA (.call (.ref f) args) (CR CX [] P w H s Q E) s
theorem room_caller {k : Nat} (h : k ≤ 40) : Room k callerA := by
  have h2 : Room 40 callerA := ⟨rfl, by decide, by decide⟩
  exact h2.mono h

/-- a def at the caller's place, from its body; the guards there are none -/
theorem atC_of {CX : CXT} {P : Program} {w : World} {K : PySem.W.Frag} {mg : Str → Option Value} {base : Heap} {k : Nat} {f : Addr} {name qual : Str} {params : Arguments} {body : List Stmt} {scope : Scope}
    {dV kV doc pm cdv ct oc : Value} {an od : Option Addr} {osl : Array (Option Value)} {N : List Str} {x : Str} {sp : Sp}
    (lk : K.lookup f = some ⟨oc, od, .func (PySem.W.fnOf name qual params body scope dV kV doc pm an cdv ct), osl⟩) (hcd : PySem.W.codeIn K cdv qual = true) (S : FnScope N [x] scope) (hk : k ≤ 30)
    (len : ∀ vs H Q E, sp vs H Q E → vs.length = 1)
    (hbody : ∀ (A : Around) (outer : List Env) (s : Shared) (H : Hp) (vs : List V) (Q : VK) (E : XK), A.guards = some [] → Room k (A.deeper (envOfC qual scope s.heap.objs.size f cdv)) → sp vs H Q E →
      ∃ t, PSs (cxOf CX P w K mg base N qual scope f cdv A outer s H E) body t ∧ t { nx := fun _ H' => Q .non H', rt := Q } (start N vs) H) :
    AtC P w K mg base CX f (PySem.W.fnOf name qual params body scope dV kV doc pm an cdv ct) x sp := by
  intro s H args u v Q E e0 hb rv hsp
  have hr : Room (k + 1) callerA := room_caller (by omega)
  have KX : K.In s.heap := e0.mod.kin.keeps fun b o e => (e0.bs b o e).1
  have lim : s.heap.NoLimit := e0.mod.nolimit.keeps fun b o e => (e0.bs b o e).1
  have hkind : ∀ y ∈ [(x, u)], scope.names.lookup y.1 = some .local ∨ (scope.names.lookup y.1 = some .cell ∧ ((cellsFrom (s.heap.objs.size + 1) scope.names []).lookup y.1).isSome = true) := by
    intro y hy
    obtain rfl : y = (x, u) := List.mem_singleton.mp hy
    exact (S.par x (by simp)).imp id fun q => ⟨q, PySem.W.cellsFrom_some _ _ _ (.inl q)⟩
  refine codeAny_call_function hr.depth (KX _ _ lk) rfl S.co S.gen rfl (PySem.W.codeRec_of KX hcd) (hb _ _ _ _ ?_)
  refine wpAny_newFunctionEnv_cells S.kind hkind fun env he s1 xn => ?_
  subst he
  refine ⟨lim.keeps xn.toInCall.keep, codeAny_func ?_⟩
  obtain ⟨t, ht, hq⟩ := hbody callerA [] s H [v] Q E rfl (hr.deeper _) hsp
  have I : Inv (cxOf CX P w K mg base N qual scope f cdv callerA [] s H E) [] (start N [v]) H s1 :=
    inv_start (ps := [x]) (us := [u]) S hr.hd e0 rfl (.cons rv .nil) xn
  refine wpAny_mono (ht.run [] s1 (start N [v]) H _ I hq) (fun fl s' hs => ?_) fun _ _ hs => hs
  cases fl with
  | brk =>
    obtain ⟨_, _, _, q⟩ := hs
    exact q.elim
  | cont =>
    obtain ⟨_, _, _, q⟩ := hs
    exact q.elim
  | next =>
    obtain ⟨σ', H', J, q⟩ := hs
    exact ⟨.non, H', J.os, J.bare, J.base, J.hok, rfl, q⟩
  | ret z =>
    obtain ⟨v', σ', H', J, rv', q⟩ := hs
    exact ⟨v', H', J.os, J.bare, J.base, J.hok, rv', q⟩

/-- the abstract heap at the entry: the script alone, if it is not one of the module's own objects -/
noncomputable def scriptHp (K : PySem.W.Frag) (a : Addr) (ob : Obj) (xs : List V) : Hp := fun b => if b = a ∧ K.lookup a = none then some (.frz ob (.lst xs)) else none
theorem scriptHp_some {K : PySem.W.Frag} {a b : Addr} {ob : Obj} {xs : List V} {o : HO} (h : scriptHp K a ob xs b = some o) : b = a ∧ K.lookup a = none ∧ o = .frz ob (.lst xs) := by
  unfold scriptHp at h
  split at h
  · rename_i c
    exact ⟨c.1, c.2, (Option.some.inj h).symm⟩
  · cases h
theorem script_only {K : PySem.W.Frag} {a : Addr} {ob : Obj} {xs : List V} : Only (scriptHp K a ob xs) := by
  intro b
  cases e : scriptHp K a ob xs b with
  | none => exact .inl rfl
  | some o =>
    obtain ⟨_, _, rfl⟩ := scriptHp_some e
    exact .inr ⟨_, _, rfl⟩

theorem law_at {P : Program} {w : World} {K : PySem.W.Frag} {mg mb : Str → Option Value} {CX : CXT} {fa a : Addr} {fd : FuncData} {x : Str} {sp : Sp} {s1 : Shared} {vs : List Value} {ns : List Int}
    (KX : K.In s1.heap) (hns : s1.heap.Ns mainGlobals mg) (hb : s1.heap.Ns builtinsNs mb) (hbb : ∀ y : Str, y ≠ "__name__" → mb y = bootBuiltins y) (hlim : s1.heap.NoLimit) (hg : s1.gens = #[])
    (ha : s1.heap.get? a = some { cls := .type "list", data := .seq vs.toArray }) (hi : IntsAre vs ns) (hl : ns.length ≤ sizeLine)
    (F : ∀ base : Heap, K.In base → base.Ns mainGlobals mg → AtC P w K mg base CX fa fd x sp) (hbind : ∀ (s : Shared) (u : Value), BindsTo s fd ⟨[u], []⟩ [(x, u)])
    (hsp : ∀ H : Hp, Only H → SqL K H a (ns.map V.int) → sp [.ref a] H (fun v _ => v = .bl true) fun _ _ _ => False)
    (hCX : ∀ H e s', CX [] H s1 (fun _ _ _ => False) e s' → False) :
    codeAny (model P w) callerA (.call (.ref fa) ⟨[.ref a], []⟩) (fun r s' => r = .ok (.ret (.bool true)) ∧ OldK s1.heap s'.heap ∧ s'.os = s1.os ∧ AllBare s'.gens) s1 := by
  have rv := vals_ints hi
  have lenV := hi.length
  generalize eH : scriptHp K a { cls := .type "list", data := .seq vs.toArray } (ns.map V.int) = H
  have hO : Only H := by
    rw [← eH]
    exact script_only
  have hat : ∀ {b : Addr} {o : HO}, H b = some o → b = a ∧ K.lookup a = none ∧ o = .frz { cls := .type "list", data := .seq vs.toArray } (.lst (ns.map V.int)) := fun {b o} q => by
    rw [← eH] at q
    exact scriptHp_some q
  have hS : SqL K H a (ns.map V.int) := by
    cases hk : K.lookup a with
    | none =>
      refine .inl (.inr ⟨{ cls := .type "list", data := .seq vs.toArray }, ?_⟩)
      rw [← eH]
      exact if_pos ⟨rfl, hk⟩
    | some o =>
      have e := KX a o hk
      rw [ha] at e
      cases e
      exact .inr ⟨_, vs.toArray, _, hk, rfl, rfl, rfl, by rw [List.size_toArray, lenV]; exact hl, by simpa using rv⟩
  have hok : HOk P w H s1.heap := fun b o q => by
    obtain ⟨rfl, _, rfl⟩ := hat q
    exact ⟨ha, by rw [List.length_map]; exact hl, vs, _, rv, ha⟩
  have none_of : ∀ {b : Addr} {o : Obj}, s1.heap.get? b = some o → (b = a → K.lookup a = none → False) → H b = none := fun {b o} _ z => by
    cases q : H b with
    | none => rfl
    | some u =>
      obtain ⟨e1, e2, _⟩ := hat q
      exact (z e1 e2).elim
  have dictFree : ∀ {b : Addr} {o : Obj} {es : Array DictEntry} {ep : Nat}, s1.heap.get? b = some o → o.data = .dict es ep → H b = none := fun {b o es ep} e d => none_of e fun e1 _ => by
    subst e1
    rw [ha] at e
    cases e
    cases (show Data.seq vs.toArray _ = Data.dict es ep from d)
  have nsK : ∀ {b : Addr} {m : Str → Option Value}, s1.heap.Ns b m → (hidT s1.heap H).Ns b m := by
    rintro b m ⟨o, es, ep, e, d, r⟩
    exact ⟨o, es, ep, hidT_get e (dictFree e d), d, r⟩
  have hKb : K.In (hidT s1.heap H) := fun b o e => hidT_get (KX b o e) (none_of (KX b o e) fun e1 e2 => by
    subst e1
    rw [e2] at e
    cases e)
  obtain ⟨mc, lim1, lim2⟩ := hlim
  have hM : Mod K mg (hidT s1.heap H) := ⟨hKb, nsK hns, ⟨mb, nsK hb, hbb⟩, mc, nsK lim1, lim2⟩
  have e0 : Env0 P w K mg (hidT s1.heap H) callerA [] s1 H :=
    ⟨rfl, hM, fun b o e => of_hidT e, Nat.le_of_eq (hidT_size _ _), trivial, fun b hb => absurd (show b ∈ ([] : List Addr) from hb) (by simp), hok, .of_eq hg⟩
  refine codeAny_mono (F _ hKb (nsK hns) s1 H ⟨[.ref a], []⟩ (.ref a) (.ref a) _ _ e0 (hbind s1 (.ref a)) rfl (hsp H hO hS)) fun r s' h => ?_
  cases r with
  | error e => exact (hCX H e s' h).elim
  | ok fl =>
    cases fl with
    | next => exact h.elim
    | brk => exact h.elim
    | cont => exact h.elim
    | ret u =>
      obtain ⟨v, H', os, bare, un, hok', r', q⟩ := h
      obtain rfl : v = .bl true := q
      obtain rfl : u = Value.bool true := r'
      refine ⟨rfl, OldK.of_keep fun b o e => ?_, os, bare⟩
      cases q : H b with
      | none => exact un.keep b o e q (fun z => absurd (show b ∈ ([] : List Addr) from z) (by simp)) (by simp)
      | some u =>
        obtain ⟨e1, e2, e3⟩ := hat q
        subst e3
        have z2 := un.frzs b _ _ q
        obtain ⟨k1, _⟩ := hok b _ q
        obtain ⟨k2, _⟩ := hok' b _ z2
        rw [e] at k1
        cases k1
        exact k2

theorem walk_at_law {l : PySem.W.OpenLaw} {n : Nat} {q : Program} {loose : List Str} {XP : (Str → Option Value) → Heap → Prop} {YP : World → Heap → Prop} {d : DefRec} {K : Params → PySem.W.Frag} {CX : CXT} {sp : PySem.W.Frag → Sp} {x : Str}
    (hn : l.most = some n) (hn2 : n ≤ sizeLine) (hdf : d.params.defaults = []) (hY : ∀ (w : World) (h : Heap), YP w h → (K w.params).In h)
    (F : ∀ (w : World) (mg : Str → Option Value) (fa : Addr) (h : Heap), (K w.params).In h → h.Ns mainGlobals mg → mg d.name = some (.ref fa) →
      ∃ fd : FuncData, (∀ (s : Shared) (u : Value), BindsTo s fd ⟨[u], []⟩ [(x, u)]) ∧ ∀ base : Heap, (K w.params).In base → base.Ns mainGlobals mg → AtC l.prog w (K w.params) mg base CX fa fd x (sp (K w.params)))
    (hsp : ∀ (K : PySem.W.Frag) (H : Hp) (a : Addr) (ns : List Int), ns.length ≤ n → Only H → SqL K H a (ns.map V.int) → sp K [.ref a] H (fun v _ => v = .bl true) fun _ _ _ => False)
    (hCX : ∀ (H : Hp) (s : Shared) (e : Value) (s' : Shared), CX [] H s (fun _ _ _ => False) e s' → False) :
    PySem.W.WalkO q loose XP YP l.row.toRowW d [] (fun f vs => PySem.call f vs) := by
  refine Att.attach_call hn hdf fun w s0 s1 mg mb fa o pm cd doc a vs ns G Y ho hd hcd hmg hobj hints hlen hgen => ?_
  have KX := hY w _ Y
  obtain ⟨fd, hb, hF⟩ := F w mg fa _ KX G.T.g hmg
  exact law_at KX G.T.g G.T.b G.T.builtins G.T.nolimit hgen hobj hints (Nat.le_trans hlen hn2) hF hb (fun H hO hS => hsp _ H a ns hlen hO hS) fun H e s' => hCX H s1 e s'
end Tp

set_option Elab.async false
set_option linter.all false
set_option maxRecDepth 100000
set_option maxHeartbeats 2000000
namespace Tp
open PySem PySem.Spec PyProof.Rows L2

/-! ### heaps that only grow -/
theorem Same.up {H H1 : Hp} {p : Addr} {o : HO} (e : Same H H1) (h : H1 p = none) : Same H (upd H1 p o) := fun b u q => by
  have q1 := e b u q
  rw [upd_ne (ne_of_none q1 h)]
  exact q1
theorem Same.up0 {H : Hp} {p : Addr} {o : HO} (h : H p = none) : Same H (upd H p o) := Same.up (Same.refl H) h
theorem Same.sqt {K : PySem.W.Frag} {H H' : Hp} {a : Addr} {xs : List V} (e : Same H H') (h : SqT K H a xs) : SqT K H' a xs := by
  rcases h with (h | ⟨o, h⟩) | h
  · exact .inl (.inl (e _ _ h))
  · exact .inl (.inr ⟨o, e _ _ h⟩)
  · exact .inr h
mutual
theorem dp_same {K : PySem.W.Frag} {H H' : Hp} (e : Same H H') : ∀ (d : PyData) (v : V), Dp K H v d → Dp K H' v d
  | .none, _, h => by
    cases h
    exact .non
  | .bool _, _, h => by
    cases h
    exact .bl _
  | .int _, _, h => by
    cases h
    exact .int _
  | .str _, _, h => by
    cases h
    exact .str _
  | .list ds, _, h => by
    cases h with
    | lst q a => exact .lst (e.seq q) (dpa_same e ds _ a)
  | .tuple ds, _, h => by
    cases h with
    | tup q a => exact .tup (Same.sqt e q) (dpa_same e ds _ a)
  | .dict _, _, h => by cases h
theorem dpa_same {K : PySem.W.Frag} {H H' : Hp} (e : Same H H') : ∀ (ds : List PyData) (vs : List V), DpAll K H vs ds → DpAll K H' vs ds
  | [], _, h => by
    cases h
    exact .nil
  | d :: ds, _, h => by
    cases h with
    | cons a b => exact .cons (dp_same e d _ a) (dpa_same e ds _ b)
end

/-! ### defs of the module that may be called by their names -/
structure Cal (P : Program) (w : World) (K : PySem.W.Frag) (mg : Str → Option Value) (base : Heap) (k : Nat) (x : Str) (sp : Sp) : Prop where
  ex : ∃ (f : Addr) (fd : FuncData) (ps : List Str), FnOk P w K mg base L2.CX0 k f fd ps sp ∧ mg x = some (.ref f) ∧ PySem.W.keepIn K (.ref f) = true ∧ Binds K fd ps []
theorem pe_f {X : Cx} {k j : Nat} {x : Str} {sp : Sp} {p pos : Pos} {e : Expr} {es : List Expr} {t : TA} (c : Cal X.prog X.w X.K X.mg X.base k x sp) (hr : Room j X.A) (hg : Gl X x) (ha : PA X (e :: es) t) (hk : k ≤ j := by decide)
    (hdb : (x == ("__debug__" : Str)) = false := by decide) (he : starEach (e :: es) X.env = (false, eval e X.env) :: starEach es X.env := by rfl) (hpl : (backTo pos (starEach es X.env)).any (·.1) = false := by rfl) :
    PE X (.Call (.Name x p) (e :: es) [] pos) (tCall sp [] E0 t) := by
  obtain ⟨f, fd, ps, F, hm, kp, b⟩ := c.ex
  exact pe_call F (hr.mono hk) hg hm kp b .nil pass0 ha hdb he hpl
/-- a def of the text as it stands behind the top, under its name -/
structure DefIn (K : PySem.W.Frag) (mg : Str → Option Value) (x : Str) (st : Stmt) : Prop where
  ex : ∃ (f : Addr) (fd : FuncData), Fun K x x st f fd ∧ mg x = some (.ref f)
theorem cal_of {P : Program} {w : World} {K : PySem.W.Frag} {mg : Str → Option Value} {base : Heap} {x : Str} {st : Stmt} {k : Nat} {ps : List Str} {sp : Sp} (D : DefIn K mg x st)
    (h : ∀ f fd, Fun K x x st f fd → FnOk P w K mg base L2.CX0 k f fd ps sp)
    (hb : ∀ (kV doc pm : Value) (an : Option Addr) (cdv ct : Value) (us : List Value), us.length = ps.length → bindArgs (PySem.W.fnOf x x (defArgs st) (defBody st) (defScope st) .none kV doc pm an cdv ct) ⟨us, []⟩ = pure (ps.zip us)) :
    Cal P w K mg base k x sp := by
  obtain ⟨f, fd, F, hm⟩ := D.ex
  exact ⟨f, fd, ps, h f fd F, hm, F.kp, F.binds hb⟩

/-! ### a for over enumerate(list) -/
theorem for_enum {K : PySem.W.Frag} {a : Addr} {xs : List V} {g : TG} {tb : TS} {D : Ends} {σ : L2.St} {H : Hp} (Pv : Nat → L2.St → Hp → Prop) (h0 : Pv 0 σ H) (hl : ∀ i σ H, i ≤ xs.length → Pv i σ H → SqL K H a xs)
    (hs : ∀ i x T σ H, xs[i]? = some x → Pv i σ H → H T = none → g (.ref T) σ (upd H T (.tup [.int ((i : Nat) : Int), x])) fun σ2 H2 => tb { D with nx := Pv (i + 1), ct := Pv (i + 1), bk := D.nx } σ2 H2)
    (hd : ∀ σ H, Pv xs.length σ H → D.nx σ H) :
    ∃ W : Nat → Nat → L2.St → Hp → Prop, (∃ m, W 0 m σ H) ∧ ∀ i m σ H, W i m σ H →
      ((Ite K a).stop i H ∧ D.nx σ H) ∨ ((Ite K a).go i H ∧ ∃ N : L2.St → Hp → Prop, (∀ σ' H', N σ' H' → ∃ m', m' < m ∧ W (i + 1) m' σ' H') ∧ ∀ x H', (Ite K a).yld i H x H' → g x σ H' fun σ2 H2 => tb { D with nx := N, ct := N, bk := D.nx } σ2 H2) := by
  refine ⟨fun i m σ H => m + i = xs.length ∧ Pv i σ H, ⟨xs.length, by omega, h0⟩, ?_⟩
  rintro i m σ H ⟨e, p⟩
  have q := hl i σ H (by omega) p
  by_cases hlt : i < xs.length
  · have hx : xs[i]? = some xs[i] := List.getElem?_eq_getElem hlt
    refine .inr ⟨⟨xs, _, q, hx⟩, Pv (i + 1), fun σ' H' p' => ⟨m - 1, by omega, by omega, p'⟩, fun x H' y => ?_⟩
    obtain ⟨T, z, rfl, nT, rfl, fz⟩ := y
    exact hs i z T σ H (fz xs q) p nT
  · have ei : i = xs.length := by omega
    subst ei
    exact .inl ⟨⟨xs, q, Nat.le_refl _⟩, hd σ H p⟩
end Tp

set_option Elab.async false
set_option linter.all false
set_option maxRecDepth 100000
set_option maxHeartbeats 2000000
namespace Tp
open PySem PySem.Spec PyProof.Rows L2

/-! ### short answers -/
theorem ixl {K : PySem.W.Frag} {H : Hp} {p : Addr} {xs : List V} {j : Nat} {v : V} {R : VK} (h : H p = some (.lst xs)) (e : xs[j]? = some v) (r : R v H) : rIx K (.ref p) (.int (j : Int)) H R := .inl ⟨p, xs, _, v, rfl, rfl, SqL.of h, atI_nat e, r⟩
theorem ixlS {K : PySem.W.Frag} {H : Hp} {p : Addr} {xs : List V} {z : Int} {j : Nat} {v : V} {R : VK} (h : SqL K H p xs) (ez : z = (j : Int)) (e : xs[j]? = some v) (r : R v H) : rIx K (.ref p) (.int z) H R := by
  subst ez
  exact .inl ⟨p, xs, _, v, rfl, rfl, h, atI_nat e, r⟩
theorem ixt {K : PySem.W.Frag} {H : Hp} {p : Addr} {xs : List V} {j : Nat} {v : V} {R : VK} (h : H p = some (.tup xs)) (e : xs[j]? = some v) (r : R v H) : rIx K (.ref p) (.int (j : Int)) H R := .inr (.inl ⟨p, xs, _, v, rfl, rfl, SqT.of h, atI_nat e, r⟩)
theorem lens (n : Nat) (h : n ≤ 1000) : n ≤ sizeLine := Nat.le_of_lt (small1000 h)

/-! ### a word in the middle: what follows is shown once -/
theorem pe_cut {X : Cx} {e : Expr} {te : TE} (h : PE X e te) : PE X e (fun σ H Q => ∃ M : VK, te σ H M ∧ ∀ v H', M v H' → Q v H') := by
  refine ⟨fun pins s σ H Q I hq => ?_⟩
  obtain ⟨M, hm, k⟩ := hq
  exact thn (h.run pins s σ H M I hm) fun u s1 ⟨v, H1, I1, r1, q1⟩ => ⟨v, H1, I1, r1, k v H1 q1⟩
theorem pss_mid {X : Cx} {st : Stmt} {sts : List Stmt} {t u : TS} (h1 : PS X st t) (h2 : PSs X sts u) : PSs X (st :: sts) (fun D σ H => ∃ M : L2.St → Hp → Prop, t { D with nx := M } σ H ∧ ∀ σ' H', M σ' H' → u D σ' H') := by
  refine ⟨fun pins s σ H D I hq => ?_⟩
  obtain ⟨M, hm, k⟩ := hq
  refine wpAny_execs_cons (thn (h1.run pins s σ H { D with nx := M } I hm) fun f s1 q => ?_)
  cases f with
  | next =>
    obtain ⟨σ', H', I', q⟩ := q
    exact h2.run pins s1 σ' H' D I' (k σ' H' q)
  | ret v => exact q
  | brk => exact q
  | cont => exact q

/-! ### the law's numbers: a bag is a list of two ints, none below nought -/
def BagAt (H : Hp) (p : Addr) : Prop := ∃ a b : Int, H p = some (.lst [.int a, .int b]) ∧ 0 ≤ a ∧ 0 ≤ b ∧ b < 2147483563
/-- all but p is as it was -/
def But (p : Addr) (H H' : Hp) : Prop := ∀ q, q ≠ p → H' q = H q
theorem But.refl (p : Addr) (H : Hp) : But p H H := fun _ _ => rfl
theorem But.trans {p : Addr} {H H1 H2 : Hp} (a : But p H H1) (b : But p H1 H2) : But p H H2 := fun q h => (b q h).trans (a q h)
/-- what was there stays, but for the bag at p -/
def Grow (p : Addr) (H H' : Hp) : Prop := ∀ q o, q ≠ p → H q = some o → H' q = some o
theorem Grow.refl (p : Addr) (H : Hp) : Grow p H H := fun _ _ _ h => h
theorem Grow.trans {p : Addr} {H H1 H2 : Hp} (a : Grow p H H1) (b : Grow p H1 H2) : Grow p H H2 := fun q o n h => b q o n (a q o n h)
theorem But.grow {p : Addr} {H H' : Hp} (b : But p H H') : Grow p H H' := fun q _ n h => (b q n).trans h
theorem Same.grow {p : Addr} {H H' : Hp} (b : Same H H') : Grow p H H' := fun q o _ h => b q o h
theorem Grow.same {p : Addr} {H H1 H2 : Hp} (e : Same H H1) (n : H p = none) (g : Grow p H1 H2) : Same H H2 := fun q o h => g q o (ne_of_none h n) (e q o h)
theorem BagAt.keep {H H' : Hp} {p : Addr} (h : BagAt H p) (e : Same H H') : BagAt H' p := by
  obtain ⟨a, b, hp, r⟩ := h
  exact ⟨a, b, e _ _ hp, r⟩
theorem BagAt.there {H : Hp} {p : Addr} (h : BagAt H p) : H p ≠ none := by
  obtain ⟨a, b, hp, _⟩ := h
  rw [hp]
  intro z
  cases z
theorem BagAt.new {H : Hp} {p q : Addr} (h : BagAt H p) (n : H q = none) : q ≠ p := fun e => h.there (e ▸ n)

def spBag (K : PySem.W.Frag) : Sp := fun vs H Q _ => ∃ (a : Addr) (ns : List Int) (k : Int), vs = [.ref a, .int k] ∧ SqL K H a (ns.map V.int) ∧ ns.length ≤ 100 ∧ 0 ≤ k ∧ k ≤ 100 ∧
  ∀ H' p, Same H H' → H p = none → BagAt H' p → Q (.ref p) H'
def spTake : Sp := fun vs H Q _ => ∃ (p : Addr) (m : Int), vs = [.ref p, .int m] ∧ BagAt H p ∧ 0 < m ∧ m.natAbs < 2 ^ 250 ∧
  ∀ H' r, But p H H' → BagAt H' p → 0 ≤ r → r < m → Q (.int r) H'

/-! ### what a part is -/
def kinds : List String := ["NoneType", "bool", "int", "str", "list", "tuple", "dict"]
def partB (x y : Int) : Bool := decide (1 ≤ y) && (decide (Builtin.bitAnd y (y - 1) = 0) && (decide (0 ≤ x) && (decide (x ≤ y) && (decide (y = 1) || decide (Builtin.bitAnd x 1 = 1)))))
def tupPart : List V → Bool
  | [.int x, .int y] => partB x y
  | _ => false
/-- a value of one of the plain kinds -/
def Known (K : PySem.W.Frag) (H : Hp) (y : V) : Prop := ∃ n, TyX K H y (.type n) ∧ n ∈ kinds
theorem Known.int {K : PySem.W.Frag} {H : Hp} (i : Int) : Known K H (.int i) := ⟨"int", .base (.int i), by decide⟩
theorem tyx_int {K : PySem.W.Frag} {H : Hp} {y : V} (h : TyX K H y (.type "int")) : ∃ i, y = .int i := by
  generalize e : Value.type "int" = t at h
  cases h with
  | base b =>
    cases b with
    | int i => exact ⟨i, rfl⟩
    | _ => first | (exact absurd (Value.type.inj e) (by decide)) | cases e
  | _ => first | (exact absurd (Value.type.inj e) (by decide)) | cases e
theorem tyx_is {K : PySem.W.Frag} {H : Hp} {i : Int} {n : String} (h : TyX K H (.int i) (.type n)) : n = "int" := by
  generalize ex : V.int i = x at h
  generalize e : Value.type n = t at h
  cases h with
  | base b =>
    cases b with
    | int i =>
      cases e
      rfl
    | _ => cases ex
  | _ => cases ex
def spPlain (K : PySem.W.Frag) : Sp := fun vs H Q _ => ∃ (x : V) (n : String), vs = [x] ∧ TyX K H x (.type n) ∧ n ∈ kinds ∧ Q (.bl (decide (n = "int"))) H
def spPow2 : Sp := fun vs H Q _ => ∃ b : Int, vs = [.int b] ∧ Q (.bl (decide (Builtin.bitAnd b (b - 1) = 0))) H
def spIsPart (K : PySem.W.Frag) : Sp := fun vs H Q _ => (∃ (x : V) (n : String), vs = [x] ∧ TyX K H x (.type n) ∧ n ∈ kinds ∧ n ≠ "tuple" ∧ Q (.bl false) H) ∨
  ∃ (a : Addr) (xs : List V), vs = [.ref a] ∧ H a = some (.tup xs) ∧ (∀ y ∈ xs, Known K H y) ∧ Q (.bl (tupPart xs)) H
/-- the half of a part that is not nothing -/
def spHalf : Sp := fun vs H Q _ => ∃ (a : Addr) (x y : Int), vs = [.ref a] ∧ H a = some (.tup [.int x, .int y]) ∧ partB x y = true ∧ x ≠ 0 ∧
  ∀ p, H p = none → Q (.ref p) (upd H p (.tup [.int x, .int (y * 2)]))
/-- the text's own half -/
def spLHalf : Sp := fun vs H Q _ => ∃ (a : Addr) (x y : Int), vs = [.ref a] ∧ H a = some (.tup [.int x, .int y]) ∧ ∀ p, H p = none → Q (.ref p) (upd H p (.tup [.int x, .int (2 * y)]))
/-- a drawn part: x / 2 ^ n in lowest terms, not nothing -/
structure Drawn (x y : Int) (most : Nat) : Prop where
  ex : ∃ n : Nat, n ≤ most ∧ y = 2 ^ n
  lo : 1 ≤ x
  hi : x ≤ y
  odd : y = 1 ∨ x % 2 = 1
def spPart : Sp := fun vs H Q _ => ∃ (p : Addr) (most : Nat), vs = [.ref p, .int (most : Int)] ∧ BagAt H p ∧ most ≤ 200 ∧
  ∀ H' t x y, Grow p H H' → BagAt H' p → H t = none → H' t = some (.tup [.int x, .int y]) → Drawn x y most → Q (.ref t) H'
/-! ### arithmetic of parts -/
theorem pow2_pos (n : Nat) : (1 : Int) ≤ 2 ^ n := by
  have h : (0 : Nat) < 2 ^ n := Nat.two_pow_pos n
  have e : ((2 ^ n : Nat) : Int) = (2 : Int) ^ n := by simp
  omega
theorem pow2_and (n : Nat) : Builtin.bitAnd ((2 : Int) ^ n) ((2 : Int) ^ n - 1) = 0 := by
  rw [PySem.W.kbt_mask]
  exact Int.emod_self
theorem pow2_half {n : Nat} (h : n ≠ 0) : ∃ m, n = m + 1 ∧ (2 : Int) ^ n = 2 * 2 ^ m := by
  cases n with
  | zero => exact absurd rfl h
  | succ m => exact ⟨m, rfl, by rw [Int.pow_succ]; omega⟩
theorem Drawn.part {x y : Int} {most : Nat} (h : Drawn x y most) : partB x y = true := by
  obtain ⟨⟨n, _, rfl⟩, h1, h2, h3⟩ := h
  have := pow2_pos n
  unfold partB
  rw [decide_eq_true (show (1 : Int) ≤ 2 ^ n by omega), pow2_and, decide_eq_true rfl, decide_eq_true (show (0 : Int) ≤ x by omega), decide_eq_true h2, bitAnd_m1]
  rcases h3 with e | e
  · rw [decide_eq_true e]
    rfl
  · rw [decide_eq_true e, Bool.or_true]
    rfl
theorem Drawn.mono {x y : Int} {m k : Nat} (h : Drawn x y m) (le : m ≤ k) : Drawn x y k := by
  obtain ⟨⟨n, hn, e⟩, h1, h2, h3⟩ := h
  exact ⟨⟨n, by omega, e⟩, h1, h2, h3⟩
theorem Drawn.size {x y : Int} {most : Nat} (h : Drawn x y most) : x.natAbs ≤ 2 ^ most ∧ y.natAbs ≤ 2 ^ most := by
  obtain ⟨⟨n, hn, rfl⟩, h1, h2, h3⟩ := h
  have le : (2 : Nat) ^ n ≤ 2 ^ most := Nat.pow_le_pow_right (by decide) hn
  have e : ((2 ^ n : Nat) : Int) = (2 : Int) ^ n := by simp
  have := pow2_pos n
  omega
/-! ### data that repr shows in few signs -/
theorem leaf_short {i : Int} (h : i.natAbs < 10 ^ 60) : (PyData.shown (.int i)).length ≤ 64 := by
  have e := int_text_length_le10 (k := 60) (by decide) h
  show (Str.ofString (toString i)).length ≤ 64
  rw [PySem.ofString_length]
  omega
theorem leaf_show {i : Int} (h : i.natAbs < 10 ^ 60) : i.natAbs.log2 < 1920 := by
  have h2 : i.natAbs < 2 ^ 200 := Nat.lt_of_lt_of_le h (by decide)
  exact Nat.lt_of_lt_of_le (PySem.Flt.log2_lt_of (by decide) h2) (by decide)
theorem shown_fits {d : PyData} (h : d.leavesShort 64 = true) (hb : d.bulk ≤ 10000) : d.shown.length ≤ sizeLine := by
  have e := PyData.shown_le_bulk 64 (by decide) d h
  have z : sizeLine = 16777216 := sizeLine_eq
  omega
/-- the law's own promise -/
def spLaw (K : PySem.W.Frag) : Sp := fun vs H Q _ => ∃ (a : Addr) (ns : List Int), vs = [.ref a] ∧ SqL K H a (ns.map V.int) ∧ ns.length ≤ 63 ∧ ∀ H', Q (.bl true) H'
/-- the law's def by its body, the guards known -/
theorem law_ok {P : Program} {w : World} {K : PySem.W.Frag} {mg : Str → Option Value} {base : Heap} {x y : Str} {st : Stmt} {f : Addr} {fd : FuncData} {N : List Str} {sp : Sp} (F : Fun K x x st f fd) (S : FnScope N [y] (defScope st)) (len : ∀ vs H Q E, sp vs H Q E → vs.length = 1)
    (hbody : ∀ (cdv : Value) (A : Around) (outer : List Env) (s : Shared) (H : Hp) (vs : List V) (Q : VK) (E : XK), (A.deeper (envOfC x (defScope st) s.heap.objs.size f cdv)).guards = some [] → Room 30 (A.deeper (envOfC x (defScope st) s.heap.objs.size f cdv)) → sp vs H Q E →
      ∃ t, PSs (cxOf L2.CX0 P w K mg base N x (defScope st) f cdv A outer s H E).nox (defBody st) t ∧ t { nx := fun _ H' => Q .non H', rt := Q } (start N vs) H) : AtC P w K mg base L2.CX0 f fd y sp := by
  obtain ⟨oc, od, kV, doc, pm, an, cdv, ct, osl, rfl, lk, hcd⟩ := F.ex
  refine atC_of (k := 30) lk hcd S (by decide) len fun A outer s H vs Q E hA hr hsp => ?_
  obtain ⟨t, h, q⟩ := hbody cdv A outer s H vs Q E hA hr hsp
  exact ⟨t, h.nox, q⟩
/-- how many cells are played -/
theorem cells_of (n lo : Nat) (hi : Nat) (h : lo ≤ hi) : ∃ m : Nat, (if (if ((n : Nat) : Int) < (hi : Int) then (n : Int) else (hi : Int)) > (lo : Int) then (if ((n : Nat) : Int) < (hi : Int) then (n : Int) else (hi : Int)) else (lo : Int)) = (m : Int) ∧ m ≤ hi := by
  by_cases h1 : ((n : Nat) : Int) < (hi : Int)
  · by_cases h2 : ((n : Nat) : Int) > (lo : Int)
    · exact ⟨n, by rw [if_pos h1, if_pos h2], by omega⟩
    · exact ⟨lo, by rw [if_pos h1, if_neg h2], h⟩
  · by_cases h2 : ((hi : Nat) : Int) > (lo : Int)
    · exact ⟨hi, by rw [if_neg h1, if_pos h2], Nat.le_refl _⟩
    · exact ⟨lo, by rw [if_neg h1, if_neg h2], h⟩
end Tp

set_option Elab.async false
set_option linter.all false
set_option maxRecDepth 100000
set_option maxHeartbeats 2000000
namespace Tp
open PySem PySem.Spec PyProof.Rows L2

/-! ### lowest terms over a power of two -/
/-- how often both t and 2 ^ m can be halved -/
def low : Nat → Nat → Nat
  | 0, _ => 0
  | m + 1, t => if t % 2 = 1 then 0 else low m (t / 2) + 1
theorem low_le : ∀ m t, low m t ≤ m
  | 0, _ => Nat.le_refl _
  | m + 1, t => by
    have := low_le m (t / 2)
    unfold low
    split <;> omega
/-- the lowest bit -/
def lowb (b : Nat) : Nat := b - (b &&& (b - 1))
theorem and_parts (a b : Nat) : a &&& b = 2 * (a / 2 &&& b / 2) + (a &&& b) % 2 := by
  have h := Nat.and_div_two (a := a) (b := b)
  omega
theorem lowb_odd {b : Nat} (h : b % 2 = 1) : lowb b = 1 := by
  have e := and_parts b (b - 1)
  have e1 : (b - 1) / 2 = b / 2 := by omega
  rw [e1, Nat.and_self] at e
  have e2 : ¬ ((b &&& (b - 1)) % 2 = 1) := by
    rw [Nat.and_mod_two_eq_one]
    omega
  unfold lowb
  omega
theorem lowb_even {b : Nat} (h : 0 < b) : lowb (2 * b) = 2 * lowb b := by
  have e := and_parts (2 * b) (2 * b - 1)
  have e1 : (2 * b - 1) / 2 = b - 1 := by omega
  have e0 : 2 * b / 2 = b := by omega
  rw [e1, e0] at e
  have e2 : ¬ ((2 * b &&& (2 * b - 1)) % 2 = 1) := by
    rw [Nat.and_mod_two_eq_one]
    omega
  have e3 : b &&& (b - 1) ≤ b := Nat.and_le_left
  unfold lowb
  omega
theorem or_half {t m : Nat} (h : ¬ t % 2 = 1) : t ||| 2 ^ (m + 1) = 2 * (t / 2 ||| 2 ^ m) := by
  have e := Nat.or_div_two (a := t) (b := 2 ^ (m + 1))
  have e1 : 2 ^ (m + 1) / 2 = 2 ^ m := by
    rw [Nat.pow_succ]
    omega
  rw [e1] at e
  have e2 : ¬ ((t ||| 2 ^ (m + 1)) % 2 = 1) := by
    rw [Nat.or_mod_two_eq_one]
    have : (2 : Nat) ^ (m + 1) % 2 = 0 := by
      rw [Nat.pow_succ]
      omega
    omega
  omega
theorem or_pos (t m : Nat) : 0 < (t ||| 2 ^ m) := Nat.lt_of_lt_of_le (Nat.two_pow_pos m) Nat.right_le_or
theorem or_lowb : ∀ m t : Nat, lowb (t ||| 2 ^ m) = 2 ^ low m t
  | 0, t => by
    have e : (t ||| 2 ^ 0) % 2 = 1 := by
      rw [Nat.or_mod_two_eq_one]
      exact .inr rfl
    rw [lowb_odd e]
    rfl
  | m + 1, t => by
    by_cases h : t % 2 = 1
    · have e : (t ||| 2 ^ (m + 1)) % 2 = 1 := by
        rw [Nat.or_mod_two_eq_one]
        exact .inl h
      rw [lowb_odd e]
      rw [show low (m + 1) t = 0 by
        show (if t % 2 = 1 then 0 else low m (t / 2) + 1) = _
        rw [if_pos h]]
    · rw [or_half h, lowb_even (or_pos _ _), or_lowb m (t / 2)]
      rw [show low (m + 1) t = low m (t / 2) + 1 by
        show (if t % 2 = 1 then 0 else low m (t / 2) + 1) = _
        rw [if_neg h]]
      rw [Nat.pow_succ, Nat.mul_comm]
theorem and_neg {b : Nat} (h : 0 < b) : Builtin.bitAnd (b : Int) (-(b : Int)) = ((lowb b : Nat) : Int) := by
  rw [bitAnd_pn (by omega) (by omega)]
  have e : (Builtin.bitNot (-(b : Int))).toNat = b - 1 := by
    show (-(-(b : Int)) - 1).toNat = b - 1
    omega
  rw [e, Int.toNat_natCast]
  have e3 : b &&& (b - 1) ≤ b := Nat.and_le_left
  unfold lowb
  omega
theorem bits_pow (s : Nat) : Builtin.Int.intBits ((2 : Int) ^ s) = s + 1 := by
  have e : ((2 ^ s : Nat) : Int) = (2 : Int) ^ s := by simp
  unfold Builtin.Int.intBits
  have h := Nat.two_pow_pos s
  have z : ((2 : Int) ^ s == 0) = false := beq_eq_false_iff_ne.mpr (by omega)
  rw [z]
  have e2 : ((2 : Int) ^ s).natAbs = 2 ^ s := by omega
  rw [e2, Nat.log2_two_pow]
  rfl
theorem cast_pow (s : Nat) : ((2 ^ s : Nat) : Int) = (2 : Int) ^ s := by simp
/-- in lowest terms: top, bottom's exponent -/
def redT (m t : Nat) : Nat := t / 2 ^ low m t
def redM (m t : Nat) : Nat := m - low m t
theorem red_step {m t : Nat} (h : ¬ t % 2 = 1) : redT (m + 1) t = redT m (t / 2) ∧ redM (m + 1) t = redM m (t / 2) := by
  unfold redT redM
  rw [show low (m + 1) t = low m (t / 2) + 1 by
    show (if t % 2 = 1 then 0 else low m (t / 2) + 1) = _
    rw [if_neg h]]
  refine ⟨?_, by omega⟩
  rw [Nat.pow_succ, Nat.mul_comm, ← Nat.div_div_eq_div_mul]
theorem red_end {m t : Nat} (h : m = 0 ∨ t % 2 = 1) : redT m t = t ∧ redM m t = m := by
  unfold redT redM
  have e : low m t = 0 := by
    cases m with
    | zero => rfl
    | succ m =>
      show (if t % 2 = 1 then 0 else low m (t / 2) + 1) = 0
      rw [if_pos (by omega)]
  rw [e]
  exact ⟨Nat.div_one t, rfl⟩
theorem pow_div {m k : Nat} (h : k ≤ m) : (2 : Int) ^ m / 2 ^ k = 2 ^ (m - k) := by
  have e : (2 : Nat) ^ m / 2 ^ k = 2 ^ (m - k) := Nat.pow_div h (by decide)
  rw [← cast_pow, ← cast_pow, ← cast_pow, ← e]
  simp
/-- the sum of x / 2 ^ m and y / 2 ^ n, over the greater bottom -/
def sumT (x m y n : Nat) : Nat := x * 2 ^ (max m n - m) + y * 2 ^ (max m n - n)
theorem max_pow (m n : Nat) : (if ((2 : Int) ^ n) > 2 ^ m then (2 : Int) ^ n else 2 ^ m) = 2 ^ (max m n) := by
  by_cases h : m < n
  · have l : (2 : Nat) ^ m < 2 ^ n := Nat.pow_lt_pow_right (by decide) h
    have e1 := cast_pow m
    have e2 := cast_pow n
    rw [if_pos (by omega), Nat.max_eq_right (Nat.le_of_lt h)]
  · have l : (2 : Nat) ^ n ≤ 2 ^ m := Nat.pow_le_pow_right (by decide) (by omega)
    have e1 := cast_pow m
    have e2 := cast_pow n
    rw [if_neg (by omega), Nat.max_eq_left (by omega)]
theorem pow_big {n k : Nat} (h : n < k) : ((2 : Int) ^ n).natAbs < 2 ^ k := by
  have l : (2 : Nat) ^ n < 2 ^ k := Nat.pow_lt_pow_right (by decide) h
  rw [← cast_pow, Int.natAbs_natCast]
  exact l
/-- a part that is not nothing: x / 2 ^ m in lowest terms -/
structure Pt (x m : Nat) : Prop where
  lo : 1 ≤ x
  hi : x ≤ 2 ^ m
  odd : m = 0 ∨ x % 2 = 1
theorem Drawn.pt {x y : Int} {most : Nat} (h : Drawn x y most) : ∃ a m : Nat, x = (a : Int) ∧ y = 2 ^ m ∧ m ≤ most ∧ Pt a m := by
  obtain ⟨⟨m, hm, rfl⟩, h1, h2, h3⟩ := h
  obtain ⟨a, rfl⟩ := Int.eq_ofNat_of_zero_le (show (0 : Int) ≤ x by omega)
  have e := cast_pow m
  refine ⟨a, m, rfl, rfl, hm, by omega, by omega, ?_⟩
  rcases h3 with h3 | h3
  · left
    cases m with
    | zero => rfl
    | succ m =>
      obtain ⟨m', e1, e2⟩ := pow2_half (n := m + 1) (by omega)
      have := pow2_pos m'
      omega
  · right
    omega
theorem Pt.part {x m : Nat} (h : Pt x m) : partB (x : Int) (2 ^ m) = true := by
  have e := cast_pow m
  refine Drawn.part (most := m) ⟨⟨m, Nat.le_refl _, rfl⟩, by have := h.lo; omega, by have := h.hi; omega, ?_⟩
  rcases h.odd with rfl | z
  · exact .inl rfl
  · exact .inr (by omega)
theorem Pt.half {x m : Nat} (h : Pt x m) : Pt x (m + 1) ∧ 2 * x ≤ 2 ^ (m + 1) := by
  have h1 := h.hi
  have h2 := h.lo
  rw [Nat.pow_succ]
  refine ⟨⟨h2, by rw [Nat.pow_succ]; omega, .inr ?_⟩, by omega⟩
  rcases h.odd with rfl | z
  · have : x ≤ 1 := h1
    omega
  · exact z
theorem sum_fits {x m y n : Nat} (hx : 2 * x ≤ 2 ^ m) (hy : 2 * y ≤ 2 ^ n) : sumT x m y n ≤ 2 ^ max m n := by
  have a1 : 2 * x * 2 ^ (max m n - m) ≤ 2 ^ m * 2 ^ (max m n - m) := Nat.mul_le_mul_right _ hx
  have a2 : 2 * y * 2 ^ (max m n - n) ≤ 2 ^ n * 2 ^ (max m n - n) := Nat.mul_le_mul_right _ hy
  rw [← Nat.pow_add, show m + (max m n - m) = max m n by omega, Nat.mul_assoc] at a1
  rw [← Nat.pow_add, show n + (max m n - n) = max m n by omega, Nat.mul_assoc] at a2
  unfold sumT
  omega
theorem red_le {m t : Nat} (h : t ≤ 2 ^ m) : redT m t ≤ 2 ^ m := by
  unfold redT
  exact Nat.le_trans (Nat.div_le_self _ _) h
/-! ### promises of the sums -/
def isTup (H : Hp) (a : Addr) (x m : Nat) : Prop := H a = some (.tup [.int (x : Int), .int (2 ^ m)])
def spTopOver : Sp := fun vs H Q _ => ∃ (a : Addr) (x m M : Nat), vs = [.int (2 ^ M), .ref a] ∧ isTup H a x m ∧ m ≤ M ∧ M ≤ 1000 ∧ x ≤ 2 ^ m ∧ Q (.int ((x * 2 ^ (M - m) : Nat) : Int)) H
def spLowest : Sp := fun vs H Q _ => ∃ (t M : Nat), vs = [.int (t : Int), .int (2 ^ M)] ∧ ∀ p, H p = none → Q (.ref p) (upd H p (.tup [.int (redT M t : Nat), .int (2 ^ redM M t)]))
/-- two parts whose sum is at most the whole -/
def spPlus : Sp := fun vs H Q _ => ∃ (a b : Addr) (x m y n : Nat), vs = [.ref a, .ref b] ∧ isTup H a x m ∧ isTup H b y n ∧ partB (x : Int) (2 ^ m) = true ∧ partB (y : Int) (2 ^ n) = true ∧ x ≤ 2 ^ m ∧ y ≤ 2 ^ n ∧ m ≤ 1000 ∧ n ≤ 1000 ∧ sumT x m y n ≤ 2 ^ max m n ∧
  ∀ p, H p = none → Q (.ref p) (upd H p (.tup [.int (redT (max m n) (sumT x m y n) : Nat), .int (2 ^ redM (max m n) (sumT x m y n))]))
/-- the law's own sum, of any two -/
def spLPlus : Sp := fun vs H Q _ => ∃ (a b : Addr) (x m y n : Nat), vs = [.ref a, .ref b] ∧ isTup H a x m ∧ isTup H b y n ∧ x ≤ 2 ^ m ∧ y ≤ 2 ^ n ∧ m ≤ 1000 ∧ n ≤ 1000 ∧
  ∀ p, H p = none → Q (.ref p) (upd H p (.tup [.int (redT (max m n) (sumT x m y n) : Nat), .int (2 ^ redM (max m n) (sumT x m y n))]))
end Tp

set_option Elab.async false
set_option linter.all false
set_option maxRecDepth 100000
set_option maxHeartbeats 2000000
namespace Tp
open PySem PySem.Spec PyProof.Rows L2

/-! ### any values: as data that stand apart from the bag at p -/
def keyD : Key → PyData
  | .inl i => .int i
  | .inr x => .str x
mutual
/-- no list, no dict in it -/
def flatD : PyData → Bool
  | .none => true
  | .bool _ => true
  | .int _ => true
  | .str _ => true
  | .tuple ds => flatAll ds
  | .list _ => false
  | .dict _ => false
def flatAll : List PyData → Bool
  | [] => true
  | d :: ds => flatD d && flatAll ds
end
mutual
inductive Dz (H : Hp) (p : Addr) : V → PyData → Prop
  | non : Dz H p .non .none
  | bl (b : Bool) : Dz H p (.bl b) (.bool b)
  | int (i : Int) : Dz H p (.int i) (.int i)
  | str (x : Str) : Dz H p (.str x) (.str x)
  | lst {a : Addr} {xs : List V} {ds : List PyData} : H a = some (.lst xs) → a ≠ p → DzAll H p xs ds → Dz H p (.ref a) (.list ds)
  | tup {a : Addr} {xs : List V} {ds : List PyData} : H a = some (.tup xs) → DzAll H p xs ds → Dz H p (.ref a) (.tuple ds)
  | dict {a : Addr} {kvs : List (Key × V)} {ds : List PyData} : H a = some (.dK kvs) → DzAll H p (kvs.map (·.2)) ds → flatAll ds = true → Dz H p (.ref a) (.dict ((kvs.map fun kv => keyD kv.1).zip ds))
inductive DzAll (H : Hp) (p : Addr) : List V → List PyData → Prop
  | nil : DzAll H p [] []
  | cons {v : V} {vs : List V} {d : PyData} {ds : List PyData} : Dz H p v d → DzAll H p vs ds → DzAll H p (v :: vs) (d :: ds)
end
theorem DzAll.len {H : Hp} {p : Addr} : ∀ {vs : List V} {ds : List PyData}, DzAll H p vs ds → vs.length = ds.length
  | _, _, .nil => rfl
  | _, _, .cons _ t => by rw [List.length_cons, List.length_cons, DzAll.len t]
mutual
theorem reads_flat {h : Heap} : ∀ {u : Value} {d : PyData} {as : List Addr}, Reads h u d as → flatD d = true → as = []
  | _, _, _, .none, _ => rfl
  | _, _, _, .bool _, _ => rfl
  | _, _, _, .int _ _, _ => rfl
  | _, _, _, .str _ _, _ => rfl
  | _, _, _, .list _ _ _ _, f => by cases f
  | _, _, _, .tuple _ _ _ r, f => reads_flatAll r f
  | _, _, _, .dict _ _ _ _ _, f => by cases f
theorem reads_flatAll {h : Heap} : ∀ {us : List Value} {ds : List PyData} {as : List Addr}, ReadsAll h us ds as → flatAll ds = true → as = []
  | _, _, _, .nil, _ => rfl
  | _, _, _, .cons r t, f => by
    unfold flatAll at f
    rw [Bool.and_eq_true] at f
    rw [reads_flat r f.1, reads_flatAll t f.2]
    rfl
end
theorem tup_keep {H H' : Hp} {p a : Addr} {xs : List V} (hB : BagAt H p) (g : Grow p H H') (h : H a = some (.tup xs)) : H' a = some (.tup xs) := by
  obtain ⟨u, v, hp, _⟩ := hB
  exact g a _ (ne_of h hp (by intro z; cases z)) h
theorem dK_keep {H H' : Hp} {p a : Addr} {kvs : List (Key × V)} (hB : BagAt H p) (g : Grow p H H') (h : H a = some (.dK kvs)) : H' a = some (.dK kvs) := by
  obtain ⟨u, v, hp, _⟩ := hB
  exact g a _ (ne_of h hp (by intro z; cases z)) h
mutual
theorem dz_grow {H H' : Hp} {p : Addr} (hB : BagAt H p) (g : Grow p H H') : ∀ {v : V} {d : PyData}, Dz H p v d → Dz H' p v d
  | _, _, .non => .non
  | _, _, .bl b => .bl b
  | _, _, .int i => .int i
  | _, _, .str x => .str x
  | _, _, .lst q n a => .lst (g _ _ n q) n (dza_grow hB g a)
  | _, _, .tup q a => .tup (tup_keep hB g q) (dza_grow hB g a)
  | _, _, .dict q a f => .dict (dK_keep hB g q) (dza_grow hB g a) f
theorem dza_grow {H H' : Hp} {p : Addr} (hB : BagAt H p) (g : Grow p H H') : ∀ {vs : List V} {ds : List PyData}, DzAll H p vs ds → DzAll H' p vs ds
  | _, _, .nil => .nil
  | _, _, .cons a b => .cons (dz_grow hB g a) (dza_grow hB g b)
end
section
variable {X : Cx} {pins : List (Addr × Obj)} {σ : L2.St} {H : Hp} {s : Shared} {p : Addr}
theorem pairs_keys : ∀ {kvs : List (Key × V)} {ps : List (Key × Value)} {es : List DictEntry}, KV kvs ps → Pairs (mixKind X.prog X.w) es ps → ReadsAll s.heap (es.map (·.key)) (kvs.map fun kv => keyD kv.1) [] ∧ Vals (kvs.map (·.2)) (es.map (·.val)) := by
  intro kvs ps es r q
  unfold KV at r
  induction r generalizing es with
  | nil =>
    cases q
    exact ⟨.nil, .nil⟩
  | @cons kv kp kvs ps h t ih =>
    cases q with
    | @cons e _ es2 _ h1 h2 h3 =>
      obtain ⟨i1, i2⟩ := ih h3
      obtain ⟨e1, e2⟩ := h
      refine ⟨?_, .cons (show L2.RelV kv.2 e.val by rw [h2]; exact e2) i2⟩
      have k : keyIs kp.1 _ = true := h1
      rcases keyIs_shape k with ⟨i, t, z1, z2⟩ | ⟨x, t, z1, z2⟩
      · have z3 : keyD kv.1 = .int i := by
          rw [e1, z1]
          rfl
        show ReadsAll s.heap (e.key :: es2.map (·.key)) (keyD kv.1 :: kvs.map fun kv => keyD kv.1) []
        rw [z2, z3]
        exact ReadsAll.cons (as := []) (bs := []) (.int i t) i1
      · have z3 : keyD kv.1 = .str x := by
          rw [e1, z1]
          rfl
        show ReadsAll s.heap (e.key :: es2.map (·.key)) (keyD kv.1 :: kvs.map fun kv => keyD kv.1) []
        rw [z2, z3]
        exact ReadsAll.cons (as := []) (bs := []) (.str x t) i1
mutual
theorem dz_reads (I : Inv X pins σ H s) : ∀ {v : V} {d : PyData}, Dz H p v d → ∀ {u : Value}, RelV v u → ∃ as, Reads s.heap u d as
  | _, _, .non, _, r => by
    cases r
    exact ⟨_, Reads.none⟩
  | _, _, .bl b, _, r => by
    cases r
    exact ⟨_, Reads.bool b⟩
  | _, _, .int i, _, r => by
    obtain ⟨t, rfl⟩ := r
    exact ⟨_, Reads.int i t⟩
  | _, _, .str x, _, r => by
    obtain ⟨t, rfl⟩ := r
    exact ⟨_, Reads.str x t⟩
  | _, _, .lst q _ a, _, r => by
    cases r
    obtain ⟨its, rv, ⟨o, n, ho, hc, _, hd⟩, _⟩ := I.list (SqL.of (K := X.K) q)
    obtain ⟨as, hr⟩ := dz_readsAll I a rv
    exact ⟨_, Reads.list ho hc hd hr⟩
  | _, _, .tup q a, _, r => by
    cases r
    obtain ⟨its, rv, ⟨o, ho, hc, n, hd⟩, _⟩ := I.tuple (SqT.of (K := X.K) q)
    obtain ⟨as, hr⟩ := dz_readsAll I a rv
    exact ⟨_, Reads.tuple ho hc hd hr⟩
  | _, _, .dict q a f, _, r => by
    cases r
    obtain ⟨_, _, ps, rk, o, es, ep, ho, hx, hd, _, hp, _⟩ := I.hok _ _ q
    obtain ⟨k1, k2⟩ := pairs_keys (X := X) (s := s) rk hp
    obtain ⟨as, hr⟩ := dz_readsAll I a k2
    have z := a.len
    have e1 : ∀ (ks ds : List PyData), ks.length = ds.length → (ks.zip ds).map (·.1) = ks := fun ks ds h => List.map_fst_zip (by omega)
    have e2 : ∀ (ks ds : List PyData), ks.length = ds.length → (ks.zip ds).map (·.2) = ds := fun ks ds h => List.map_snd_zip (by omega)
    rw [List.length_map] at z
    exact ⟨_, Reads.dict ho hx.1 hd (by rw [e1 _ _ (by rw [List.length_map]; exact z)]; exact k1) (by rw [e2 _ _ (by rw [List.length_map]; exact z)]; exact hr)⟩
theorem dz_readsAll (I : Inv X pins σ H s) : ∀ {vs : List V} {ds : List PyData}, DzAll H p vs ds → ∀ {us : List Value}, Vals vs us → ∃ as, ReadsAll s.heap us ds as
  | _, _, .nil, _, r => by
    cases r
    exact ⟨_, ReadsAll.nil⟩
  | _, _, .cons a b, _, r => by
    cases r with
    | cons r1 r2 =>
      obtain ⟨as, q1⟩ := dz_reads I a r1
      obtain ⟨bs, q2⟩ := dz_readsAll I b r2
      exact ⟨_, ReadsAll.cons q1 q2⟩
end
end
/-- shown in few signs; a dict only at the top -/
structure FineZ (d : PyData) : Prop where
  show_ : d.showable = true
  short : d.leavesShort 64 = true
  deep : d.depth ≤ 40
  bulk : d.bulk ≤ 10000
  dict : d.hasDict = true → ∃ kvs, d = .dict kvs ∧ flatAll (kvs.map (·.1)) = true ∧ flatAll (kvs.map (·.2)) = true
theorem reprZ {X : Cx} (hg : X.A.guards = some []) (hu : X.A.units + 64 < cLine) :
    CallR X (.builtin "repr") (fun xs H Q => ∃ p v d, xs = [v] ∧ Dz H p v d ∧ FineZ d ∧ Q (.str d.shown) H) := by
  intro pins s σ H xs us Q I r h
  obtain ⟨p, v, d, rfl, hd, fz, q⟩ := h
  obtain ⟨u, rfl, ru⟩ := vals1 r
  obtain ⟨as, rd⟩ := dz_reads I hd ru
  have hs := fz.show_
  have hdep := fz.deep
  have hsz := shown_fits fz.short fz.bulk
  cases hd with
  | non =>
    cases (show u = Value.none from ru)
    exact PySem.P.repr_of_none ⟨.str _, H, I.tok _, ⟨_, rfl⟩, q⟩
  | bl b =>
    cases (show u = Value.bool b from ru)
    exact PySem.P.repr_of_bool ⟨.str _, H, I.tok _, ⟨_, rfl⟩, q⟩
  | int i =>
    obtain ⟨t, rfl⟩ := (show ∃ t, u = Value.int i t from ru)
    exact PySem.P.repr_of_int (by simpa [PyData.showable] using hs) ⟨.str _, H, I.tok _, ⟨_, rfl⟩, q⟩
  | str x =>
    obtain ⟨t, rfl⟩ := (show ∃ t, u = Value.str x t from ru)
    exact PySem.P.repr_of_str ⟨.str _, H, I.tok _, ⟨_, rfl⟩, q⟩ hsz
  | lst hq _ ha =>
    cases (show u = Value.ref _ from ru)
    exact repr_of_reads' rd hs (fun z => by obtain ⟨_, e, _⟩ := fz.dict z; cases e) hg (by omega) (fun _ _ e => e) (fun h' u tk hk => ⟨.str _, H, I.kept hk, ⟨_, rfl⟩, q⟩) hsz
  | tup hq ha =>
    cases (show u = Value.ref _ from ru)
    exact repr_of_reads' rd hs (fun z => by obtain ⟨_, e, _⟩ := fz.dict z; cases e) hg (by omega) (fun _ _ e => e) (fun h' u tk hk => ⟨.str _, H, I.kept hk, ⟨_, rfl⟩, q⟩) hsz
  | dict hq ha hf =>
    cases (show u = Value.ref _ from ru)
    have ns := (I.hok _ _ hq).2.1
    refine repr_of_reads' rd hs (fun z => ?_) hg (by omega) (fun _ _ e => e) (fun h' u tk hk => ⟨.str _, H, I.kept hk, ⟨_, rfl⟩, q⟩) hsz
    obtain ⟨kvs, e, f1, f2⟩ := fz.dict z
    cases e
    cases rd with
    | dict _ _ _ r1 r2 =>
      rw [reads_flatAll r1 f1, reads_flatAll r2 f2]
      intro m
      simp only [List.append_nil, List.mem_singleton] at m
      rw [← m] at ns
      simp at ns
/-- each value is of a plain kind -/
theorem dz_known {K : PySem.W.Frag} {H : Hp} {p : Addr} {v : V} {d : PyData} (h : Dz H p v d) : Known K H v := by
  cases h with
  | non => exact ⟨"NoneType", .base .non, by decide⟩
  | bl b => exact ⟨"bool", .base (.bl b), by decide⟩
  | int i => exact ⟨"int", .base (.int i), by decide⟩
  | str x => exact ⟨"str", .base (.str x), by decide⟩
  | lst q _ _ => exact ⟨"list", .base (.lst q), by decide⟩
  | tup q _ => exact ⟨"tuple", .base (.tup q), by decide⟩
  | dict q _ _ => exact ⟨"dict", .base (.dK q), by decide⟩
theorem dza_known {K : PySem.W.Frag} {H : Hp} {p : Addr} : ∀ {vs : List V} {ds : List PyData}, DzAll H p vs ds → ∀ y ∈ vs, Known K H y
  | _, _, .nil, _, m => absurd m (by simp)
  | _, _, .cons a b, y, m => by
    rcases List.mem_cons.mp m with rfl | m
    · exact dz_known a
    · exact dza_known b y m
/-- a tuple of plain things, or a thing of another kind -/
theorem dz_cases {K : PySem.W.Frag} {H : Hp} {p : Addr} {v : V} {d : PyData} (h : Dz H p v d) :
    (∃ n, TyX K H v (.type n) ∧ n ∈ kinds ∧ n ≠ "tuple") ∨ ∃ (a : Addr) (xs : List V), v = .ref a ∧ H a = some (.tup xs) ∧ ∀ y ∈ xs, Known K H y := by
  cases h with
  | non => exact .inl ⟨"NoneType", .base .non, by decide, by decide⟩
  | bl b => exact .inl ⟨"bool", .base (.bl b), by decide, by decide⟩
  | int i => exact .inl ⟨"int", .base (.int i), by decide, by decide⟩
  | str x => exact .inl ⟨"str", .base (.str x), by decide, by decide⟩
  | lst q _ _ => exact .inl ⟨"list", .base (.lst q), by decide, by decide⟩
  | tup q a => exact .inr ⟨_, _, rfl, q, dza_known a⟩
  | dict q _ _ => exact .inl ⟨"dict", .base (.dK q), by decide, by decide⟩
/-! ### small data -/
theorem ble {a b : Nat} (h : Nat.ble a b = true) : a ≤ b := Nat.le_of_ble_eq_true h
def Sm (d : PyData) : Prop := d.showable = true ∧ d.leavesShort 64 = true
def SmAll (ds : List PyData) : Prop := PyData.showableAll ds = true ∧ PyData.leavesShortAll 64 ds = true
theorem sm_int {i : Int} (h : i.natAbs < 10 ^ 60) : Sm (.int i) := ⟨by show decide _ = true; exact decide_eq_true (leaf_show h), by show decide _ = true; exact decide_eq_true (leaf_short h)⟩
theorem sm_none : Sm .none := ⟨rfl, rfl⟩
theorem sm_bool (b : Bool) : Sm (.bool b) := ⟨rfl, rfl⟩
theorem sm_str {x : Str} (h : x.cps.toList.all (fun c => decide (c < 16 ^ 8)) = true) : Sm (.str x) := ⟨rfl, h⟩
theorem sm_nil : SmAll [] := ⟨rfl, rfl⟩
theorem sm_cons {d : PyData} {ds : List PyData} (h : Sm d) (t : SmAll ds) : SmAll (d :: ds) := ⟨by show (_ && _) = true; rw [h.1, t.1]; rfl, by show (_ && _) = true; rw [h.2, t.2]; rfl⟩
theorem sm_list {ds : List PyData} (h : SmAll ds) : Sm (.list ds) := h
theorem sm_tuple {ds : List PyData} (h : SmAll ds) : Sm (.tuple ds) := h
theorem sm_dict1 {k v : PyData} (hk : Sm k) (hv : Sm v) : Sm (.dict [(k, v)]) := ⟨by show (_ && _ && _) = true; rw [hk.1, hv.1]; rfl, by show (_ && _ && _) = true; rw [hk.2, hv.2]; rfl⟩
/-- without a dict -/
theorem fz_plain {d : PyData} (s : Sm d) (h1 : Nat.ble d.depth 40 = true) (h2 : Nat.ble d.bulk 10000 = true) (h3 : d.hasDict = false) : FineZ d := ⟨s.1, s.2, ble h1, ble h2, fun z => by rw [h3] at z; cases z⟩
theorem fz_dict {kvs : List (PyData × PyData)} (s : Sm (.dict kvs)) (h1 : Nat.ble (PyData.dict kvs).depth 40 = true) (h2 : Nat.ble (PyData.dict kvs).bulk 10000 = true) (h3 : flatAll (kvs.map (·.1)) = true) (h4 : flatAll (kvs.map (·.2)) = true) : FineZ (.dict kvs) :=
  ⟨s.1, s.2, ble h1, ble h2, fun _ => ⟨kvs, rfl, h3, h4⟩⟩
theorem Same.mut {H H1 : Hp} {p : Addr} {o : HO} (e : Same H H1) (h : H p = none) : Same H (upd H1 p o) := fun b u q => by
  rw [upd_ne (ne_of_none q h)]
  exact e b u q
/-- a thing: some data in few signs -/
def Thing (H : Hp) (p : Addr) (v : V) : Prop := ∃ d, Dz H p v d ∧ FineZ d
def spThing : Sp := fun vs H Q _ => ∃ p : Addr, vs = [.ref p] ∧ BagAt H p ∧ ∀ H' v, Grow p H H' → BagAt H' p → Thing H' p v → Q v H'
/-- the law's own look at parts: it makes a list on its way -/
def spLIsPart (K : PySem.W.Frag) : Sp := fun vs H Q _ => (∃ (x : V) (n : String), vs = [x] ∧ TyX K H x (.type n) ∧ n ∈ kinds ∧ n ≠ "tuple" ∧ ∀ H', Same H H' → Q (.bl false) H') ∨
  ∃ (a : Addr) (xs : List V), vs = [.ref a] ∧ H a = some (.tup xs) ∧ (∀ y ∈ xs, Known K H y) ∧ ∀ H', Same H H' → Q (.bl (tupPart xs)) H'
/-! ### a dict of one written pair -/
theorem pe_d1 {X : Cx} {pos : Pos} {ke ve : Expr} {key : Key} {v : V} (hk : PE X ke (tC (kV key))) (hv : PE X ve (tC v)) : PE X (.Dict [some ke] [ve] pos) (fun _ H Q => ∀ p, H p = none → Q (.ref p) (upd H p (.dK [(key, v)]))) := by
  refine ⟨fun pins s σ H Q I h => (pe_disp (pps_cons hk hv pps_nil) rfl rfl (by simp) (ble rfl)).run pins s σ H Q I fun p np => ?_⟩
  refine ⟨upd_same, [(key, v)], rfl, ble rfl, ?_⟩
  rw [upd_upd]
  exact h p np
theorem pe_d1t {X : Cx} {pos tpos : Pos} {kx : Nat} {ke : Expr} {es : List Expr} {key : Key} {xs : List V} {t : TA} (hk : PE X ke (tC (kV key))) (hv : PA X es t) (ht : ∀ σ H (Q : List V → Hp → Prop), Q xs H → t σ H Q) (hl : xs.length ≤ sizeLine) :
    PE X (.Dict [some ke] [.Tuple es kx tpos] pos) (fun _ H Q => ∀ q, H q = none → ∀ p, upd H q (.tup xs) p = none → Q (.ref p) (upd (upd H q (.tup xs)) p (.dK [(key, .ref q)]))) := by
  refine ⟨fun pins s σ H Q I h => (pe_disp (pps_cons hk (pe_tup hv) pps_nil) rfl rfl (by simp) (ble rfl)).run pins s σ H Q I fun p np => ?_⟩
  refine ht _ _ _ ⟨hl, fun q nq => ?_⟩
  have nqp : q ≠ p := fun e => by
    subst e
    rw [upd_same] at nq
    cases nq
  rw [upd_ne nqp] at nq
  refine ⟨by rw [upd_ne nqp.symm]; exact upd_same, [(key, .ref q)], rfl, ble rfl, ?_⟩
  have k := h q nq p (by rw [upd_ne nqp.symm]; exact np)
  have e : upd (upd (upd H p (.dK [])) q (.tup xs)) p (.dK (mergeK [] [(key, V.ref q)])) = upd (upd H q (.tup xs)) p (.dK [(key, .ref q)]) := by
    funext b
    by_cases h1 : b = p
    · subst h1
      rw [upd_same, upd_same]
      rfl
    · rw [upd_ne h1, upd_ne h1]
      by_cases h2 : b = q
      · subst h2
        rw [upd_same, upd_same]
      · rw [upd_ne h2, upd_ne h2, upd_ne h1]
  rw [e]
  exact k
theorem BagAt.new_of {H : Hp} {p a : Addr} {o : HO} (_ : BagAt H p) (_ : H a = some o) (h : a ≠ p) : a ≠ p := h
theorem tyx_same {K : PySem.W.Frag} {H H' : Hp} (s : Same H H') {y : V} {t : Value} (h : TyX K H y t) : TyX K H' y t := by
  cases h with
  | base b =>
    cases b with
    | non => exact .base .non
    | bl b => exact .base (.bl b)
    | int i => exact .base (.int i)
    | str x => exact .base (.str x)
    | flt x => exact .base (.flt x)
    | lst e => exact .base (.lst (s _ _ e))
    | frz e => exact .base (.frz (s _ _ e))
    | tup e => exact .base (.tup (s _ _ e))
    | dK e => exact .base (.dK (s _ _ e))
    | dT e => exact .base (.dT (s _ _ e))
    | ins e c h1 h2 h3 h4 => exact .base (.ins (s _ _ e) c h1 h2 h3 h4)
  | byt b => exact .byt b
  | set e => exact .set (s _ _ e)
  | kList e c => exact .kList e c
  | kTuple e c => exact .kTuple e c
  | kDict e c => exact .kDict e c
  | fTuple e => exact .fTuple (s _ _ e)
  | fDict e => exact .fDict (s _ _ e)
theorem tupPart_no {xs : List V} (h : xs.length ≠ 2) : tupPart xs = false := by
  match xs, h with
  | [], _ => rfl
  | [x], _ => cases x <;> rfl
  | x :: y :: z :: r, _ => cases x <;> cases y <;> rfl
  | [x, y], h => exact absurd rfl h
theorem tupPart_l {K : PySem.W.Frag} {H : Hp} {x y : V} {n : String} (t : TyX K H x (.type n)) (h : n ≠ "int") : tupPart [x, y] = false := by
  match x, t with
  | .int j, t => exact absurd (tyx_is t) h
  | .non, _ => rfl
  | .bl _, _ => rfl
  | .str _, _ => rfl
  | .byt _, _ => rfl
  | .flt _, _ => rfl
  | .ref _, _ => rfl
  | .ty _, _ => rfl
theorem tupPart_r {K : PySem.W.Frag} {H : Hp} {x y : V} {n : String} (t : TyX K H y (.type n)) (h : n ≠ "int") : tupPart [x, y] = false := by
  match y, t with
  | .int j, t => exact absurd (tyx_is t) h
  | .non, _ => cases x <;> rfl
  | .bl _, _ => cases x <;> rfl
  | .str _, _ => cases x <;> rfl
  | .byt _, _ => cases x <;> rfl
  | .flt _, _ => cases x <;> rfl
  | .ref _, _ => cases x <;> rfl
  | .ty _, _ => cases x <;> rfl
theorem kit_tuple {n : String} (hn : n ∈ kinds) (h : n ≠ "tuple") : kitB n "tuple" = some false := by
  simp only [kinds, List.mem_cons, List.not_mem_nil, or_false] at hn
  rcases hn with rfl | rfl | rfl | rfl | rfl | rfl | rfl
  · decide +kernel
  · decide +kernel
  · decide +kernel
  · decide +kernel
  · decide +kernel
  · exact absurd rfl h
  · decide +kernel
/-- a number's text -/
theorem sm_num {x : Int} : Sm (.str (Str.ofString (toString x))) := by
  refine sm_str (List.all_eq_true.mpr fun c hc => decide_eq_true ?_)
  rw [Str.ofString_eq_toList] at hc
  simp only [List.toList_toArray, List.mem_map] at hc
  obtain ⟨k, _, rfl⟩ := hc
  exact UInt32.toNat_lt k.val
theorem fz_num {x y : Int} (s : Sm (.tuple [.str (Str.ofString (toString x)), .int y])) (h : x.natAbs < 10 ^ 60) : FineZ (.tuple [.str (Str.ofString (toString x)), .int y]) := by
  refine ⟨s.1, s.2, ble rfl, ?_, fun z => by cases z⟩
  have e := int_text_length_le10 (k := 60) (by decide) h
  have e2 : (Str.ofString (toString x)).length = (toString x).length := PySem.ofString_length _
  show (Str.ofString (toString x)).cps.size + 1 + (0 + 1 + 0) ≤ 10000
  have e3 : (Str.ofString (toString x)).cps.size = (Str.ofString (toString x)).length := rfl
  omega
end Tp

set_option Elab.async false
set_option linter.all false
set_option maxRecDepth 100000
set_option maxHeartbeats 2000000
/-! own exceptions over any built-in base, with an __init__ that stores one field, `part` -/
namespace PySem
namespace XPart
open PySem.W PySem.Calls PyProof.Rows PySem.HandSPX
def iA (p1 p2 : Pos) : Arguments := { posonlyargs := [], args := [{ arg := "self", annotation := none, pos := p1 }, { arg := "part", annotation := none, pos := p2 }], vararg := none, kwonlyargs := [], kw_defaults := [], kwarg := none, defaults := [] }
def iB (q1 q2 q3 q4 : Pos) : List Stmt := [.Assign [.Attribute (.Name "self" q1) "part" q2] (.Name "part" q3) q4]
def iS : Scope := { kind := .function, names := [(PySem.Str.ofString "self", .local), (PySem.Str.ofString "part", .local)], isGenerator := false, isCoroutine := false, more := [] }
/-- what is asked of the chain of the base -/
structure Tail (bm : List Value) : Prop where
  pass : ∀ self : Value, refuseLoop self "__setattr__" bm = pure ()
  ob : bm.contains (.type "object") = true
theorem tail_AE : Tail [.type "ArithmeticError", .type "Exception", .type "BaseException", .type "object"] := ⟨fun self => by kernel_rfl, by decide +kernel⟩
theorem tail_OE : Tail [.type "OverflowError", .type "ArithmeticError", .type "Exception", .type "BaseException", .type "object"] := ⟨fun self => by kernel_rfl, by decide +kernel⟩
section
open Builtin Builtin.ObjectAttr
variable {prog : Program} {w : World} {A : Around} {E : Value → Shared → Prop} {R : Result → Shared → Prop} {hp : Heap} {g : Array GenState} {d : Drawn} {t : Nat} {os : OsState}
theorem osa_first {K : W.Frag} {name : Str} {tk : Tok} {v : Value} {x C : Addr} {fv : Array Value} {cd : ClassData} {bm : List Value}
    (X : K.In hp) (hx : hp.get? x = some { cls := .ref C, data := .fields fv }) (hcd : W.clsIn K C = some cd) (hm : cd.mro = .ref C :: bm) (T : Tail bm) (hh : cd.hasDict = true) (ha : W.findIn K (.ref C) name = some none)
    (hq : ∀ h' tk' dx, (∀ b o, b ≠ x → hp.get? b = some o → h'.get? b = some o) → hp.objs.size ≤ dx → dx ≠ x → h'.get? x = some { cls := .ref C, dict := some dx, data := .fields fv } →
      h'.Ns1 dx (fun y => if y = name then some v else none) → R (.ok (.ret .none)) ⟨h', g, d, tk', os⟩) :
    codeAny (model prog w) A (.call (.builtin "object.__setattr__") ⟨[.ref x, .str name tk, v], []⟩) R ⟨hp, g, d, t, os⟩ := by
  have I : W.InstAt hp x { cls := .ref C, data := .fields fv } C none := ⟨hx, rfl, rfl, trivial⟩
  have SF := F.store_object
  have ne : cd.mro.isEmpty = false := by rw [hm]; rfl
  have hob : cd.mro.contains (.type "object") = true := by rw [hm, List.contains_cons, T.ob, Bool.or_true]
  have hpass : refuseLoop (.ref x) "__setattr__" cd.mro = pure () := by rw [hm, refuseLoop_ref]; exact T.pass _
  have hxs : x ≠ hp.objs.size := Nat.ne_of_lt (Heap.lt_size hx)
  have sub : W.Looks (model prog w) hp (isInstance (.ref x) (.type "object")) true := I.type.andThen (W.looks_mroIn X (by unfold W.mroIn; rw [hcd, Option.bind_some, if_neg (by rw [ne]; decide), hob]))
  refine codeAny_call_builtin SF.slot.plain SF.entry (@W.check_slot (model prog w) _ _ ⟨hp, g, d, t, os⟩ "object.__setattr__" "object" "__setattr__" (.ref x) [.str name tk, v] [] _ SF.kind SF.split sub (SF.args (.ref x) (.str name tk) v) ?_)
  have hmr : W.Looks (model prog w) hp (mroOf (.ref C)) cd.mro := (W.looks_clsIn X hcd).andThen .now
  have L3 : W.Looks (model prog w) hp (storeTaker? none) none := .now
  have hcls : W.Looks (model prog w) hp (classData C) cd := W.looks_clsIn X hcd
  rw [W.osa_eq, refuse_eq]
  refine wpAny_bind (wpAny_bind (I.type.at (wpAny_bind (hmr.at ?_))))
  rw [hpass]
  refine wpAny_pure (wpAny_bind (I.type.at (wpAny_bind ((W.looks_findIn X ha).at (wpAny_bind (L3.at ?_))))))
  show wpAny _ _ (storeInOwnDict (.ref x) (.ref C) (.str name tk) name v false) _ _ _
  clear hpass ne hob hm
  obtain ⟨nm, bs, mro, ns, qn, hd, sn, sb, ab, col, del⟩ := cd
  dsimp only at hh
  subst hh
  unfold storeInOwnDict ownDictForStores
  repeat (first | with_reducible refine store_in_new ?_ ?_ | with_reducible refine wpAny_loadPart_at hx ?_ | with_reducible refine hcls.at ?_ | wp_step)
  · exact ⟨_, #[], _, (Heap.get?_update_ne _ _ _ _ hxs.symm).trans (Heap.get?_push_at rfl rfl), rfl, fun e he => absurd he (by simp), fun _ => rfl⟩
  · intro h' tk' hn' hs
    have hx₁ : (hp.push { cls := .type "dict", data := .dict #[] }).get? x = some { cls := .ref C, data := .fields fv } := Heap.get?_push_of_some _ hx
    refine hq h' tk' hp.objs.size (fun b o hb ho => ?_) (Nat.le_refl _) hxs.symm ?_ hn'
    · exact (hs.2 b (Nat.ne_of_lt (Heap.lt_size ho))).trans ((Heap.get?_update_ne _ _ _ _ hb).trans (Heap.get?_push_of_some _ ho))
    · exact (hs.2 x hxs).trans (Heap.get?_update_self _ hx₁ rfl)
end
/-- what the written part says of the class cn, at C, and of its __init__, at fI -/
structure Txt (K : Frag) (mg : Str → Option Value) (cn qi : Str) (B newId initId : String) (bm : List Value) (C fI : Addr) : Prop where
  gC : mg cn = some (.ref C)
  base : ExcBaseFacts B newId initId bm
  tail : Tail bm
  cls : ∃ nm q N bs sn sub ab col dd k0 k1 k2 k3 k5, K.lookup C = some (excClassObj nm q C N bs bm true sn sub ab col dd k0 k1 k2 k3 k5 newId)
  sa : findIn K (.ref C) "__setattr__" = some (some (.builtin "object.__setattr__"))
  ga : findIn K (.ref C) "__getattribute__" = some (some (.builtin "BaseException.__getattribute__"))
  gg : findIn K (.ref C) "__getattr__" = some none
  noN : findIn K (.ref C) "part" = some none
  iC : findIn K (.ref C) "__init__" = some (some (.ref fI))
  tC : typeIn K (.ref fI) = some (.type "function")
  kC : keepIn K (.ref C) = true
  exC : subIn K (.ref C) (.type "BaseException") = some true
  tyC : typeIn K (.ref C) = some (.type "type")
  hdC : hasDictIn K C = true
  te : exmOne K (.ref C) (.ref C) = some true
  fn : ∃ (oc : Value) (od : Option Addr) (doc pm : Value) (an : Option Addr) (cdv ct : Value) (osl : Array (Option Value)) (p1 p2 q1 q2 q3 q4 : Pos),
    K.lookup fI = some ⟨oc, od, .func (fnOf "__init__" qi (iA p1 p2) (iB q1 q2 q3 q4) iS .none .none doc pm an cdv ct), osl⟩ ∧ codeIn K cdv qi = true
theorem one_size (v : Value) : [v].length ≤ sizeLine := by
  rw [sizeLine_eq]
  exact (by decide : 1 ≤ 16777216)
theorem ldC {M : Model} {s : Shared} {name : Str} {scope : Scope} {L a : Addr} {cd : Value} {m : Str → Option Value} {x : Str} {pos : Pos} {v : Value} {Q : Value → Shared → Prop} {A : Around} {E : Value → Shared → Prop} (hn : s.heap.Ns L m) (hv : m x = some v) (h : Q v s)
    (hk : scope.kind = .function := by rfl) (hl : (envOfC name scope L a cd).kindOf x = some .local := by rfl) (hd : (x == ("__debug__" : Str)) = false := by decide) :
    wpAny M A (eval (.Name x pos) (envOfC name scope L a cd)) Q E s := wpAny_Name (wpAny_loadName_local hk hl hn hv h) hd
structure InitEnd (h h' : Heap) (x C dx t1 : Addr) (v : Value) : Prop where
  keep : ∀ b o, b ≠ x → h.get? b = some o → h'.get? b = some o
  obj : h'.get? x = some { cls := .ref C, dict := some dx, data := .fields #[.ref t1, .none, .none, .none, .bool false, .none] }
  dbig : h.objs.size ≤ dx
  dne : dx ≠ x
  ns : h'.Ns1 dx (fun y => if y = "part" then some v else none)
structure OwnMade (h h' : Heap) (e C d : Addr) (v : Value) : Prop where
  keep : ∀ b o, h.get? b = some o → h'.get? b = some o
  new : h.objs.size ≤ e
  obj : ∃ oe vs, h'.get? e = some oe ∧ oe.cls = .ref C ∧ oe.dict = some d ∧ oe.data = .fields vs ∧ vs[1]? = some .none
  dbig : h.objs.size ≤ d
  dne : d ≠ e
  ns : h'.Ns1 d (fun y => if y = "part" then some v else none)
section
variable {prog : Program} {w : World} {A : Around} {E : Value → Shared → Prop} {R : Result → Shared → Prop} {s : Shared} {K : Frag} {mg : Str → Option Value} {C fI : Addr} {cn qi : Str} {B newId initId : String} {bm : List Value}
theorem x_init (T : Txt K mg cn qi B newId initId bm C fI) {x t0 : Addr} {v : Value} (X : K.In s.heap) (hlim : s.heap.NoLimit) (hx : s.heap.get? x = some (excO C t0)) (hnx : K.lookup x = none) (hroom : A.depth < recursionLimit)
    (hq : ∀ h' tk dx, InitEnd s.heap h' x C dx t0 v → R (.ok (.ret .none)) { s with heap := h', toks := tk }) :
    codeAny (model prog w) A (.call (.ref fI) ⟨[.ref x, v], []⟩) R s := by
  obtain ⟨oc, od, doc, pm, an, cdv, ct, osl, p1, p2, q1, q2, q3, q4, ho, hcd⟩ := T.fn
  obtain ⟨nm, q, N, bs, sn, sub, ab, col, dd, k0, k1, k2, k3, k5, hC⟩ := T.cls
  have hcl : clsIn K C = some { name := nm, bases := bs, mro := .ref C :: bm, ns := N, qualname := q, hasDict := true, slotNames := sn, subclasses := sub, abstract := ab, collection := col, hasDel := false } := by unfold clsIn; rw [hC] <;> rfl
  refine Att.call_fn (binds := [("self", .ref x), ("part", v)]) X hlim ho hcd hroom (BindsTo.of_eq (by first | rfl | with_unfolding_all rfl)) (by first | rfl | decide | with_unfolding_all rfl) (fun s₁ IC => ?_) rfl rfl rfl
  obtain ⟨h₁, tk₁, rfl⟩ := IC.toInCall.same
  have k : ∀ b o, s.heap.get? b = some o → h₁.get? b = some o := IC.toInCall.keep
  have hn := IC.toInCall.ns
  have hxL : s.heap.objs.size ≠ x := Nat.ne_of_gt (Heap.lt_size hx)
  have X₁ : K.In h₁ := X.keeps k
  have hx₁ := k _ _ hx
  show wpAny _ _ (execs _ _) _ _ _
  refine wpAny_execs_cons (plainObj_wpAny_Assign_Attribute ?_)
  refine ldC (v := v) hn (by first | rfl | with_unfolding_all rfl | kernel_rfl) (ldC (v := .ref x) hn (by first | rfl | with_unfolding_all rfl | kernel_rfl) ?_)
  refine set_plain X₁ (ox := excO C t0) (od := none) ⟨hx₁, rfl, rfl, trivial⟩ T.sa ?_
  refine osa_first X₁ hx₁ hcl rfl T.tail rfl T.noN (fun h₃ tk₃ dx k₃ dn dne hx₃ hn₃ => ?_)
  show wpAny _ _ (execs _ _) _ _ _
  have z : s.heap.objs.size < h₁.objs.size := hn.lt
  exact wpAny_execs_nil (hq h₃ tk₃ dx ⟨fun b o hb e => k₃ b o hb (k b o e), hx₃, Nat.le_of_lt (Nat.lt_of_lt_of_le z dn), dne, hn₃⟩)
theorem x_made (T : Txt K mg cn qi B newId initId bm C fI) {v : Value} (X : K.In s.heap) (hlim : s.heap.NoLimit) (hroom : A.depth + 1 < recursionLimit)
    (hq : ∀ h' tk e d, OwnMade s.heap h' e C d v → R (.ok (.ret (.ref e))) { s with heap := h', toks := tk }) :
    codeAny (model prog w) A (.call (.ref C) ⟨[v], []⟩) R s := by
  obtain ⟨nm, q, N, bs, sn, sub, ab, col, dd, k0, k1, k2, k3, k5, hC⟩ := T.cls
  obtain ⟨hp, g, dr, tk, os⟩ := s
  have k : ∀ b o, hp.get? b = some o → ((hp.push (kdv_tup [v])).push (excO C hp.objs.size)).get? b = some o := fun b o e => Heap.get?_push_of_some _ (Heap.get?_push_of_some _ e)
  have hget : ((hp.push (kdv_tup [v])).push (excO C hp.objs.size)).get? (hp.objs.size + 1) = some (excO C hp.objs.size) := by heap_get
  have hnx : K.lookup (hp.objs.size + 1) = none := by
    cases e : K.lookup (hp.objs.size + 1) with
    | none => rfl
    | some o =>
      have z : hp.get? (hp.objs.size + 1) = some o := X _ _ e
      exact absurd (Nat.lt_of_succ_lt (Heap.lt_size z)) (Nat.lt_irrefl _)
  refine call_own T.base (fun X => rfl) (X _ _ hC) (looks_findIn X T.iC) (fun self => bind_fn X self T.tC) (one_size v) ?_
  refine x_init (s := ⟨(hp.push (kdv_tup [v])).push (excO C hp.objs.size), g, dr, tk, os⟩) T (X.keeps k) (hlim.keeps k) hget hnx ?_ fun h' tk' dx ⟨k', hx, dn, dne, hns⟩ => ?_
  · show A.depth + 1 < recursionLimit
    exact hroom
  · have old : ∀ b o, hp.get? b = some o → h'.get? b = some o := fun b o e => k' b o (Nat.ne_of_lt (Nat.lt_succ_of_lt (Heap.lt_size e))) (k b o e)
    have z : hp.objs.size + 1 + 1 ≤ dx := by
      first
        | (simpa only [Heap.size_push] using dn)
        | exact dn
        | (have q := dn; rw [Heap.size_push, Heap.size_push] at q; exact q)
    exact ⟨rfl, hq h' tk' (hp.objs.size + 1) dx ⟨old, Nat.le_succ _, ⟨_, _, hx, rfl, rfl, rfl, rfl⟩, Nat.le_trans (Nat.le_trans (Nat.le_succ _) (Nat.le_succ _)) z, dne, hns⟩⟩
end
end XPart
end PySem
namespace Tp
open PySem PySem.Spec PyProof.Rows L2
theorem relO_part {v : V} {v' : Value} (r : RelV v v') (f : Str) : RelO (List.lookup f [(("part" : Str), v)]) (if f = "part" then some v' else none) := by
  by_cases hw : f = "part"
  · subst hw
    rw [if_pos rfl]
    have q : List.lookup ("part" : Str) [(("part" : Str), v)] = some v := by simp [List.lookup]
    rw [q]
    exact r
  · rw [if_neg hw]
    have qw : (f == ("part" : Str)) = false := by simpa using hw
    have q2 : List.lookup f [(("part" : Str), v)] = none := by simp [List.lookup, qw]
    rw [q2]
    trivial
abbrev xPart (v : V) : HO := .xd [(("part" : Str), v)]
section
variable {X : Cx} {C fI : Addr} {cn qi : Str} {B newId initId : String} {bm : List Value}
/-- C(e) -/
def tMkX (C : Addr) (ta : TA) : L2.St → Hp → XK → Prop := fun σ H Q => ta σ H fun vs H1 => ∃ v, vs = [v] ∧ ∀ d, H1 d = none → Q (.ref C) (some d) (upd H1 d (xPart v))
theorem pmk_x {a : Expr} {ta : TA} {p pos : Pos} {k : Nat} (T : PySem.XPart.Txt X.K X.mg cn qi B newId initId bm C fI) (hr : Room k X.A) (h1k : 1 ≤ k) (ha : PA X [a] ta) (hg : Gl X cn) (hdb : (cn == ("__debug__" : Str)) = false)
    (he : starEach (a :: []) X.env = (false, eval a X.env) :: starEach [] X.env := by rfl) (hpl : (backTo pos (starEach [] X.env)).any (·.1) = false := by rfl) :
    PMk X (.Call (.Name cn p) [a] [] pos) (tMkX C ta) := by
  intro pins s σ H Q I h
  refine wpAny_Call_Name_kw (ld_glob I hg T.gC ?_ hdb)
  refine PySem.W.callWith_K (h₀ := X.base) I.ok.mod.kin T.kC (thn (ha.run pos pins s σ H _ I h) fun us s1 hh => ?_) he hpl
  obtain ⟨vs, H1, I1, r1, v, ev, q1⟩ := hh
  subst ev
  refine ⟨I1.kIn, ?_⟩
  cases r1 with
  | cons rv rn =>
    rename_i v' us'
    cases rn
    show wpAny _ _ (call (.ref C) [v']) _ _ _
    have hlim := I1.nolimit
    obtain ⟨hp, g, dr, tk, os⟩ := s1
    refine wpAny_call (PySem.XPart.x_made T I1.kIn hlim (by have := hr.dp; omega) fun h' tk' e d M => ?_)
    show MkP X pins σ Q (.ref e) ⟨h', g, dr, tk', os⟩
    obtain ⟨oe, fv, hoe, hc, hd, hdat, h1⟩ := M.obj
    have hns := M.ns
    obtain ⟨G', g1, g2⟩ := restrict h' fun b => decide (b ≠ e)
    have gk : ∀ b, b ≠ e → G'.get? b = h'.get? b := fun b hb => g1 b (decide_eq_true hb)
    have ge : G'.get? e = none := g2 e (by simp)
    have old : ∀ b o, hp.get? b = some o → G'.get? b = some o := fun b o q => (gk b (Nat.ne_of_lt (Nat.lt_of_lt_of_le (Heap.lt_size q) M.new))).trans (M.keep b o q)
    have ob : ObjOk X.prog X.w (upd H1 d (xPart v)) G' d (xPart v) :=
      ⟨_, hns.at (fun o q => (gk d M.dne).trans q), fun f => relO_part rv f⟩
    have J : Inv X pins σ (upd H1 d (xPart v)) ⟨G', g, dr, tk', os⟩ := I1.laid (t' := tk') old M.dbig ob
    refine ⟨e, oe, fv, ⟨G', g, dr, tk', os⟩, _, .ref C, some d, rfl, J, fun b o q => ?_, ge, hoe, ⟨hc, hd⟩, hdat, h1, ?_, rfl, I1.bare, raises_own T.exC T.tyC, q1 d (I1.hok.fresh M.dbig)⟩
    · by_cases hb : b = e
      · have q' : G'.get? b = some o := q
        rw [hb, ge] at q'; cases q'
      · exact (gk b hb).symm.trans q
    · rw [upd_ne (Ne.symm M.dne)]
      exact I1.hok.fresh M.new
/-- raise C(e) -/
def tRaiseX (C : Addr) (W : WX) (ta : TA) : TS := fun _ σ H => tMkX C ta σ H fun cls d H' => W cls d σ H'
theorem ps_raiseX {a : Expr} {ta : TA} {W : WX} {p pos pos2 : Pos} {k : Nat} (hc : X.calm = true) (T : PySem.XPart.Txt X.K X.mg cn qi B newId initId bm C fI) (hr : Room k X.A) (h1k : 1 ≤ k) (tk : Takes X W) (ha : PA X [a] ta) (hg : Gl X cn) (hdb : (cn == ("__debug__" : Str)) = false)
    (he : starEach (a :: []) X.env = (false, eval a X.env) :: starEach [] X.env := by rfl) (hpl : (backTo pos (starEach [] X.env)).any (·.1) = false := by rfl) :
    PS X (.Raise (some (.Call (.Name cn p) [a] [] pos)) none pos2) (tRaiseX C W ta) := ps_raise hc tk (pmk_x T hr h1k ha hg hdb he hpl)
theorem xfC_of {K : PySem.W.Frag} {mg : Str → Option Value} (T : PySem.XPart.Txt K mg cn qi B newId initId bm C fI) : XfC K C := ⟨T.ga, T.gg, T.exC, T.hdC⟩
end
end Tp

set_option Elab.async false
set_option linter.all false
set_option maxRecDepth 100000
set_option maxHeartbeats 2000000
/-! several clauses, each with a name -/
namespace Tp
open PySem PySem.Spec PyProof.Rows L2
structure Cl where
  c : Value
  i : Nat
  ts : Addr → Value → Option Addr → TS
/-- where an exception ends that no clause names: Wout; else the clause's suite, its name in slot i, gone behind it -/
def wAsM (K : PySem.W.Frag) (Wout : WX) (D : Ends) : List Cl → WX
  | [] => Wout
  | k :: r => fun cls d σ H => ∃ b, PySem.W.exmOne K cls k.c = some b ∧
      (b = true → ∀ a, H a = none → k.ts a cls d { nx := fun σ' H' => D.nx (σ'.set k.i none) H', rt := D.rt, bk := fun σ' H' => D.bk (σ'.set k.i none) H', ct := fun σ' H' => D.ct (σ'.set k.i none) H' } (σ.set k.i (some (.ref a))) H) ∧
      (b = false → wAsM K Wout D r cls d σ H)
inductive HdsAs (X : Cx) : List ExceptHandler → List Cl → Prop
  | nil : HdsAs X [] []
  | cons {x n : Str} {k : Cl} {b₀ : Stmt} {suite : List Stmt} {np pos' : Pos} {hds : List ExceptHandler} {l : List Cl} (hi : X.N[k.i]? = some n) (hln : X.env.kindOf n = some .local) (hc : Names X x k.c)
      (hsu : ∀ (a : Addr) (oe : Obj) (cls : Value) (d : Option Addr) (pn : List (Addr × Obj)), Zc cls d oe → (∃ vs, oe.data = .fields vs) → PSs (X.suite a ((a, oe) :: pn)) (b₀ :: suite) (k.ts a cls d)) (r : HdsAs X hds l) :
      HdsAs X (.ExceptHandler (some (.Name x np)) (some n) (b₀ :: suite) pos' :: hds) (k :: l)
section
variable {X : Cx} {body : List Stmt} {h₀ : ExceptHandler} {hds : List ExceptHandler} {l : List Cl} {pos : Pos} {tb : WX → TS} {Wout : WX}
theorem ps_try_asm (hs : X.stack = X.env :: X.outer) (hf : X.env.frame = some X.env.locals) (hN : X.N.Nodup) (tk : Takes X Wout)
    (hb : ∀ (W : WX) (pn : List (Addr × Obj)) (xe : Value → Shared → Prop), Takes (X.tr pn xe) W → PassesOwn (model X.prog X.w) X.A X.env xe → PSs (X.tr pn xe) body (tb W))
    (hh : HdsAs X (h₀ :: hds) l) : PS X (.Try body (h₀ :: hds) [] [] pos) (fun D σ H => tb (wAsM X.K Wout D l) D σ H) := by
  refine ⟨fun pins s σ H D I h => ?_⟩
  have ok := I.ok
  have hfr : X.A.frames = some (X.env :: X.outer) := by rw [ok.frames, hs]
  refine wpAny_Try_except ?_
  refine wpAny_mono ((hb (wAsM X.K Wout D l) (X.pn ++ pins) (fun e s₁ => wpAny (model X.prog X.w) X.A (noteFrame e X.env) (fun _ s₂ => wpAny (model X.prog X.w) X.A (setFlight e none) (fun _ s₃ =>
    wpAny (model X.prog X.w) X.A (handleBy e X.env (h₀ :: hds)) (SP X pins D) X.xe s₃) X.xe s₂) X.xe s₁) (fun u s' xx => ?_) PassesOwn.looking).run [] s σ H D (I.toTry _) h) (fun f s1 hsp => ?_) (fun e s1 he => he)
  · -- the catch
    obtain ⟨a, B, sI, pins', σ', H', cls, d, rfl, J', nb, up, sky, na, os, ag, w⟩ := xx
    have J : Inv X pins σ' H' sI := J'.ofTry ok
    have sky' : Sky B (X.env :: X.outer) a (Zc cls d) X.env.locals s'.heap := by rw [← hs]; exact sky
    show wpAny (model X.prog X.w) X.A (noteFrame (.ref a) X.env) _ _ _
    refine Sky.land Zc.steady hfr hf sky' fun h3 fl3 up3 => ?_
    have J3 : Inv X pins σ' H' { s' with heap := h3 } := J.landed nb fl3.1 (up.trans up3) os ag
    obtain ⟨oe3, vs3, he3, hz3, hd3⟩ := fl3.there
    have notFr : ∀ {h : Heap} {o : Obj} {vs : Array Value}, h.FunFrames B (X.env :: X.outer) → h.get? a = some o → o.data = .fields vs → a ∉ frs (X.env :: X.outer) := fun {h o vs} ff e dd hm => by
      obtain ⟨_, o', e', hnf⟩ := ff.mem hm
      rw [e] at e'; cases e'
      exact hnf _ dd
    have nfr := notFr fl3.2.2.1 he3 hd3
    have nL : a ≠ X.env.locals := fun z => nfr (List.mem_filterMap.mpr ⟨X.env, List.mem_cons_self, by rw [hf, z]⟩)
    have nF : a ∉ X.fs := fun hm => by
      obtain ⟨e, he, q⟩ := List.mem_filterMap.mp hm
      exact nfr (List.mem_filterMap.mpr ⟨e, List.mem_cons_of_mem _ he, q⟩)
    have S3 := J3.suite he3 hd3 na nL nF
    have go : ∀ {hds' : List ExceptHandler} {l' : List Cl}, HdsAs X hds' l' → wAsM X.K Wout D l' cls d σ' H' →
        wpAny (model X.prog X.w) X.A (handleBy (.ref a) X.env hds') (SP X pins D) X.xe { s' with heap := h3 } := by
      intro hds' l' hk
      induction hk with
      | nil =>
        intro w
        refine wpAny_handleBy_nil ?_
        obtain ⟨k1, k2, k3, oe, vs, T, oT, ts', he, hz, hd, h1, hr⟩ := id fl3
        unfold PySem.passOn
        refine wpAny_bind (wpAny_field he hd h1 ?_)
        rw [if_neg (show ¬ ((Value.ref T == Value.none) = true) from by simp)]
        have fin : wpAny (model X.prog X.w) X.A (setFlight (.ref a) X.env.frame) (fun _ s4 => wpAny (model X.prog X.w) X.A (throw (.ref a) : Sem Flow) (SP X pins D) X.xe s4) X.xe { s' with heap := h3 } := by
          rw [hf]
          refine HandSPX.setFlight_upZ fl3 fun h4 hh4 up4 => wpAny_throw (tk _ _ ?_)
          exact ⟨a, B, sI, pins, σ', H', cls, d, rfl, J, nb, (up.trans up3).trans up4, .inr (.inr (by rw [hs]; exact hh4)), na, os, ag, w⟩
        first
          | exact wpAny_bind (wpAny_pure (wpAny_bind fin))
          | exact wpAny_bind fin
      | @cons x n k b₀ suite np pos' hds2 l2 hi hln hc hsu r ih =>
        intro w
        obtain ⟨b, hb1, hyes, hno⟩ := w
        have hloc : Loc X.env.scope n := .inl hln
        refine wpAny_handleBy_cons (codeAny_handlers_test ?_) (by intro q; cases q)
        have LT : PySem.W.Looks (model X.prog X.w) h3 (typeOf (.ref a)) cls := fun A Q E s k q => wpAny_typeOf_ref (k _ _ he3) (by rw [hz3.1]; exact q)
        have LM := PySem.W.exm_one (M := model X.prog X.w) (J3.kIn) LT hb1
        have test : ∀ {Q : Value → Shared → Prop} {E : Value → Shared → Prop}, Q k.c { s' with heap := h3 } → wpAny (model X.prog X.w) (X.A.mark (some (.ref a))) (eval (.Name x np) X.env) Q E { s' with heap := h3 } := fun {Q E} q => by
          obtain ⟨hg, hdbg, hm | ⟨hm, hv, hnn⟩⟩ := hc
          · exact ld_glob (X := X.suite a ((a, oe3) :: (X.pn ++ pins))) S3 hg hm q hdbg
          · exact ld_blt (X := X.suite a ((a, oe3) :: (X.pn ++ pins))) S3 hg hm hv q hnn hdbg
        refine test (LM.here ?_)
        cases b with
        | true =>
          refine codeAny_handlers_suite_as ?_
          refine HandSPX.lands_againZ fl3 fun h4 fl4 up4 => ?_
          have J4 : Inv X pins σ' H' { s' with heap := h4 } := J.landed nb fl4.1 ((up.trans up3).trans up4) os ag
          obtain ⟨oe4, vs4, he4, hz4, hd4⟩ := fl4.there
          have S4 := J4.suite he4 hd4 na nL nF
          refine store_ok (X := X.suite a ((a, oe4) :: (X.pn ++ pins))) (v := .ref a) S4 hN hi hloc rfl (fun s5 S5 => ?_) (.inr hln)
          refine wpAny_mono ((hsu a oe4 cls d (X.pn ++ pins) hz4 ⟨_, hd4⟩).run [] s5 _ H' _ S5 (hyes rfl a na)) (fun f s6 hsp => ?_) (fun _ _ z => False.elim z)
          have end_ : ∀ {σ6 : L2.St} {H6 : Hp} {Q : Shared → Prop}, Inv (X.suite a ((a, oe4) :: (X.pn ++ pins))) [] σ6 H6 s6 → (∀ s7, Inv X pins (σ6.set k.i none) H6 s7 → Q s7) →
              wpAny (model X.prog X.w) X.A (do bindName X.env n .none; unbindBehindTheSuite X.env n pos') (fun _ s7 => Q s7) X.xe s6 := fun {σ6 H6 Q} S6 hq => gone_ok (S6.unsuite ok) hN hi hln hq
          cases f with
          | next =>
            obtain ⟨σ6, H6, S6, q6⟩ := hsp
            exact end_ S6 fun s7 J7 => ⟨_, _, J7, q6⟩
          | brk =>
            obtain ⟨σ6, H6, S6, q6⟩ := hsp
            exact end_ S6 fun s7 J7 => ⟨_, _, J7, q6⟩
          | cont =>
            obtain ⟨σ6, H6, S6, q6⟩ := hsp
            exact end_ S6 fun s7 J7 => ⟨_, _, J7, q6⟩
          | ret u =>
            obtain ⟨v6, σ6, H6, S6, r6, q6⟩ := hsp
            exact end_ S6 fun s7 J7 => ⟨_, _, _, J7, r6, q6⟩
        | false =>
          show wpAny _ X.A (handleBy (.ref a) X.env hds2) _ _ _
          exact ih (hno rfl)
    exact go hh w
  · cases f with
    | next =>
      obtain ⟨σ', H', J', q⟩ := hsp
      exact wpAny_execs_nil ⟨σ', H', J'.ofTry ok, q⟩
    | brk =>
      obtain ⟨σ', H', J', q⟩ := hsp
      exact ⟨σ', H', J'.ofTry ok, q⟩
    | cont =>
      obtain ⟨σ', H', J', q⟩ := hsp
      exact ⟨σ', H', J'.ofTry ok, q⟩
    | ret u =>
      obtain ⟨v, σ', H', J', r, q⟩ := hsp
      exact ⟨v, σ', H', J'.ofTry ok, r, q⟩
end
end Tp

set_option Elab.async false
set_option linter.all false
set_option maxRecDepth 100000
set_option maxHeartbeats 2000000
namespace Tp
open PySem PySem.Spec PyProof.Rows L2 LamX
/-! ### a law that makes lambdas: the table of its code object, empty at first, is known at Pt -/
noncomputable def tabHp (K : PySem.W.Frag) (a Pt : Addr) (ob : Obj) (xs : List V) : Hp := fun b => if b = Pt then some (.tbl #[]) else scriptHp K a ob xs b
theorem law_atT {P : Program} {w : World} {K : PySem.W.Frag} {mg mb : Str → Option Value} {CX : CXT} {fa a c Pt : Addr} {fd : FuncData} {x : Str} {sp : Sp} {s1 : Shared} {vs : List Value} {ns : List Int}
    (KX : K.In s1.heap) (hns : s1.heap.Ns mainGlobals mg) (hb : s1.heap.Ns builtinsNs mb) (hbb : ∀ y : Str, y ≠ "__name__" → mb y = bootBuiltins y) (hlim : s1.heap.NoLimit) (hg : s1.gens = #[])
    (hT : s1.heap.get? Pt = some { cls := .none, data := .fields #[] }) (nT : K.lookup Pt = none) (hC : PySem.W.CodeHd s1.heap c Pt)
    (hbm : ∃ (bm : Addr) (ob : Obj), mg "__builtins__" = some (.ref bm) ∧ bm ≠ builtinsNs ∧ s1.heap.get? bm = some ob ∧ ob.cls = .type "module" ∧ ob.dict = some builtinsNs ∧ ob.data = .plain)
    (ha : s1.heap.get? a = some { cls := .type "list", data := .seq vs.toArray }) (hi : IntsAre vs ns) (hl : ns.length ≤ sizeLine)
    (F : ∀ base : Heap, K.In base → base.Ns mainGlobals mg → TabB base mg c Pt → AtC P w K mg base CX fa fd x sp) (hbind : ∀ (s : Shared) (u : Value), BindsTo s fd ⟨[u], []⟩ [(x, u)])
    (hsp : ∀ H : Hp, H Pt = some (.tbl #[]) → (∀ b o, H b = some o → b = Pt ∨ ∀ ps, o ≠ .tbl ps) → SqL K H a (ns.map V.int) → sp [.ref a] H (fun v _ => v = .bl true) fun _ _ _ => False)
    (hCX : ∀ H e s', CX [] H s1 (fun _ _ _ => False) e s' → False) :
    codeAny (model P w) callerA (.call (.ref fa) ⟨[.ref a], []⟩) (fun r s' => r = .ok (.ret (.bool true)) ∧ OldK s1.heap s'.heap ∧ s'.os = s1.os ∧ AllBare s'.gens) s1 := by
  have rv := vals_ints hi
  have lenV := hi.length
  have aP : a ≠ Pt := fun z => by
    rw [z, hT] at ha
    have z' := congrArg Obj.data (Option.some.inj ha)
    cases z'
  generalize eH : tabHp K a Pt { cls := .type "list", data := .seq vs.toArray } (ns.map V.int) = H
  have hP : H Pt = some (.tbl #[]) := by
    rw [← eH]
    exact if_pos rfl
  -- what is tracked: the table, and the script where no written part holds it
  have hat : ∀ {b : Addr} {o : HO}, H b = some o → (b = Pt ∧ o = .tbl #[]) ∨ (b ≠ Pt ∧ b = a ∧ K.lookup a = none ∧ o = .frz { cls := .type "list", data := .seq vs.toArray } (.lst (ns.map V.int))) := fun {b o} q => by
    rw [← eH] at q
    unfold tabHp at q
    split at q
    · rename_i e
      cases q
      exact .inl ⟨e, rfl⟩
    · rename_i e
      exact .inr ⟨e, scriptHp_some q⟩
  have hO : ∀ b o, H b = some o → b = Pt ∨ ∀ ps, o ≠ .tbl ps := fun b o q => by
    rcases hat q with ⟨e, _⟩ | ⟨_, _, _, rfl⟩
    · exact .inl e
    · exact .inr fun _ z => by cases z
  have hS : SqL K H a (ns.map V.int) := by
    cases hk : K.lookup a with
    | none =>
      refine .inl (.inr ⟨{ cls := .type "list", data := .seq vs.toArray }, ?_⟩)
      rw [← eH]
      exact (if_neg aP).trans (if_pos ⟨rfl, hk⟩)
    | some o =>
      have e := KX a o hk
      rw [ha] at e
      cases e
      exact .inr ⟨_, vs.toArray, _, hk, rfl, rfl, rfl, by rw [List.size_toArray, lenV]; exact hl, by simpa using rv⟩
  have hok : HOk P w H s1.heap := fun b o q => by
    rcases hat q with ⟨rfl, rfl⟩ | ⟨_, rfl, _, rfl⟩
    · exact hT
    · exact ⟨ha, by rw [List.length_map]; exact hl, vs, _, rv, ha⟩
  have none_of : ∀ {b : Addr} {o : Obj}, s1.heap.get? b = some o → o.data ≠ .fields #[] → (b = a → K.lookup a = none → False) → H b = none := fun {b o} e d z => by
    cases q : H b with
    | none => rfl
    | some u =>
      rcases hat q with ⟨e1, _⟩ | ⟨_, e1, e2, _⟩
      · rw [e1, hT] at e
        cases e
        exact absurd rfl d
      · exact (z e1 e2).elim
  have notA : ∀ {b : Addr} {o : Obj}, s1.heap.get? b = some o → (∀ us n, o.data ≠ .seq us n) → b = a → K.lookup a = none → False := fun {b o} e d e1 _ => by
    rw [e1, ha] at e
    cases e
    exact d _ _ rfl
  have dictFree : ∀ {b : Addr} {o : Obj} {es : Array DictEntry} {ep : Nat}, s1.heap.get? b = some o → o.data = .dict es ep → H b = none := fun {b o es ep} e d => none_of e (by rw [d]; intro z; cases z) (notA e (by rw [d]; intro _ _ z; cases z))
  have nsK : ∀ {b : Addr} {m : Str → Option Value}, s1.heap.Ns b m → (hidT s1.heap H).Ns b m := by
    rintro b m ⟨o, es, ep, e, d, r⟩
    exact ⟨o, es, ep, hidT_get e (dictFree e d), d, r⟩
  have hKb : K.In (hidT s1.heap H) := fun b o e => hidT_get (KX b o e) (by
    cases q : H b with
    | none => rfl
    | some u =>
      rcases hat q with ⟨e1, _⟩ | ⟨_, e1, e2, _⟩
      · rw [e1, nT] at e
        cases e
      · rw [e1, e2] at e
        cases e)
  obtain ⟨mc, lim1, lim2⟩ := hlim
  have hM : Mod K mg (hidT s1.heap H) := ⟨hKb, nsK hns, ⟨mb, nsK hb, hbb⟩, mc, nsK lim1, lim2⟩
  have e0 : Env0 P w K mg (hidT s1.heap H) callerA [] s1 H :=
    ⟨rfl, hM, fun b o e => of_hidT e, Nat.le_of_eq (hidT_size _ _), trivial, fun b hb => absurd (show b ∈ ([] : List Addr) from hb) (by simp), hok, .of_eq hg⟩
  have gP : mainGlobals ≠ Pt := fun z => by
    obtain ⟨o, es, ep, e, hd, _⟩ := hns
    rw [z, hT] at e
    cases e
    cases hd
  have TB : TabB (hidT s1.heap H) mg c Pt := by
    refine ⟨?_, ?_, gP⟩
    · obtain ⟨o, us, file, tf, flags, tg, inF, text, tt, e1, r1, r2, r3, r⟩ := hC
      refine ⟨o, us, file, tf, flags, tg, inF, text, tt, hidT_get e1 (none_of e1 (fun z => ?_) (notA e1 (by rw [r2]; intro _ _ z; cases z))), r1, r2, r3, r⟩
      rw [r2] at z
      cases z
      simp at r3
    · obtain ⟨bm, ob, b1, b2, b3, b4, b5, b6⟩ := hbm
      refine ⟨bm, ob, b1, b2, fun q => ?_, fun q => ?_, hidT_get b3 (none_of b3 (by rw [b6]; intro z; cases z) (notA b3 (by rw [b6]; intro _ _ z; cases z))), b4, b5, b6⟩
      · obtain ⟨o, es, ep, e, hd, _⟩ := hns
        rw [q, e] at b3
        cases b3
        rw [hd] at b6
        cases b6
      · rw [q, hT] at b3
        cases b3
        cases b6
  refine codeAny_mono (F _ hKb (nsK hns) TB s1 H ⟨[.ref a], []⟩ (.ref a) (.ref a) _ _ e0 (hbind s1 (.ref a)) rfl (hsp H hP hO hS)) fun r s' h => ?_
  cases r with
  | error e => exact (hCX H e s' h).elim
  | ok fl =>
    cases fl with
    | next => exact h.elim
    | brk => exact h.elim
    | cont => exact h.elim
    | ret u =>
      obtain ⟨v, H', os, bare, un, hok', r', q⟩ := h
      obtain rfl : v = .bl true := q
      obtain rfl : u = Value.bool true := r'
      obtain ⟨more, z⟩ := un.tbls Pt #[] hP
      have hm := hok' Pt _ z
      have key : ∀ b o, b ≠ Pt → s1.heap.get? b = some o → s'.heap.get? b = some o := fun b o nb e => by
        cases q : H b with
        | none => exact un.keep b o e q (fun z => absurd (show b ∈ ([] : List Addr) from z) (by simp)) (by simp)
        | some u =>
          rcases hat q with ⟨e1, _⟩ | ⟨_, e1, e2, e3⟩
          · exact absurd e1 nb
          · subst e3
            have z2 := un.frzs b _ _ q
            obtain ⟨k1, _⟩ := hok b _ q
            obtain ⟨k2, _⟩ := hok' b _ z2
            rw [e] at k1
            cases k1
            exact k2
      refine ⟨rfl, ⟨fun b o e => ?_, fun b o e => ?_⟩, os, bare⟩
      · by_cases hb : b = Pt
        · rw [hb] at e ⊢
          rw [hT] at e
          cases e
          exact .inr (.inl ⟨(hC.tab hT).isCodeTable, rfl, #[], _, rfl, by rw [Array.empty_append]; exact hm⟩)
        · exact .inl (key b o hb e)
      · by_cases hb : b = Pt
        · rw [hb]
          exact ⟨_, hm⟩
        · exact ⟨o, key b o hb e⟩
/-- the promise of a law that makes lambdas, its table at Pt -/
def spLawT (K : PySem.W.Frag) (Pt : Addr) : Sp := fun vs H Q _ => ∃ (a : Addr) (ns : List Int), vs = [.ref a] ∧ SqL K H a (ns.map V.int) ∧ ns.length ≤ 63 ∧ H Pt = some (.tbl #[]) ∧ (∀ b o, H b = some o → b = Pt ∨ ∀ ps, o ≠ .tbl ps) ∧ ∀ H', Q (.bl true) H'
theorem walk_at_lawT {l : PySem.W.OpenLaw} {n : Nat} {q : Program} {loose : List Str} {XP : (Str → Option Value) → Heap → Prop} {YP : World → Heap → Prop} {d : DefRec} {K : Params → PySem.W.Frag} {CX : CXT} {x : Str}
    (hn : l.most = some n) (hn2 : n ≤ sizeLine) (hdf : d.params.defaults = []) (hY : ∀ (w : World) (h : Heap), YP w h → (K w.params).In h)
    (F : ∀ (w : World) (mg : Str → Option Value) (fa : Addr) (h : Heap), YP w h → (K w.params).In h → h.Ns mainGlobals mg → mg d.name = some (.ref fa) →
      ∃ (fd : FuncData) (c Pt : Addr) (sp : Sp), h.get? Pt = some { cls := .none, data := .fields #[] } ∧ (K w.params).lookup Pt = none ∧ PySem.W.CodeHd h c Pt ∧ (∀ (s : Shared) (u : Value), BindsTo s fd ⟨[u], []⟩ [(x, u)]) ∧
        (∀ (H : Hp) (a : Addr) (ns : List Int), ns.length ≤ n → H Pt = some (.tbl #[]) → (∀ b o, H b = some o → b = Pt ∨ ∀ ps, o ≠ .tbl ps) → SqL (K w.params) H a (ns.map V.int) → sp [.ref a] H (fun v _ => v = .bl true) fun _ _ _ => False) ∧
        ∀ base : Heap, (K w.params).In base → base.Ns mainGlobals mg → TabB base mg c Pt → AtC l.prog w (K w.params) mg base CX fa fd x sp)
    (hCX : ∀ (H : Hp) (s : Shared) (e : Value) (s' : Shared), CX [] H s (fun _ _ _ => False) e s' → False) :
    PySem.W.WalkO q loose XP YP l.row.toRowW d [] (fun f vs => PySem.call f vs) := by
  refine Att.attach_call hn hdf fun w s0 s1 mg mb fa o pm cd doc a vs ns G Y ho hd hcd hmg hobj hints hlen hgen => ?_
  have KX := hY w _ Y
  obtain ⟨fd, c, Pt, sp, hT, nT, hC, hb, hsp, hF⟩ := F w mg fa _ Y KX G.T.g hmg
  exact law_atT KX G.T.g G.T.b G.T.builtins G.T.nolimit hgen hT nT hC G.T.bmain hobj hints (Nat.le_trans hlen hn2) hF hb (fun H hH hO hS => hsp H a ns hlen hH hO hS) fun H e s' => hCX H s1 e s'
end Tp

set_option Elab.async false
set_option linter.all false
set_option maxRecDepth 100000
set_option maxHeartbeats 2000000
namespace Tp
open PySem PySem.Spec PyProof.Rows L2 LamX
/-! ### whether a value is a part -/
def IsP (K : PySem.W.Frag) (H : Hp) (v : V) (b : Bool) : Prop := (∃ n : String, TyX K H v (.type n) ∧ n ∈ kinds ∧ n ≠ "tuple" ∧ b = false) ∨ ∃ (a : Addr) (xs : List V), v = .ref a ∧ H a = some (.tup xs) ∧ (∀ y ∈ xs, Known K H y) ∧ b = tupPart xs
theorem IsP.prog {K : PySem.W.Frag} {H : Hp} {v : V} {b : Bool} (h : IsP K H v b) {R : VK} {E : XK} (r : R (.bl b) H) : spIsPart K [v] H R E := by
  rcases h with ⟨n, t, hn, h1, rfl⟩ | ⟨a, xs, rfl, ha, hk, rfl⟩
  · exact .inl ⟨v, n, rfl, t, hn, h1, r⟩
  · exact .inr ⟨a, xs, rfl, ha, hk, r⟩
theorem IsP.law {K : PySem.W.Frag} {H : Hp} {v : V} {b : Bool} (h : IsP K H v b) {R : VK} {E : XK} (r : ∀ H', Same H H' → R (.bl b) H') : spLIsPart K [v] H R E := by
  rcases h with ⟨n, t, hn, h1, rfl⟩ | ⟨a, xs, rfl, ha, hk, rfl⟩
  · exact .inl ⟨v, n, rfl, t, hn, h1, r⟩
  · exact .inr ⟨a, xs, rfl, ha, hk, r⟩
theorem tupPart_is {xs : List V} (h : tupPart xs = true) : ∃ x y, xs = [.int x, .int y] ∧ partB x y = true := by
  unfold tupPart at h
  split at h
  · exact ⟨_, _, rfl, h⟩
  · cases h
theorem IsP.yes {K : PySem.W.Frag} {H : Hp} {v : V} (h : IsP K H v true) : ∃ a x y, v = .ref a ∧ H a = some (.tup [.int x, .int y]) ∧ partB x y = true := by
  rcases h with ⟨n, t, hn, h1, e⟩ | ⟨a, xs, rfl, ha, hk, e⟩
  · cases e
  · obtain ⟨x, y, rfl, q⟩ := tupPart_is e.symm
    exact ⟨a, x, y, rfl, ha, q⟩
theorem known_same {K : PySem.W.Frag} {H H' : Hp} (s : Same H H') {v : V} (h : Known K H v) : Known K H' v := by
  obtain ⟨n, t, m⟩ := h
  exact ⟨n, tyx_same s t, m⟩
theorem IsP.same {K : PySem.W.Frag} {H H' : Hp} {v : V} {b : Bool} (h : IsP K H v b) (s : Same H H') : IsP K H' v b := by
  rcases h with ⟨n, t, r⟩ | ⟨a, xs, e, ha, hk, r⟩
  · exact .inl ⟨n, tyx_same s t, r⟩
  · exact .inr ⟨a, xs, e, s _ _ ha, fun y m => known_same s (hk y m), r⟩
def dataPart : PyData → Bool
  | .tuple [.int x, .int y] => partB x y
  | _ => false
theorem dza_part {H : Hp} {p : Addr} {xs : List V} {ds : List PyData} (h : DzAll H p xs ds) : tupPart xs = dataPart (.tuple ds) := by
  cases h with
  | nil => rfl
  | cons h1 t =>
    cases t with
    | nil => cases h1 <;> rfl
    | cons h2 t =>
      cases t with
      | nil => cases h1 <;> cases h2 <;> rfl
      | cons h3 t => cases h1 <;> cases h2 <;> rfl
theorem dz_isP {K : PySem.W.Frag} {H : Hp} {p : Addr} {v : V} {d : PyData} (h : Dz H p v d) : IsP K H v (dataPart d) := by
  cases h with
  | non => exact .inl ⟨"NoneType", .base .non, by decide, by decide, rfl⟩
  | bl b => exact .inl ⟨"bool", .base (.bl b), by decide, by decide, rfl⟩
  | int i => exact .inl ⟨"int", .base (.int i), by decide, by decide, rfl⟩
  | str x => exact .inl ⟨"str", .base (.str x), by decide, by decide, rfl⟩
  | lst q _ _ => exact .inl ⟨"list", .base (.lst q), by decide, by decide, rfl⟩
  | tup q a => exact .inr ⟨_, _, rfl, q, dza_known a, (dza_part a).symm⟩
  | dict q _ _ => exact .inl ⟨"dict", .base (.dK q), by decide, by decide, rfl⟩
/-! ### what stays where lambdas are made and bags change -/
def Kp (p : Addr) (H H' : Hp) : Prop := ∀ b o, b ≠ p → (∀ ps, o ≠ .tbl ps) → H b = some o → H' b = some o
theorem Kp.refl (p : Addr) (H : Hp) : Kp p H H := fun _ _ _ _ h => h
theorem Kp.trans {p : Addr} {H H1 H2 : Hp} (a : Kp p H H1) (b : Kp p H1 H2) : Kp p H H2 := fun c o n m h => b c o n m (a c o n m h)
theorem Grow.kp {p : Addr} {H H' : Hp} (g : Grow p H H') : Kp p H H' := fun b o n _ h => g b o n h
theorem extN_kp {p : Addr} {H H' : Hp} (g : ExtN H H') : Kp p H H' := fun b o _ m h => g b o h m
theorem Same.ext {H H' : Hp} (g : Same H H') : ExtN H H' := fun b o h _ => g b o h
theorem Kp.extN {p : Addr} {H0 H H' : Hp} (e : ExtN H0 H) (n : H0 p = none) (g : Kp p H H') : ExtN H0 H' := fun b o h m => g b o (ne_of_none h n) m (e b o h m)
theorem BagAt.extN {H H' : Hp} {p : Addr} (h : BagAt H p) (e : ExtN H H') : BagAt H' p := by
  obtain ⟨a, b, hp, r⟩ := h
  exact ⟨a, b, e _ _ hp (fun _ z => by cases z), r⟩
theorem ExtN.sql {K : PySem.W.Frag} {H H' : Hp} {a : Addr} {xs : List V} (e : ExtN H H') (h : SqL K H a xs) : SqL K H' a xs := by
  rcases h with (h | ⟨o, h⟩) | h
  · exact .inl (.inl (e _ _ h (fun _ z => by cases z)))
  · exact .inl (.inr ⟨o, e _ _ h (fun _ z => by cases z)⟩)
  · exact .inr h
theorem tabs_same {T : List (Addr × Str)} {H H' : Hp} (s : Same H H') (t : Tabs T H) : Tabs T H' := t.ext s
theorem tabs_grow {T : List (Addr × Str)} {H H' : Hp} {p : Addr} (hB : BagAt H p) (g : Grow p H H') (t : Tabs T H) : Tabs T H' := by
  obtain ⟨u, v, hp, _⟩ := hB
  intro q hq
  obtain ⟨ps, h1, h2, h3⟩ := t q hq
  refine ⟨ps, g _ _ (ne_of h1 hp (by intro z; cases z)) h1, h2, fun pos cv hc => ?_⟩
  obtain ⟨c, e1, e2⟩ := h3 pos cv hc
  refine ⟨c, e1, g _ _ (ne_of e2 hp ?_) e2⟩
  intro z
  unfold CodeO at z
  cases z
mutual
theorem dz_kp {H H' : Hp} {p : Addr} (hB : BagAt H p) (g : Kp p H H') : ∀ {v : V} {d : PyData}, Dz H p v d → Dz H' p v d
  | _, _, .non => .non
  | _, _, .bl b => .bl b
  | _, _, .int i => .int i
  | _, _, .str x => .str x
  | _, _, .lst q n a => .lst (g _ _ n (fun _ z => by cases z) q) n (dza_kp hB g a)
  | _, _, .tup q a => .tup (g _ _ (by obtain ⟨u, v, hp, _⟩ := hB; exact ne_of q hp (by intro z; cases z)) (fun _ z => by cases z) q) (dza_kp hB g a)
  | _, _, .dict q a f => .dict (g _ _ (by obtain ⟨u, v, hp, _⟩ := hB; exact ne_of q hp (by intro z; cases z)) (fun _ z => by cases z) q) (dza_kp hB g a) f
theorem dza_kp {H H' : Hp} {p : Addr} (hB : BagAt H p) (g : Kp p H H') : ∀ {vs : List V} {ds : List PyData}, DzAll H p vs ds → DzAll H' p vs ds
  | _, _, .nil => .nil
  | _, _, .cons a b => .cons (dz_kp hB g a) (dza_kp hB g b)
end
/-! ### drawn values -/
structure Val (H : Hp) (p : Addr) (v : V) (d : PyData) : Prop where
  dz : Dz H p v d
  fz : FineZ d
  dep : d.depth ≤ 20
  blk : d.bulk ≤ 5000
  pt : dataPart d = true → ∃ x m : Nat, d = .tuple [.int (x : Int), .int (2 ^ m)] ∧ x ≤ 2 ^ m ∧ m ≤ 60
theorem Val.kp {H H' : Hp} {p : Addr} {v : V} {d : PyData} (h : Val H p v d) (hB : BagAt H p) (g : Kp p H H') : Val H' p v d := ⟨dz_kp hB g h.dz, h.fz, h.dep, h.blk, h.pt⟩
/-- the numbers of a value that is a part -/
theorem Val.tup {H : Hp} {p : Addr} {v : V} {d : PyData} (h : Val H p v d) (e : dataPart d = true) : ∃ (a : Addr) (x m : Nat), v = .ref a ∧ d = .tuple [.int (x : Int), .int (2 ^ m)] ∧ isTup H a x m ∧ partB (x : Int) (2 ^ m) = true ∧ x ≤ 2 ^ m ∧ m ≤ 60 := by
  obtain ⟨x, m, rfl, hx, hm⟩ := h.pt e
  have z := h.dz
  cases z with
  | tup q a =>
    cases a with
    | cons a1 t =>
      cases t with
      | cons a2 t =>
        cases t
        cases a1
        cases a2
        exact ⟨_, x, m, rfl, rfl, q, e, hx, hm⟩
def spValue : Sp := fun vs H Q _ => ∃ p : Addr, vs = [.ref p] ∧ BagAt H p ∧ ∀ H' v d, Grow p H H' → BagAt H' p → Val H' p v d → Q v H'
/-! ### repr of what a call came to: a tuple of a word and a value -/
theorem fz_pair {s : Str} {d : PyData} (hs : s.cps.size ≤ 100) (hc : s.cps.toList.all (fun c => decide (c < 16 ^ 8)) = true) (f : FineZ d) (h1 : d.depth ≤ 20) (h2 : d.bulk ≤ 5000) :
    (PyData.tuple [.str s, d]).showable = true ∧ (PyData.tuple [.str s, d]).leavesShort 64 = true ∧ (PyData.tuple [.str s, d]).depth ≤ 40 ∧ (PyData.tuple [.str s, d]).bulk ≤ 10000 := by
  refine ⟨?_, ?_, ?_, ?_⟩
  · exact (sm_tuple (sm_cons (sm_str hc) (sm_cons ⟨f.show_, f.short⟩ sm_nil))).1
  · exact (sm_tuple (sm_cons (sm_str hc) (sm_cons ⟨f.show_, f.short⟩ sm_nil))).2
  · show max 0 (max d.depth 0) + 1 ≤ 40
    omega
  · show s.cps.size + 1 + (d.bulk + 1 + 0) ≤ 10000
    omega
theorem reads_noSys {X : Cx} {pins : List (Addr × Obj)} {σ : L2.St} {H : Hp} {s : Shared} {p : Addr} {v : V} {d : PyData} {u : Value} {as : List Addr} (I : Inv X pins σ H s) (h : Dz H p v d) (r : RelV v u) (fz : FineZ d) (rd : Reads s.heap u d as) : d.hasDict = true → sysModules ∉ as := by
  intro z m
  obtain ⟨kvs, e, f1, f2⟩ := fz.dict z
  cases h with
  | dict hq ha hf =>
    cases (show u = Value.ref _ from r)
    have ns := (I.hok _ _ hq).2.1
    cases e
    cases rd with
    | dict _ _ _ r1 r2 =>
      rw [reads_flatAll r1 f1, reads_flatAll r2 f2] at m
      simp only [List.append_nil, List.mem_singleton] at m
      rw [← m] at ns
      simp at ns
  | _ => cases e
theorem reprP {X : Cx} (hg : X.A.guards = some []) (hu : X.A.units + 64 < cLine) :
    CallR X (.builtin "repr") (fun xs H Q => ∃ p a s v d, xs = [.ref a] ∧ H a = some (.tup [.str s, v]) ∧ Dz H p v d ∧ FineZ d ∧ d.depth ≤ 20 ∧ d.bulk ≤ 5000 ∧ s.cps.size ≤ 100 ∧ s.cps.toList.all (fun c => decide (c < 16 ^ 8)) = true ∧ Q (.str (PyData.tuple [.str s, d]).shown) H) := by
  intro pins s σ H xs us Q I r h
  obtain ⟨p, a, x, v, d, rfl, ha, hd, fz, h1, h2, h3, h4, q⟩ := h
  obtain ⟨u, rfl, ru⟩ := vals1 r
  obtain ⟨f1, f2, f3, f4⟩ := fz_pair h3 h4 fz h1 h2
  have hsz := shown_fits f2 f4
  have dzt : Dz H p (.ref a) (.tuple [.str x, d]) := .tup ha (.cons (.str x) (.cons hd .nil))
  cases (show u = Value.ref a from ru)
  obtain ⟨its, rv, ⟨o, ho, hc, n, hdat⟩, _⟩ := I.tuple (SqT.of (K := X.K) ha)
  obtain ⟨u1, u2, rfl⟩ : ∃ u1 u2, its = [u1, u2] := by
    cases rv with
    | cons a1 t => cases t with | cons a2 t => cases t; exact ⟨_, _, rfl⟩
  cases rv with
  | cons a1 t =>
    cases t with
    | cons a2 t =>
      obtain ⟨as, rd⟩ := dz_reads I hd a2
      obtain ⟨tk, rfl⟩ : ∃ t, u1 = Value.str x t := a1
      have rt : Reads s.heap (.ref a) (.tuple [.str x, d]) _ := Reads.tuple ho hc hdat (.cons (.str x tk) (.cons rd .nil))
      refine repr_of_reads' rt f1 (fun z => ?_) hg (by omega) (fun _ _ e => e) (fun h' u tk hk => ⟨.str _, H, I.kept hk, ⟨_, rfl⟩, q⟩) hsz
      have z' : d.hasDict = true := by
        have e : (PyData.tuple [.str x, d]).hasDict = (false || (d.hasDict || false)) := rfl
        rw [e] at z
        simpa using z
      have k := reads_noSys I hd a2 fz rd z'
      simpa using k
end Tp

set_option Elab.async false
set_option linter.all false
set_option maxRecDepth 100000
set_option maxHeartbeats 2000000
namespace Tp
open PySem PySem.Spec PyProof.Rows L2

/-! ### words and names -/
def nameS (s : Str) : Bool := decide (1 ≤ s.length) && (decide (s.length ≤ 6) && s.cps.toList.all fun c => decide (97 ≤ c ∧ c ≤ 122))
def nameV : V → Bool
  | .str s => nameS s
  | _ => false
/-- is this one of the words? -/
def wordIn (zs : List Str) : V → Bool
  | .str s => zs.any fun z => z == s
  | _ => false
theorem inV_word {x : V} (h : flatV x = true) (zs : List Str) : inV x (zs.map V.str) = wordIn zs x := by
  unfold inV
  rw [List.any_map]
  cases x with
  | str s => rfl
  | non => exact List.any_eq_false.mpr fun z _ => by simp [eqV]
  | bl b => exact List.any_eq_false.mpr fun z _ => by simp [eqV]
  | int i => exact List.any_eq_false.mpr fun z _ => by simp [eqV]
  | byt _ => cases h
  | flt _ => cases h
  | ref _ => cases h
  | ty _ => cases h
theorem strs_flat (zs : List Str) : (zs.map V.str).all flatV = true := by
  rw [List.all_map]
  exact List.all_eq_true.mpr fun z _ => rfl
theorem ascii_name : ∀ c : Nat, c < 128 → (Unicode.isAlpha c && !(Unicode.isUpper c || Unicode.isTitle c)) = decide (97 ≤ c ∧ c ≤ 122) := by decide +kernel
theorem lower_name : ∀ c : Nat, 97 ≤ c ∧ c ≤ 122 → Unicode.isLower c = true ∧ Unicode.isAlpha c = true ∧ (Unicode.isUpper c || Unicode.isTitle c) = false := by
  intro c h
  have k : ∀ d : Nat, d < 26 → Unicode.isLower (97 + d) = true ∧ Unicode.isAlpha (97 + d) = true ∧ (Unicode.isUpper (97 + d) || Unicode.isTitle (97 + d)) = false := by decide +kernel
  have := k (c - 97) (by omega)
  rwa [show 97 + (c - 97) = c by omega] at this
theorem letters_iff {s : Str} (h1 : 1 ≤ s.length) : (Txt.isascii s && (Txt.isalpha s && Txt.islower s)) = s.cps.toList.all fun c => decide (97 ≤ c ∧ c ≤ 122) := by
  have el : s.cps.toList.length = s.length := Array.length_toList
  by_cases h : (s.cps.toList.all fun c => decide (97 ≤ c ∧ c ≤ 122)) = true
  · rw [h]
    have k : ∀ c ∈ s.cps.toList, 97 ≤ c ∧ c ≤ 122 := fun c hc => of_decide_eq_true (List.all_eq_true.mp h c hc)
    have a1 : s.cps.all (· < 128) = true := by
      rw [← Array.all_toList]
      exact List.all_eq_true.mpr fun c hc => by have := k c hc; simp; omega
    have a2 : s.cps.all Unicode.isAlpha = true := by
      rw [← Array.all_toList]
      exact List.all_eq_true.mpr fun c hc => (lower_name c (k c hc)).2.1
    have a3 : s.cps.any Unicode.isLower = true := by
      rw [← Array.any_toList]
      obtain ⟨c, r, e⟩ : ∃ c r, s.cps.toList = c :: r := by
        cases e : s.cps.toList with
        | nil => rw [e] at el; simp at el; omega
        | cons c r => exact ⟨c, r, rfl⟩
      exact List.any_eq_true.mpr ⟨c, by rw [e]; simp, (lower_name c (k c (by rw [e]; simp))).1⟩
    have a4 : (s.cps.any fun c => Unicode.isUpper c || Unicode.isTitle c) = false := by
      rw [← Array.any_toList]
      exact List.any_eq_false.mpr fun c hc => by rw [(lower_name c (k c hc)).2.2]; simp
    unfold Txt.isascii Txt.isalpha Txt.islower
    rw [a1, a2, a3, a4]
    simp
    omega
  · have hf : (s.cps.toList.all fun c => decide (97 ≤ c ∧ c ≤ 122)) = false := Bool.eq_false_iff.mpr h
    rw [hf]
    by_cases g : (Txt.isascii s && (Txt.isalpha s && Txt.islower s)) = true
    · exfalso
      simp only [Bool.and_eq_true] at g
      obtain ⟨g1, g2, g3⟩ := g
      refine h (List.all_eq_true.mpr fun c hc => ?_)
      have b1 : c < 128 := by
        unfold Txt.isascii at g1
        rw [← Array.all_toList] at g1
        exact of_decide_eq_true (List.all_eq_true.mp g1 c hc)
      have b2 : Unicode.isAlpha c = true := by
        unfold Txt.isalpha at g2
        rw [Bool.and_eq_true, ← Array.all_toList] at g2
        exact List.all_eq_true.mp g2.2 c hc
      have b3 : (Unicode.isUpper c || Unicode.isTitle c) = false := by
        unfold Txt.islower at g3
        rw [Bool.and_eq_true, ← Array.any_toList, ← Array.any_toList] at g3
        have g4 := g3.2
        rw [Bool.not_eq_true', List.any_eq_false] at g4
        exact Bool.eq_false_iff.mpr (g4 c hc)
      have z := ascii_name c b1
      rw [b2, b3] at z
      exact z.symm
    · exact Bool.eq_false_iff.mpr g

/-! ### a test in the middle -/
theorem pt_cut {X : Cx} {e : Expr} {te : TT} (h : PT X e te) : PT X e (fun σ H Q => ∃ M : Bool → Hp → Prop, te σ H M ∧ ∀ b H', M b H' → Q b H') := by
  refine ⟨fun pins s σ H Q I hq => ?_⟩
  obtain ⟨M, hm, k⟩ := hq
  refine thn (h.run pins s σ H M I hm) fun u s1 hh => ?_
  obtain ⟨H1, I1, q1⟩ := hh
  exact ⟨H1, I1, k u H1 q1⟩

/-! ### comparisons of a word that may be any data -/
theorem op_or {X : Cx} {f : Value → Value → Sem Value} {r1 r2 : R2} (h1 : OpR X f r1) (h2 : OpR X f r2) : OpR X f (fun x y H Q => r1 x y H Q ∨ r2 x y H Q) := by
  intro pins s σ H x y v u Q I rx ry h
  rcases h with h | h
  · exact h1 pins s σ H x y v u Q I rx ry h
  · exact h2 pins s σ H x y v u Q I rx ry h
/-- some data among texts of a tuple -/
def rInT (K : PySem.W.Frag) : R2 := fun x y H Q => ∃ (p : Addr) (zs : List Str) (d : PyData), y = .ref p ∧ SqT K H p (zs.map V.str) ∧ Dp K H x d ∧ d.canLay0 = true ∧ (zs.all fun z => PyData.strOk z) = true ∧ (∀ z, PyData.eqv (.str z) d = false) ∧ Q (.bl false) H
theorem dp_strs {K : PySem.W.Frag} {H : Hp} : ∀ zs : List Str, DpAll K H (zs.map V.str) (zs.map PyData.str)
  | [] => .nil
  | z :: r => .cons (.str z) (dp_strs r)
theorem strs_lay : ∀ zs : List Str, (zs.all fun z => PyData.strOk z) = true → PyData.canLayAll0 (zs.map PyData.str) = true
  | [], _ => rfl
  | z :: r, h => by
    rw [List.all_cons, Bool.and_eq_true] at h
    show (PyData.canLay0 (.str z) && PyData.canLayAll0 (r.map PyData.str)) = true
    rw [strs_lay r h.2]
    show (PyData.strOk z && true) = true
    rw [h.1]
    rfl
theorem strs_deep : ∀ zs : List Str, PyData.depthAll (zs.map PyData.str) = 0
  | [] => rfl
  | z :: r => by
    show max (PyData.depth (.str z)) (PyData.depthAll (r.map PyData.str)) = 0
    rw [strs_deep r]
    rfl
theorem op_inT {X : Cx} (hu : X.A.units + 64 < cLine) : OpR X (compareOp .In) (rInT X.K) := by
  intro pins s σ H x y v u Q I rx ry h
  obtain ⟨p, zs, d, rfl, hT, hd, cd, cz, no, q⟩ := h
  obtain ⟨as, r1⟩ := Dp.reads I d x v hd rx
  obtain ⟨bs, r2⟩ := Dp.reads I (.tuple (zs.map PyData.str)) (.ref p) u (.tup hT (dp_strs zs)) ry
  refine SeqAt.in_tuple_reads r2 r1 (strs_lay zs cz) cd (by rw [strs_deep]; omega) ⟨.bl _, H, I, rfl, ?_⟩
  have e : ((zs.map PyData.str).any fun y => PyData.eqv y d) = false := by
    rw [List.any_map]
    exact List.any_eq_false.mpr fun z _ => by simp [no z]
  rw [e]
  exact q

/-! ### [e for c in s] -/
theorem lc_str {x : Str} {g : TG} {tt : TT} {te : TE} {vs : List Nat} {σ : L2.St} {H1 : Hp} {D : Addr} {Qd : Hp → Prop} (Pv : Nat → Hp → Prop) (h0 : Pv 0 (upd H1 D (.lst [])))
    (hs : ∀ i c H, x.cps[i]? = some c → Pv i H → g (.str ⟨#[c]⟩) (wipe σ vs) H fun σ2 H2 => wipe σ2 vs = wipe σ vs ∧ tt σ2 H2 fun b H3 =>
      if b = true then te σ2 H3 fun y H4 => ∃ acc, H4 D = some (.lst acc) ∧ acc.length < sizeLine ∧ Pv (i + 1) (upd H4 D (.lst (acc ++ [y]))) else Pv (i + 1) H3) (hd : ∀ H, Pv x.cps.size H → Qd H) :
    ∃ W : Nat → Nat → Hp → Prop, (∃ m, W 0 m (upd H1 D (.lst []))) ∧ ∀ i m H, W i m H →
      ((Its x).stop i H ∧ Qd H) ∨ ((Its x).go i H ∧ ∃ Nx : Hp → Prop, (∀ H', Nx H' → ∃ m', m' < m ∧ W (i + 1) m' H') ∧ ∀ y H', (Its x).yld i H y H' → g y (wipe σ vs) H' fun σ2 H2 => wipe σ2 vs = wipe σ vs ∧ tt σ2 H2 fun b H3 =>
        if b = true then te σ2 H3 fun y H4 => ∃ acc, H4 D = some (.lst acc) ∧ acc.length < sizeLine ∧ Nx (upd H4 D (.lst (acc ++ [y]))) else Nx H3) := by
  refine ⟨fun i m H => m = x.cps.size - i ∧ i ≤ x.cps.size ∧ Pv i H, ⟨x.cps.size, by simp, Nat.zero_le _, h0⟩, ?_⟩
  rintro i m H ⟨rfl, hi, p⟩
  by_cases hlt : i < x.cps.size
  · refine .inr ⟨hlt, Pv (i + 1), fun H' p' => ⟨x.cps.size - (i + 1), by omega, rfl, hlt, p'⟩, fun y H' yy => ?_⟩
    obtain ⟨rfl, c, hc, rfl⟩ := yy
    exact hs i c H' hc p
  · have e : i = x.cps.size := by omega
    subst e
    exact .inl ⟨Nat.le_refl _, hd H p⟩

/-! ### deeds -/
/-- a word: flat, or data that are no text -/
def Wd (K : PySem.W.Frag) (H : Hp) (w : V) : Prop := flatV w = true ∨ ∃ d, Dp K H w d ∧ SeqAt.shaped d = true ∧ wordIn [] w = false ∧ (∀ s, w ≠ .str s) ∧ ∀ z, PyData.eqv (.str z) d = false ∧ PyData.eqv d (.str z) = false
/-- what comes behind it: of a plain kind, texts not long -/
def Sd (K : PySem.W.Frag) (H : Hp) (x : V) : Prop := ∃ n, TyX K H x (.type n) ∧ n ∈ kinds ∧ ∀ s, x = .str s → s.length ≤ 1000
def aloneW : List Str := ["get", "boxes", "make", "clone"]
def boxW : List Str := ["take", "clear", "give"]
def targetW : List Str := ["give", "make", "clone"]
def addV : V → Bool
  | .int i => decide (-(10 ^ 9) ≤ i ∧ i ≤ 10 ^ 9)
  | _ => false
def isAdd (w : V) : Bool := decide (w = .str "add")
def deedL : List V → Bool
  | [w] => wordIn aloneW w
  | [w, x] => if isAdd w then addV x else wordIn boxW w && nameV x
  | _ => false
def Th (K : PySem.W.Frag) (H : Hp) (v : V) (b : Bool) : Prop := (∃ n, TyX K H v (.type n) ∧ n ∈ kinds ∧ n ≠ "tuple" ∧ b = false) ∨ ∃ a xs, v = .ref a ∧ H a = some (.tup xs) ∧ (∀ w r, xs = w :: r → Wd K H w ∧ Known K H w) ∧ (∀ w x r, xs = w :: x :: r → Sd K H x) ∧ b = deedL xs
theorem tyx_str {K : PySem.W.Frag} {H : Hp} {y : V} (h : TyX K H y (.type "str")) : ∃ s, y = .str s := by
  generalize e : Value.type "str" = t at h
  cases h with
  | base b =>
    cases b with
    | str s => exact ⟨s, rfl⟩
    | _ => first | (exact absurd (Value.type.inj e) (by decide)) | cases e
  | _ => first | (exact absurd (Value.type.inj e) (by decide)) | cases e
theorem tyx_isS {K : PySem.W.Frag} {H : Hp} {s : Str} {n : String} (h : TyX K H (.str s) (.type n)) : n = "str" := by
  generalize ex : V.str s = x at h
  generalize e : Value.type n = t at h
  cases h with
  | base b =>
    cases b with
    | str s =>
      cases e
      rfl
    | _ => cases ex
  | _ => cases ex
theorem kit_str {n : String} (hn : n ∈ kinds) (h : n ≠ "str") : kitB n "str" = some false := by
  simp only [kinds, List.mem_cons, List.not_mem_nil, or_false] at hn
  rcases hn with rfl | rfl | rfl | rfl | rfl | rfl | rfl
  · decide +kernel
  · decide +kernel
  · decide +kernel
  · exact absurd rfl h
  · decide +kernel
  · decide +kernel
  · decide +kernel
theorem name_no {K : PySem.W.Frag} {H : Hp} {x : V} {n : String} (t : TyX K H x (.type n)) (h : n ≠ "str") : nameV x = false := by
  match x, t with
  | .str j, t => exact absurd (tyx_isS t) h
  | .non, _ => rfl
  | .bl _, _ => rfl
  | .int _, _ => rfl
  | .byt _, _ => rfl
  | .flt _, _ => rfl
  | .ref _, _ => rfl
  | .ty _, _ => rfl
theorem word_no {zs : List Str} {w : V} (h : ∀ s, w ≠ .str s) : wordIn zs w = false := by
  cases w with
  | str s => exact absurd rfl (h s)
  | _ => rfl
theorem add_no {K : PySem.W.Frag} {H : Hp} {x : V} {n : String} (t : TyX K H x (.type n)) (h : n ≠ "int") : addV x = false := by
  match x, t with
  | .int j, t => exact absurd (tyx_is t) h
  | .non, _ => rfl
  | .bl _, _ => rfl
  | .str _, _ => rfl
  | .byt _, _ => rfl
  | .flt _, _ => rfl
  | .ref _, _ => rfl
  | .ty _, _ => rfl
theorem Th.same {K : PySem.W.Frag} {H H' : Hp} {v : V} {b : Bool} (h : Th K H v b) (s : Same H H') : Th K H' v b := by
  rcases h with ⟨n, t, r⟩ | ⟨a, xs, e, ha, hw, hx, r⟩
  · exact .inl ⟨n, tyx_same s t, r⟩
  · refine .inr ⟨a, xs, e, s _ _ ha, fun w r e => ?_, fun w x r e => ?_, r⟩
    · obtain ⟨h1, h2⟩ := hw w r e
      refine ⟨?_, known_same s h2⟩
      rcases h1 with h1 | ⟨d, h3, h4⟩
      · exact .inl h1
      · exact .inr ⟨d, dp_same s _ _ h3, h4⟩
    · obtain ⟨n, t, m, l⟩ := hx w x r e
      exact ⟨n, tyx_same s t, m, l⟩

/-! ### drawn things -/
def wOk : PyData → Bool
  | .list ds => (PyData.list ds).canLay0 && Nat.ble (PyData.list ds).depth 60
  | .tuple ds => (PyData.tuple ds).canLay0 && Nat.ble (PyData.tuple ds).depth 60
  | .dict _ => false
  | _ => true
def xOk : PyData → Bool
  | .str s => Nat.ble s.length 1000
  | _ => true
def thOk : PyData → Bool
  | .tuple [w] => wOk w
  | .tuple (w :: x :: _) => wOk w && xOk x
  | _ => true
def Thing7 (H : Hp) (p : Addr) (v : V) : Prop := ∃ d, Dz H p v d ∧ thOk d = true
def spThing7 : Sp := fun vs H Q _ => ∃ p : Addr, vs = [.ref p] ∧ BagAt H p ∧ ∀ H' v, Grow p H H' → BagAt H' p → Thing7 H' p v → Q v H'
mutual
theorem dz_dp {K : PySem.W.Frag} {H : Hp} {p : Addr} : ∀ {v : V} {d : PyData}, Dz H p v d → d.canLay0 = true → Dp K H v d
  | _, _, .non, _ => .non
  | _, _, .bl b, _ => .bl b
  | _, _, .int i, _ => .int i
  | _, _, .str x, _ => .str x
  | _, _, .lst q _ a, h => .lst (SqL.of q) (dza_dp a h)
  | _, _, .tup q a, h => .tup (SqT.of q) (dza_dp a h)
  | _, _, .dict _ _ _, h => by cases h
theorem dza_dp {K : PySem.W.Frag} {H : Hp} {p : Addr} : ∀ {vs : List V} {ds : List PyData}, DzAll H p vs ds → PyData.canLayAll0 ds = true → DpAll K H vs ds
  | _, _, .nil, _ => .nil
  | _, _, .cons a b, h => by
    have h' : (PyData.canLay0 _ && PyData.canLayAll0 _) = true := h
    rw [Bool.and_eq_true] at h'
    exact .cons (dz_dp a h'.1) (dza_dp b h'.2)
end
theorem wd_of {K : PySem.W.Frag} {H : Hp} {p : Addr} {w : V} {d : PyData} (h : Dz H p w d) (o : wOk d = true) : Wd K H w := by
  have sh : ∀ e : PyData, (e.canLay0 && Nat.ble e.depth 60) = true → e.canLay0 = true ∧ SeqAt.shaped e = true := fun e z => by
    rw [Bool.and_eq_true] at z
    have := ble z.2
    refine ⟨z.1, ?_⟩
    unfold SeqAt.shaped
    rw [z.1, decide_eq_true (show e.depth ≤ 64 by omega)]
    rfl
  cases h with
  | non => exact .inl rfl
  | bl b => exact .inl rfl
  | int i => exact .inl rfl
  | str x => exact .inl rfl
  | lst q n a =>
    obtain ⟨h1, h2⟩ := sh _ o
    exact .inr ⟨_, dz_dp (.lst q n a) h1, h2, rfl, (fun s z => V.noConfusion z), fun z => ⟨rfl, rfl⟩⟩
  | tup q a =>
    obtain ⟨h1, h2⟩ := sh _ o
    exact .inr ⟨_, dz_dp (.tup q a) h1, h2, rfl, (fun s z => V.noConfusion z), fun z => ⟨rfl, rfl⟩⟩
  | dict _ _ _ => cases o
theorem sd_of {K : PySem.W.Frag} {H : Hp} {p : Addr} {x : V} {d : PyData} (h : Dz H p x d) (o : xOk d = true) : Sd K H x := by
  obtain ⟨n, t, m⟩ := dz_known (K := K) h
  refine ⟨n, t, m, fun s e => ?_⟩
  subst e
  cases h
  exact ble o
theorem th_of {K : PySem.W.Frag} {H : Hp} {p : Addr} {v : V} (h : Thing7 H p v) : ∃ b, Th K H v b := by
  obtain ⟨d, dz, o⟩ := h
  cases dz with
  | non => exact ⟨false, .inl ⟨"NoneType", .base .non, by decide, by decide, rfl⟩⟩
  | bl b => exact ⟨false, .inl ⟨"bool", .base (.bl b), by decide, by decide, rfl⟩⟩
  | int i => exact ⟨false, .inl ⟨"int", .base (.int i), by decide, by decide, rfl⟩⟩
  | str x => exact ⟨false, .inl ⟨"str", .base (.str x), by decide, by decide, rfl⟩⟩
  | lst q _ _ => exact ⟨false, .inl ⟨"list", .base (.lst q), by decide, by decide, rfl⟩⟩
  | dict q _ _ => exact ⟨false, .inl ⟨"dict", .base (.dK q), by decide, by decide, rfl⟩⟩
  | @tup a xs ds q al =>
    refine ⟨deedL xs, .inr ⟨a, xs, rfl, q, fun w r e => ?_, fun w x r e => ?_, rfl⟩⟩
    · subst e
      cases al with
      | cons a1 t =>
        refine ⟨?_, dz_known a1⟩
        cases t with
        | nil => exact wd_of a1 o
        | cons a2 t =>
          have o' : (wOk _ && xOk _) = true := o
          rw [Bool.and_eq_true] at o'
          exact wd_of a1 o'.1
    · subst e
      cases al with
      | cons a1 t =>
        cases t with
        | cons a2 t =>
          have o' : (wOk _ && xOk _) = true := o
          rw [Bool.and_eq_true] at o'
          exact sd_of a2 o'.2
theorem Thing7.grow {H H' : Hp} {p : Addr} {v : V} (h : Thing7 H p v) (hB : BagAt H p) (g : Grow p H H') : Thing7 H' p v := by
  obtain ⟨d, dz, o⟩ := h
  exact ⟨d, dz_grow hB g dz, o⟩
end Tp

set_option Elab.async false
set_option linter.all false
set_option maxRecDepth 100000
set_option maxHeartbeats 4000000
namespace Tp
open PySem PySem.Spec PyProof.Rows L2
/-! ### the text by places -/
def top (i : Nat) : Stmt := PySem.Challenge.pw_trailparts_k07_deeds_known.main.body.getD i (.Pass ⟨0, 0, 0, 0⟩)
abbrev s_is_plain_int : Stmt := top 1
abbrev s_is_name : Stmt := top 2
abbrev s_is_deed : Stmt := top 8
abbrev s_takes_gift : Stmt := top 9
abbrev s_takes_target : Stmt := top 10
abbrev s_l_bag : Stmt := top 12
abbrev s_l_take : Stmt := top 13
abbrev s_l_whole : Stmt := top 14
abbrev s_l_odd : Stmt := top 15
abbrev s_l_name_or_not : Stmt := top 16
abbrev s_l_number_or_not : Stmt := top 17
abbrev s_l_is_name : Stmt := top 18
abbrev s_l_value : Stmt := top 19
abbrev s_l_due : Stmt := top 20
abbrev s_law : Stmt := top 21
theorem sc_is_plain_int : FnScope ["thing"] ["thing"] (defScope s_is_plain_int) := ⟨rfl, rfl, rfl, by decide +kernel, rfl, by decide +kernel, by decide +kernel⟩
theorem sc_is_name : FnScope ["thing"] ["thing"] (defScope s_is_name) := ⟨rfl, rfl, rfl, by decide +kernel, rfl, by decide +kernel, by decide +kernel⟩
theorem sc_is_deed : FnScope ["thing", "word"] ["thing"] (defScope s_is_deed) := ⟨rfl, rfl, rfl, by decide +kernel, rfl, by decide +kernel, by decide +kernel⟩
theorem sc_takes_gift : FnScope ["deed"] ["deed"] (defScope s_takes_gift) := ⟨rfl, rfl, rfl, by decide +kernel, rfl, by decide +kernel, by decide +kernel⟩
theorem sc_takes_target : FnScope ["deed"] ["deed"] (defScope s_takes_target) := ⟨rfl, rfl, rfl, by decide +kernel, rfl, by decide +kernel, by decide +kernel⟩
theorem sc_l_bag : FnScope ["_law_script", "_law_at", "_law_cell", "_law_mixed", "_law_spot", "_law_other"] ["_law_script", "_law_at"] (defScope s_l_bag) := ⟨rfl, rfl, rfl, by decide +kernel, rfl, by decide +kernel, by decide +kernel⟩
theorem sc_l_take : FnScope ["_law_bag_here", "_law_many", "_law_digit"] ["_law_bag_here", "_law_many"] (defScope s_l_take) := ⟨rfl, rfl, rfl, by decide +kernel, rfl, by decide +kernel, by decide +kernel⟩
theorem sc_l_whole : FnScope ["_law_thing"] ["_law_thing"] (defScope s_l_whole) := ⟨rfl, rfl, rfl, by decide +kernel, rfl, by decide +kernel, by decide +kernel⟩
theorem sc_l_odd : FnScope ["_law_bag_here", "_law_some"] ["_law_bag_here"] (defScope s_l_odd) := ⟨rfl, rfl, rfl, by decide +kernel, rfl, by decide +kernel, by decide +kernel⟩
theorem sc_l_name_or_not : FnScope ["_law_bag_here", "_law_signs", "_law_text", "_law_k", "_law_some"] ["_law_bag_here"] (defScope s_l_name_or_not) := ⟨rfl, rfl, rfl, by decide +kernel, rfl, by decide +kernel, by decide +kernel⟩
theorem sc_l_number_or_not : FnScope ["_law_bag_here", "_law_far", "_law_some"] ["_law_bag_here"] (defScope s_l_number_or_not) := ⟨rfl, rfl, rfl, by decide +kernel, rfl, by decide +kernel, by decide +kernel⟩
theorem sc_l_is_name : FnScope ["_law_thing", "_law_sign"] ["_law_thing"] (defScope s_l_is_name) := ⟨rfl, rfl, rfl, by decide +kernel, rfl, by decide +kernel, by decide +kernel⟩
theorem sc_l_value : FnScope ["_law_bag_here", "_law_words", "_law_word", "_law_way", "_law_box", "_law_more", "_law_some"] ["_law_bag_here"] (defScope s_l_value) := ⟨rfl, rfl, rfl, by decide +kernel, rfl, by decide +kernel, by decide +kernel⟩
theorem sc_l_due : FnScope ["_law_thing"] ["_law_thing"] (defScope s_l_due) := ⟨rfl, rfl, rfl, by decide +kernel, rfl, by decide +kernel, by decide +kernel⟩
theorem sc_law : FnScope ["_law_script", "_law_k", "_law_bag_here", "_law_turn", "_law_thing", "_law_due_here", "_law_again"] ["_law_script"] (defScope s_law) := ⟨rfl, rfl, rfl, by decide +kernel, rfl, by decide +kernel, by decide +kernel⟩
/-- the builtins that the text calls by their names -/
structure Bl (mg : Str → Option Value) : Prop where
  b_abs : mg "abs" = none
  b_all : mg "all" = none
  b_bool : mg "bool" = none
  b_enumerate : mg "enumerate" = none
  b_int : mg "int" = none
  b_isinstance : mg "isinstance" = none
  b_len : mg "len" = none
  b_max : mg "max" = none
  b_min : mg "min" = none
  b_range : mg "range" = none
  b_repr : mg "repr" = none
  b_str : mg "str" = none
  b_tuple : mg "tuple" = none
/-! ### the law's numbers -/
section
variable {P : Program} {w : World} {K : PySem.W.Frag} {mg : Str → Option Value} {base : Heap}
theorem ok_take {f : Addr} {fd : FuncData} (F : Fun K "_law_take" "_law_take" s_l_take f fd) : FnOk P w K mg base L2.CX0 1 f fd ["_law_bag_here", "_law_many"] spTake := by
  refine F.ok sc_l_take (fun vs H Q E h => ?_) (fun cdv A outer s H vs Q E hr h => ?_)
  · obtain ⟨p, m, rfl, _⟩ := h
    rfl
  · obtain ⟨p, m, rfl, ⟨a, b, hp, a0, b0, b1⟩, m0, m1, q⟩ := h
    have nd := sc_l_take.nd
    refine ⟨_, (pss_cons (ps_if (pt_cmpR op_gt (pe_ix ix_seq (pv 0) pe_int (fun _ _ => rfl)) pe_int (nomark _))
        (pss_cons (ps_set (i := 2) nd rfl (.inl rfl) (pe_op op_mod (pe_ix ix_seq (pv 0) pe_int (fun _ _ => rfl)) (pv 1)))
        (pss_cons (ps_asg (pe_op op_fdivW (pe_ix ix_seq (pv 0) pe_int (fun _ _ => rfl)) (pv 1)) (pg_sub (pv 0) pe_int set_list))
        (pss_one (ps_ret (pv 2)))))
        pss_nil)
      (pss_cons (ps_asg (pe_op op_mod (pe_op op_add (pe_op op_mulX (pe_ix ix_seq (pv 0) pe_int (fun _ _ => rfl)) pe_int) pe_int) pe_int) (pg_sub (pv 0) pe_int set_list))
      (pss_one (ps_ret (pe_op op_mod (pe_op op_fdivW (pe_op op_mod (pe_op op_mulX (pe_op op_fdivW (pe_ix ix_seq (pv 0) pe_int (fun _ _ => rfl)) pe_int) pe_int) pe_int) pe_int) (pv 1)))))), ?_⟩
    refine ⟨_, rfl, ixl (j := 0) hp rfl ⟨_, _, rfl, rfl, _, rfl, ite2 (fun e => ?_) (fun e => ?_)⟩⟩
    · -- the cell's own digits
      refine ⟨_, rfl, ixl (j := 0) hp rfl ⟨_, rfl, _, _, rfl, rfl, m0, ?_⟩⟩
      refine ⟨_, rfl, ixl (j := 0) hp rfl ⟨_, rfl, _, _, rfl, rfl, wide_div m0 m1 (by decide) (by decide), ?_⟩⟩
      refine ⟨_, rfl, p, _, _, 0, rfl, rfl, hp, rfl, ?_⟩
      refine ⟨_, rfl, ?_⟩
      exact q _ _ (fun z hz => upd_ne hz) ⟨_, _, upd_same, Int.ediv_nonneg a0 (Int.le_of_lt m0), b0, b1⟩ (Int.emod_nonneg _ (by omega)) (Int.emod_lt_of_pos _ m0)
    · -- the mixed number
      refine ⟨_, rfl, ixl (j := 1) hp rfl ⟨_, _, rfl, rfl, mulx_ok (a := 64) (b := 64) (by omega) (by decide) (by decide), _, _, rfl, rfl, _, _, rfl, rfl, (by show (0 : Int) < 2147483399; decide), ?_⟩⟩
      refine ⟨_, rfl, p, _, _, 1, rfl, rfl, hp, rfl, ?_⟩
      have c0 : 0 ≤ (b * 40692 + 3791) % 2147483399 := Int.emod_nonneg _ (by decide)
      have c1 : (b * 40692 + 3791) % 2147483399 < 2147483399 := Int.emod_lt_of_pos _ (by decide)
      refine ⟨_, rfl, ixl (j := 1) upd_same rfl ⟨_, _, rfl, rfl, wide_div (by decide) (b := 64) (by decide) (by decide) (by decide), _, _, rfl, rfl, mulx_ok (a := 64) (b := 64) (by omega) (by decide) (by decide), ?_⟩⟩
      refine ⟨_, _, rfl, rfl, (by show (0 : Int) < 2147483249; decide), _, _, rfl, rfl, wide_div (by decide) (b := 64) (by decide) (by decide) (by decide), _, rfl, _, _, rfl, rfl, m0, ?_⟩
      exact q _ _ (fun z hz => upd_ne hz) ⟨_, _, upd_same, a0, c0, by omega⟩ (Int.emod_nonneg _ (by omega)) (Int.emod_lt_of_pos _ m0)
theorem cut_ints (ns : List Int) (lo hi : Option Int) : ∃ ms : List Int, cutV (ns.map V.int) lo hi = ms.map V.int ∧ ms.length ≤ ns.length := by
  refine ⟨(ns.drop (HT.sIx (ns.map V.int).length 0 lo)).take (HT.sIx (ns.map V.int).length (ns.map V.int).length hi - HT.sIx (ns.map V.int).length 0 lo), ?_, ?_⟩
  · unfold cutV
    rw [List.map_take, List.map_drop]
  · rw [List.length_take, List.length_drop]
    omega
theorem ok_bag {f : Addr} {fd : FuncData} (F : Fun K "_law_bag" "_law_bag" s_l_bag f fd) (T : Bl mg) : FnOk P w K mg base L2.CX0 1 f fd ["_law_script", "_law_at"] (spBag K) := by
  refine F.ok sc_l_bag (fun vs H Q E h => ?_) (fun cdv A outer s H vs Q E hr h => ?_)
  · obtain ⟨a, ns, k, rfl, _⟩ := h
    rfl
  · obtain ⟨a, ns, k, rfl, hS, hlen, k0, k1, q⟩ := h
    have nd := sc_l_bag.nd
    refine ⟨_, (pss_cons (ps_set (i := 2) nd rfl (.inl rfl) (pe_cut (pe_ifExp (pt_cmpR op_lt (pv 1) (pe_callB call_len (by rfl) T.b_len (by decide +kernel) (pa_cons (pv 0) pa_nil)) (nomark _)) (pe_ix ix_seq (pv 0) (pv 1) (fun _ _ => rfl)) pe_int)))
      (pss_cons (ps_set (i := 3) nd rfl (.inl rfl) (pe_op op_add (pe_op op_mulX pe_int (pv 1)) pe_int))
      (pss_cons (ps_for PassesOwn.never rfl (pi_enum (by rfl) T.b_enumerate (pa_cons (pe_slice sl_list (pv 0) po_none (po_some pe_int)) pa_nil)) (pg_tup rfl (pgs_cons (pg_name (i := 4) nd rfl (.inl rfl)) (pgs_cons (pg_name (i := 5) nd rfl (.inl rfl)) pgs_nil)))
        (pss_one (ps_set (i := 3) nd rfl (.inl rfl) (pe_op op_mod (pe_op op_add (pe_op op_add (pe_op op_mulX (pv 3) pe_int) (pe_op op_mod (pv 5) pe_int)) (pe_op op_mulX pe_int (pv 4))) pe_int))))
      (pss_one (ps_ret (pe_lst (pa_cons (pe_cut (pe_ifExp (pt_cmpR op_ge (pe_callB call_abs (by rfl) T.b_abs (by decide +kernel) (pa_cons (pv 2) pa_nil)) (pe_op op_pow pe_int pe_int) (nomark _)) (pe_callB call_abs (by rfl) T.b_abs (by decide +kernel) (pa_cons (pv 2) pa_nil)) pe_int)) (pa_cons (pv 3) pa_nil)))))))), ?_⟩
    -- the cell
    refine ⟨fun v H' => (∃ c : Int, v = .int c) ∧ H' = H, ?_, ?_⟩
    · refine ⟨_, rfl, _, rfl, .ref a, _, rfl, .inl ⟨_, hS, rfl⟩, _, _, rfl, rfl, _, rfl, ite2 (fun e => ?_) (fun _ => ⟨⟨0, rfl⟩, rfl⟩)⟩
      have hk : k.toNat < ns.length := by
        have e1 := of_decide_eq_true e
        rw [List.length_map] at e1
        omega
      exact ⟨_, rfl, _, rfl, ixlS (j := k.toNat) (v := .int ns[k.toNat]) hS (by omega) (by rw [List.getElem?_map, List.getElem?_eq_getElem hk]; rfl) ⟨⟨_, rfl⟩, rfl⟩⟩
    rintro _ H0 ⟨⟨cell, rfl⟩, rfl⟩
    refine ⟨_, rfl, _, _, rfl, rfl, mulx_ok (a := 64) (b := 64) (by decide) (by omega) (by decide), _, _, rfl, rfl, ?_⟩
    -- the first thirty cells
    refine ⟨_, rfl, 30, rfl, a, _, rfl, hS, fun c nc => ?_⟩
    obtain ⟨ms, ems, hms⟩ := cut_ints ns none (some 30)
    have sc : Same H0 (upd H0 c (.lst (cutV (ns.map V.int) none (some 30)))) := Same.up0 nc
    refine ⟨c, _, rfl, SqL.of upd_same, ?_⟩
    refine for_enum (xs := ms.map V.int) (fun i σ H2 => ∃ (m : Int) (y4 y5 : Option V), σ = [some (.ref a), some (.int k), some (.int cell), some (.int m), y4, y5] ∧ 0 ≤ m ∧ m < 2147483563 ∧ Same H0 H2 ∧ H2 c = some (.lst (ms.map V.int))) ⟨_, none, none, rfl, by omega, by omega, sc, by rw [upd_same, ems]⟩
      (fun i σ H2 _ ⟨_, _, _, _, _, _, _, hc⟩ => SqL.of hc) ?_ ?_
    · rintro i x tp σ H2 hx ⟨m, y4, y5, rfl, m0, m1, s2, hc⟩ nt
      have hi : i < ms.length := by
        have q1 := (List.getElem?_eq_some_iff.mp hx).1
        rw [List.length_map] at q1
        exact q1
      rw [List.getElem?_map, List.getElem?_eq_getElem hi] at hx
      obtain rfl := (Option.some.inj hx).symm
      refine ⟨tp, _, rfl, SqT.of upd_same, rfl, _, _, rfl, _, _, rfl, rfl, ?_⟩
      refine ⟨_, rfl, _, _, rfl, rfl, mulx_ok (a := 64) (b := 64) (by omega) (by decide) (by decide), _, rfl, _, _, rfl, rfl, (by show (0 : Int) < 2147483563; decide), _, _, rfl, rfl, _, rfl, _, _, rfl, rfl, mulx_ok (a := 64) (b := 64) (by decide) (by omega) (by decide), _, _, rfl, rfl, _, _, rfl, rfl, (by show (0 : Int) < 2147483563; decide), ?_⟩
      refine ⟨_, _, _, rfl, Int.emod_nonneg _ (by decide), Int.emod_lt_of_pos _ (by decide), Same.up s2 nt, ?_⟩
      rw [upd_ne (ne_of_none hc nt)]
      exact hc
    · rintro σ H2 ⟨m, y4, y5, rfl, m0, m1, s2, hc⟩
      -- the bag
      have last : ∀ d : Int, 0 ≤ d → ∀ p, H2 p = none → Q (.ref p) (upd H2 p (.lst [.int d, .int m])) := fun d d0 p np =>
        q _ p (Same.up s2 np) (s2.free np) ⟨d, m, upd_same, d0, m0, m1⟩
      refine ⟨fun v H3 => (∃ d : Int, v = .int d ∧ 0 ≤ d) ∧ H3 = H2, ?_, ?_⟩
      · have ha : ∀ z : Int, 0 ≤ (if z < 0 then -z else z) := fun z => by
          split <;> omega
        refine ⟨_, rfl, _, rfl, _, _, rfl, rfl, ⟨by decide, by decide, by decide⟩, _, _, rfl, rfl, _, rfl, ite2 (fun _ => ?_) (fun _ => ⟨⟨0, rfl, by decide⟩, rfl⟩)⟩
        exact ⟨_, rfl, _, rfl, ⟨_, rfl, ha _⟩, rfl⟩
      rintro _ _ ⟨⟨d, rfl, d0⟩, rfl⟩
      exact ⟨_, rfl, lens 2 (by decide), last d d0⟩
end
/-! ### parts -/
section
variable {P : Program} {w : World} {K : PySem.W.Frag} {mg : Str → Option Value} {base : Heap}
theorem ok_plain {f : Addr} {fd : FuncData} (F : Fun K "is_plain_int" "is_plain_int" s_is_plain_int f fd) (T : Bl mg) : FnOk P w K mg base L2.CX0 1 f fd ["thing"] (spPlain K) := by
  refine F.ok sc_is_plain_int (fun vs H Q E h => ?_) (fun cdv A outer s H vs Q E hr h => ?_)
  · obtain ⟨x, n, rfl, _⟩ := h
    rfl
  · obtain ⟨x, n, rfl, ty, hn, q⟩ := h
    have nd := sc_is_plain_int.nd
    refine ⟨_, (pss_one (ps_ret (pe_and (pe_callB call_isi (by rfl) T.b_isinstance (by decide +kernel) (pa_cons (pv 0) (pa_cons (pe_bltn (v := .ty "int") (by rfl) T.b_int (by decide +kernel) rfl) pa_nil))) (pe_one (pe_not (pe_callB call_isi (by rfl) T.b_isinstance (by decide +kernel) (pa_cons (pv 0) (pa_cons (pe_bltn (v := .ty "bool") (by rfl) T.b_bool (by decide +kernel) rfl) pa_nil)))))))), ?_⟩
    by_cases h1 : n = "int"
    · subst h1
      rw [decide_eq_true rfl] at q
      exact ⟨_, rfl, x, .ty "int", _, _, true, rfl, .ty _, ty, kit_ty (by decide +kernel), true, rfl, iteT ⟨_, rfl, x, .ty "bool", _, _, false, rfl, .ty _, ty, kit_ty (by decide +kernel), false, rfl, q⟩⟩
    · rw [decide_eq_false h1] at q
      by_cases h2 : n = "bool"
      · subst h2
        exact ⟨_, rfl, x, .ty "int", _, _, true, rfl, .ty _, ty, kit_ty (by decide +kernel), true, rfl, iteT ⟨_, rfl, x, .ty "bool", _, _, true, rfl, .ty _, ty, kit_ty (by decide +kernel), true, rfl, q⟩⟩
      · have h3 : kitB n "int" = some false := by
          simp only [kinds, List.mem_cons, List.not_mem_nil, or_false] at hn
          rcases hn with rfl | rfl | rfl | rfl | rfl | rfl | rfl
          · decide +kernel
          · exact absurd rfl h2
          · exact absurd rfl h1
          · decide +kernel
          · decide +kernel
          · decide +kernel
          · decide +kernel
        exact ⟨_, rfl, x, .ty "int", _, _, false, rfl, .ty _, ty, kit_ty h3, false, rfl, iteF q⟩
end
/-! ### the law's own look at parts -/
section
variable {P : Program} {w : World} {K : PySem.W.Frag} {mg : Str → Option Value} {base : Heap}
theorem ok_whole {f : Addr} {fd : FuncData} (F : Fun K "_law_whole" "_law_whole" s_l_whole f fd) (T : Bl mg) : FnOk P w K mg base L2.CX0 1 f fd ["_law_thing"] (spPlain K) := by
  refine F.ok sc_l_whole (fun vs H Q E h => ?_) (fun cdv A outer s H vs Q E hr h => ?_)
  · obtain ⟨x, n, rfl, _⟩ := h
    rfl
  · obtain ⟨x, n, rfl, ty, hn, q⟩ := h
    have nd := sc_l_whole.nd
    refine ⟨_, (pss_one (ps_ret (pe_and (pe_callB call_isi (by rfl) T.b_isinstance (by decide +kernel) (pa_cons (pv 0) (pa_cons (pe_bltn (v := .ty "int") (by rfl) T.b_int (by decide +kernel) rfl) pa_nil))) (pe_one (pe_not (pe_callB call_isi (by rfl) T.b_isinstance (by decide +kernel) (pa_cons (pv 0) (pa_cons (pe_bltn (v := .ty "bool") (by rfl) T.b_bool (by decide +kernel) rfl) pa_nil)))))))), ?_⟩
    by_cases h1 : n = "int"
    · subst h1
      rw [decide_eq_true rfl] at q
      exact ⟨_, rfl, x, .ty "int", _, _, true, rfl, .ty _, ty, kit_ty (by decide +kernel), true, rfl, iteT ⟨_, rfl, x, .ty "bool", _, _, false, rfl, .ty _, ty, kit_ty (by decide +kernel), false, rfl, q⟩⟩
    · rw [decide_eq_false h1] at q
      by_cases h2 : n = "bool"
      · subst h2
        exact ⟨_, rfl, x, .ty "int", _, _, true, rfl, .ty _, ty, kit_ty (by decide +kernel), true, rfl, iteT ⟨_, rfl, x, .ty "bool", _, _, true, rfl, .ty _, ty, kit_ty (by decide +kernel), true, rfl, q⟩⟩
      · have h3 : kitB n "int" = some false := by
          simp only [kinds, List.mem_cons, List.not_mem_nil, or_false] at hn
          rcases hn with rfl | rfl | rfl | rfl | rfl | rfl | rfl
          · decide +kernel
          · exact absurd rfl h2
          · exact absurd rfl h1
          · decide +kernel
          · decide +kernel
          · decide +kernel
          · decide +kernel
        exact ⟨_, rfl, x, .ty "int", _, _, false, rfl, .ty _, ty, kit_ty h3, false, rfl, iteF q⟩
end
/-! ### names -/
theorem pe_gr {X : Cx} {x : Str} {a : Addr} {pos : Pos} (hg : Gl X x) (hm : X.mg x = some (.ref a)) (hd : (x == ("__debug__" : Str)) = false := by decide) : PE X (.Name x pos) (tC (.ref a)) := pe_glob hg hm rfl hd
theorem pe_gi {X : Cx} {x : Str} {i : Int} {t : Tok} {pos : Pos} (hg : Gl X x) (hm : X.mg x = some (.int i t)) (hd : (x == ("__debug__" : Str)) = false := by decide) : PE X (.Name x pos) (tC (.int i)) := pe_glob hg hm ⟨_, rfl⟩ hd
def spIsName (K : PySem.W.Frag) : Sp := fun vs H Q _ => ∃ x : V, vs = [x] ∧ Sd K H x ∧ ∀ H', Same H H' → Q (.bl (nameV x)) H'
theorem abc_in (c : Nat) : decide (c ∈ (("abcdefghijklmnopqrstuvwxyz" : Str)).cps.toList) = decide (97 ≤ c ∧ c ≤ 122) := by
  have e : (("abcdefghijklmnopqrstuvwxyz" : Str)).cps.toList = (List.range 26).map (· + 97) := by decide +kernel
  rw [e]
  refine decide_eq_decide.mpr ?_
  rw [List.mem_map]
  constructor
  · rintro ⟨d, hd, rfl⟩
    have := List.mem_range.mp hd
    omega
  · intro h
    exact ⟨c - 97, List.mem_range.mpr (by omega), by omega⟩
theorem all_bools (l : List Nat) (p : Nat → Bool) : (l.map p).all id = l.all p := by
  rw [List.all_map]
  rfl
section
variable {P : Program} {w : World} {K : PySem.W.Frag} {mg : Str → Option Value} {base : Heap}
theorem ok_isName {f : Addr} {fd : FuncData} (F : Fun K "is_name" "is_name" s_is_name f fd) (T : Bl mg) : FnOk P w K mg base L2.CX0 1 f fd ["thing"] (spIsName K) := by
  refine F.ok sc_is_name (fun vs H Q E h => ?_) (fun cdv A outer s H vs Q E hr h => ?_)
  · obtain ⟨x, rfl, _⟩ := h
    rfl
  · obtain ⟨x, rfl, ⟨n, ty, hn, hl⟩, q⟩ := h
    have nd := sc_is_name.nd
    refine ⟨_, (pss_cons (ps_if (PW.pt (pw_or (pt_not (pt_val (pe_callB call_isi (by rfl) T.b_isinstance (by decide +kernel) (pa_cons (pv 0) (pa_cons (pe_bltn (v := .ty "str") (by rfl) T.b_str (by decide +kernel) rfl) pa_nil))))) (pw_or1 (pt_not (pt_chain op_le op_le pe_int (pe_callB call_len (by rfl) T.b_len (by decide +kernel) (pa_cons (pv 0) pa_nil)) pe_int)))))
        (pss_one (ps_ret pe_bl))
        pss_nil)
      (pss_one (ps_ret (pe_and (pe_m0 PySem.F.slot_str_isascii PySem.F.type_str_isascii mt_isascii (pv 0)) (pe_and (pe_m0 PySem.F.slot_str_isalpha PySem.F.type_str_isalpha mt_isalpha (pv 0)) (pe_one (pe_m0 PySem.F.slot_str_islower PySem.F.type_str_islower mt_islower (pv 0)))))))), ?_⟩
    by_cases h1 : n = "str"
    · subst h1
      obtain ⟨z, rfl⟩ := tyx_str ty
      have hz := hl z rfl
      refine ⟨_, rfl, .str z, .ty "str", _, _, true, rfl, .ty _, ty, kit_ty (by decide +kernel), true, rfl, iteF ?_⟩
      have q : Q (.bl (nameS z)) H := q H (Same.refl H)
      unfold nameS at q
      refine ⟨_, rfl, .str z, z.length, rfl, ⟨lens _ hz, rfl⟩, _, _, rfl, rfl, _, rfl, ite2 (fun e => ?_) (fun e => ?_)⟩
      · have e1 : 1 ≤ z.length := by
          have := of_decide_eq_true e
          omega
        rw [decide_eq_true e1] at q
        refine ⟨_, _, rfl, rfl, _, rfl, ?_⟩
        by_cases e2 : z.length ≤ 6
        · rw [decide_eq_true e2] at q
          rw [decide_eq_true (show ((z.length : Nat) : Int) ≤ 6 by omega)]
          refine iteF ?_
          refine ⟨_, rfl, ⟨z, rfl⟩, z, rfl, rfl, trivial, _, rfl, ?_⟩
          have el := letters_iff (s := z) e1
          rw [Bool.true_and, Bool.true_and, ← el] at q
          cases a1 : Txt.isascii z with
          | false =>
            rw [a1, Bool.false_and] at q
            exact iteF q
          | true =>
            rw [a1, Bool.true_and] at q
            refine iteT ⟨_, rfl, ⟨z, rfl⟩, z, rfl, rfl, trivial, _, rfl, ?_⟩
            cases a2 : Txt.isalpha z with
            | false =>
              rw [a2, Bool.false_and] at q
              exact iteF q
            | true =>
              rw [a2, Bool.true_and] at q
              exact iteT ⟨_, rfl, ⟨z, rfl⟩, z, rfl, rfl, trivial, q⟩
        · rw [decide_eq_false e2] at q
          rw [decide_eq_false (show ¬ ((z.length : Nat) : Int) ≤ 6 by omega)]
          refine iteT ?_
          rw [Bool.false_and, Bool.and_false] at q
          exact q
      · have e1 : ¬ 1 ≤ z.length := fun e3 => e (decide_eq_true (by omega))
        rw [decide_eq_false e1] at q
        exact ⟨_, rfl, iteT q⟩
    · have q := q H (Same.refl H)
      rw [name_no ty h1] at q
      exact ⟨_, rfl, x, .ty "str", _, _, false, rfl, .ty _, ty, kit_ty (kit_str hn h1), false, rfl, iteT (iteT q)⟩
theorem ok_lIsName {f : Addr} {fd : FuncData} (F : Fun K "_law_is_name" "_law_is_name" s_l_is_name f fd) (T : Bl mg) : FnOk P w K mg base L2.CX0 1 f fd ["_law_thing"] (spIsName K) := by
  refine F.ok sc_l_is_name (fun vs H Q E h => ?_) (fun cdv A outer s H vs Q E hr h => ?_)
  · obtain ⟨x, rfl, _⟩ := h
    rfl
  · obtain ⟨x, rfl, ⟨n, ty, hn, hl⟩, q⟩ := h
    have nd := sc_l_is_name.nd
    refine ⟨_, (pss_cons (ps_if (PW.pt (pw_or (pt_not (pt_val (pe_callB call_isi (by rfl) T.b_isinstance (by decide +kernel) (pa_cons (pv 0) (pa_cons (pe_bltn (v := .ty "str") (by rfl) T.b_str (by decide +kernel) rfl) pa_nil))))) (pw_or1 (pt_not (pt_chain op_le op_le pe_int (pe_callB call_len (by rfl) T.b_len (by decide +kernel) (pa_cons (pv 0) pa_nil)) pe_int)))))
        (pss_one (ps_ret pe_bl))
        pss_nil)
      (pss_one (ps_ret (pe_callB (cr_all rfl) (by rfl) T.b_all (by decide +kernel) (pa_cons (pe_lc (own := [("_law_sign", 1)]) (g := gName 1) (tt := tYes) rfl nd (pi_str (pv 0)) (blkOk_by (N := ["_law_thing", "_law_sign"]) (sc := defScope s_l_is_name) (by decide +kernel)) (fun _ _ _ _ _ => pg_name (i := 1) nd rfl (.inl rfl)) (fun _ _ _ _ _ => pts_nil) (fun _ _ _ _ _ => (pe_cmpR op_in_sign (pv 1) pe_str (by rfl)))) pa_nil))))), ?_⟩
    by_cases h1 : n = "str"
    · subst h1
      obtain ⟨z, rfl⟩ := tyx_str ty
      have hz := hl z rfl
      refine ⟨_, rfl, .str z, .ty "str", _, _, true, rfl, .ty _, ty, kit_ty (by decide +kernel), true, rfl, iteF ?_⟩
      have q : ∀ H', Same H H' → Q (.bl (nameS z)) H' := q
      unfold nameS at q
      refine ⟨_, rfl, .str z, z.length, rfl, ⟨lens _ hz, rfl⟩, _, _, rfl, rfl, _, rfl, ite2 (fun e => ?_) (fun e => ?_)⟩
      · have e1 : 1 ≤ z.length := by
          have := of_decide_eq_true e
          omega
        rw [decide_eq_true e1] at q
        refine ⟨_, _, rfl, rfl, _, rfl, ?_⟩
        by_cases e2 : z.length ≤ 6
        · rw [decide_eq_true e2] at q
          rw [decide_eq_true (show ((z.length : Nat) : Int) ≤ 6 by omega)]
          refine iteF ?_
          rw [Bool.true_and, Bool.true_and] at q
          have el : z.cps.toList.length = z.cps.size := Array.length_toList
          have es : z.cps.size = z.length := rfl
          refine ⟨_, rfl, z, rfl, fun D hD => ?_⟩
          refine lc_str (x := z) (fun i H' => H' D = some (.lst (((z.cps.toList.map fun c => decide (97 ≤ c ∧ c ≤ 122)).take i).map V.bl)) ∧ Same H H') ⟨upd_same, Same.up0 hD⟩ ?_ ?_
          · rintro i c H1 hc ⟨h1, s1⟩
            have hi : i < z.cps.size := (Array.getElem?_eq_some_iff.mp hc).1
            refine ⟨rfl, ?_⟩
            refine ⟨_, rfl, c, _, rfl, rfl, _, h1, ?_, ?_, Same.mut s1 hD⟩
            · rw [List.length_map, List.length_take]
              exact Nat.lt_of_lt_of_le (show min i _ < 1000 by omega) (lens 1000 (by decide))
            · rw [upd_same, List.take_succ, List.getElem?_map]
              have hc' : z.cps.toList[i]? = some c := by rw [Array.getElem?_toList]; exact hc
              rw [hc', List.map_append, abc_in]
              rfl
          · rintro H1 ⟨h1, s1⟩
            rw [List.take_of_length_le (by rw [List.length_map]; omega)] at h1
            refine ⟨D, _, rfl, SqL.of h1, ?_⟩
            have k := q H1 s1
            rw [← all_bools] at k
            exact k
        · rw [decide_eq_false e2] at q
          rw [decide_eq_false (show ¬ ((z.length : Nat) : Int) ≤ 6 by omega)]
          refine iteT ?_
          rw [Bool.false_and, Bool.and_false] at q
          exact q _ (Same.refl H)
      · have e1 : ¬ 1 ≤ z.length := fun e3 => e (decide_eq_true (by omega))
        rw [decide_eq_false e1] at q
        exact ⟨_, rfl, iteT (q _ (Same.refl H))⟩
    · have q := q H (Same.refl H)
      rw [name_no ty h1] at q
      exact ⟨_, rfl, x, .ty "str", _, _, false, rfl, .ty _, ty, kit_ty (kit_str hn h1), false, rfl, iteT (iteT q)⟩
/-! ### deeds -/
def spIsDeed (K : PySem.W.Frag) : Sp := fun vs H Q _ => ∃ (v : V) (b : Bool), vs = [v] ∧ Th K H v b ∧ ∀ H', Same H H' → Q (.bl b) H'
def spGift : Sp := fun vs H Q _ => ∃ (a : Addr) (w : Str) (r : List V), vs = [.ref a] ∧ H a = some (.tup (.str w :: r)) ∧ Q (.bl (decide (V.str w = V.str "take"))) H
def spTarget : Sp := fun vs H Q _ => ∃ (a : Addr) (w : Str) (r : List V), vs = [.ref a] ∧ H a = some (.tup (.str w :: r)) ∧ Q (.bl (wordIn targetW (.str w))) H
theorem not12 {xs : List V} (h1 : xs.length ≠ 1) (h2 : xs.length ≠ 2) : inV (.int ((xs.length : Nat) : Int)) [.int 1, .int 2] = false := by
  show ((1 : Int) == ((xs.length : Nat) : Int) || ((2 : Int) == ((xs.length : Nat) : Int) || false)) = false
  rw [beq_eq_false_iff_ne.mpr (by omega : (1 : Int) ≠ ((xs.length : Nat) : Int)), beq_eq_false_iff_ne.mpr (by omega : (2 : Int) ≠ ((xs.length : Nat) : Int))]
  rfl
theorem scal_flat {w : V} (s : Str) (h : flatV w = true) : scal w (.str s) = true := by
  cases w <;> first | rfl | cases h
theorem deedL_no {xs : List V} (h1 : xs.length ≠ 1) (h2 : xs.length ≠ 2) : deedL xs = false := by
  match xs, h1, h2 with
  | [], _, _ => rfl
  | [_], h, _ => exact absurd rfl h
  | [_, _], _, h => exact absurd rfl h
  | _ :: _ :: _ :: _, _, _ => rfl
theorem ok_gift {f : Addr} {fd : FuncData} (F : Fun K "takes_gift" "takes_gift" s_takes_gift f fd) : FnOk P w K mg base L2.CX0 1 f fd ["deed"] spGift := by
  refine F.ok sc_takes_gift (fun vs H Q E h => ?_) (fun cdv A outer s H vs Q E hr h => ?_)
  · obtain ⟨a, w, r, rfl, _⟩ := h
    rfl
  · obtain ⟨a, w, r, rfl, ha, q⟩ := h
    have nd := sc_takes_gift.nd
    refine ⟨_, (pss_one (ps_ret (pe_cmpR op_eq (pe_ix ix_seq (pv 0) pe_int (fun _ _ => rfl)) pe_str (nomark _)))), ?_⟩
    exact ⟨_, rfl, ixt (j := 0) ha rfl ⟨rfl, q⟩⟩
theorem ok_target {f aT : Addr} {fd : FuncData} (F : Fun K "takes_target" "takes_target" s_takes_target f fd) (m_WORDS_WITH_TARGET : mg "WORDS_WITH_TARGET" = some (.ref aT)) (hT : ∀ H : Hp, SqT K H aT (targetW.map V.str)) : FnOk P w K mg base L2.CX0 1 f fd ["deed"] spTarget := by
  refine F.ok sc_takes_target (fun vs H Q E h => ?_) (fun cdv A outer s H vs Q E hr h => ?_)
  · obtain ⟨a, w, r, rfl, _⟩ := h
    rfl
  · obtain ⟨a, w, r, rfl, ha, q⟩ := h
    have nd := sc_takes_target.nd
    refine ⟨_, (pss_one (ps_ret (pe_cmpR op_in_seq (pe_ix ix_seq (pv 0) pe_int (fun _ _ => rfl)) (pe_gr rfl m_WORDS_WITH_TARGET) (by rfl)))), ?_⟩
    refine ⟨_, rfl, ixt (j := 0) ha rfl ⟨aT, _, rfl, .inr (hT _), rfl, strs_flat _, ?_⟩⟩
    show Q (.bl (inV (.str w) (targetW.map V.str))) H
    rw [inV_word rfl]
    exact q
theorem ok_isDeed {f aA aB : Addr} {fd : FuncData} {tm : Tok} (F : Fun K "is_deed" "is_deed" s_is_deed f fd) (T : Bl mg) (m_MOST_ADDED : mg "MOST_ADDED" = some (.int (10 ^ 9) tm)) (m_WORDS_ALONE : mg "WORDS_ALONE" = some (.ref aA)) (m_WORDS_WITH_BOX : mg "WORDS_WITH_BOX" = some (.ref aB))
    (hA : ∀ H : Hp, SqT K H aA (aloneW.map V.str)) (hB : ∀ H : Hp, SqT K H aB (boxW.map V.str)) (c_is_plain_int : Cal P w K mg base 1 "is_plain_int" (spPlain K)) (c_is_name : Cal P w K mg base 1 "is_name" (spIsName K)) : FnOk P w K mg base L2.CX0 2 f fd ["thing"] (spIsDeed K) := by
  refine F.ok sc_is_deed (fun vs H Q E h => ?_) (fun cdv A outer s H vs Q E hr h => ?_)
  · obtain ⟨v, b, rfl, _⟩ := h
    rfl
  · obtain ⟨v, b, rfl, th, q⟩ := h
    have nd := sc_is_deed.nd
    have hu64 := hr.units
    refine ⟨_, (pss_cons (ps_if (PW.pt (pw_or (pt_not (pt_val (pe_callB call_isi (by rfl) T.b_isinstance (by decide +kernel) (pa_cons (pv 0) (pa_cons (pe_bltn (v := .ty "tuple") (by rfl) T.b_tuple (by decide +kernel) rfl) pa_nil))))) (pw_or1 (pt_cmpR op_notIn_seq (pe_callB call_len (by rfl) T.b_len (by decide +kernel) (pa_cons (pv 0) pa_nil)) (pe_tup (pa_cons pe_int (pa_cons pe_int pa_nil))) (by rfl)))))
        (pss_one (ps_ret pe_bl))
        pss_nil)
      (pss_cons (ps_set (i := 1) nd rfl (.inl rfl) (pe_ix ix_seq (pv 0) pe_int (fun _ _ => rfl)))
      (pss_cons (ps_if (pt_cmpR op_eq (pe_callB call_len (by rfl) T.b_len (by decide +kernel) (pa_cons (pv 0) pa_nil)) pe_int (nomark _))
        (pss_one (ps_ret (pe_cmpR (op_or op_in_seq (op_inT hu64)) (pv 1) (pe_gr rfl m_WORDS_ALONE) (by rfl))))
        pss_nil)
      (pss_cons (ps_if (pt_cut (pt_cmpR (op_or op_eq (op_eqD hu64)) (pv 1) pe_str (nomark _)))
        (pss_one (ps_ret (pe_and (pe_cut (pe_f c_is_plain_int hr rfl (pa_cons (pe_ix ix_seq (pv 0) pe_int (fun _ _ => rfl)) pa_nil))) (pe_one (pe_chain op_le op_le (pe_un un_neg (pe_gi rfl m_MOST_ADDED)) (pe_ix ix_seq (pv 0) pe_int (fun _ _ => rfl)) (pe_gi rfl m_MOST_ADDED))))))
        pss_nil)
      (pss_one (ps_ret (pe_and (pe_cut (pe_cmpR (op_or op_in_seq (op_inT hu64)) (pv 1) (pe_gr rfl m_WORDS_WITH_BOX) (by rfl))) (pe_one (pe_f c_is_name hr rfl (pa_cons (pe_ix ix_seq (pv 0) pe_int (fun _ _ => rfl)) pa_nil)))))))))), ?_⟩
    rcases th with ⟨n, ty, hn, h1, rfl⟩ | ⟨a, xs, rfl, ha, hw, hx, rfl⟩
    · exact ⟨_, rfl, ⟨v, .ty "tuple", _, _, false, rfl, .ty _, ty, kit_ty (kit_tuple hn h1), false, rfl, iteT (iteT (q _ (Same.refl H)))⟩⟩
    · refine ⟨_, rfl, ⟨.ref a, .ty "tuple", _, _, true, rfl, .ty _, .base (.tup ha), kit_ty (by decide +kernel), true, rfl, iteF ?_⟩⟩
      refine ⟨_, rfl, .ref a, _, rfl, .inr ⟨_, SqT.of ha, rfl⟩, lens 2 (by decide), fun t nt => ?_⟩
      have s1 := Same.up0 (o := .tup [.int 1, .int 2]) nt
      have ht : upd H t (.tup [.int 1, .int 2]) t = some (.tup [.int 1, .int 2]) := upd_same
      generalize upd H t (.tup [.int 1, .int 2]) = H1 at s1 ht ⊢
      have ha1 := s1 _ _ ha
      have q1 : ∀ H', Same H1 H' → Q (.bl (deedL xs)) H' := fun H' s' => q H' (s1.trans s')
      refine ⟨t, _, rfl, .inr (SqT.of ht), rfl, rfl, _, rfl, ?_⟩
      by_cases h1 : xs.length = 1
      · obtain ⟨w0, rfl⟩ := List.length_eq_one_iff.mp h1
        refine iteF ?_
        refine ⟨_, rfl, ixt (j := 0) ha1 rfl ?_⟩
        refine ⟨_, rfl, .ref a, _, rfl, .inr ⟨_, SqT.of ha1, rfl⟩, rfl, _, rfl, iteT ?_⟩
        refine ⟨_, rfl, ?_⟩
        obtain ⟨hw1, _⟩ := hw w0 [] rfl
        have k := q1 H1 (Same.refl H1)
        rcases hw1 with hf | ⟨d, dp, sh, _, ns, ne⟩
        · refine .inl ⟨aA, _, rfl, .inr (hA _), hf, strs_flat _, ?_⟩
          show Q (.bl (inV w0 (aloneW.map V.str))) H1
          rw [inV_word hf]
          exact k
        · have e : deedL [w0] = false := word_no ns
          rw [e] at k
          exact .inr ⟨aA, aloneW, d, rfl, hA _, dp_same s1 _ _ dp, SeqAt.canLay_of_shaped sh, by decide +kernel, fun z => (ne z).1, k⟩
      · by_cases h2 : xs.length = 2
        · obtain ⟨w0, x0, rfl⟩ : ∃ w0 x0, xs = [w0, x0] := by
            match xs, h2 with
            | [w0, x0], _ => exact ⟨_, _, rfl⟩
          refine iteF ?_
          refine ⟨_, rfl, ixt (j := 0) ha1 rfl ?_⟩
          refine ⟨_, rfl, .ref a, _, rfl, .inr ⟨_, SqT.of ha1, rfl⟩, rfl, _, rfl, iteF ?_⟩
          obtain ⟨hw1, _⟩ := hw w0 [x0] rfl
          have sx := hx w0 x0 [] rfl
          obtain ⟨n, tx, hn, lx⟩ := sx
          have tx1 := tyx_same s1 tx
          have q2 : ∀ H', Same H1 H' → Q (.bl (if isAdd w0 then addV x0 else wordIn boxW w0 && nameV x0)) H' := q1
          refine ⟨fun v H' => v = isAdd w0 ∧ H' = H1, ⟨_, rfl, ?_⟩, ?_⟩
          · rcases hw1 with hf | ⟨d, dp, sh, _, ns, ne⟩
            · exact .inl ⟨scal_flat _ hf, _, rfl, rfl, rfl⟩
            · have e : isAdd w0 = false := decide_eq_false (ns _)
              refine .inr ⟨d, .str "add", dp_same s1 _ _ dp, .str _, sh, by decide +kernel, _, rfl, ?_, rfl⟩
              rw [(ne _).2, e]
          rintro _ H2 ⟨rfl, e2⟩
          cases e2
          cases ea : isAdd w0 with
          | true =>
            rw [ea] at q2
            have q2 : ∀ H', Same H1 H' → Q (.bl (addV x0)) H' := q2
            refine iteT ?_
            refine ⟨fun v H' => v = .bl (decide (n = "int")) ∧ H' = H1, ⟨_, rfl, ixt (j := 1) ha1 rfl ⟨x0, n, rfl, tx1, hn, rfl, rfl⟩⟩, ?_⟩
            rintro _ H2 ⟨rfl, e2⟩
            cases e2
            refine ⟨_, rfl, ?_⟩
            by_cases hi : n = "int"
            · rw [decide_eq_true hi]
              subst hi
              obtain ⟨i, rfl⟩ := tyx_int tx1
              refine iteT ⟨_, rfl, _, rfl, ixt (j := 1) ha1 rfl ⟨_, _, rfl, rfl, _, rfl, ?_⟩⟩
              have k : Q (.bl (decide (-(10 ^ 9) ≤ i ∧ i ≤ 10 ^ 9))) H1 := q2 H1 (Same.refl H1)
              refine ite2 (fun e => ?_) (fun e => ?_)
              · have e1 : -(10 ^ 9) ≤ i := of_decide_eq_true e
                refine ⟨_, _, rfl, rfl, ?_⟩
                rw [show decide (-(10 ^ 9) ≤ i ∧ i ≤ 10 ^ 9) = decide (i ≤ 10 ^ 9) from decide_eq_decide.mpr ⟨fun z => z.2, fun z => ⟨e1, z⟩⟩] at k
                exact k
              · have e1 : ¬ -(10 ^ 9) ≤ i := fun z => e (decide_eq_true z)
                rw [decide_eq_false (fun z => e1 z.1)] at k
                exact k
            · rw [decide_eq_false hi]
              have k := q2 H1 (Same.refl H1)
              rw [add_no tx1 hi] at k
              exact iteF k
          | false =>
            rw [ea] at q2
            have q2 : ∀ H', Same H1 H' → Q (.bl (wordIn boxW w0 && nameV x0)) H' := q2
            refine iteF ?_
            refine ⟨fun v H' => v = .bl (wordIn boxW w0) ∧ H' = H1, ⟨_, rfl, ?_⟩, ?_⟩
            · rcases hw1 with hf | ⟨d, dp, sh, _, ns, ne⟩
              · refine .inl ⟨aB, _, rfl, .inr (hB _), hf, strs_flat _, ?_, rfl⟩
                show V.bl (inV w0 (boxW.map V.str)) = _
                rw [inV_word hf]
              · refine .inr ⟨aB, boxW, d, rfl, hB _, dp_same s1 _ _ dp, SeqAt.canLay_of_shaped sh, by decide +kernel, fun z => (ne z).1, ?_, rfl⟩
                rw [word_no ns]
            rintro _ H2 ⟨rfl, e2⟩
            cases e2
            refine ⟨_, rfl, ?_⟩
            cases eb : wordIn boxW w0 with
            | true =>
              rw [eb, Bool.true_and] at q2
              exact iteT ⟨_, rfl, ixt (j := 1) ha1 rfl ⟨x0, rfl, ⟨n, tx1, hn, lx⟩, q2⟩⟩
            | false =>
              rw [eb, Bool.false_and] at q2
              exact iteF (q2 H1 (Same.refl H1))
        · rw [not12 h1 h2]
          refine iteT ?_
          have k := q1 H1 (Same.refl H1)
          rw [deedL_no h1 h2] at k
          exact k
/-! ### what is due -/
theorem ok_due {f : Addr} {fd : FuncData} (F : Fun K "_law_due" "_law_due" s_l_due f fd) (T : Bl mg) (c_law_whole : Cal P w K mg base 1 "_law_whole" (spPlain K)) (c_law_is_name : Cal P w K mg base 1 "_law_is_name" (spIsName K)) : FnOk P w K mg base L2.CX0 2 f fd ["_law_thing"] (spIsDeed K) := by
  refine F.ok sc_l_due (fun vs H Q E h => ?_) (fun cdv A outer s H vs Q E hr h => ?_)
  · obtain ⟨v, b, rfl, _⟩ := h
    rfl
  · obtain ⟨v, b, rfl, th, q⟩ := h
    have nd := sc_l_due.nd
    have hu64 := hr.units
    refine ⟨_, (pss_cons (ps_if (PW.pt (pw_or (pt_not (pt_val (pe_callB call_isi (by rfl) T.b_isinstance (by decide +kernel) (pa_cons (pv 0) (pa_cons (pe_bltn (v := .ty "tuple") (by rfl) T.b_tuple (by decide +kernel) rfl) pa_nil))))) (pw_or (pt_cmpR op_notIn_seq (pe_callB call_len (by rfl) T.b_len (by decide +kernel) (pa_cons (pv 0) pa_nil)) (pe_lst (pa_cons pe_int (pa_cons pe_int pa_nil))) (by rfl)) (pw_or1 (pt_not (pt_val (pe_callB call_isi (by rfl) T.b_isinstance (by decide +kernel) (pa_cons (pe_ix ix_seq (pv 0) pe_int (fun _ _ => rfl)) (pa_cons (pe_bltn (v := .ty "str") (by rfl) T.b_str (by decide +kernel) rfl) pa_nil)))))))))
        (pss_one (ps_ret pe_bl))
        pss_nil)
      (pss_cons (ps_if (pt_cmpR op_eq (pe_callB call_len (by rfl) T.b_len (by decide +kernel) (pa_cons (pv 0) pa_nil)) pe_int (nomark _))
        (pss_one (ps_ret (pe_cmpR op_in_seq (pe_ix ix_seq (pv 0) pe_int (fun _ _ => rfl)) (pe_lst (pa_cons pe_str (pa_cons pe_str (pa_cons pe_str (pa_cons pe_str pa_nil))))) (by rfl))))
        pss_nil)
      (pss_cons (ps_if (pt_cmpR op_eq (pe_ix ix_seq (pv 0) pe_int (fun _ _ => rfl)) pe_str (nomark _))
        (pss_one (ps_ret (pe_and (pe_cut (pe_f c_law_whole hr rfl (pa_cons (pe_ix ix_seq (pv 0) pe_int (fun _ _ => rfl)) pa_nil))) (pe_one (pe_chain op_le op_le (pe_op op_sub pe_int (pe_op op_pow pe_int pe_int)) (pe_ix ix_seq (pv 0) pe_int (fun _ _ => rfl)) (pe_op op_pow pe_int pe_int))))))
        pss_nil)
      (pss_one (ps_ret (pe_and (pe_cut (pe_cmpR op_in_seq (pe_ix ix_seq (pv 0) pe_int (fun _ _ => rfl)) (pe_lst (pa_cons pe_str (pa_cons pe_str (pa_cons pe_str pa_nil)))) (by rfl))) (pe_one (pe_f c_law_is_name hr rfl (pa_cons (pe_ix ix_seq (pv 0) pe_int (fun _ _ => rfl)) pa_nil))))))))), ?_⟩
    rcases th with ⟨n, ty, hn, h1, rfl⟩ | ⟨a, xs, rfl, ha, hw, hx, rfl⟩
    · exact ⟨_, rfl, ⟨v, .ty "tuple", _, _, false, rfl, .ty _, ty, kit_ty (kit_tuple hn h1), false, rfl, iteT (iteT (q _ (Same.refl H)))⟩⟩
    · refine ⟨_, rfl, ⟨.ref a, .ty "tuple", _, _, true, rfl, .ty _, .base (.tup ha), kit_ty (by decide +kernel), true, rfl, iteF ?_⟩⟩
      refine ⟨_, rfl, .ref a, _, rfl, .inr ⟨_, SqT.of ha, rfl⟩, lens 2 (by decide), fun t nt => ?_⟩
      have s1 := Same.up0 (o := .lst [.int 1, .int 2]) nt
      have ht : upd H t (.lst [.int 1, .int 2]) t = some (.lst [.int 1, .int 2]) := upd_same
      generalize upd H t (.lst [.int 1, .int 2]) = H1 at s1 ht ⊢
      have ha1 := s1 _ _ ha
      have q1 : ∀ H', Same H1 H' → Q (.bl (deedL xs)) H' := fun H' s' => q H' (s1.trans s')
      refine ⟨t, _, rfl, .inl (SqL.of ht), rfl, rfl, _, rfl, ?_⟩
      by_cases h1 : xs.length = 1 ∨ xs.length = 2
      · obtain ⟨w0, r0, rfl⟩ : ∃ w0 r0, xs = w0 :: r0 := by
          match xs, h1 with
          | [w0], _ => exact ⟨_, _, rfl⟩
          | [w0, x0], _ => exact ⟨_, _, rfl⟩
        obtain ⟨_, n0, t0, m0⟩ := hw w0 r0 rfl
        have t1 := tyx_same s1 t0
        have e12 : (!inV (V.int (((w0 :: r0).length : Nat) : Int)) [V.int 1, V.int 2]) = false := by
          rcases h1 with h1 | h1 <;> (rw [h1]; rfl)
        rw [e12]
        refine iteF ?_
        by_cases hs : n0 = "str"
        · subst hs
          obtain ⟨z, rfl⟩ := tyx_str t1
          refine ⟨_, rfl, ixt (j := 0) ha1 rfl ⟨.str z, .ty "str", _, _, true, rfl, .ty _, t1, kit_ty (by decide +kernel), true, rfl, iteF ?_⟩⟩
          rcases h1 with h1 | h1
          · obtain rfl : r0 = [] := by
              cases r0 with
              | nil => rfl
              | cons _ _ => rw [List.length_cons, List.length_cons] at h1; omega
            refine ⟨_, rfl, .ref a, _, rfl, .inr ⟨_, SqT.of ha1, rfl⟩, rfl, _, rfl, iteT ?_⟩
            refine ⟨_, rfl, ixt (j := 0) ha1 rfl ⟨lens 4 (by decide), fun l nl => ?_⟩⟩
            refine ⟨l, _, rfl, .inl (SqL.of upd_same), rfl, rfl, ?_⟩
            show Q (.bl (inV (.str z) (aloneW.map V.str))) _
            rw [inV_word rfl]
            exact q1 _ (Same.up0 nl)
          · obtain ⟨x0, rfl⟩ : ∃ x0, r0 = [x0] := by
              match r0, h1 with
              | [x0], _ => exact ⟨_, rfl⟩
            refine ⟨_, rfl, .ref a, _, rfl, .inr ⟨_, SqT.of ha1, rfl⟩, rfl, _, rfl, iteF ?_⟩
            obtain ⟨n, tx, hn, lx⟩ := hx (.str z) x0 [] rfl
            have tx1 := tyx_same s1 tx
            have q2 : ∀ H', Same H1 H' → Q (.bl (if isAdd (.str z) then addV x0 else wordIn boxW (.str z) && nameV x0)) H' := q1
            refine ⟨_, rfl, ixt (j := 0) ha1 rfl ⟨rfl, _, rfl, ?_⟩⟩
            show (if isAdd (.str z) = true then _ else _)
            cases ea : isAdd (.str z) with
            | true =>
              rw [ea] at q2
              have q2 : ∀ H', Same H1 H' → Q (.bl (addV x0)) H' := q2
              refine iteT ?_
              refine ⟨fun v H' => v = .bl (decide (n = "int")) ∧ H' = H1, ⟨_, rfl, ixt (j := 1) ha1 rfl ⟨x0, n, rfl, tx1, hn, rfl, rfl⟩⟩, ?_⟩
              rintro _ H2 ⟨rfl, e2⟩
              cases e2
              refine ⟨_, rfl, ?_⟩
              by_cases hi : n = "int"
              · rw [decide_eq_true hi]
                subst hi
                obtain ⟨i, rfl⟩ := tyx_int tx1
                refine iteT ⟨_, _, rfl, rfl, ⟨by decide, by decide, by decide⟩, _, _, rfl, rfl, ?_⟩
                refine ⟨_, rfl, ixt (j := 1) ha1 rfl ⟨_, _, rfl, rfl, _, rfl, ?_⟩⟩
                have k : Q (.bl (decide (-(10 ^ 9) ≤ i ∧ i ≤ 10 ^ 9))) H1 := q2 H1 (Same.refl H1)
                refine ite2 (fun e => ?_) (fun e => ?_)
                · have e1 : -(10 ^ 9) ≤ i := by
                    have z := of_decide_eq_true e
                    have e9 : (10 : Int) ^ (9 : Int).toNat = 10 ^ 9 := rfl
                    omega
                  refine ⟨_, _, rfl, rfl, ⟨by decide, by decide, by decide⟩, _, _, rfl, rfl, ?_⟩
                  rw [show decide (-(10 ^ 9) ≤ i ∧ i ≤ 10 ^ 9) = decide (i ≤ 10 ^ 9) from decide_eq_decide.mpr ⟨fun z => z.2, fun z => ⟨e1, z⟩⟩] at k
                  exact k
                · have e1 : ¬ -(10 ^ 9) ≤ i := fun z => e (decide_eq_true (by
                    have e9 : (10 : Int) ^ (9 : Int).toNat = 10 ^ 9 := rfl
                    omega))
                  rw [decide_eq_false (fun z => e1 z.1)] at k
                  exact k
              · rw [decide_eq_false hi]
                have k := q2 H1 (Same.refl H1)
                rw [add_no tx1 hi] at k
                exact iteF k
            | false =>
              rw [ea] at q2
              have q2 : ∀ H', Same H1 H' → Q (.bl (wordIn boxW (.str z) && nameV x0)) H' := q2
              refine iteF ?_
              refine ⟨fun v H' => v = .bl (wordIn boxW (.str z)) ∧ Same H1 H', ⟨_, rfl, ixt (j := 0) ha1 rfl ⟨lens 3 (by decide), fun l nl => ⟨l, _, rfl, .inl (SqL.of upd_same), rfl, rfl, ?_, Same.up0 nl⟩⟩⟩, ?_⟩
              · show V.bl (inV (.str z) (boxW.map V.str)) = _
                rw [inV_word rfl]
              rintro _ H2 ⟨rfl, s2⟩
              refine ⟨_, rfl, ?_⟩
              cases eb : wordIn boxW (.str z) with
              | true =>
                rw [eb, Bool.true_and] at q2
                exact iteT ⟨_, rfl, ixt (j := 1) (s2 _ _ ha1) rfl ⟨x0, rfl, ⟨n, tyx_same s2 tx1, hn, lx⟩, fun H3 s3 => q2 H3 (s2.trans s3)⟩⟩
              | false =>
                rw [eb, Bool.false_and] at q2
                exact iteF (q2 H2 s2)
        · refine ⟨_, rfl, ixt (j := 0) ha1 rfl ⟨w0, .ty "str", _, _, false, rfl, .ty _, t1, kit_ty (kit_str m0 hs), false, rfl, ?_⟩⟩
          have ns : ∀ s, w0 ≠ .str s := fun s e => by
            subst e
            exact hs (tyx_isS t0)
          have e0 : deedL (w0 :: r0) = false := by
            rcases h1 with h1 | h1
            · obtain rfl : r0 = [] := by
                cases r0 with
                | nil => rfl
                | cons _ _ => rw [List.length_cons, List.length_cons] at h1; omega
              exact word_no ns
            · obtain ⟨x0, rfl⟩ : ∃ x0, r0 = [x0] := by
                match r0, h1 with
                | [x0], _ => exact ⟨_, rfl⟩
              show (if isAdd w0 then addV x0 else wordIn boxW w0 && nameV x0) = false
              rw [show isAdd w0 = false from decide_eq_false (ns _), word_no ns]
              rfl
          have k := q1 H1 (Same.refl H1)
          rw [e0] at k
          first
            | exact iteT k
            | exact k
      · rw [not12 (fun z => h1 (.inl z)) (fun z => h1 (.inr z))]
        refine iteT ?_
        have k := q1 H1 (Same.refl H1)
        rw [deedL_no (fun z => h1 (.inl z)) (fun z => h1 (.inr z))] at k
        exact k
end
/-! ### drawn deeds, and what is none -/
def spItem7 : Sp := fun vs H Q _ => ∃ p : Addr, vs = [.ref p] ∧ BagAt H p ∧ ∀ H' v d, Grow p H H' → BagAt H' p → Dz H' p v d → xOk d = true → Q v H'
def Word7 (v : V) : Prop := ∃ d, (∀ H p, Dz H p v d) ∧ flatV v = true ∧ scal v (.str "add") = true ∧ wOk d = true
theorem word7_str (s : Str) : Word7 (.str s) := ⟨.str s, fun _ _ => .str s, rfl, rfl, rfl⟩
theorem word7_int (i : Int) : Word7 (.int i) := ⟨.int i, fun _ _ => .int i, rfl, rfl, rfl⟩
theorem word7_non : Word7 .non := ⟨.none, fun _ _ => .non, rfl, rfl, rfl⟩
theorem and2 {a b : Bool} (h : a = true) (k : b = true) : (a && b) = true := by rw [h, k]; rfl
theorem str_app (u v : Str) : (u ++ v).length = u.length + v.length := Array.size_append
section
variable {P : Program} {w : World} {K : PySem.W.Frag} {mg : Str → Option Value} {base : Heap}
theorem ok_odd {f : Addr} {fd : FuncData} (F : Fun K "_law_odd" "_law_odd" s_l_odd f fd) (c_law_take : Cal P w K mg base 1 "_law_take" spTake) : FnOk P w K mg base L2.CX0 2 f fd ["_law_bag_here"] spThing7 := by
  refine F.ok sc_l_odd (fun vs H Q E h => ?_) (fun cdv A outer s H vs Q E hr h => ?_)
  · obtain ⟨p, rfl, _⟩ := h
    rfl
  · obtain ⟨p, rfl, hB, q⟩ := h
    have nd := sc_l_odd.nd
    obtain ⟨hb1, hb2, hb0, _⟩ := id hB
    refine ⟨_, (pss_cons (ps_set (i := 1) nd rfl (.inl rfl) (pe_lst (pa_cons pe_non (pa_cons pe_bl (pa_cons pe_bl (pa_cons pe_int (pa_cons pe_int (pa_cons (pe_un un_neg pe_int) (pa_cons (pe_op op_pow pe_int pe_int) (pa_cons pe_str (pa_cons pe_str (pa_cons pe_str (pa_cons (pe_tup pa_nil) (pa_cons (pe_lst pa_nil) (pa_cons (pe_tup (pa_cons pe_int pa_nil)) (pa_cons (pe_lst (pa_cons pe_int (pa_cons pe_int pa_nil))) (pa_cons pe_dnewK (pa_cons (pe_d1 (key := Sum.inr "a") pe_str pe_int) (pa_cons (pe_tup (pa_cons pe_int (pa_cons pe_int (pa_cons pe_int pa_nil)))) pa_nil)))))))))))))))))))
      (pss_cons (ps_set (i := 1) nd rfl (.inl rfl) (pe_op op_cat (pv 1) (pe_lst (pa_cons (pe_tup (pa_cons pe_non (pa_cons pe_int pa_nil))) (pa_cons (pe_tup (pa_cons pe_str (pa_cons pe_str pa_nil))) (pa_cons (pe_tup (pa_cons (pe_tup (pa_cons pe_int (pa_cons pe_int pa_nil))) pa_nil)) (pa_cons (pe_lst (pa_cons (pe_tup (pa_cons pe_int (pa_cons pe_int pa_nil))) pa_nil)) (pa_cons (pe_tup (pa_cons pe_int (pa_cons (pe_lst (pa_cons pe_int pa_nil)) pa_nil))) (pa_cons (pe_tup (pa_cons pe_str pa_nil)) (pa_cons (pe_d1t (key := Sum.inl 1) (xs := [.int 1, .int 2]) pe_int (pa_cons pe_int (pa_cons pe_int pa_nil)) (fun _ _ _ q => q) (lens 2 (by decide))) pa_nil))))))))))
      (pss_one (ps_ret (pe_ix ix_seq (pv 1) (pe_f c_law_take hr rfl (pa_cons (pv 0) (pa_cons pe_int pa_nil))) (fun _ _ => rfl)))))), ?_⟩
    refine ⟨_, rfl, _, _, rfl, rfl, ⟨by decide, by decide, by decide⟩, lens 0 (by decide), fun a1 n1 => ?_⟩
    have s1 := Same.up0 (o := .tup []) n1
    have f1 : upd H a1 (.tup []) a1 = some (.tup []) := upd_same
    generalize upd H a1 (.tup []) = H1 at s1 f1 ⊢
    refine ⟨lens 0 (by decide), fun a2 n2 => ?_⟩
    have s2 := Same.up0 (o := .lst []) n2
    have f2 : upd H1 a2 (.lst []) a2 = some (.lst []) := upd_same
    generalize upd H1 a2 (.lst []) = H2 at s2 f2 ⊢
    refine ⟨lens 1 (by decide), fun a3 n3 => ?_⟩
    have s3 := Same.up0 (o := .tup [.int 1]) n3
    have f3 : upd H2 a3 (.tup [.int 1]) a3 = some (.tup [.int 1]) := upd_same
    generalize upd H2 a3 (.tup [.int 1]) = H3 at s3 f3 ⊢
    refine ⟨lens 2 (by decide), fun a4 n4 => ?_⟩
    have s4 := Same.up0 (o := .lst [.int 1, .int 2]) n4
    have f4 : upd H3 a4 (.lst [.int 1, .int 2]) a4 = some (.lst [.int 1, .int 2]) := upd_same
    generalize upd H3 a4 (.lst [.int 1, .int 2]) = H4 at s4 f4 ⊢
    refine fun a5 n5 => ?_
    have s5 := Same.up0 (o := .dK []) n5
    have f5 : upd H4 a5 (.dK []) a5 = some (.dK []) := upd_same
    generalize upd H4 a5 (.dK []) = H5 at s5 f5 ⊢
    refine fun a6 n6 => ?_
    have s6 := Same.up0 (o := .dK [((Sum.inr "a" : Key), (.int 1 : V))]) n6
    have f6 : upd H5 a6 (.dK [((Sum.inr "a" : Key), (.int 1 : V))]) a6 = some (.dK [((Sum.inr "a" : Key), (.int 1 : V))]) := upd_same
    generalize upd H5 a6 (.dK [((Sum.inr "a" : Key), (.int 1 : V))]) = H6 at s6 f6 ⊢
    refine ⟨lens 3 (by decide), fun a7 n7 => ?_⟩
    have s7 := Same.up0 (o := .tup [.int 1, .int 2, .int 3]) n7
    have f7 : upd H6 a7 (.tup [.int 1, .int 2, .int 3]) a7 = some (.tup [.int 1, .int 2, .int 3]) := upd_same
    generalize upd H6 a7 (.tup [.int 1, .int 2, .int 3]) = H7 at s7 f7 ⊢
    refine ⟨lens 17 (by decide), fun a8 n8 => ?_⟩
    have s8 := Same.up0 (o := .lst [.non, .bl true, .bl false, .int 0, .int 1, .int (-1), .int (10 ^ (39 : Int).toNat), .str "", .str "1/2", .str "x", .ref a1, .ref a2, .ref a3, .ref a4, .ref a5, .ref a6, .ref a7]) n8
    have f8 : upd H7 a8 (.lst [.non, .bl true, .bl false, .int 0, .int 1, .int (-1), .int (10 ^ (39 : Int).toNat), .str "", .str "1/2", .str "x", .ref a1, .ref a2, .ref a3, .ref a4, .ref a5, .ref a6, .ref a7]) a8 = some (.lst [.non, .bl true, .bl false, .int 0, .int 1, .int (-1), .int (10 ^ (39 : Int).toNat), .str "", .str "1/2", .str "x", .ref a1, .ref a2, .ref a3, .ref a4, .ref a5, .ref a6, .ref a7]) := upd_same
    generalize upd H7 a8 (.lst [.non, .bl true, .bl false, .int 0, .int 1, .int (-1), .int (10 ^ (39 : Int).toNat), .str "", .str "1/2", .str "x", .ref a1, .ref a2, .ref a3, .ref a4, .ref a5, .ref a6, .ref a7]) = H8 at s8 f8 ⊢
    refine ⟨_, rfl, lens 2 (by decide), fun a9 n9 => ?_⟩
    have s9 := Same.up0 (o := .tup [.non, .int 1]) n9
    have f9 : upd H8 a9 (.tup [.non, .int 1]) a9 = some (.tup [.non, .int 1]) := upd_same
    generalize upd H8 a9 (.tup [.non, .int 1]) = H9 at s9 f9 ⊢
    refine ⟨lens 2 (by decide), fun a10 n10 => ?_⟩
    have s10 := Same.up0 (o := .tup [.str "1", .str "2"]) n10
    have f10 : upd H9 a10 (.tup [.str "1", .str "2"]) a10 = some (.tup [.str "1", .str "2"]) := upd_same
    generalize upd H9 a10 (.tup [.str "1", .str "2"]) = H10 at s10 f10 ⊢
    refine ⟨lens 2 (by decide), fun a11 n11 => ?_⟩
    have s11 := Same.up0 (o := .tup [.int 1, .int 2]) n11
    have f11 : upd H10 a11 (.tup [.int 1, .int 2]) a11 = some (.tup [.int 1, .int 2]) := upd_same
    generalize upd H10 a11 (.tup [.int 1, .int 2]) = H11 at s11 f11 ⊢
    refine ⟨lens 1 (by decide), fun a12 n12 => ?_⟩
    have s12 := Same.up0 (o := .tup [.ref a11]) n12
    have f12 : upd H11 a12 (.tup [.ref a11]) a12 = some (.tup [.ref a11]) := upd_same
    generalize upd H11 a12 (.tup [.ref a11]) = H12 at s12 f12 ⊢
    refine ⟨lens 2 (by decide), fun a13 n13 => ?_⟩
    have s13 := Same.up0 (o := .tup [.int 1, .int 2]) n13
    have f13 : upd H12 a13 (.tup [.int 1, .int 2]) a13 = some (.tup [.int 1, .int 2]) := upd_same
    generalize upd H12 a13 (.tup [.int 1, .int 2]) = H13 at s13 f13 ⊢
    refine ⟨lens 1 (by decide), fun a14 n14 => ?_⟩
    have s14 := Same.up0 (o := .lst [.ref a13]) n14
    have f14 : upd H13 a14 (.lst [.ref a13]) a14 = some (.lst [.ref a13]) := upd_same
    generalize upd H13 a14 (.lst [.ref a13]) = H14 at s14 f14 ⊢
    refine ⟨lens 1 (by decide), fun a15 n15 => ?_⟩
    have s15 := Same.up0 (o := .lst [.int 2]) n15
    have f15 : upd H14 a15 (.lst [.int 2]) a15 = some (.lst [.int 2]) := upd_same
    generalize upd H14 a15 (.lst [.int 2]) = H15 at s15 f15 ⊢
    refine ⟨lens 2 (by decide), fun a16 n16 => ?_⟩
    have s16 := Same.up0 (o := .tup [.int 1, .ref a15]) n16
    have f16 : upd H15 a16 (.tup [.int 1, .ref a15]) a16 = some (.tup [.int 1, .ref a15]) := upd_same
    generalize upd H15 a16 (.tup [.int 1, .ref a15]) = H16 at s16 f16 ⊢
    refine ⟨lens 1 (by decide), fun a17 n17 => ?_⟩
    have s17 := Same.up0 (o := .tup [.str "get"]) n17
    have f17 : upd H16 a17 (.tup [.str "get"]) a17 = some (.tup [.str "get"]) := upd_same
    generalize upd H16 a17 (.tup [.str "get"]) = H17 at s17 f17 ⊢
    refine fun a18 n18 => ?_
    have s18 := Same.up0 (o := .tup [.int 1, .int 2]) n18
    have f18 : upd H17 a18 (.tup [.int 1, .int 2]) a18 = some (.tup [.int 1, .int 2]) := upd_same
    generalize upd H17 a18 (.tup [.int 1, .int 2]) = H18 at s18 f18 ⊢
    refine fun a19 n19 => ?_
    have s19 := Same.up0 (o := .dK [((Sum.inl 1 : Key), (.ref a18 : V))]) n19
    have f19 : upd H18 a19 (.dK [((Sum.inl 1 : Key), (.ref a18 : V))]) a19 = some (.dK [((Sum.inl 1 : Key), (.ref a18 : V))]) := upd_same
    generalize upd H18 a19 (.dK [((Sum.inl 1 : Key), (.ref a18 : V))]) = H19 at s19 f19 ⊢
    refine ⟨lens 7 (by decide), fun a20 n20 => ?_⟩
    have s20 := Same.up0 (o := .lst [.ref a9, .ref a10, .ref a12, .ref a14, .ref a16, .ref a17, .ref a19]) n20
    have f20 : upd H19 a20 (.lst [.ref a9, .ref a10, .ref a12, .ref a14, .ref a16, .ref a17, .ref a19]) a20 = some (.lst [.ref a9, .ref a10, .ref a12, .ref a14, .ref a16, .ref a17, .ref a19]) := upd_same
    generalize upd H19 a20 (.lst [.ref a9, .ref a10, .ref a12, .ref a14, .ref a16, .ref a17, .ref a19]) = H20 at s20 f20 ⊢
    refine ⟨a8, a20, _, _, rfl, rfl, (s20 _ _ (s19 _ _ (s18 _ _ (s17 _ _ (s16 _ _ (s15 _ _ (s14 _ _ (s13 _ _ (s12 _ _ (s11 _ _ (s10 _ _ (s9 _ _ f8)))))))))))), f20, lens 24 (by decide), fun a21 n21 => ?_⟩
    have s21 := Same.up0 (o := .lst ([.non, .bl true, .bl false, .int 0, .int 1, .int (-1), .int (10 ^ (39 : Int).toNat), .str "", .str "1/2", .str "x", .ref a1, .ref a2, .ref a3, .ref a4, .ref a5, .ref a6, .ref a7] ++ [.ref a9, .ref a10, .ref a12, .ref a14, .ref a16, .ref a17, .ref a19])) n21
    have f21 : upd H20 a21 (.lst ([.non, .bl true, .bl false, .int 0, .int 1, .int (-1), .int (10 ^ (39 : Int).toNat), .str "", .str "1/2", .str "x", .ref a1, .ref a2, .ref a3, .ref a4, .ref a5, .ref a6, .ref a7] ++ [.ref a9, .ref a10, .ref a12, .ref a14, .ref a16, .ref a17, .ref a19])) a21 = some (.lst ([.non, .bl true, .bl false, .int 0, .int 1, .int (-1), .int (10 ^ (39 : Int).toNat), .str "", .str "1/2", .str "x", .ref a1, .ref a2, .ref a3, .ref a4, .ref a5, .ref a6, .ref a7] ++ [.ref a9, .ref a10, .ref a12, .ref a14, .ref a16, .ref a17, .ref a19])) := upd_same
    generalize upd H20 a21 (.lst ([.non, .bl true, .bl false, .int 0, .int 1, .int (-1), .int (10 ^ (39 : Int).toNat), .str "", .str "1/2", .str "x", .ref a1, .ref a2, .ref a3, .ref a4, .ref a5, .ref a6, .ref a7] ++ [.ref a9, .ref a10, .ref a12, .ref a14, .ref a16, .ref a17, .ref a19])) = H21 at s21 f21 ⊢
    have f21 : H21 a21 = some (.lst [.non, .bl true, .bl false, .int 0, .int 1, .int (-1), .int (10 ^ (39 : Int).toNat), .str "", .str "1/2", .str "x", .ref a1, .ref a2, .ref a3, .ref a4, .ref a5, .ref a6, .ref a7, .ref a9, .ref a10, .ref a12, .ref a14, .ref a16, .ref a17, .ref a19]) := f21
    have S21 : Same H21 H21 := Same.refl _
    have S20 : Same H20 H21 := s21.trans S21
    have S19 : Same H19 H21 := s20.trans S20
    have S18 : Same H18 H21 := s19.trans S19
    have S17 : Same H17 H21 := s18.trans S18
    have S16 : Same H16 H21 := s17.trans S17
    have S15 : Same H15 H21 := s16.trans S16
    have S14 : Same H14 H21 := s15.trans S15
    have S13 : Same H13 H21 := s14.trans S14
    have S12 : Same H12 H21 := s13.trans S13
    have S11 : Same H11 H21 := s12.trans S12
    have S10 : Same H10 H21 := s11.trans S11
    have S9 : Same H9 H21 := s10.trans S10
    have S8 : Same H8 H21 := s9.trans S9
    have S7 : Same H7 H21 := s8.trans S8
    have S6 : Same H6 H21 := s7.trans S7
    have S5 : Same H5 H21 := s6.trans S6
    have S4 : Same H4 H21 := s5.trans S5
    have S3 : Same H3 H21 := s4.trans S4
    have S2 : Same H2 H21 := s3.trans S3
    have S1 : Same H1 H21 := s2.trans S2
    have S0 : Same H H21 := s1.trans S1
    have g1 := S1 _ _ f1
    have q1 : a1 ≠ p := fun z => by rw [z, hb0] at n1; cases n1
    have g2 := S2 _ _ f2
    have q2 : a2 ≠ p := fun z => by rw [z, (s1 _ _ hb0)] at n2; cases n2
    have g3 := S3 _ _ f3
    have q3 : a3 ≠ p := fun z => by rw [z, (s2 _ _ (s1 _ _ hb0))] at n3; cases n3
    have g4 := S4 _ _ f4
    have q4 : a4 ≠ p := fun z => by rw [z, (s3 _ _ (s2 _ _ (s1 _ _ hb0)))] at n4; cases n4
    have g5 := S5 _ _ f5
    have q5 : a5 ≠ p := fun z => by rw [z, (s4 _ _ (s3 _ _ (s2 _ _ (s1 _ _ hb0))))] at n5; cases n5
    have g6 := S6 _ _ f6
    have q6 : a6 ≠ p := fun z => by rw [z, (s5 _ _ (s4 _ _ (s3 _ _ (s2 _ _ (s1 _ _ hb0)))))] at n6; cases n6
    have g7 := S7 _ _ f7
    have q7 : a7 ≠ p := fun z => by rw [z, (s6 _ _ (s5 _ _ (s4 _ _ (s3 _ _ (s2 _ _ (s1 _ _ hb0))))))] at n7; cases n7
    have g8 := S8 _ _ f8
    have q8 : a8 ≠ p := fun z => by rw [z, (s7 _ _ (s6 _ _ (s5 _ _ (s4 _ _ (s3 _ _ (s2 _ _ (s1 _ _ hb0)))))))] at n8; cases n8
    have g9 := S9 _ _ f9
    have q9 : a9 ≠ p := fun z => by rw [z, (s8 _ _ (s7 _ _ (s6 _ _ (s5 _ _ (s4 _ _ (s3 _ _ (s2 _ _ (s1 _ _ hb0))))))))] at n9; cases n9
    have g10 := S10 _ _ f10
    have q10 : a10 ≠ p := fun z => by rw [z, (s9 _ _ (s8 _ _ (s7 _ _ (s6 _ _ (s5 _ _ (s4 _ _ (s3 _ _ (s2 _ _ (s1 _ _ hb0)))))))))] at n10; cases n10
    have g11 := S11 _ _ f11
    have q11 : a11 ≠ p := fun z => by rw [z, (s10 _ _ (s9 _ _ (s8 _ _ (s7 _ _ (s6 _ _ (s5 _ _ (s4 _ _ (s3 _ _ (s2 _ _ (s1 _ _ hb0))))))))))] at n11; cases n11
    have g12 := S12 _ _ f12
    have q12 : a12 ≠ p := fun z => by rw [z, (s11 _ _ (s10 _ _ (s9 _ _ (s8 _ _ (s7 _ _ (s6 _ _ (s5 _ _ (s4 _ _ (s3 _ _ (s2 _ _ (s1 _ _ hb0)))))))))))] at n12; cases n12
    have g13 := S13 _ _ f13
    have q13 : a13 ≠ p := fun z => by rw [z, (s12 _ _ (s11 _ _ (s10 _ _ (s9 _ _ (s8 _ _ (s7 _ _ (s6 _ _ (s5 _ _ (s4 _ _ (s3 _ _ (s2 _ _ (s1 _ _ hb0))))))))))))] at n13; cases n13
    have g14 := S14 _ _ f14
    have q14 : a14 ≠ p := fun z => by rw [z, (s13 _ _ (s12 _ _ (s11 _ _ (s10 _ _ (s9 _ _ (s8 _ _ (s7 _ _ (s6 _ _ (s5 _ _ (s4 _ _ (s3 _ _ (s2 _ _ (s1 _ _ hb0)))))))))))))] at n14; cases n14
    have g15 := S15 _ _ f15
    have q15 : a15 ≠ p := fun z => by rw [z, (s14 _ _ (s13 _ _ (s12 _ _ (s11 _ _ (s10 _ _ (s9 _ _ (s8 _ _ (s7 _ _ (s6 _ _ (s5 _ _ (s4 _ _ (s3 _ _ (s2 _ _ (s1 _ _ hb0))))))))))))))] at n15; cases n15
    have g16 := S16 _ _ f16
    have q16 : a16 ≠ p := fun z => by rw [z, (s15 _ _ (s14 _ _ (s13 _ _ (s12 _ _ (s11 _ _ (s10 _ _ (s9 _ _ (s8 _ _ (s7 _ _ (s6 _ _ (s5 _ _ (s4 _ _ (s3 _ _ (s2 _ _ (s1 _ _ hb0)))))))))))))))] at n16; cases n16
    have g17 := S17 _ _ f17
    have q17 : a17 ≠ p := fun z => by rw [z, (s16 _ _ (s15 _ _ (s14 _ _ (s13 _ _ (s12 _ _ (s11 _ _ (s10 _ _ (s9 _ _ (s8 _ _ (s7 _ _ (s6 _ _ (s5 _ _ (s4 _ _ (s3 _ _ (s2 _ _ (s1 _ _ hb0))))))))))))))))] at n17; cases n17
    have g18 := S18 _ _ f18
    have q18 : a18 ≠ p := fun z => by rw [z, (s17 _ _ (s16 _ _ (s15 _ _ (s14 _ _ (s13 _ _ (s12 _ _ (s11 _ _ (s10 _ _ (s9 _ _ (s8 _ _ (s7 _ _ (s6 _ _ (s5 _ _ (s4 _ _ (s3 _ _ (s2 _ _ (s1 _ _ hb0)))))))))))))))))] at n18; cases n18
    have g19 := S19 _ _ f19
    have q19 : a19 ≠ p := fun z => by rw [z, (s18 _ _ (s17 _ _ (s16 _ _ (s15 _ _ (s14 _ _ (s13 _ _ (s12 _ _ (s11 _ _ (s10 _ _ (s9 _ _ (s8 _ _ (s7 _ _ (s6 _ _ (s5 _ _ (s4 _ _ (s3 _ _ (s2 _ _ (s1 _ _ hb0))))))))))))))))))] at n19; cases n19
    have g20 := S20 _ _ f20
    have q20 : a20 ≠ p := fun z => by rw [z, (s19 _ _ (s18 _ _ (s17 _ _ (s16 _ _ (s15 _ _ (s14 _ _ (s13 _ _ (s12 _ _ (s11 _ _ (s10 _ _ (s9 _ _ (s8 _ _ (s7 _ _ (s6 _ _ (s5 _ _ (s4 _ _ (s3 _ _ (s2 _ _ (s1 _ _ hb0)))))))))))))))))))] at n20; cases n20
    have g21 := S21 _ _ f21
    have q21 : a21 ≠ p := fun z => by rw [z, (s20 _ _ (s19 _ _ (s18 _ _ (s17 _ _ (s16 _ _ (s15 _ _ (s14 _ _ (s13 _ _ (s12 _ _ (s11 _ _ (s10 _ _ (s9 _ _ (s8 _ _ (s7 _ _ (s6 _ _ (s5 _ _ (s4 _ _ (s3 _ _ (s2 _ _ (s1 _ _ hb0))))))))))))))))))))] at n21; cases n21
    have all := (List.forall_mem_cons.mpr ⟨⟨.none, .non, by decide +kernel⟩, (List.forall_mem_cons.mpr ⟨⟨.bool true, (.bl _), by decide +kernel⟩, (List.forall_mem_cons.mpr ⟨⟨.bool false, (.bl _), by decide +kernel⟩, (List.forall_mem_cons.mpr ⟨⟨.int 0, (.int _), by decide +kernel⟩, (List.forall_mem_cons.mpr ⟨⟨.int 1, (.int _), by decide +kernel⟩, (List.forall_mem_cons.mpr ⟨⟨.int (-1), (.int _), by decide +kernel⟩, (List.forall_mem_cons.mpr ⟨⟨.int (10 ^ (39 : Int).toNat), (.int _), by decide +kernel⟩, (List.forall_mem_cons.mpr ⟨⟨.str "", (.str _), by decide +kernel⟩, (List.forall_mem_cons.mpr ⟨⟨.str "1/2", (.str _), by decide +kernel⟩, (List.forall_mem_cons.mpr ⟨⟨.str "x", (.str _), by decide +kernel⟩, (List.forall_mem_cons.mpr ⟨⟨.tuple [], (.tup g1 .nil), by decide +kernel⟩, (List.forall_mem_cons.mpr ⟨⟨.list [], (.lst g2 q2 .nil), by decide +kernel⟩, (List.forall_mem_cons.mpr ⟨⟨.tuple [.int 1], (.tup g3 (.cons (.int _) .nil)), by decide +kernel⟩, (List.forall_mem_cons.mpr ⟨⟨.list [.int 1, .int 2], (.lst g4 q4 (.cons (.int _) (.cons (.int _) .nil))), by decide +kernel⟩, (List.forall_mem_cons.mpr ⟨⟨.dict [], (.dict (kvs := []) g5 .nil rfl), by decide +kernel⟩, (List.forall_mem_cons.mpr ⟨⟨.dict [(.str "a", .int 1)], (.dict (kvs := [((Sum.inr "a" : Key), (.int 1 : V))]) g6 (.cons (.int _) .nil) rfl), by decide +kernel⟩, (List.forall_mem_cons.mpr ⟨⟨.tuple [.int 1, .int 2, .int 3], (.tup g7 (.cons (.int _) (.cons (.int _) (.cons (.int _) .nil)))), by decide +kernel⟩, (List.forall_mem_cons.mpr ⟨⟨.tuple [.none, .int 1], (.tup g9 (.cons .non (.cons (.int _) .nil))), by decide +kernel⟩, (List.forall_mem_cons.mpr ⟨⟨.tuple [.str "1", .str "2"], (.tup g10 (.cons (.str _) (.cons (.str _) .nil))), by decide +kernel⟩, (List.forall_mem_cons.mpr ⟨⟨.tuple [.tuple [.int 1, .int 2]], (.tup g12 (.cons (.tup g11 (.cons (.int _) (.cons (.int _) .nil))) .nil)), by decide +kernel⟩, (List.forall_mem_cons.mpr ⟨⟨.list [.tuple [.int 1, .int 2]], (.lst g14 q14 (.cons (.tup g13 (.cons (.int _) (.cons (.int _) .nil))) .nil)), by decide +kernel⟩, (List.forall_mem_cons.mpr ⟨⟨.tuple [.int 1, .list [.int 2]], (.tup g16 (.cons (.int _) (.cons (.lst g15 q15 (.cons (.int _) .nil)) .nil))), by decide +kernel⟩, (List.forall_mem_cons.mpr ⟨⟨.tuple [.str "get"], (.tup g17 (.cons (.str _) .nil)), by decide +kernel⟩, (List.forall_mem_cons.mpr ⟨⟨.dict [(.int 1, .tuple [.int 1, .int 2])], (.dict (kvs := [((Sum.inl 1 : Key), (.ref a18 : V))]) g19 (.cons (.tup g18 (.cons (.int _) (.cons (.int _) .nil))) .nil) rfl), by decide +kernel⟩, (List.forall_mem_nil (fun v => ∃ d, Dz H21 p v d ∧ thOk d = true))⟩)⟩)⟩)⟩)⟩)⟩)⟩)⟩)⟩)⟩)⟩)⟩)⟩)⟩)⟩)⟩)⟩)⟩)⟩)⟩)⟩)⟩)⟩)⟩)
    refine ⟨_, rfl, _, rfl, p, _, rfl, hB.keep S0, by decide, by decide, fun H' r b hB' r0 r1 => ?_⟩
    have hl := (b a21 ((hB.keep S0).new_of g21 q21)).trans g21
    obtain ⟨j, rfl⟩ := Int.eq_ofNat_of_zero_le r0
    have hj : j < 24 := by omega
    refine ixl (j := j) hl (List.getElem?_eq_getElem hj) ?_
    obtain ⟨d, dz, ok⟩ := all _ (List.getElem_mem hj)
    exact q _ _ ((Same.grow S0).trans b.grow) hB' ⟨d, dz_grow (hB.keep S0) b.grow dz, ok⟩
theorem ok_nameOrNot {f : Addr} {fd : FuncData} (F : Fun K "_law_name_or_not" "_law_name_or_not" s_l_name_or_not f fd) (T : Bl mg) (c_law_take : Cal P w K mg base 1 "_law_take" spTake) : FnOk P w K mg base L2.CX0 2 f fd ["_law_bag_here"] spItem7 := by
  refine F.ok sc_l_name_or_not (fun vs H Q E h => ?_) (fun cdv A outer s H vs Q E hr h => ?_)
  · obtain ⟨p, rfl, _⟩ := h
    rfl
  · obtain ⟨p, rfl, hBa, q⟩ := h
    have nd := sc_l_name_or_not.nd
    refine ⟨_, (pss_cons (ps_set (i := 1) nd rfl (.inl rfl) pe_str)
      (pss_cons (ps_set (i := 2) nd rfl (.inl rfl) pe_str)
      (pss_cons (ps_for PassesOwn.never rfl (pi_range1 rfl T.b_range (pa_cons (pe_f c_law_take hr rfl (pa_cons (pv 0) (pa_cons pe_int pa_nil))) pa_nil)) (pg_name (i := 3) nd rfl (.inl rfl))
        (pss_one (ps_set (i := 2) nd rfl (.inl rfl) (pe_op op_add_str (pv 2) (pe_ix ix_seq (pv 1) (pe_f c_law_take hr rfl (pa_cons (pv 0) (pa_cons pe_int pa_nil))) (fun _ _ => rfl))))))
      (pss_cons (ps_set (i := 4) nd rfl (.inl rfl) (pe_lst (pa_cons (pv 2) (pa_cons (pv 2) (pa_cons (pv 2) (pa_cons (pe_op op_add_str (pv 2) pe_str) (pa_cons (pe_op op_add_str (pv 2) pe_str) (pa_cons (pe_op op_add_str (pv 2) pe_str) (pa_cons pe_str (pa_cons pe_non (pa_cons pe_int (pa_cons (pe_lst (pa_cons pe_str pa_nil)) (pa_cons (pe_tup (pa_cons pe_str pa_nil)) (pa_cons pe_bl pa_nil))))))))))))))
      (pss_one (ps_ret (pe_ix ix_seq (pv 4) (pe_f c_law_take hr rfl (pa_cons (pv 0) (pa_cons pe_int pa_nil))) (fun _ _ => rfl)))))))), ?_⟩
    refine ⟨_, rfl, p, _, rfl, hBa, by decide, by decide, fun H1 r b1 hB1 r0 r1 => ?_⟩
    obtain ⟨n, rfl⟩ := Int.eq_ofNat_of_zero_le r0
    refine ⟨(n : Int), rfl, by omega, by omega, ?_⟩
    refine for_range (lo := 0) (n := n) (fun i σ H' => ∃ (z : Str) (y3 y4 : Option V), σ = [some (.ref p), some (.str "abcxyz"), some (.str z), y3, y4] ∧ z.length ≤ i ∧ Grow p H H' ∧ BagAt H' p) ⟨_, _, _, rfl, Nat.zero_le _, b1.grow, hB1⟩ ?_ ?_
    · rintro i σ H2 hi ⟨z, y3, y4, rfl, hz, g2, hB2⟩
      refine ⟨_, rfl, _, rfl, _, rfl, p, _, rfl, hB2, by decide, by decide, fun H3 r b3 hB3 r0 r1 => ?_⟩
      obtain ⟨j, rfl⟩ := Int.eq_ofNat_of_zero_le r0
      have hj : j < (("abcxyz" : Str)).cps.toList.length := by
        have e : (("abcxyz" : Str)).cps.toList.length = 6 := by decide +kernel
        omega
      refine .inr (.inr ⟨_, _, _, rfl, rfl, lens 6 (by decide), atI_nat (List.getElem?_eq_getElem hj), ?_⟩)
      refine ⟨_, _, rfl, rfl, ?_, _, _, _, rfl, ?_, g2.trans b3.grow, hB3⟩
      · exact lens _ (show z.length + 1 ≤ 1000 by omega)
      · rw [str_app]
        exact Nat.succ_le_succ hz
    · rintro σ H ⟨z, y3, y4, rfl, hz, g0, hB⟩
      obtain ⟨hb1, hb2, hb0, _⟩ := id hB
      have zx : xOk (.str z) = true := Nat.ble_eq_true_of_le (show z.length ≤ 1000 by omega)
      have zl : ∀ {u : Str}, u.length ≤ 1 → z.length + u.length ≤ sizeLine := fun {u} h => lens _ (by omega)
      have zx2 : ∀ {u : Str}, u.length ≤ 1 → xOk (.str (z ++ u)) = true := fun {u} h => Nat.ble_eq_true_of_le (show (z ++ u).length ≤ 1000 by rw [str_app]; omega)
      refine ⟨_, rfl, _, rfl, _, rfl, _, rfl, _, _, rfl, rfl, zl (by decide), _, rfl, _, _, rfl, rfl, zl (by decide), _, rfl, _, _, rfl, rfl, zl (by decide), lens 1 (by decide), fun a1 n1 => ?_⟩
      have s1 := Same.up0 (o := .lst [.str "a"]) n1
      have f1 : upd H a1 (.lst [.str "a"]) a1 = some (.lst [.str "a"]) := upd_same
      generalize upd H a1 (.lst [.str "a"]) = H1 at s1 f1 ⊢
      refine ⟨lens 1 (by decide), fun a2 n2 => ?_⟩
      have s2 := Same.up0 (o := .tup [.str "a"]) n2
      have f2 : upd H1 a2 (.tup [.str "a"]) a2 = some (.tup [.str "a"]) := upd_same
      generalize upd H1 a2 (.tup [.str "a"]) = H2 at s2 f2 ⊢
      refine ⟨lens 12 (by decide), fun a3 n3 => ?_⟩
      have s3 := Same.up0 (o := .lst [.str z, .str z, .str z, .str (z ++ "A"), .str (z ++ " "), .str (z ++ "1"), .str "", .non, .int 1, .ref a1, .ref a2, .bl true]) n3
      have f3 : upd H2 a3 (.lst [.str z, .str z, .str z, .str (z ++ "A"), .str (z ++ " "), .str (z ++ "1"), .str "", .non, .int 1, .ref a1, .ref a2, .bl true]) a3 = some (.lst [.str z, .str z, .str z, .str (z ++ "A"), .str (z ++ " "), .str (z ++ "1"), .str "", .non, .int 1, .ref a1, .ref a2, .bl true]) := upd_same
      generalize upd H2 a3 (.lst [.str z, .str z, .str z, .str (z ++ "A"), .str (z ++ " "), .str (z ++ "1"), .str "", .non, .int 1, .ref a1, .ref a2, .bl true]) = H3 at s3 f3 ⊢
      have S3 : Same H3 H3 := Same.refl _
      have S2 : Same H2 H3 := s3.trans S3
      have S1 : Same H1 H3 := s2.trans S2
      have S0 : Same H H3 := s1.trans S1
      have g1 := S1 _ _ f1
      have q1 : a1 ≠ p := fun z => by rw [z, hb0] at n1; cases n1
      have g2 := S2 _ _ f2
      have q2 : a2 ≠ p := fun z => by rw [z, (s1 _ _ hb0)] at n2; cases n2
      have g3 := S3 _ _ f3
      have q3 : a3 ≠ p := fun z => by rw [z, (s2 _ _ (s1 _ _ hb0))] at n3; cases n3
      have all := (List.forall_mem_cons.mpr ⟨⟨.str z, (.str _), zx⟩, (List.forall_mem_cons.mpr ⟨⟨.str z, (.str _), zx⟩, (List.forall_mem_cons.mpr ⟨⟨.str z, (.str _), zx⟩, (List.forall_mem_cons.mpr ⟨⟨.str (z ++ "A"), (.str _), (zx2 (by decide))⟩, (List.forall_mem_cons.mpr ⟨⟨.str (z ++ " "), (.str _), (zx2 (by decide))⟩, (List.forall_mem_cons.mpr ⟨⟨.str (z ++ "1"), (.str _), (zx2 (by decide))⟩, (List.forall_mem_cons.mpr ⟨⟨.str "", (.str _), by decide +kernel⟩, (List.forall_mem_cons.mpr ⟨⟨.none, .non, by decide +kernel⟩, (List.forall_mem_cons.mpr ⟨⟨.int 1, (.int _), by decide +kernel⟩, (List.forall_mem_cons.mpr ⟨⟨.list [.str "a"], (.lst g1 q1 (.cons (.str _) .nil)), by decide +kernel⟩, (List.forall_mem_cons.mpr ⟨⟨.tuple [.str "a"], (.tup g2 (.cons (.str _) .nil)), by decide +kernel⟩, (List.forall_mem_cons.mpr ⟨⟨.bool true, (.bl _), by decide +kernel⟩, (List.forall_mem_nil (fun v => ∃ d, Dz H3 p v d ∧ xOk d = true))⟩)⟩)⟩)⟩)⟩)⟩)⟩)⟩)⟩)⟩)⟩)⟩)
      refine ⟨_, rfl, _, rfl, p, _, rfl, hB.keep S0, by decide, by decide, fun H' r b hB' r0 r1 => ?_⟩
      have hl := (b a3 ((hB.keep S0).new_of g3 q3)).trans g3
      obtain ⟨j, rfl⟩ := Int.eq_ofNat_of_zero_le r0
      have hj : j < 12 := by omega
      refine ixl (j := j) hl (List.getElem?_eq_getElem hj) ?_
      obtain ⟨d, dz, ok⟩ := all _ (List.getElem_mem hj)
      exact q _ _ d (g0.trans ((Same.grow S0).trans b.grow)) hB' (dz_grow (hB.keep S0) b.grow dz) ok
theorem ok_numberOrNot {f : Addr} {fd : FuncData} (F : Fun K "_law_number_or_not" "_law_number_or_not" s_l_number_or_not f fd) (T : Bl mg) (c_law_take : Cal P w K mg base 1 "_law_take" spTake) : FnOk P w K mg base L2.CX0 2 f fd ["_law_bag_here"] spItem7 := by
  refine F.ok sc_l_number_or_not (fun vs H Q E h => ?_) (fun cdv A outer s H vs Q E hr h => ?_)
  · obtain ⟨p, rfl, _⟩ := h
    rfl
  · obtain ⟨p, rfl, hBa, q⟩ := h
    have nd := sc_l_number_or_not.nd
    refine ⟨_, (pss_cons (ps_set (i := 1) nd rfl (.inl rfl) (pe_f c_law_take hr rfl (pa_cons (pv 0) (pa_cons (pe_op op_add (pe_op op_pow pe_int pe_int) pe_int) pa_nil))))
      (pss_cons (ps_set (i := 2) nd rfl (.inl rfl) (pe_lst (pa_cons (pv 1) (pa_cons (pe_op op_sub pe_int (pv 1)) (pa_cons (pe_op op_pow pe_int pe_int) (pa_cons (pe_op op_sub pe_int (pe_op op_pow pe_int pe_int)) (pa_cons (pe_op op_add (pe_op op_pow pe_int pe_int) pe_int) (pa_cons (pe_op op_sub (pe_un un_neg pe_int) (pe_op op_pow pe_int pe_int)) (pa_cons pe_int (pa_cons pe_bl (pa_cons pe_bl (pa_cons pe_non (pa_cons pe_str (pa_cons (pe_lst (pa_cons pe_int pa_nil)) (pa_cons (pe_op op_pow pe_int pe_int) pa_nil)))))))))))))))
      (pss_one (ps_ret (pe_ix ix_seq (pv 2) (pe_f c_law_take hr rfl (pa_cons (pv 0) (pa_cons pe_int pa_nil))) (fun _ _ => rfl)))))), ?_⟩
    refine ⟨_, rfl, _, _, rfl, rfl, ⟨by decide, by decide, by decide⟩, _, _, rfl, rfl, p, _, rfl, hBa, by decide +kernel, by decide +kernel, fun H r0 b1 hB _ _ => ?_⟩
    have g0 := b1.grow
    obtain ⟨hb1, hb2, hb0, _⟩ := id hB
    refine ⟨_, rfl, _, rfl, _, _, rfl, rfl, _, _, rfl, rfl, ⟨by decide, by decide, by decide⟩, _, _, rfl, rfl, ⟨by decide, by decide, by decide⟩, _, _, rfl, rfl, _, _, rfl, rfl, ⟨by decide, by decide, by decide⟩, _, _, rfl, rfl, _, rfl, _, _, rfl, rfl, ⟨by decide, by decide, by decide⟩, _, _, rfl, rfl, lens 1 (by decide), fun a1 n1 => ?_⟩
    have s1 := Same.up0 (o := .lst [.int 1]) n1
    have f1 : upd H a1 (.lst [.int 1]) a1 = some (.lst [.int 1]) := upd_same
    generalize upd H a1 (.lst [.int 1]) = H1 at s1 f1 ⊢
    refine ⟨_, _, rfl, rfl, ⟨by decide, by decide, by decide⟩, lens 13 (by decide), fun a2 n2 => ?_⟩
    have s2 := Same.up0 (o := .lst [.int r0, .int (0 - r0), .int (10 ^ (9 : Int).toNat), .int (0 - 10 ^ (9 : Int).toNat), .int (10 ^ (9 : Int).toNat + 1), .int (-1 - 10 ^ (9 : Int).toNat), .int 0, .bl true, .bl false, .non, .str "1", .ref a1, .int (10 ^ (39 : Int).toNat)]) n2
    have f2 : upd H1 a2 (.lst [.int r0, .int (0 - r0), .int (10 ^ (9 : Int).toNat), .int (0 - 10 ^ (9 : Int).toNat), .int (10 ^ (9 : Int).toNat + 1), .int (-1 - 10 ^ (9 : Int).toNat), .int 0, .bl true, .bl false, .non, .str "1", .ref a1, .int (10 ^ (39 : Int).toNat)]) a2 = some (.lst [.int r0, .int (0 - r0), .int (10 ^ (9 : Int).toNat), .int (0 - 10 ^ (9 : Int).toNat), .int (10 ^ (9 : Int).toNat + 1), .int (-1 - 10 ^ (9 : Int).toNat), .int 0, .bl true, .bl false, .non, .str "1", .ref a1, .int (10 ^ (39 : Int).toNat)]) := upd_same
    generalize upd H1 a2 (.lst [.int r0, .int (0 - r0), .int (10 ^ (9 : Int).toNat), .int (0 - 10 ^ (9 : Int).toNat), .int (10 ^ (9 : Int).toNat + 1), .int (-1 - 10 ^ (9 : Int).toNat), .int 0, .bl true, .bl false, .non, .str "1", .ref a1, .int (10 ^ (39 : Int).toNat)]) = H2 at s2 f2 ⊢
    have S2 : Same H2 H2 := Same.refl _
    have S1 : Same H1 H2 := s2.trans S2
    have S0 : Same H H2 := s1.trans S1
    have g1 := S1 _ _ f1
    have q1 : a1 ≠ p := fun z => by rw [z, hb0] at n1; cases n1
    have g2 := S2 _ _ f2
    have q2 : a2 ≠ p := fun z => by rw [z, (s1 _ _ hb0)] at n2; cases n2
    have all := (List.forall_mem_cons.mpr ⟨⟨.int r0, (.int _), rfl⟩, (List.forall_mem_cons.mpr ⟨⟨.int (0 - r0), (.int _), rfl⟩, (List.forall_mem_cons.mpr ⟨⟨.int (10 ^ (9 : Int).toNat), (.int _), rfl⟩, (List.forall_mem_cons.mpr ⟨⟨.int (0 - 10 ^ (9 : Int).toNat), (.int _), rfl⟩, (List.forall_mem_cons.mpr ⟨⟨.int (10 ^ (9 : Int).toNat + 1), (.int _), rfl⟩, (List.forall_mem_cons.mpr ⟨⟨.int (-1 - 10 ^ (9 : Int).toNat), (.int _), rfl⟩, (List.forall_mem_cons.mpr ⟨⟨.int 0, (.int _), rfl⟩, (List.forall_mem_cons.mpr ⟨⟨.bool true, (.bl _), by decide +kernel⟩, (List.forall_mem_cons.mpr ⟨⟨.bool false, (.bl _), by decide +kernel⟩, (List.forall_mem_cons.mpr ⟨⟨.none, .non, by decide +kernel⟩, (List.forall_mem_cons.mpr ⟨⟨.str "1", (.str _), by decide +kernel⟩, (List.forall_mem_cons.mpr ⟨⟨.list [.int 1], (.lst g1 q1 (.cons (.int _) .nil)), by decide +kernel⟩, (List.forall_mem_cons.mpr ⟨⟨.int (10 ^ (39 : Int).toNat), (.int _), rfl⟩, (List.forall_mem_nil (fun v => ∃ d, Dz H2 p v d ∧ xOk d = true))⟩)⟩)⟩)⟩)⟩)⟩)⟩)⟩)⟩)⟩)⟩)⟩)⟩)
    refine ⟨_, rfl, _, rfl, p, _, rfl, hB.keep S0, by decide, by decide, fun H' r b hB' r0 r1 => ?_⟩
    have hl := (b a2 ((hB.keep S0).new_of g2 q2)).trans g2
    obtain ⟨j, rfl⟩ := Int.eq_ofNat_of_zero_le r0
    have hj : j < 13 := by omega
    refine ixl (j := j) hl (List.getElem?_eq_getElem hj) ?_
    obtain ⟨d, dz, ok⟩ := all _ (List.getElem_mem hj)
    exact q _ _ d (g0.trans ((Same.grow S0).trans b.grow)) hB' (dz_grow (hB.keep S0) b.grow dz) ok
theorem ok_value {f : Addr} {fd : FuncData} (F : Fun K "_law_value" "_law_value" s_l_value f fd) (c_law_take : Cal P w K mg base 1 "_law_take" spTake) (c_law_odd : Cal P w K mg base 2 "_law_odd" spThing7) (c_law_name_or_not : Cal P w K mg base 2 "_law_name_or_not" spItem7) (c_law_number_or_not : Cal P w K mg base 2 "_law_number_or_not" spItem7) : FnOk P w K mg base L2.CX0 3 f fd ["_law_bag_here"] spThing7 := by
  refine F.ok sc_l_value (fun vs H Q E h => ?_) (fun cdv A outer s H0 vs Q E hr h => ?_)
  · obtain ⟨p, rfl, _⟩ := h
    rfl
  · obtain ⟨p, rfl, hB0, q0⟩ := h
    have nd := sc_l_value.nd
    refine ⟨_, (pss_cons (ps_set (i := 1) nd rfl (.inl rfl) (pe_lst (pa_cons pe_str (pa_cons pe_str (pa_cons pe_str (pa_cons pe_str (pa_cons pe_str (pa_cons pe_str (pa_cons pe_str (pa_cons pe_str (pa_cons pe_str (pa_cons pe_str (pa_cons pe_str (pa_cons pe_str (pa_cons pe_non (pa_cons pe_int pa_nil))))))))))))))))
      (pss_cons (ps_par (i := 2) (j := 3) rfl nd rfl rfl (by decide) rfl rfl (pa_cons (pe_cut (pe_ix ix_seq (pv 1) (pe_f c_law_take hr rfl (pa_cons (pv 0) (pa_cons pe_int pa_nil))) (fun _ _ => rfl))) (pa_cons (pe_f c_law_take hr rfl (pa_cons (pv 0) (pa_cons pe_int pa_nil))) pa_nil)) rfl)
      (pss_cons (ps_par (i := 4) (j := 5) rfl nd rfl rfl (by decide) rfl rfl (pa_cons (pe_f c_law_name_or_not hr rfl (pa_cons (pv 0) pa_nil)) (pa_cons (pe_f c_law_number_or_not hr rfl (pa_cons (pv 0) pa_nil)) pa_nil)) rfl)
      (pss_cons (ps_set (i := 6) nd rfl (.inl rfl) (pe_lst (pa_cons (pe_tup (pa_cons (pv 2) pa_nil)) (pa_cons (pe_tup (pa_cons (pv 2) (pa_cons (pv 4) pa_nil))) (pa_cons (pe_tup (pa_cons (pv 2) (pa_cons (pv 5) pa_nil))) (pa_cons (pe_tup (pa_cons (pv 2) (pa_cons (pv 4) (pa_cons (pv 4) pa_nil)))) (pa_cons (pe_lst (pa_cons (pv 2) (pa_cons (pv 4) pa_nil))) (pa_cons (pe_lst (pa_cons (pv 2) pa_nil)) (pa_cons (pe_tup (pa_cons (pv 2) (pa_cons (pv 4) pa_nil))) (pa_cons (pe_tup (pa_cons (pv 2) (pa_cons (pv 5) pa_nil))) pa_nil))))))))))
      (pss_cons (ps_if (pt_cmpR op_lt (pv 3) pe_int (nomark _))
        (pss_cons (ps_set (i := 6) nd rfl (.inl rfl) (pe_lst (pa_cons (pe_tup (pa_cons (pv 2) pa_nil)) (pa_cons (pe_tup (pa_cons (pv 2) (pa_cons (pv 4) pa_nil))) (pa_cons (pe_tup (pa_cons (pv 2) (pa_cons (pv 5) pa_nil))) pa_nil)))))
        (pss_cons (ps_if (pt_cmpR op_in_seq (pv 2) (pe_lst (pa_cons pe_str (pa_cons pe_str (pa_cons pe_str (pa_cons pe_str pa_nil))))) (by rfl))
          (pss_one (ps_ret (pe_ix ix_seq (pv 6) pe_int (fun _ _ => rfl))))
          pss_nil)
        (pss_one (ps_ret (pe_ifExp (pt_cmpR op_eq (pv 2) pe_str (nomark _)) (pe_ix ix_seq (pv 6) pe_int (fun _ _ => rfl)) (pe_ix ix_seq (pv 6) pe_int (fun _ _ => rfl)))))))
        pss_nil)
      (pss_one (ps_ret (pe_ifExp (pt_cmpR op_gt (pe_f c_law_take hr rfl (pa_cons (pv 0) (pa_cons pe_int pa_nil))) pe_int (nomark _)) (pe_ix ix_seq (pv 6) (pe_f c_law_take hr rfl (pa_cons (pv 0) (pa_cons pe_int pa_nil))) (fun _ _ => rfl)) (pe_f c_law_odd hr rfl (pa_cons (pv 0) pa_nil)))))))))), ?_⟩
    -- the word
    refine ⟨lens 14 (by decide), fun aw nw => ?_⟩
    have sw := Same.up0 (o := .lst [.str "get", .str "add", .str "boxes", .str "take", .str "clear", .str "give", .str "make", .str "clone", .str "copy", .str "Get", .str "", .str "adds", .non, .int 3]) nw
    have fw : upd H0 aw (.lst [.str "get", .str "add", .str "boxes", .str "take", .str "clear", .str "give", .str "make", .str "clone", .str "copy", .str "Get", .str "", .str "adds", .non, .int 3]) aw = some (.lst [.str "get", .str "add", .str "boxes", .str "take", .str "clear", .str "give", .str "make", .str "clone", .str "copy", .str "Get", .str "", .str "adds", .non, .int 3]) := upd_same
    generalize upd H0 aw (.lst [.str "get", .str "add", .str "boxes", .str "take", .str "clear", .str "give", .str "make", .str "clone", .str "copy", .str "Get", .str "", .str "adds", .non, .int 3]) = H1 at sw fw ⊢
    have hB1 := hB0.keep sw
    have nwp : aw ≠ p := hB0.new nw
    refine ⟨fun v H' => Word7 v ∧ Grow p H1 H' ∧ BagAt H' p, ⟨_, rfl, _, rfl, p, _, rfl, hB1, by decide, by decide, fun H' r b hB' r0 r1 => ?_⟩, ?_⟩
    · have hl := (b aw nwp).trans fw
      have all : ∀ v ∈ ([.str "get", .str "add", .str "boxes", .str "take", .str "clear", .str "give", .str "make", .str "clone", .str "copy", .str "Get", .str "", .str "adds", .non, .int 3] : List V), Word7 v := (List.forall_mem_cons.mpr ⟨word7_str _, (List.forall_mem_cons.mpr ⟨word7_str _, (List.forall_mem_cons.mpr ⟨word7_str _, (List.forall_mem_cons.mpr ⟨word7_str _, (List.forall_mem_cons.mpr ⟨word7_str _, (List.forall_mem_cons.mpr ⟨word7_str _, (List.forall_mem_cons.mpr ⟨word7_str _, (List.forall_mem_cons.mpr ⟨word7_str _, (List.forall_mem_cons.mpr ⟨word7_str _, (List.forall_mem_cons.mpr ⟨word7_str _, (List.forall_mem_cons.mpr ⟨word7_str _, (List.forall_mem_cons.mpr ⟨word7_str _, (List.forall_mem_cons.mpr ⟨word7_non, (List.forall_mem_cons.mpr ⟨word7_int _, (List.forall_mem_nil (fun v => Word7 v))⟩)⟩)⟩)⟩)⟩)⟩)⟩)⟩)⟩)⟩)⟩)⟩)⟩)⟩)
      obtain ⟨j, rfl⟩ := Int.eq_ofNat_of_zero_le r0
      have hj : j < 14 := by omega
      exact ixl (j := j) hl (List.getElem?_eq_getElem hj) ⟨all _ (List.getElem_mem hj), b.grow, hB'⟩
    rintro w H2 ⟨⟨dw, kw, fl, sl, hw⟩, g2, hB2⟩
    refine ⟨_, rfl, p, _, rfl, hB2, by decide, by decide, fun H3 way b3 hB3 way0 way1 => ⟨_, _, rfl, ?_⟩⟩
    refine ⟨_, rfl, p, rfl, hB3, fun H4 x dx g4 hB4 zx4 ox => ?_⟩
    refine ⟨_, rfl, p, rfl, hB4, fun H y dy g5 hB zy oy => ⟨_, _, rfl, ?_⟩⟩
    have zx := dz_grow hB4 g5 zx4
    have g0 : Grow p H0 H := (Same.grow sw).trans (g2.trans (b3.grow.trans (g4.trans g5)))
    have q : ∀ H' v, Grow p H H' → BagAt H' p → Thing7 H' p v → Q v H' := fun H' v g hB' V => q0 H' v (g0.trans g) hB' V
    clear sw fw nwp
    obtain ⟨hb1, hb2, hb0, _⟩ := id hB
    refine ⟨_, rfl, lens 1 (by decide), fun aA1 nA1 => ?_⟩
    have sA1 := Same.up0 (o := .tup [w]) nA1
    have fA1 : upd H aA1 (.tup [w]) aA1 = some (.tup [w]) := upd_same
    generalize upd H aA1 (.tup [w]) = HA1 at sA1 fA1 ⊢
    refine ⟨_, rfl, _, rfl, lens 2 (by decide), fun aA2 nA2 => ?_⟩
    have sA2 := Same.up0 (o := .tup [w, x]) nA2
    have fA2 : upd HA1 aA2 (.tup [w, x]) aA2 = some (.tup [w, x]) := upd_same
    generalize upd HA1 aA2 (.tup [w, x]) = HA2 at sA2 fA2 ⊢
    refine ⟨_, rfl, _, rfl, lens 2 (by decide), fun aA3 nA3 => ?_⟩
    have sA3 := Same.up0 (o := .tup [w, y]) nA3
    have fA3 : upd HA2 aA3 (.tup [w, y]) aA3 = some (.tup [w, y]) := upd_same
    generalize upd HA2 aA3 (.tup [w, y]) = HA3 at sA3 fA3 ⊢
    refine ⟨_, rfl, _, rfl, _, rfl, lens 3 (by decide), fun aA4 nA4 => ?_⟩
    have sA4 := Same.up0 (o := .tup [w, x, x]) nA4
    have fA4 : upd HA3 aA4 (.tup [w, x, x]) aA4 = some (.tup [w, x, x]) := upd_same
    generalize upd HA3 aA4 (.tup [w, x, x]) = HA4 at sA4 fA4 ⊢
    refine ⟨_, rfl, _, rfl, lens 2 (by decide), fun aA5 nA5 => ?_⟩
    have sA5 := Same.up0 (o := .lst [w, x]) nA5
    have fA5 : upd HA4 aA5 (.lst [w, x]) aA5 = some (.lst [w, x]) := upd_same
    generalize upd HA4 aA5 (.lst [w, x]) = HA5 at sA5 fA5 ⊢
    refine ⟨_, rfl, lens 1 (by decide), fun aA6 nA6 => ?_⟩
    have sA6 := Same.up0 (o := .lst [w]) nA6
    have fA6 : upd HA5 aA6 (.lst [w]) aA6 = some (.lst [w]) := upd_same
    generalize upd HA5 aA6 (.lst [w]) = HA6 at sA6 fA6 ⊢
    refine ⟨_, rfl, _, rfl, lens 2 (by decide), fun aA7 nA7 => ?_⟩
    have sA7 := Same.up0 (o := .tup [w, x]) nA7
    have fA7 : upd HA6 aA7 (.tup [w, x]) aA7 = some (.tup [w, x]) := upd_same
    generalize upd HA6 aA7 (.tup [w, x]) = HA7 at sA7 fA7 ⊢
    refine ⟨_, rfl, _, rfl, lens 2 (by decide), fun aA8 nA8 => ?_⟩
    have sA8 := Same.up0 (o := .tup [w, y]) nA8
    have fA8 : upd HA7 aA8 (.tup [w, y]) aA8 = some (.tup [w, y]) := upd_same
    generalize upd HA7 aA8 (.tup [w, y]) = HA8 at sA8 fA8 ⊢
    refine ⟨lens 8 (by decide), fun aA9 nA9 => ?_⟩
    have sA9 := Same.up0 (o := .lst [.ref aA1, .ref aA2, .ref aA3, .ref aA4, .ref aA5, .ref aA6, .ref aA7, .ref aA8]) nA9
    have fA9 : upd HA8 aA9 (.lst [.ref aA1, .ref aA2, .ref aA3, .ref aA4, .ref aA5, .ref aA6, .ref aA7, .ref aA8]) aA9 = some (.lst [.ref aA1, .ref aA2, .ref aA3, .ref aA4, .ref aA5, .ref aA6, .ref aA7, .ref aA8]) := upd_same
    generalize upd HA8 aA9 (.lst [.ref aA1, .ref aA2, .ref aA3, .ref aA4, .ref aA5, .ref aA6, .ref aA7, .ref aA8]) = HA9 at sA9 fA9 ⊢
    have SA9 : Same HA9 HA9 := Same.refl _
    have SA8 : Same HA8 HA9 := sA9.trans SA9
    have SA7 : Same HA7 HA9 := sA8.trans SA8
    have SA6 : Same HA6 HA9 := sA7.trans SA7
    have SA5 : Same HA5 HA9 := sA6.trans SA6
    have SA4 : Same HA4 HA9 := sA5.trans SA5
    have SA3 : Same HA3 HA9 := sA4.trans SA4
    have SA2 : Same HA2 HA9 := sA3.trans SA3
    have SA1 : Same HA1 HA9 := sA2.trans SA2
    have SA0 : Same H HA9 := sA1.trans SA1
    have gA1 := SA1 _ _ fA1
    have qA1 : aA1 ≠ p := fun z => by rw [z, hb0] at nA1; cases nA1
    have gA2 := SA2 _ _ fA2
    have qA2 : aA2 ≠ p := fun z => by rw [z, (sA1 _ _ hb0)] at nA2; cases nA2
    have gA3 := SA3 _ _ fA3
    have qA3 : aA3 ≠ p := fun z => by rw [z, (sA2 _ _ (sA1 _ _ hb0))] at nA3; cases nA3
    have gA4 := SA4 _ _ fA4
    have qA4 : aA4 ≠ p := fun z => by rw [z, (sA3 _ _ (sA2 _ _ (sA1 _ _ hb0)))] at nA4; cases nA4
    have gA5 := SA5 _ _ fA5
    have qA5 : aA5 ≠ p := fun z => by rw [z, (sA4 _ _ (sA3 _ _ (sA2 _ _ (sA1 _ _ hb0))))] at nA5; cases nA5
    have gA6 := SA6 _ _ fA6
    have qA6 : aA6 ≠ p := fun z => by rw [z, (sA5 _ _ (sA4 _ _ (sA3 _ _ (sA2 _ _ (sA1 _ _ hb0)))))] at nA6; cases nA6
    have gA7 := SA7 _ _ fA7
    have qA7 : aA7 ≠ p := fun z => by rw [z, (sA6 _ _ (sA5 _ _ (sA4 _ _ (sA3 _ _ (sA2 _ _ (sA1 _ _ hb0))))))] at nA7; cases nA7
    have gA8 := SA8 _ _ fA8
    have qA8 : aA8 ≠ p := fun z => by rw [z, (sA7 _ _ (sA6 _ _ (sA5 _ _ (sA4 _ _ (sA3 _ _ (sA2 _ _ (sA1 _ _ hb0)))))))] at nA8; cases nA8
    have gA9 := SA9 _ _ fA9
    have qA9 : aA9 ≠ p := fun z => by rw [z, (sA8 _ _ (sA7 _ _ (sA6 _ _ (sA5 _ _ (sA4 _ _ (sA3 _ _ (sA2 _ _ (sA1 _ _ hb0))))))))] at nA9; cases nA9
    have allA := (List.forall_mem_cons.mpr ⟨⟨.tuple [dw], (.tup gA1 (.cons (kw _ _) .nil)), hw⟩, (List.forall_mem_cons.mpr ⟨⟨.tuple [dw, dx], (.tup gA2 (.cons (kw _ _) (.cons (dz_grow hB (Same.grow SA0) zx) .nil))), and2 hw ox⟩, (List.forall_mem_cons.mpr ⟨⟨.tuple [dw, dy], (.tup gA3 (.cons (kw _ _) (.cons (dz_grow hB (Same.grow SA0) zy) .nil))), and2 hw oy⟩, (List.forall_mem_cons.mpr ⟨⟨.tuple [dw, dx, dx], (.tup gA4 (.cons (kw _ _) (.cons (dz_grow hB (Same.grow SA0) zx) (.cons (dz_grow hB (Same.grow SA0) zx) .nil)))), and2 hw ox⟩, (List.forall_mem_cons.mpr ⟨⟨.list [dw, dx], (.lst gA5 qA5 (.cons (kw _ _) (.cons (dz_grow hB (Same.grow SA0) zx) .nil))), rfl⟩, (List.forall_mem_cons.mpr ⟨⟨.list [dw], (.lst gA6 qA6 (.cons (kw _ _) .nil)), rfl⟩, (List.forall_mem_cons.mpr ⟨⟨.tuple [dw, dx], (.tup gA7 (.cons (kw _ _) (.cons (dz_grow hB (Same.grow SA0) zx) .nil))), and2 hw ox⟩, (List.forall_mem_cons.mpr ⟨⟨.tuple [dw, dy], (.tup gA8 (.cons (kw _ _) (.cons (dz_grow hB (Same.grow SA0) zy) .nil))), and2 hw oy⟩, (List.forall_mem_nil (fun v => ∃ d, Dz HA9 p v d ∧ thOk d = true))⟩)⟩)⟩)⟩)⟩)⟩)⟩)⟩)
    have hBA := hB.keep SA0
    refine ⟨_, rfl, _, _, rfl, rfl, _, rfl, ite2 (fun _ => ?_) (fun _ => ?_)⟩
    · clear allA
      obtain ⟨hc1, hc2, hb9, _⟩ := id hBA
      refine ⟨_, rfl, lens 1 (by decide), fun aB1 nB1 => ?_⟩
      have sB1 := Same.up0 (o := .tup [w]) nB1
      have fB1 : upd HA9 aB1 (.tup [w]) aB1 = some (.tup [w]) := upd_same
      generalize upd HA9 aB1 (.tup [w]) = HB1 at sB1 fB1 ⊢
      refine ⟨_, rfl, _, rfl, lens 2 (by decide), fun aB2 nB2 => ?_⟩
      have sB2 := Same.up0 (o := .tup [w, x]) nB2
      have fB2 : upd HB1 aB2 (.tup [w, x]) aB2 = some (.tup [w, x]) := upd_same
      generalize upd HB1 aB2 (.tup [w, x]) = HB2 at sB2 fB2 ⊢
      refine ⟨_, rfl, _, rfl, lens 2 (by decide), fun aB3 nB3 => ?_⟩
      have sB3 := Same.up0 (o := .tup [w, y]) nB3
      have fB3 : upd HB2 aB3 (.tup [w, y]) aB3 = some (.tup [w, y]) := upd_same
      generalize upd HB2 aB3 (.tup [w, y]) = HB3 at sB3 fB3 ⊢
      refine ⟨lens 3 (by decide), fun aB4 nB4 => ?_⟩
      have sB4 := Same.up0 (o := .lst [.ref aB1, .ref aB2, .ref aB3]) nB4
      have fB4 : upd HB3 aB4 (.lst [.ref aB1, .ref aB2, .ref aB3]) aB4 = some (.lst [.ref aB1, .ref aB2, .ref aB3]) := upd_same
      generalize upd HB3 aB4 (.lst [.ref aB1, .ref aB2, .ref aB3]) = HB4 at sB4 fB4 ⊢
      have SB4 : Same HB4 HB4 := Same.refl _
      have SB3 : Same HB3 HB4 := sB4.trans SB4
      have SB2 : Same HB2 HB4 := sB3.trans SB3
      have SB1 : Same HB1 HB4 := sB2.trans SB2
      have SB0 : Same HA9 HB4 := sB1.trans SB1
      have gB1 := SB1 _ _ fB1
      have qB1 : aB1 ≠ p := fun z => by rw [z, hb9] at nB1; cases nB1
      have gB2 := SB2 _ _ fB2
      have qB2 : aB2 ≠ p := fun z => by rw [z, (sB1 _ _ hb9)] at nB2; cases nB2
      have gB3 := SB3 _ _ fB3
      have qB3 : aB3 ≠ p := fun z => by rw [z, (sB2 _ _ (sB1 _ _ hb9))] at nB3; cases nB3
      have gB4 := SB4 _ _ fB4
      have qB4 : aB4 ≠ p := fun z => by rw [z, (sB3 _ _ (sB2 _ _ (sB1 _ _ hb9)))] at nB4; cases nB4
      have sT := SA0.trans SB0
      have all := (List.forall_mem_cons.mpr ⟨⟨.tuple [dw], (.tup gB1 (.cons (kw _ _) .nil)), hw⟩, (List.forall_mem_cons.mpr ⟨⟨.tuple [dw, dx], (.tup gB2 (.cons (kw _ _) (.cons (dz_grow hB (Same.grow (SA0.trans SB0)) zx) .nil))), and2 hw ox⟩, (List.forall_mem_cons.mpr ⟨⟨.tuple [dw, dy], (.tup gB3 (.cons (kw _ _) (.cons (dz_grow hB (Same.grow (SA0.trans SB0)) zy) .nil))), and2 hw oy⟩, (List.forall_mem_nil (fun v => ∃ d, Dz HB4 p v d ∧ thOk d = true))⟩)⟩)⟩)
      have fin : ∀ (j : Nat) (hj : j < 3) (H' : Hp), Same HB4 H' → Q ([.ref aB1, .ref aB2, .ref aB3].get ⟨j, hj⟩) H' := fun j hj H' s' => by
        obtain ⟨d, dz, ok⟩ := all _ (List.getElem_mem hj)
        exact q _ _ (Same.grow (sT.trans s')) (hB.keep (sT.trans s')) ⟨d, dz_grow (hB.keep sT) (Same.grow s') dz, ok⟩
      refine ⟨_, rfl, lens 4 (by decide), fun lk nk => ?_⟩
      have sk := Same.up0 (o := .lst [.str "get", .str "boxes", .str "make", .str "clone"]) nk
      have fk : upd HB4 lk (.lst [.str "get", .str "boxes", .str "make", .str "clone"]) lk = some (.lst [.str "get", .str "boxes", .str "make", .str "clone"]) := upd_same
      generalize upd HB4 lk (.lst [.str "get", .str "boxes", .str "make", .str "clone"]) = HK at sk fk ⊢
      have gl := sk _ _ gB4
      refine ⟨lk, _, rfl, .inl (SqL.of fk), fl, rfl, _, rfl, ite2 (fun _ => ?_) (fun _ => ?_)⟩
      · exact ⟨_, rfl, ixl (j := 0) gl rfl (fin 0 (by decide) _ sk)⟩
      · refine ⟨_, rfl, sl, _, rfl, ite2 (fun _ => ?_) (fun _ => ?_)⟩
        · exact ⟨_, rfl, ixl (j := 2) gl rfl (fin 2 (by decide) _ sk)⟩
        · exact ⟨_, rfl, ixl (j := 1) gl rfl (fin 1 (by decide) _ sk)⟩
    · refine ⟨_, rfl, p, _, rfl, hBA, by decide, by decide, fun H6 r6 b6 hB6 r60 r61 => ⟨_, _, rfl, rfl, _, rfl, ite2 (fun _ => ?_) (fun _ => ?_)⟩⟩
      · refine ⟨_, rfl, _, rfl, p, _, rfl, hB6, by decide, by decide, fun H' r b hB' r0 r1 => ?_⟩
        have hl := (b aA9 (fun z => qA9 z)).trans ((b6 aA9 (fun z => qA9 z)).trans gA9)
        obtain ⟨j, rfl⟩ := Int.eq_ofNat_of_zero_le r0
        have hj : j < 8 := by omega
        refine ixl (j := j) hl (List.getElem?_eq_getElem hj) ?_
        obtain ⟨d, dz, ok⟩ := allA _ (List.getElem_mem hj)
        exact q _ _ ((Same.grow SA0).trans (b6.grow.trans b.grow)) hB' ⟨d, dz_grow hBA (b6.grow.trans b.grow) dz, ok⟩
      · exact ⟨_, rfl, p, rfl, hB6, fun H' v g hB' V => q _ _ ((Same.grow SA0).trans (b6.grow.trans g)) hB' V⟩
end
/-! ### the law -/
theorem bool_shown (b : Bool) : (PyData.shown (.bool b)).length ≤ sizeLine := lens _ (by cases b <;> decide +kernel)
theorem deed_str {xs : List V} (h : deedL xs = true) : ∃ w r, xs = .str w :: r := by
  have ws : ∀ {zs : List Str} {w : V}, wordIn zs w = true → ∃ s, w = .str s := fun {zs w} h => by
    cases w with
    | str s => exact ⟨s, rfl⟩
    | _ => cases h
  match xs, h with
  | [w], h =>
    obtain ⟨s, rfl⟩ := ws h
    exact ⟨s, [], rfl⟩
  | [w, x], h =>
    have h' : (if isAdd w then addV x else wordIn boxW w && nameV x) = true := h
    cases e : isAdd w with
    | true =>
      have e1 : w = .str "add" := of_decide_eq_true e
      exact ⟨"add", [x], by rw [e1]⟩
    | false =>
      rw [e] at h'
      have h2 : (wordIn boxW w && nameV x) = true := h'
      rw [Bool.and_eq_true] at h2
      obtain ⟨s, rfl⟩ := ws h2.1
      exact ⟨s, [x], rfl⟩
section
variable {P : Program} {w : World} {K : PySem.W.Frag} {mg : Str → Option Value} {base : Heap}
theorem ok_law {f : Addr} {fd : FuncData} (F : Fun K "law" "law" s_law f fd) (T : Bl mg) (c_law_bag : Cal P w K mg base 1 "_law_bag" (spBag K)) (c_law_value : Cal P w K mg base 3 "_law_value" spThing7) (c_law_due : Cal P w K mg base 2 "_law_due" (spIsDeed K))
    (c_is_deed : Cal P w K mg base 2 "is_deed" (spIsDeed K)) (c_takes_gift : Cal P w K mg base 1 "takes_gift" spGift) (c_takes_target : Cal P w K mg base 1 "takes_target" spTarget) : AtC P w K mg base L2.CX0 f fd "_law_script" (spLaw K) := by
  refine law_ok F sc_law (fun vs H Q E h => ?_) (fun cdv A outer s H vs Q E hgd hr h => ?_)
  · obtain ⟨a, ns, rfl, _⟩ := h
    rfl
  · obtain ⟨a, ns, rfl, hS, hlen, q⟩ := h
    have nd := sc_law.nd
    have hu64 := hr.units
    refine ⟨_, (pss_cons (ps_for PassesOwn.never rfl (pi_range1 rfl T.b_range (pa_cons (pe_callB (call_max2 rfl) (by rfl) T.b_max (by decide +kernel) (pa_cons pe_int (pa_cons (pe_callB (call_min2 rfl) (by rfl) T.b_min (by decide +kernel) (pa_cons pe_int (pa_cons (pe_callB call_len (by rfl) T.b_len (by decide +kernel) (pa_cons (pv 0) pa_nil)) pa_nil))) pa_nil))) pa_nil)) (pg_name (i := 1) nd rfl (.inl rfl))
        (pss_cons (ps_set (i := 2) nd rfl (.inl rfl) (pe_f c_law_bag hr rfl (pa_cons (pv 0) (pa_cons (pv 1) pa_nil))))
        (pss_one (ps_for PassesOwn.never rfl (pi_range1 rfl T.b_range (pa_cons pe_int pa_nil)) (pg_name (i := 3) nd rfl (.inl rfl))
          (pss_cons (ps_set (i := 4) nd rfl (.inl rfl) (pe_f c_law_value hr rfl (pa_cons (pv 2) pa_nil)))
          (pss_cons (ps_set (i := 5) nd rfl (.inl rfl) (pe_f c_law_due hr rfl (pa_cons (pv 4) pa_nil)))
          (pss_one (ps_for PassesOwn.never rfl (pi_range1 rfl T.b_range (pa_cons pe_int pa_nil)) (pg_name (i := 6) nd rfl (.inl rfl))
            (pss_cons (ps_if (pt_cmpR op_ne (pe_callB (reprD hgd hu64) (by rfl) T.b_repr (by decide +kernel) (pa_cons (pe_f c_is_deed hr rfl (pa_cons (pv 4) pa_nil)) pa_nil)) (pe_callB (reprD hgd hu64) (by rfl) T.b_repr (by decide +kernel) (pa_cons (pv 5) pa_nil)) (nomark _))
              (pss_one (ps_ret pe_bl))
              pss_nil)
            (pss_cons (ps_if (PW.pt (pw_and (pt_val (pv 5)) (pw_and1 (pt_cmpR op_ne (pe_callB (reprD hgd hu64) (by rfl) T.b_repr (by decide +kernel) (pa_cons (pe_f c_takes_gift hr rfl (pa_cons (pv 4) pa_nil)) pa_nil)) (pe_callB (reprD hgd hu64) (by rfl) T.b_repr (by decide +kernel) (pa_cons (pe_cmpR op_eq (pe_ix ix_seq (pv 4) pe_int (fun _ _ => rfl)) pe_str (nomark _)) pa_nil)) (nomark _)))))
              (pss_one (ps_ret pe_bl))
              pss_nil)
            (pss_one (ps_if (PW.pt (pw_and (pt_val (pv 5)) (pw_and1 (pt_cmpR op_ne (pe_callB (reprD hgd hu64) (by rfl) T.b_repr (by decide +kernel) (pa_cons (pe_f c_takes_target hr rfl (pa_cons (pv 4) pa_nil)) pa_nil)) (pe_callB (reprD hgd hu64) (by rfl) T.b_repr (by decide +kernel) (pa_cons (pe_cmpR op_in_seq (pe_ix ix_seq (pv 4) pe_int (fun _ _ => rfl)) (pe_lst (pa_cons pe_str (pa_cons pe_str (pa_cons pe_str pa_nil)))) (by rfl)) pa_nil)) (nomark _)))))
              (pss_one (ps_ret pe_bl))
              pss_nil))))))))))))
      (pss_one (ps_ret pe_bl))), ?_⟩
    obtain ⟨m, em, hm⟩ := cells_of ns.length 2 6 (by decide)
    refine ⟨_, rfl, .ref a, _, rfl, .inl ⟨_, hS, rfl⟩, _, _, rfl, _, _, rfl, (m : Int), ?_, by omega, by omega, ?_⟩
    · rw [List.length_map]
      exact congrArg (fun z => [V.int z]) em
    refine for_range (lo := 0) (n := m) (fun i σ H' => ∃ y1 y2 y3 y4 y5 y6 : Option V, σ = [some (.ref a), y1, y2, y3, y4, y5, y6] ∧ Same H H') ⟨_, _, _, _, _, _, rfl, Same.refl H⟩ ?_ ?_
    · rintro i σ H1 hi ⟨y1, y2, y3, y4, y5, y6, rfl, s1⟩
      refine ⟨_, rfl, _, rfl, a, ns, _, rfl, s1.seq hS, by omega, by omega, by omega, fun H2 p s2 np hB => ?_⟩
      have np0 : H p = none := s1.free np
      refine ⟨10, rfl, by decide, by decide, ?_⟩
      refine for_range (lo := 0) (n := 10) (fun _ σ H' => ∃ y3 y4 y5 y6 : Option V, σ = [some (.ref a), some (.int (0 + (i : Nat))), some (.ref p), y3, y4, y5, y6] ∧ Grow p H2 H' ∧ BagAt H' p) ⟨_, _, _, _, rfl, Grow.refl p H2, hB⟩ ?_ ?_
      · rintro i' σ H3 hi' ⟨y3, y4, y5, y6, rfl, g3, hB3⟩
        refine ⟨_, rfl, p, rfl, hB3, fun H4 v g4 hB4 Vt => ?_⟩
        obtain ⟨b, th⟩ := th_of (K := K) Vt
        refine ⟨_, rfl, v, b, rfl, th, fun H5 s5 => ?_⟩
        refine ⟨2, rfl, by decide, by decide, ?_⟩
        refine for_range (lo := 0) (n := 2) (fun _ σ H' => ∃ y6 : Option V, σ = [some (.ref a), some (.int (0 + (i : Nat))), some (.ref p), some (.int (0 + (i' : Nat))), some v, some (.bl b), y6] ∧ Same H5 H') ⟨_, rfl, Same.refl H5⟩ ?_ ?_
        · rintro i2 σ H6 hi2 ⟨y6, rfl, s6⟩
          have th6 := (th.same s5).same s6
          refine ⟨_, rfl, v, b, rfl, th6, fun H7 s7 => ⟨.bl b, .bool b, rfl, .bl b, rfl, rfl, Nat.zero_le _, bool_shown b, ?_⟩⟩
          refine ⟨_, rfl, .bl b, .bool b, rfl, .bl b, rfl, rfl, Nat.zero_le _, bool_shown b, rfl, _, rfl, ?_⟩
          rw [decide_eq_true rfl]
          refine iteF ?_
          have th7 := th6.same s7
          refine ⟨_, rfl, b, rfl, ?_⟩
          cases b with
          | false =>
            refine iteF (iteF ?_)
            refine ⟨_, rfl, false, rfl, iteF (iteF ?_)⟩
            exact ⟨_, rfl, s6.trans s7⟩
          | true =>
            obtain ⟨t, w0, r0, rfl, ht⟩ : ∃ t w0 r0, v = .ref t ∧ H7 t = some (.tup (.str w0 :: r0)) := by
              rcases th7 with ⟨_, _, _, _, e⟩ | ⟨t, xs, rfl, ht, _, _, e⟩
              · cases e
              · obtain ⟨w0, r0, rfl⟩ := deed_str e.symm
                exact ⟨t, w0, r0, rfl, ht⟩
            refine iteT ?_
            refine ⟨_, rfl, t, w0, r0, rfl, ht, .bl _, .bool _, rfl, .bl _, rfl, rfl, Nat.zero_le _, bool_shown _, ?_⟩
            refine ⟨_, rfl, ixt (j := 0) ht rfl ⟨rfl, .bl _, .bool _, rfl, .bl _, rfl, rfl, Nat.zero_le _, bool_shown _, rfl, _, rfl, ?_⟩⟩
            rw [decide_eq_true rfl]
            refine iteF ?_
            refine ⟨_, rfl, true, rfl, iteT ?_⟩
            refine ⟨_, rfl, t, w0, r0, rfl, ht, .bl _, .bool _, rfl, .bl _, rfl, rfl, Nat.zero_le _, bool_shown _, ?_⟩
            refine ⟨_, rfl, ixt (j := 0) ht rfl ⟨lens 3 (by decide), fun l nl => ?_⟩⟩
            refine ⟨l, _, rfl, .inl (SqL.of upd_same), rfl, rfl, .bl (wordIn targetW (.str w0)), .bool _, congrArg (fun z => [V.bl z]) (inV_word (x := .str w0) rfl targetW), .bl _, rfl, rfl, Nat.zero_le _, bool_shown _, rfl, _, rfl, ?_⟩
            rw [decide_eq_true rfl]
            refine iteF ?_
            exact ⟨_, rfl, s6.trans (s7.trans (Same.up0 nl))⟩
        · rintro σ H6 ⟨y6, rfl, s6⟩
          exact ⟨_, _, _, _, rfl, g3.trans (g4.trans (Same.grow (s5.trans s6))), (hB4.keep s5).keep s6⟩
      · rintro σ H3 ⟨y3, y4, y5, y6, rfl, g3, hB3⟩
        exact ⟨_, _, _, _, _, _, rfl, Grow.same s1 np0 ((Same.grow s2).trans g3)⟩
    · rintro σ H1 ⟨y1, y2, y3, y4, y5, y6, rfl, s1⟩
      exact q H1
end
theorem exm_of {K : PySem.W.Frag} {S T : Addr} {b : Bool} (h1 : PySem.W.subIn K (.ref T) (.type "BaseException") = some true) (h2 : PySem.W.isClsIn K T = true) (h3 : PySem.W.typeIn K (.ref T) = some (.type "type")) (h4 : PySem.W.subIn K (.ref S) (.ref T) = some b) : PySem.W.exmOne K (.ref S) (.ref T) = some b := by
  have e1 : (PySem.W.subIn K (.ref T) (.type "BaseException") == some true) = true := by rw [h1] <;> rfl
  have e2 : ((PySem.W.clsIn K T).isSome && PySem.W.typeIn K (.ref T) == some (.type "type")) = true := by
    have h2' : (PySem.W.clsIn K T).isSome = true := h2
    rw [h2', h3] <;> rfl
  show (if (PySem.W.subIn K (.ref T) (.type "BaseException") == some true) = true then (if ((PySem.W.clsIn K T).isSome && PySem.W.typeIn K (.ref T) == some (.type "type")) = true then PySem.W.subIn K (.ref S) (.ref T) else none) else none) = some b
  rw [if_pos e1, if_pos e2]
  exact h4
/-! ### what the top has written -/
theorem all_mk {l : PySem.W.OpenLaw} {w : World} {K : PySem.W.Frag} {h : Heap} {mg : Str → Option Value} {fa f0 f1 f2 f3 f4 f5 f6 f7 f8 f9 f10 f11 f12 f13 f14 : Addr} (X : K.In h) (G : h.Ns mainGlobals mg) (hfa : mg "law" = some (.ref fa))
    {od0 an0 od1 an1 od2 an2 od3 an3 od4 an4 od5 an5 od6 an6 od7 an7 od8 an8 od9 an9 od10 an10 od11 an11 od12 an12 od13 an13 od14 an14 : Option Addr} {sl0 sl1 sl2 sl3 sl4 sl5 sl6 sl7 sl8 sl9 sl10 sl11 sl12 sl13 sl14 : Array (Option Value)} {oc0 kV0 dc0 pm0 cd0 ct0 oc1 kV1 dc1 pm1 cd1 ct1 oc2 kV2 dc2 pm2 cd2 ct2 oc3 kV3 dc3 pm3 cd3 ct3 oc4 kV4 dc4 pm4 cd4 ct4 oc5 kV5 dc5 pm5 cd5 ct5 oc6 kV6 dc6 pm6 cd6 ct6 oc7 kV7 dc7 pm7 cd7 ct7 oc8 kV8 dc8 pm8 cd8 ct8 oc9 kV9 dc9 pm9 cd9 ct9 oc10 kV10 dc10 pm10 cd10 ct10 oc11 kV11 dc11 pm11 cd11 ct11 oc12 kV12 dc12 pm12 cd12 ct12 oc13 kV13 dc13 pm13 cd13 ct13 oc14 kV14 dc14 pm14 cd14 ct14 : Value}
    (a0 : PySem.W.nsIn K mainGlobals "is_plain_int" = some (some (.ref f0))) (l0 : K.lookup f0 = some ⟨oc0, od0, .func (PySem.W.fnOf "is_plain_int" "is_plain_int" (defArgs s_is_plain_int) (defBody s_is_plain_int) (defScope s_is_plain_int) .none kV0 dc0 pm0 an0 cd0 ct0), sl0⟩)
    (c0 : PySem.W.codeIn K cd0 "is_plain_int" = true) (k0 : PySem.W.keepIn K (.ref f0) = true)
    (a1 : PySem.W.nsIn K mainGlobals "is_name" = some (some (.ref f1))) (l1 : K.lookup f1 = some ⟨oc1, od1, .func (PySem.W.fnOf "is_name" "is_name" (defArgs s_is_name) (defBody s_is_name) (defScope s_is_name) .none kV1 dc1 pm1 an1 cd1 ct1), sl1⟩)
    (c1 : PySem.W.codeIn K cd1 "is_name" = true) (k1 : PySem.W.keepIn K (.ref f1) = true)
    (a2 : PySem.W.nsIn K mainGlobals "is_deed" = some (some (.ref f2))) (l2 : K.lookup f2 = some ⟨oc2, od2, .func (PySem.W.fnOf "is_deed" "is_deed" (defArgs s_is_deed) (defBody s_is_deed) (defScope s_is_deed) .none kV2 dc2 pm2 an2 cd2 ct2), sl2⟩)
    (c2 : PySem.W.codeIn K cd2 "is_deed" = true) (k2 : PySem.W.keepIn K (.ref f2) = true)
    (a3 : PySem.W.nsIn K mainGlobals "takes_gift" = some (some (.ref f3))) (l3 : K.lookup f3 = some ⟨oc3, od3, .func (PySem.W.fnOf "takes_gift" "takes_gift" (defArgs s_takes_gift) (defBody s_takes_gift) (defScope s_takes_gift) .none kV3 dc3 pm3 an3 cd3 ct3), sl3⟩)
    (c3 : PySem.W.codeIn K cd3 "takes_gift" = true) (k3 : PySem.W.keepIn K (.ref f3) = true)
    (a4 : PySem.W.nsIn K mainGlobals "takes_target" = some (some (.ref f4))) (l4 : K.lookup f4 = some ⟨oc4, od4, .func (PySem.W.fnOf "takes_target" "takes_target" (defArgs s_takes_target) (defBody s_takes_target) (defScope s_takes_target) .none kV4 dc4 pm4 an4 cd4 ct4), sl4⟩)
    (c4 : PySem.W.codeIn K cd4 "takes_target" = true) (k4 : PySem.W.keepIn K (.ref f4) = true)
    (a5 : PySem.W.nsIn K mainGlobals "_law_bag" = some (some (.ref f5))) (l5 : K.lookup f5 = some ⟨oc5, od5, .func (PySem.W.fnOf "_law_bag" "_law_bag" (defArgs s_l_bag) (defBody s_l_bag) (defScope s_l_bag) .none kV5 dc5 pm5 an5 cd5 ct5), sl5⟩)
    (c5 : PySem.W.codeIn K cd5 "_law_bag" = true) (k5 : PySem.W.keepIn K (.ref f5) = true)
    (a6 : PySem.W.nsIn K mainGlobals "_law_take" = some (some (.ref f6))) (l6 : K.lookup f6 = some ⟨oc6, od6, .func (PySem.W.fnOf "_law_take" "_law_take" (defArgs s_l_take) (defBody s_l_take) (defScope s_l_take) .none kV6 dc6 pm6 an6 cd6 ct6), sl6⟩)
    (c6 : PySem.W.codeIn K cd6 "_law_take" = true) (k6 : PySem.W.keepIn K (.ref f6) = true)
    (a7 : PySem.W.nsIn K mainGlobals "_law_whole" = some (some (.ref f7))) (l7 : K.lookup f7 = some ⟨oc7, od7, .func (PySem.W.fnOf "_law_whole" "_law_whole" (defArgs s_l_whole) (defBody s_l_whole) (defScope s_l_whole) .none kV7 dc7 pm7 an7 cd7 ct7), sl7⟩)
    (c7 : PySem.W.codeIn K cd7 "_law_whole" = true) (k7 : PySem.W.keepIn K (.ref f7) = true)
    (a8 : PySem.W.nsIn K mainGlobals "_law_odd" = some (some (.ref f8))) (l8 : K.lookup f8 = some ⟨oc8, od8, .func (PySem.W.fnOf "_law_odd" "_law_odd" (defArgs s_l_odd) (defBody s_l_odd) (defScope s_l_odd) .none kV8 dc8 pm8 an8 cd8 ct8), sl8⟩)
    (c8 : PySem.W.codeIn K cd8 "_law_odd" = true) (k8 : PySem.W.keepIn K (.ref f8) = true)
    (a9 : PySem.W.nsIn K mainGlobals "_law_name_or_not" = some (some (.ref f9))) (l9 : K.lookup f9 = some ⟨oc9, od9, .func (PySem.W.fnOf "_law_name_or_not" "_law_name_or_not" (defArgs s_l_name_or_not) (defBody s_l_name_or_not) (defScope s_l_name_or_not) .none kV9 dc9 pm9 an9 cd9 ct9), sl9⟩)
    (c9 : PySem.W.codeIn K cd9 "_law_name_or_not" = true) (k9 : PySem.W.keepIn K (.ref f9) = true)
    (a10 : PySem.W.nsIn K mainGlobals "_law_number_or_not" = some (some (.ref f10))) (l10 : K.lookup f10 = some ⟨oc10, od10, .func (PySem.W.fnOf "_law_number_or_not" "_law_number_or_not" (defArgs s_l_number_or_not) (defBody s_l_number_or_not) (defScope s_l_number_or_not) .none kV10 dc10 pm10 an10 cd10 ct10), sl10⟩)
    (c10 : PySem.W.codeIn K cd10 "_law_number_or_not" = true) (k10 : PySem.W.keepIn K (.ref f10) = true)
    (a11 : PySem.W.nsIn K mainGlobals "_law_is_name" = some (some (.ref f11))) (l11 : K.lookup f11 = some ⟨oc11, od11, .func (PySem.W.fnOf "_law_is_name" "_law_is_name" (defArgs s_l_is_name) (defBody s_l_is_name) (defScope s_l_is_name) .none kV11 dc11 pm11 an11 cd11 ct11), sl11⟩)
    (c11 : PySem.W.codeIn K cd11 "_law_is_name" = true) (k11 : PySem.W.keepIn K (.ref f11) = true)
    (a12 : PySem.W.nsIn K mainGlobals "_law_value" = some (some (.ref f12))) (l12 : K.lookup f12 = some ⟨oc12, od12, .func (PySem.W.fnOf "_law_value" "_law_value" (defArgs s_l_value) (defBody s_l_value) (defScope s_l_value) .none kV12 dc12 pm12 an12 cd12 ct12), sl12⟩)
    (c12 : PySem.W.codeIn K cd12 "_law_value" = true) (k12 : PySem.W.keepIn K (.ref f12) = true)
    (a13 : PySem.W.nsIn K mainGlobals "_law_due" = some (some (.ref f13))) (l13 : K.lookup f13 = some ⟨oc13, od13, .func (PySem.W.fnOf "_law_due" "_law_due" (defArgs s_l_due) (defBody s_l_due) (defScope s_l_due) .none kV13 dc13 pm13 an13 cd13 ct13), sl13⟩)
    (c13 : PySem.W.codeIn K cd13 "_law_due" = true) (k13 : PySem.W.keepIn K (.ref f13) = true)
    (a14 : PySem.W.nsIn K mainGlobals "law" = some (some (.ref f14))) (l14 : K.lookup f14 = some ⟨oc14, od14, .func (PySem.W.fnOf "law" "law" (defArgs s_law) (defBody s_law) (defScope s_law) .none kV14 dc14 pm14 an14 cd14 ct14), sl14⟩)
    (c14 : PySem.W.codeIn K cd14 "law" = true) (k14 : PySem.W.keepIn K (.ref f14) = true)
    (z_abs : PySem.W.nsIn K mainGlobals "abs" = some none)
    (z_all : PySem.W.nsIn K mainGlobals "all" = some none)
    (z_bool : PySem.W.nsIn K mainGlobals "bool" = some none)
    (z_enumerate : PySem.W.nsIn K mainGlobals "enumerate" = some none)
    (z_int : PySem.W.nsIn K mainGlobals "int" = some none)
    (z_isinstance : PySem.W.nsIn K mainGlobals "isinstance" = some none)
    (z_len : PySem.W.nsIn K mainGlobals "len" = some none)
    (z_max : PySem.W.nsIn K mainGlobals "max" = some none)
    (z_min : PySem.W.nsIn K mainGlobals "min" = some none)
    (z_range : PySem.W.nsIn K mainGlobals "range" = some none)
    (z_repr : PySem.W.nsIn K mainGlobals "repr" = some none)
    (z_str : PySem.W.nsIn K mainGlobals "str" = some none)
    (z_tuple : PySem.W.nsIn K mainGlobals "tuple" = some none)
    {tk0 : Tok} (gk0 : PySem.W.nsIn K mainGlobals "MOST_ADDED" = some (some (.int (10 ^ 9) tk0)))
    {aw0 : Addr} {wt0_0 wt0_1 wt0_2 wt0_3 : Tok} {wd0 : Option Addr} {wn0 : Nat} {ws0 : Array (Option Value)} (gw0 : PySem.W.nsIn K mainGlobals "WORDS_ALONE" = some (some (.ref aw0))) (lw0 : K.lookup aw0 = some ⟨.type "tuple", wd0, .seq #[.str "get" wt0_0, .str "boxes" wt0_1, .str "make" wt0_2, .str "clone" wt0_3] wn0, ws0⟩)
    {aw1 : Addr} {wt1_0 wt1_1 wt1_2 : Tok} {wd1 : Option Addr} {wn1 : Nat} {ws1 : Array (Option Value)} (gw1 : PySem.W.nsIn K mainGlobals "WORDS_WITH_BOX" = some (some (.ref aw1))) (lw1 : K.lookup aw1 = some ⟨.type "tuple", wd1, .seq #[.str "take" wt1_0, .str "clear" wt1_1, .str "give" wt1_2] wn1, ws1⟩)
    {aw2 : Addr} {wt2_0 wt2_1 wt2_2 : Tok} {wd2 : Option Addr} {wn2 : Nat} {ws2 : Array (Option Value)} (gw2 : PySem.W.nsIn K mainGlobals "WORDS_WITH_TARGET" = some (some (.ref aw2))) (lw2 : K.lookup aw2 = some ⟨.type "tuple", wd2, .seq #[.str "give" wt2_0, .str "make" wt2_1, .str "clone" wt2_2] wn2, ws2⟩)
    : ∃ fd : FuncData, (∀ (s : Shared) (v : Value), BindsTo s fd ⟨[v], []⟩ [("_law_script", v)]) ∧ ∀ base : Heap, K.In base → base.Ns mainGlobals mg → AtC l.prog w K mg base L2.CX0 fa fd "_law_script" (spLaw K) := by
  have e := hfa.symm.trans (PySem.W.mg_of X G a14)
  cases e
  have T : Bl mg := ⟨PySem.W.mg_none_of X G z_abs, PySem.W.mg_none_of X G z_all, PySem.W.mg_none_of X G z_bool, PySem.W.mg_none_of X G z_enumerate, PySem.W.mg_none_of X G z_int, PySem.W.mg_none_of X G z_isinstance, PySem.W.mg_none_of X G z_len, PySem.W.mg_none_of X G z_max, PySem.W.mg_none_of X G z_min, PySem.W.mg_none_of X G z_range, PySem.W.mg_none_of X G z_repr, PySem.W.mg_none_of X G z_str, PySem.W.mg_none_of X G z_tuple⟩
  have D_is_plain_int : DefIn K mg "is_plain_int" s_is_plain_int := ⟨f0, _, fun_mk (st := s_is_plain_int) l0 c0 k0, PySem.W.mg_of X G a0⟩
  have D_is_name : DefIn K mg "is_name" s_is_name := ⟨f1, _, fun_mk (st := s_is_name) l1 c1 k1, PySem.W.mg_of X G a1⟩
  have D_is_deed : DefIn K mg "is_deed" s_is_deed := ⟨f2, _, fun_mk (st := s_is_deed) l2 c2 k2, PySem.W.mg_of X G a2⟩
  have D_takes_gift : DefIn K mg "takes_gift" s_takes_gift := ⟨f3, _, fun_mk (st := s_takes_gift) l3 c3 k3, PySem.W.mg_of X G a3⟩
  have D_takes_target : DefIn K mg "takes_target" s_takes_target := ⟨f4, _, fun_mk (st := s_takes_target) l4 c4 k4, PySem.W.mg_of X G a4⟩
  have D_l_bag : DefIn K mg "_law_bag" s_l_bag := ⟨f5, _, fun_mk (st := s_l_bag) l5 c5 k5, PySem.W.mg_of X G a5⟩
  have D_l_take : DefIn K mg "_law_take" s_l_take := ⟨f6, _, fun_mk (st := s_l_take) l6 c6 k6, PySem.W.mg_of X G a6⟩
  have D_l_whole : DefIn K mg "_law_whole" s_l_whole := ⟨f7, _, fun_mk (st := s_l_whole) l7 c7 k7, PySem.W.mg_of X G a7⟩
  have D_l_odd : DefIn K mg "_law_odd" s_l_odd := ⟨f8, _, fun_mk (st := s_l_odd) l8 c8 k8, PySem.W.mg_of X G a8⟩
  have D_l_name_or_not : DefIn K mg "_law_name_or_not" s_l_name_or_not := ⟨f9, _, fun_mk (st := s_l_name_or_not) l9 c9 k9, PySem.W.mg_of X G a9⟩
  have D_l_number_or_not : DefIn K mg "_law_number_or_not" s_l_number_or_not := ⟨f10, _, fun_mk (st := s_l_number_or_not) l10 c10 k10, PySem.W.mg_of X G a10⟩
  have D_l_is_name : DefIn K mg "_law_is_name" s_l_is_name := ⟨f11, _, fun_mk (st := s_l_is_name) l11 c11 k11, PySem.W.mg_of X G a11⟩
  have D_l_value : DefIn K mg "_law_value" s_l_value := ⟨f12, _, fun_mk (st := s_l_value) l12 c12 k12, PySem.W.mg_of X G a12⟩
  have D_l_due : DefIn K mg "_law_due" s_l_due := ⟨f13, _, fun_mk (st := s_l_due) l13 c13 k13, PySem.W.mg_of X G a13⟩
  have m_MOST_ADDED := PySem.W.mg_of X G gk0
  have m_WORDS_ALONE := PySem.W.mg_of X G gw0
  have m_WORDS_WITH_BOX := PySem.W.mg_of X G gw1
  have m_WORDS_WITH_TARGET := PySem.W.mg_of X G gw2
  have h_WORDS_ALONE : ∀ H : Hp, SqT K H aw0 [.str "get", .str "boxes", .str "make", .str "clone"] := fun H => .inr ⟨_, _, _, lw0, rfl, rfl, (show (4 : Nat) ≤ sizeLine from lens 4 (by decide)), .cons ⟨_, rfl⟩ (.cons ⟨_, rfl⟩ (.cons ⟨_, rfl⟩ (.cons ⟨_, rfl⟩ (.nil))))⟩
  have h_WORDS_WITH_BOX : ∀ H : Hp, SqT K H aw1 [.str "take", .str "clear", .str "give"] := fun H => .inr ⟨_, _, _, lw1, rfl, rfl, (show (3 : Nat) ≤ sizeLine from lens 3 (by decide)), .cons ⟨_, rfl⟩ (.cons ⟨_, rfl⟩ (.cons ⟨_, rfl⟩ (.nil)))⟩
  have h_WORDS_WITH_TARGET : ∀ H : Hp, SqT K H aw2 [.str "give", .str "make", .str "clone"] := fun H => .inr ⟨_, _, _, lw2, rfl, rfl, (show (3 : Nat) ≤ sizeLine from lens 3 (by decide)), .cons ⟨_, rfl⟩ (.cons ⟨_, rfl⟩ (.cons ⟨_, rfl⟩ (.nil)))⟩
  refine ⟨PySem.W.fnOf "law" "law" (defArgs s_law) (defBody s_law) (defScope s_law) .none kV14 dc14 pm14 an14 cd14 ct14, fun s v => .of_eq rfl, fun base _ _ => ?_⟩
  have F_law := fun_mk (st := s_law) l14 c14 k14
  have c_take : Cal l.prog w K mg base 1 "_law_take" spTake := cal_of D_l_take (fun _ _ F => ok_take F) fun _ _ _ _ _ _ us hl => match us, hl with | [_, _], _ => rfl
  have c_bag : Cal l.prog w K mg base 1 "_law_bag" (spBag K) := cal_of D_l_bag (fun _ _ F => ok_bag F T) fun _ _ _ _ _ _ us hl => match us, hl with | [_, _], _ => rfl
  have c_plain : Cal l.prog w K mg base 1 "is_plain_int" (spPlain K) := cal_of D_is_plain_int (fun _ _ F => ok_plain F T) fun _ _ _ _ _ _ us hl => match us, hl with | [_], _ => rfl
  have c_isName : Cal l.prog w K mg base 1 "is_name" (spIsName K) := cal_of D_is_name (fun _ _ F => ok_isName F T) fun _ _ _ _ _ _ us hl => match us, hl with | [_], _ => rfl
  have c_lIsName : Cal l.prog w K mg base 1 "_law_is_name" (spIsName K) := cal_of D_l_is_name (fun _ _ F => ok_lIsName F T) fun _ _ _ _ _ _ us hl => match us, hl with | [_], _ => rfl
  have c_whole : Cal l.prog w K mg base 1 "_law_whole" (spPlain K) := cal_of D_l_whole (fun _ _ F => ok_whole F T) fun _ _ _ _ _ _ us hl => match us, hl with | [_], _ => rfl
  have c_isDeed : Cal l.prog w K mg base 2 "is_deed" (spIsDeed K) := cal_of D_is_deed (fun _ _ F => ok_isDeed F T m_MOST_ADDED m_WORDS_ALONE m_WORDS_WITH_BOX h_WORDS_ALONE h_WORDS_WITH_BOX c_plain c_isName) fun _ _ _ _ _ _ us hl => match us, hl with | [_], _ => rfl
  have c_gift : Cal l.prog w K mg base 1 "takes_gift" spGift := cal_of D_takes_gift (fun _ _ F => ok_gift F) fun _ _ _ _ _ _ us hl => match us, hl with | [_], _ => rfl
  have c_target : Cal l.prog w K mg base 1 "takes_target" spTarget := cal_of D_takes_target (fun _ _ F => ok_target F m_WORDS_WITH_TARGET h_WORDS_WITH_TARGET) fun _ _ _ _ _ _ us hl => match us, hl with | [_], _ => rfl
  have c_due : Cal l.prog w K mg base 2 "_law_due" (spIsDeed K) := cal_of D_l_due (fun _ _ F => ok_due F T c_whole c_lIsName) fun _ _ _ _ _ _ us hl => match us, hl with | [_], _ => rfl
  have c_odd : Cal l.prog w K mg base 2 "_law_odd" spThing7 := cal_of D_l_odd (fun _ _ F => ok_odd F c_take) fun _ _ _ _ _ _ us hl => match us, hl with | [_], _ => rfl
  have c_name : Cal l.prog w K mg base 2 "_law_name_or_not" spItem7 := cal_of D_l_name_or_not (fun _ _ F => ok_nameOrNot F T c_take) fun _ _ _ _ _ _ us hl => match us, hl with | [_], _ => rfl
  have c_number : Cal l.prog w K mg base 2 "_law_number_or_not" spItem7 := cal_of D_l_number_or_not (fun _ _ F => ok_numberOrNot F T c_take) fun _ _ _ _ _ _ us hl => match us, hl with | [_], _ => rfl
  have c_value : Cal l.prog w K mg base 3 "_law_value" spThing7 := cal_of D_l_value (fun _ _ F => ok_value F c_take c_odd c_name c_number) fun _ _ _ _ _ _ us hl => match us, hl with | [_], _ => rfl
  exact ok_law F_law T c_bag c_value c_due c_isDeed c_gift c_target
end Tp
open PySem PySem.W PyProof.Rows in
set_option maxRecDepth 100000 in
set_option maxHeartbeats 0 in
theorem PySem.Challenge.cw_trailparts_k07_deeds_known_holds : PySem.Challenge.rw_trailparts_k07_deeds_known.Holds := by
  w_on; o_law; k_head; (case hw => w_witness2)
  k_fill
  refine Tp.walk_at_law (l := PySem.Challenge.rw_trailparts_k07_deeds_known) (n := 63) (CX := L2.CX0) (sp := Tp.spLaw) (x := "_law_script") rfl (by decide) rfl (fun w h Y => PySem.W.kIn_of Y) ?F (fun _ _ a ns hl _ hS => ⟨a, ns, rfl, hS, hl, fun _ => rfl⟩) (fun _ _ _ _ z => z)
  case F =>
    intro w mg fa h KX G hmg
    refine' Tp.all_mk KX G hmg ?a0 ?l0 ?c0 ?k0 ?a1 ?l1 ?c1 ?k1 ?a2 ?l2 ?c2 ?k2 ?a3 ?l3 ?c3 ?k3 ?a4 ?l4 ?c4 ?k4 ?a5 ?l5 ?c5 ?k5 ?a6 ?l6 ?c6 ?k6 ?a7 ?l7 ?c7 ?k7 ?a8 ?l8 ?c8 ?k8 ?a9 ?l9 ?c9 ?k9 ?a10 ?l10 ?c10 ?k10 ?a11 ?l11 ?c11 ?k11 ?a12 ?l12 ?c12 ?k12 ?a13 ?l13 ?c13 ?k13 ?a14 ?l14 ?c14 ?k14 ?z_abs ?z_all ?z_bool ?z_enumerate ?z_int ?z_isinstance ?z_len ?z_max ?z_min ?z_range ?z_repr ?z_str ?z_tuple ?gk0 ?gw0 ?lw0 ?gw1 ?lw1 ?gw2 ?lw2
    (case a0 => k_is)
    (case l0 => k_is)
    (case c0 => k_is)
    (case k0 => k_is)
    (case a1 => k_is)
    (case l1 => k_is)
    (case c1 => k_is)
    (case k1 => k_is)
    (case a2 => k_is)
    (case l2 => k_is)
    (case c2 => k_is)
    (case k2 => k_is)
    (case a3 => k_is)
    (case l3 => k_is)
    (case c3 => k_is)
    (case k3 => k_is)
    (case a4 => k_is)
    (case l4 => k_is)
    (case c4 => k_is)
    (case k4 => k_is)
    (case a5 => k_is)
    (case l5 => k_is)
    (case c5 => k_is)
    (case k5 => k_is)
    (case a6 => k_is)
    (case l6 => k_is)
    (case c6 => k_is)
    (case k6 => k_is)
    (case a7 => k_is)
    (case l7 => k_is)
    (case c7 => k_is)
    (case k7 => k_is)
    (case a8 => k_is)
    (case l8 => k_is)
    (case c8 => k_is)
    (case k8 => k_is)
    (case a9 => k_is)
    (case l9 => k_is)
    (case c9 => k_is)
    (case k9 => k_is)
    (case a10 => k_is)
    (case l10 => k_is)
    (case c10 => k_is)
    (case k10 => k_is)
    (case a11 => k_is)
    (case l11 => k_is)
    (case c11 => k_is)
    (case k11 => k_is)
    (case a12 => k_is)
    (case l12 => k_is)
    (case c12 => k_is)
    (case k12 => k_is)
    (case a13 => k_is)
    (case l13 => k_is)
    (case c13 => k_is)
    (case k13 => k_is)
    (case a14 => k_is)
    (case l14 => k_is)
    (case c14 => k_is)
    (case k14 => k_is)
    (case z_abs => k_is)
    (case z_all => k_is)
    (case z_bool => k_is)
    (case z_enumerate => k_is)
    (case z_int => k_is)
    (case z_isinstance => k_is)
    (case z_len => k_is)
    (case z_max => k_is)
    (case z_min => k_is)
    (case z_range => k_is)
    (case z_repr => k_is)
    (case z_str => k_is)
    (case z_tuple => k_is)
    (case gk0 => k_is)
    (case gw0 => k_is)
    (case lw0 => k_is)
    (case gw1 => k_is)
    (case lw1 => k_is)
    (case gw2 => k_is)
    (case lw2 => k_is)
#print axioms PySem.Challenge.cw_trailparts_k07_deeds_known_holds
