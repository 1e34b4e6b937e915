import PyProof.Rows.All
import Wide.All
import OpenK.AllK
import Wide.FinOn
import HandS.Base
import HandS.Call
import HandS.List
import HandS.Ends
import HandS.Iter
import HandS.Words
import HandS.Wide
import HandS.WideBits
import HandS.IsInst
import HandS.Style
import HandS.TupAny
import HandS.Comp
import HandS.Dict
import HandS.Exc
import HandS.ExcField
import HandS.TryMany
import HandS.Lambda
import PyProof.ExcBaseAll.ArithmeticError
import PyProof.ExcBaseAll.OverflowError
import HandS.Small
import HandS.CallLocal
import KE.KNestM
import HandS.EndTab
import HandS.WordsExc
import HandS.Text
import HandS.StrMore
import HandS.Walk
import HandS.FStr
import KE.IntTextLaws
import KE.IntTextText
import PySem.Challenge.RW_trailparts_k03_part_texts
set_option Elab.async false
set_option linter.all false
set_option maxRecDepth 100000
set_option maxHeartbeats 2000000
namespace Tp
open PySem PySem.Spec PyProof.Rows L2

/-! ### repr of data -/
theorem reprD {X : Cx} (hg : X.A.guards = some []) (hu : X.A.units + 64 < cLine) :
    CallR X (.builtin "repr") (fun xs H Q => ∃ v d, xs = [v] ∧ Dp X.K H v d ∧ d.showable = true ∧ d.hasDict = false ∧ d.depth ≤ 40 ∧ d.shown.length ≤ sizeLine ∧ Q (.str d.shown) H) := by
  intro pins s σ H xs us Q I r h
  obtain ⟨v, d, rfl, hd, hs, hnd, hdep, hsz, q⟩ := h
  obtain ⟨u, rfl, ru⟩ := vals1 r
  obtain ⟨as, rd⟩ := Dp.reads I d v u hd ru
  cases hd with
  | non =>
    cases (show u = Value.none from ru)
    exact PySem.P.repr_of_none ⟨.str _, H, I.tok _, ⟨_, rfl⟩, q⟩
  | bl b =>
    cases (show u = Value.bool b from ru)
    exact PySem.P.repr_of_bool ⟨.str _, H, I.tok _, ⟨_, rfl⟩, q⟩
  | int i =>
    obtain ⟨t, rfl⟩ := (show ∃ t, u = Value.int i t from ru)
    exact PySem.P.repr_of_int (by simpa [PyData.showable] using hs) ⟨.str _, H, I.tok _, ⟨_, rfl⟩, q⟩
  | str x =>
    obtain ⟨t, rfl⟩ := (show ∃ t, u = Value.str x t from ru)
    exact PySem.P.repr_of_str ⟨.str _, H, I.tok _, ⟨_, rfl⟩, q⟩ hsz
  | lst hq ha =>
    cases (show u = Value.ref _ from ru)
    exact repr_of_reads' rd hs (fun z => by rw [hnd] at z; cases z) hg (by omega) (fun _ _ e => e) (fun h' u tk hk => ⟨.str _, H, I.kept hk, ⟨_, rfl⟩, q⟩) hsz
  | tup hq ha =>
    cases (show u = Value.ref _ from ru)
    exact repr_of_reads' rd hs (fun z => by rw [hnd] at z; cases z) hg (by omega) (fun _ _ e => e) (fun h' u tk hk => ⟨.str _, H, I.kept hk, ⟨_, rfl⟩, q⟩) hsz

/-! ### the law itself: its call is at a known place, so the guards are known -/
/-- the law's promise at the caller's place alone -/
def AtC (P : Program) (w : World) (K : PySem.W.Frag) (mg : Str → Option Value) (base : Heap) (CX : CXT) (f : Addr) (fd : FuncData) (x : Str) (sp : Sp) : Prop :=
  ∀ (s : Shared) (H : Hp) (args : Args) (u : Value) (v : V) (Q : VK) (E : XK), Env0 P w K mg base callerA [] s H → BindsTo s fd args [(x, u)] → RelV v u → sp [v] H Q E →
    codeAny (model P w) callerA (.call (.ref f) args) (CR CX [] P w H s Q E) s
theorem room_caller {k : Nat} (h : k ≤ 40) : Room k callerA := by
  have h2 : Room 40 callerA := ⟨rfl, by decide, by decide⟩
  exact h2.mono h

/-- a def at the caller's place, from its body; the guards there are none -/
theorem atC_of {CX : CXT} {P : Program} {w : World} {K : PySem.W.Frag} {mg : Str → Option Value} {base : Heap} {k : Nat} {f : Addr} {name qual : Str} {params : Arguments} {body : List Stmt} {scope : Scope}
    {dV kV doc pm cdv ct oc : Value} {an od : Option Addr} {osl : Array (Option Value)} {N : List Str} {x : Str} {sp : Sp}
    (lk : K.lookup f = some ⟨oc, od, .func (PySem.W.fnOf name qual params body scope dV kV doc pm an cdv ct), osl⟩) (hcd : PySem.W.codeIn K cdv qual = true) (S : FnScope N [x] scope) (hk : k ≤ 30)
    (len : ∀ vs H Q E, sp vs H Q E → vs.length = 1)
    (hbody : ∀ (A : Around) (outer : List Env) (s : Shared) (H : Hp) (vs : List V) (Q : VK) (E : XK), A.guards = some [] → Room k (A.deeper (envOfC qual scope s.heap.objs.size f cdv)) → sp vs H Q E →
      ∃ t, PSs (cxOf CX P w K mg base N qual scope f cdv A outer s H E) body t ∧ t { nx := fun _ H' => Q .non H', rt := Q } (start N vs) H) :
    AtC P w K mg base CX f (PySem.W.fnOf name qual params body scope dV kV doc pm an cdv ct) x sp := by
  intro s H args u v Q E e0 hb rv hsp
  have hr : Room (k + 1) callerA := room_caller (by omega)
  have KX : K.In s.heap := e0.mod.kin.keeps fun b o e => (e0.bs b o e).1
  have lim : s.heap.NoLimit := e0.mod.nolimit.keeps fun b o e => (e0.bs b o e).1
  have hkind : ∀ y ∈ [(x, u)], scope.names.lookup y.1 = some .local ∨ (scope.names.lookup y.1 = some .cell ∧ ((cellsFrom (s.heap.objs.size + 1) scope.names []).lookup y.1).isSome = true) := by
    intro y hy
    obtain rfl : y = (x, u) := List.mem_singleton.mp hy
    exact (S.par x (by simp)).imp id fun q => ⟨q, PySem.W.cellsFrom_some _ _ _ (.inl q)⟩
  refine codeAny_call_function hr.depth (KX _ _ lk) rfl S.co S.gen rfl (PySem.W.codeRec_of KX hcd) (hb _ _ _ _ ?_)
  refine wpAny_newFunctionEnv_cells S.kind hkind fun env he s1 xn => ?_
  subst he
  refine ⟨lim.keeps xn.toInCall.keep, codeAny_func ?_⟩
  obtain ⟨t, ht, hq⟩ := hbody callerA [] s H [v] Q E rfl (hr.deeper _) hsp
  have I : Inv (cxOf CX P w K mg base N qual scope f cdv callerA [] s H E) [] (start N [v]) H s1 :=
    inv_start (ps := [x]) (us := [u]) S hr.hd e0 rfl (.cons rv .nil) xn
  refine wpAny_mono (ht.run [] s1 (start N [v]) H _ I hq) (fun fl s' hs => ?_) fun _ _ hs => hs
  cases fl with
  | brk =>
    obtain ⟨_, _, _, q⟩ := hs
    exact q.elim
  | cont =>
    obtain ⟨_, _, _, q⟩ := hs
    exact q.elim
  | next =>
    obtain ⟨σ', H', J, q⟩ := hs
    exact ⟨.non, H', J.os, J.bare, J.base, J.hok, rfl, q⟩
  | ret z =>
    obtain ⟨v', σ', H', J, rv', q⟩ := hs
    exact ⟨v', H', J.os, J.bare, J.base, J.hok, rv', q⟩

/-- the abstract heap at the entry: the script alone, if it is not one of the module's own objects -/
noncomputable def scriptHp (K : PySem.W.Frag) (a : Addr) (ob : Obj) (xs : List V) : Hp := fun b => if b = a ∧ K.lookup a = none then some (.frz ob (.lst xs)) else none
theorem scriptHp_some {K : PySem.W.Frag} {a b : Addr} {ob : Obj} {xs : List V} {o : HO} (h : scriptHp K a ob xs b = some o) : b = a ∧ K.lookup a = none ∧ o = .frz ob (.lst xs) := by
  unfold scriptHp at h
  split at h
  · rename_i c
    exact ⟨c.1, c.2, (Option.some.inj h).symm⟩
  · cases h
theorem script_only {K : PySem.W.Frag} {a : Addr} {ob : Obj} {xs : List V} : Only (scriptHp K a ob xs) := by
  intro b
  cases e : scriptHp K a ob xs b with
  | none => exact .inl rfl
  | some o =>
    obtain ⟨_, _, rfl⟩ := scriptHp_some e
    exact .inr ⟨_, _, rfl⟩

theorem law_at {P : Program} {w : World} {K : PySem.W.Frag} {mg mb : Str → Option Value} {CX : CXT} {fa a : Addr} {fd : FuncData} {x : Str} {sp : Sp} {s1 : Shared} {vs : List Value} {ns : List Int}
    (KX : K.In s1.heap) (hns : s1.heap.Ns mainGlobals mg) (hb : s1.heap.Ns builtinsNs mb) (hbb : ∀ y : Str, y ≠ "__name__" → mb y = bootBuiltins y) (hlim : s1.heap.NoLimit) (hg : s1.gens = #[])
    (ha : s1.heap.get? a = some { cls := .type "list", data := .seq vs.toArray }) (hi : IntsAre vs ns) (hl : ns.length ≤ sizeLine)
    (F : ∀ base : Heap, K.In base → base.Ns mainGlobals mg → AtC P w K mg base CX fa fd x sp) (hbind : ∀ (s : Shared) (u : Value), BindsTo s fd ⟨[u], []⟩ [(x, u)])
    (hsp : ∀ H : Hp, Only H → SqL K H a (ns.map V.int) → sp [.ref a] H (fun v _ => v = .bl true) fun _ _ _ => False)
    (hCX : ∀ H e s', CX [] H s1 (fun _ _ _ => False) e s' → False) :
    codeAny (model P w) callerA (.call (.ref fa) ⟨[.ref a], []⟩) (fun r s' => r = .ok (.ret (.bool true)) ∧ OldK s1.heap s'.heap ∧ s'.os = s1.os ∧ AllBare s'.gens) s1 := by
  have rv := vals_ints hi
  have lenV := hi.length
  generalize eH : scriptHp K a { cls := .type "list", data := .seq vs.toArray } (ns.map V.int) = H
  have hO : Only H := by
    rw [← eH]
    exact script_only
  have hat : ∀ {b : Addr} {o : HO}, H b = some o → b = a ∧ K.lookup a = none ∧ o = .frz { cls := .type "list", data := .seq vs.toArray } (.lst (ns.map V.int)) := fun {b o} q => by
    rw [← eH] at q
    exact scriptHp_some q
  have hS : SqL K H a (ns.map V.int) := by
    cases hk : K.lookup a with
    | none =>
      refine .inl (.inr ⟨{ cls := .type "list", data := .seq vs.toArray }, ?_⟩)
      rw [← eH]
      exact if_pos ⟨rfl, hk⟩
    | some o =>
      have e := KX a o hk
      rw [ha] at e
      cases e
      exact .inr ⟨_, vs.toArray, _, hk, rfl, rfl, rfl, by rw [List.size_toArray, lenV]; exact hl, by simpa using rv⟩
  have hok : HOk P w H s1.heap := fun b o q => by
    obtain ⟨rfl, _, rfl⟩ := hat q
    exact ⟨ha, by rw [List.length_map]; exact hl, vs, _, rv, ha⟩
  have none_of : ∀ {b : Addr} {o : Obj}, s1.heap.get? b = some o → (b = a → K.lookup a = none → False) → H b = none := fun {b o} _ z => by
    cases q : H b with
    | none => rfl
    | some u =>
      obtain ⟨e1, e2, _⟩ := hat q
      exact (z e1 e2).elim
  have dictFree : ∀ {b : Addr} {o : Obj} {es : Array DictEntry} {ep : Nat}, s1.heap.get? b = some o → o.data = .dict es ep → H b = none := fun {b o es ep} e d => none_of e fun e1 _ => by
    subst e1
    rw [ha] at e
    cases e
    cases (show Data.seq vs.toArray _ = Data.dict es ep from d)
  have nsK : ∀ {b : Addr} {m : Str → Option Value}, s1.heap.Ns b m → (hidT s1.heap H).Ns b m := by
    rintro b m ⟨o, es, ep, e, d, r⟩
    exact ⟨o, es, ep, hidT_get e (dictFree e d), d, r⟩
  have hKb : K.In (hidT s1.heap H) := fun b o e => hidT_get (KX b o e) (none_of (KX b o e) fun e1 e2 => by
    subst e1
    rw [e2] at e
    cases e)
  obtain ⟨mc, lim1, lim2⟩ := hlim
  have hM : Mod K mg (hidT s1.heap H) := ⟨hKb, nsK hns, ⟨mb, nsK hb, hbb⟩, mc, nsK lim1, lim2⟩
  have e0 : Env0 P w K mg (hidT s1.heap H) callerA [] s1 H :=
    ⟨rfl, hM, fun b o e => of_hidT e, Nat.le_of_eq (hidT_size _ _), trivial, fun b hb => absurd (show b ∈ ([] : List Addr) from hb) (by simp), hok, .of_eq hg⟩
  refine codeAny_mono (F _ hKb (nsK hns) s1 H ⟨[.ref a], []⟩ (.ref a) (.ref a) _ _ e0 (hbind s1 (.ref a)) rfl (hsp H hO hS)) fun r s' h => ?_
  cases r with
  | error e => exact (hCX H e s' h).elim
  | ok fl =>
    cases fl with
    | next => exact h.elim
    | brk => exact h.elim
    | cont => exact h.elim
    | ret u =>
      obtain ⟨v, H', os, bare, un, hok', r', q⟩ := h
      obtain rfl : v = .bl true := q
      obtain rfl : u = Value.bool true := r'
      refine ⟨rfl, OldK.of_keep fun b o e => ?_, os, bare⟩
      cases q : H b with
      | none => exact un.keep b o e q (fun z => absurd (show b ∈ ([] : List Addr) from z) (by simp)) (by simp)
      | some u =>
        obtain ⟨e1, e2, e3⟩ := hat q
        subst e3
        have z2 := un.frzs b _ _ q
        obtain ⟨k1, _⟩ := hok b _ q
        obtain ⟨k2, _⟩ := hok' b _ z2
        rw [e] at k1
        cases k1
        exact k2

theorem walk_at_law {l : PySem.W.OpenLaw} {n : Nat} {q : Program} {loose : List Str} {XP : (Str → Option Value) → Heap → Prop} {YP : World → Heap → Prop} {d : DefRec} {K : Params → PySem.W.Frag} {CX : CXT} {sp : PySem.W.Frag → Sp} {x : Str}
    (hn : l.most = some n) (hn2 : n ≤ sizeLine) (hdf : d.params.defaults = []) (hY : ∀ (w : World) (h : Heap), YP w h → (K w.params).In h)
    (F : ∀ (w : World) (mg : Str → Option Value) (fa : Addr) (h : Heap), (K w.params).In h → h.Ns mainGlobals mg → mg d.name = some (.ref fa) →
      ∃ fd : FuncData, (∀ (s : Shared) (u : Value), BindsTo s fd ⟨[u], []⟩ [(x, u)]) ∧ ∀ base : Heap, (K w.params).In base → base.Ns mainGlobals mg → AtC l.prog w (K w.params) mg base CX fa fd x (sp (K w.params)))
    (hsp : ∀ (K : PySem.W.Frag) (H : Hp) (a : Addr) (ns : List Int), ns.length ≤ n → Only H → SqL K H a (ns.map V.int) → sp K [.ref a] H (fun v _ => v = .bl true) fun _ _ _ => False)
    (hCX : ∀ (H : Hp) (s : Shared) (e : Value) (s' : Shared), CX [] H s (fun _ _ _ => False) e s' → False) :
    PySem.W.WalkO q loose XP YP l.row.toRowW d [] (fun f vs => PySem.call f vs) := by
  refine Att.attach_call hn hdf fun w s0 s1 mg mb fa o pm cd doc a vs ns G Y ho hd hcd hmg hobj hints hlen hgen => ?_
  have KX := hY w _ Y
  obtain ⟨fd, hb, hF⟩ := F w mg fa _ KX G.T.g hmg
  exact law_at KX G.T.g G.T.b G.T.builtins G.T.nolimit hgen hobj hints (Nat.le_trans hlen hn2) hF hb (fun H hO hS => hsp _ H a ns hlen hO hS) fun H e s' => hCX H s1 e s'
end Tp

set_option Elab.async false
set_option linter.all false
set_option maxRecDepth 100000
set_option maxHeartbeats 2000000
namespace Tp
open PySem PySem.Spec PyProof.Rows L2

/-! ### heaps that only grow -/
theorem Same.up {H H1 : Hp} {p : Addr} {o : HO} (e : Same H H1) (h : H1 p = none) : Same H (upd H1 p o) := fun b u q => by
  have q1 := e b u q
  rw [upd_ne (ne_of_none q1 h)]
  exact q1
theorem Same.up0 {H : Hp} {p : Addr} {o : HO} (h : H p = none) : Same H (upd H p o) := Same.up (Same.refl H) h
theorem Same.sqt {K : PySem.W.Frag} {H H' : Hp} {a : Addr} {xs : List V} (e : Same H H') (h : SqT K H a xs) : SqT K H' a xs := by
  rcases h with (h | ⟨o, h⟩) | h
  · exact .inl (.inl (e _ _ h))
  · exact .inl (.inr ⟨o, e _ _ h⟩)
  · exact .inr h
mutual
theorem dp_same {K : PySem.W.Frag} {H H' : Hp} (e : Same H H') : ∀ (d : PyData) (v : V), Dp K H v d → Dp K H' v d
  | .none, _, h => by
    cases h
    exact .non
  | .bool _, _, h => by
    cases h
    exact .bl _
  | .int _, _, h => by
    cases h
    exact .int _
  | .str _, _, h => by
    cases h
    exact .str _
  | .list ds, _, h => by
    cases h with
    | lst q a => exact .lst (e.seq q) (dpa_same e ds _ a)
  | .tuple ds, _, h => by
    cases h with
    | tup q a => exact .tup (Same.sqt e q) (dpa_same e ds _ a)
  | .dict _, _, h => by cases h
theorem dpa_same {K : PySem.W.Frag} {H H' : Hp} (e : Same H H') : ∀ (ds : List PyData) (vs : List V), DpAll K H vs ds → DpAll K H' vs ds
  | [], _, h => by
    cases h
    exact .nil
  | d :: ds, _, h => by
    cases h with
    | cons a b => exact .cons (dp_same e d _ a) (dpa_same e ds _ b)
end

/-! ### defs of the module that may be called by their names -/
structure Cal (P : Program) (w : World) (K : PySem.W.Frag) (mg : Str → Option Value) (base : Heap) (k : Nat) (x : Str) (sp : Sp) : Prop where
  ex : ∃ (f : Addr) (fd : FuncData) (ps : List Str), FnOk P w K mg base L2.CX0 k f fd ps sp ∧ mg x = some (.ref f) ∧ PySem.W.keepIn K (.ref f) = true ∧ Binds K fd ps []
theorem pe_f {X : Cx} {k j : Nat} {x : Str} {sp : Sp} {p pos : Pos} {e : Expr} {es : List Expr} {t : TA} (c : Cal X.prog X.w X.K X.mg X.base k x sp) (hr : Room j X.A) (hg : Gl X x) (ha : PA X (e :: es) t) (hk : k ≤ j := by decide)
    (hdb : (x == ("__debug__" : Str)) = false := by decide) (he : starEach (e :: es) X.env = (false, eval e X.env) :: starEach es X.env := by rfl) (hpl : (backTo pos (starEach es X.env)).any (·.1) = false := by rfl) :
    PE X (.Call (.Name x p) (e :: es) [] pos) (tCall sp [] E0 t) := by
  obtain ⟨f, fd, ps, F, hm, kp, b⟩ := c.ex
  exact pe_call F (hr.mono hk) hg hm kp b .nil pass0 ha hdb he hpl
/-- a def of the text as it stands behind the top, under its name -/
structure DefIn (K : PySem.W.Frag) (mg : Str → Option Value) (x : Str) (st : Stmt) : Prop where
  ex : ∃ (f : Addr) (fd : FuncData), Fun K x x st f fd ∧ mg x = some (.ref f)
theorem cal_of {P : Program} {w : World} {K : PySem.W.Frag} {mg : Str → Option Value} {base : Heap} {x : Str} {st : Stmt} {k : Nat} {ps : List Str} {sp : Sp} (D : DefIn K mg x st)
    (h : ∀ f fd, Fun K x x st f fd → FnOk P w K mg base L2.CX0 k f fd ps sp)
    (hb : ∀ (kV doc pm : Value) (an : Option Addr) (cdv ct : Value) (us : List Value), us.length = ps.length → bindArgs (PySem.W.fnOf x x (defArgs st) (defBody st) (defScope st) .none kV doc pm an cdv ct) ⟨us, []⟩ = pure (ps.zip us)) :
    Cal P w K mg base k x sp := by
  obtain ⟨f, fd, F, hm⟩ := D.ex
  exact ⟨f, fd, ps, h f fd F, hm, F.kp, F.binds hb⟩

/-! ### a for over enumerate(list) -/
theorem for_enum {K : PySem.W.Frag} {a : Addr} {xs : List V} {g : TG} {tb : TS} {D : Ends} {σ : L2.St} {H : Hp} (Pv : Nat → L2.St → Hp → Prop) (h0 : Pv 0 σ H) (hl : ∀ i σ H, i ≤ xs.length → Pv i σ H → SqL K H a xs)
    (hs : ∀ i x T σ H, xs[i]? = some x → Pv i σ H → H T = none → g (.ref T) σ (upd H T (.tup [.int ((i : Nat) : Int), x])) fun σ2 H2 => tb { D with nx := Pv (i + 1), ct := Pv (i + 1), bk := D.nx } σ2 H2)
    (hd : ∀ σ H, Pv xs.length σ H → D.nx σ H) :
    ∃ W : Nat → Nat → L2.St → Hp → Prop, (∃ m, W 0 m σ H) ∧ ∀ i m σ H, W i m σ H →
      ((Ite K a).stop i H ∧ D.nx σ H) ∨ ((Ite K a).go i H ∧ ∃ N : L2.St → Hp → Prop, (∀ σ' H', N σ' H' → ∃ m', m' < m ∧ W (i + 1) m' σ' H') ∧ ∀ x H', (Ite K a).yld i H x H' → g x σ H' fun σ2 H2 => tb { D with nx := N, ct := N, bk := D.nx } σ2 H2) := by
  refine ⟨fun i m σ H => m + i = xs.length ∧ Pv i σ H, ⟨xs.length, by omega, h0⟩, ?_⟩
  rintro i m σ H ⟨e, p⟩
  have q := hl i σ H (by omega) p
  by_cases hlt : i < xs.length
  · have hx : xs[i]? = some xs[i] := List.getElem?_eq_getElem hlt
    refine .inr ⟨⟨xs, _, q, hx⟩, Pv (i + 1), fun σ' H' p' => ⟨m - 1, by omega, by omega, p'⟩, fun x H' y => ?_⟩
    obtain ⟨T, z, rfl, nT, rfl, fz⟩ := y
    exact hs i z T σ H (fz xs q) p nT
  · have ei : i = xs.length := by omega
    subst ei
    exact .inl ⟨⟨xs, q, Nat.le_refl _⟩, hd σ H p⟩
end Tp

set_option Elab.async false
set_option linter.all false
set_option maxRecDepth 100000
set_option maxHeartbeats 2000000
namespace Tp
open PySem PySem.Spec PyProof.Rows L2

/-! ### short answers -/
theorem ixl {K : PySem.W.Frag} {H : Hp} {p : Addr} {xs : List V} {j : Nat} {v : V} {R : VK} (h : H p = some (.lst xs)) (e : xs[j]? = some v) (r : R v H) : rIx K (.ref p) (.int (j : Int)) H R := .inl ⟨p, xs, _, v, rfl, rfl, SqL.of h, atI_nat e, r⟩
theorem ixlS {K : PySem.W.Frag} {H : Hp} {p : Addr} {xs : List V} {z : Int} {j : Nat} {v : V} {R : VK} (h : SqL K H p xs) (ez : z = (j : Int)) (e : xs[j]? = some v) (r : R v H) : rIx K (.ref p) (.int z) H R := by
  subst ez
  exact .inl ⟨p, xs, _, v, rfl, rfl, h, atI_nat e, r⟩
theorem ixt {K : PySem.W.Frag} {H : Hp} {p : Addr} {xs : List V} {j : Nat} {v : V} {R : VK} (h : H p = some (.tup xs)) (e : xs[j]? = some v) (r : R v H) : rIx K (.ref p) (.int (j : Int)) H R := .inr (.inl ⟨p, xs, _, v, rfl, rfl, SqT.of h, atI_nat e, r⟩)
theorem lens (n : Nat) (h : n ≤ 1000) : n ≤ sizeLine := Nat.le_of_lt (small1000 h)

/-! ### a word in the middle: what follows is shown once -/
theorem pe_cut {X : Cx} {e : Expr} {te : TE} (h : PE X e te) : PE X e (fun σ H Q => ∃ M : VK, te σ H M ∧ ∀ v H', M v H' → Q v H') := by
  refine ⟨fun pins s σ H Q I hq => ?_⟩
  obtain ⟨M, hm, k⟩ := hq
  exact thn (h.run pins s σ H M I hm) fun u s1 ⟨v, H1, I1, r1, q1⟩ => ⟨v, H1, I1, r1, k v H1 q1⟩
theorem pss_mid {X : Cx} {st : Stmt} {sts : List Stmt} {t u : TS} (h1 : PS X st t) (h2 : PSs X sts u) : PSs X (st :: sts) (fun D σ H => ∃ M : L2.St → Hp → Prop, t { D with nx := M } σ H ∧ ∀ σ' H', M σ' H' → u D σ' H') := by
  refine ⟨fun pins s σ H D I hq => ?_⟩
  obtain ⟨M, hm, k⟩ := hq
  refine wpAny_execs_cons (thn (h1.run pins s σ H { D with nx := M } I hm) fun f s1 q => ?_)
  cases f with
  | next =>
    obtain ⟨σ', H', I', q⟩ := q
    exact h2.run pins s1 σ' H' D I' (k σ' H' q)
  | ret v => exact q
  | brk => exact q
  | cont => exact q

/-! ### the law's numbers: a bag is a list of two ints, none below nought -/
def BagAt (H : Hp) (p : Addr) : Prop := ∃ a b : Int, H p = some (.lst [.int a, .int b]) ∧ 0 ≤ a ∧ 0 ≤ b ∧ b < 2147483563
/-- all but p is as it was -/
def But (p : Addr) (H H' : Hp) : Prop := ∀ q, q ≠ p → H' q = H q
theorem But.refl (p : Addr) (H : Hp) : But p H H := fun _ _ => rfl
theorem But.trans {p : Addr} {H H1 H2 : Hp} (a : But p H H1) (b : But p H1 H2) : But p H H2 := fun q h => (b q h).trans (a q h)
/-- what was there stays, but for the bag at p -/
def Grow (p : Addr) (H H' : Hp) : Prop := ∀ q o, q ≠ p → H q = some o → H' q = some o
theorem Grow.refl (p : Addr) (H : Hp) : Grow p H H := fun _ _ _ h => h
theorem Grow.trans {p : Addr} {H H1 H2 : Hp} (a : Grow p H H1) (b : Grow p H1 H2) : Grow p H H2 := fun q o n h => b q o n (a q o n h)
theorem But.grow {p : Addr} {H H' : Hp} (b : But p H H') : Grow p H H' := fun q _ n h => (b q n).trans h
theorem Same.grow {p : Addr} {H H' : Hp} (b : Same H H') : Grow p H H' := fun q o _ h => b q o h
theorem Grow.same {p : Addr} {H H1 H2 : Hp} (e : Same H H1) (n : H p = none) (g : Grow p H1 H2) : Same H H2 := fun q o h => g q o (ne_of_none h n) (e q o h)
theorem BagAt.keep {H H' : Hp} {p : Addr} (h : BagAt H p) (e : Same H H') : BagAt H' p := by
  obtain ⟨a, b, hp, r⟩ := h
  exact ⟨a, b, e _ _ hp, r⟩
theorem BagAt.there {H : Hp} {p : Addr} (h : BagAt H p) : H p ≠ none := by
  obtain ⟨a, b, hp, _⟩ := h
  rw [hp]
  intro z
  cases z
theorem BagAt.new {H : Hp} {p q : Addr} (h : BagAt H p) (n : H q = none) : q ≠ p := fun e => h.there (e ▸ n)

def spBag (K : PySem.W.Frag) : Sp := fun vs H Q _ => ∃ (a : Addr) (ns : List Int) (k : Int), vs = [.ref a, .int k] ∧ SqL K H a (ns.map V.int) ∧ ns.length ≤ 100 ∧ 0 ≤ k ∧ k ≤ 100 ∧
  ∀ H' p, Same H H' → H p = none → BagAt H' p → Q (.ref p) H'
def spTake : Sp := fun vs H Q _ => ∃ (p : Addr) (m : Int), vs = [.ref p, .int m] ∧ BagAt H p ∧ 0 < m ∧ m.natAbs < 2 ^ 250 ∧
  ∀ H' r, But p H H' → BagAt H' p → 0 ≤ r → r < m → Q (.int r) H'

/-! ### what a part is -/
def kinds : List String := ["NoneType", "bool", "int", "str", "list", "tuple", "dict"]
def partB (x y : Int) : Bool := decide (1 ≤ y) && (decide (Builtin.bitAnd y (y - 1) = 0) && (decide (0 ≤ x) && (decide (x ≤ y) && (decide (y = 1) || decide (Builtin.bitAnd x 1 = 1)))))
def tupPart : List V → Bool
  | [.int x, .int y] => partB x y
  | _ => false
/-- a value of one of the plain kinds -/
def Known (K : PySem.W.Frag) (H : Hp) (y : V) : Prop := ∃ n, TyX K H y (.type n) ∧ n ∈ kinds
theorem Known.int {K : PySem.W.Frag} {H : Hp} (i : Int) : Known K H (.int i) := ⟨"int", .base (.int i), by decide⟩
theorem tyx_int {K : PySem.W.Frag} {H : Hp} {y : V} (h : TyX K H y (.type "int")) : ∃ i, y = .int i := by
  generalize e : Value.type "int" = t at h
  cases h with
  | base b =>
    cases b with
    | int i => exact ⟨i, rfl⟩
    | _ => first | (exact absurd (Value.type.inj e) (by decide)) | cases e
  | _ => first | (exact absurd (Value.type.inj e) (by decide)) | cases e
theorem tyx_is {K : PySem.W.Frag} {H : Hp} {i : Int} {n : String} (h : TyX K H (.int i) (.type n)) : n = "int" := by
  generalize ex : V.int i = x at h
  generalize e : Value.type n = t at h
  cases h with
  | base b =>
    cases b with
    | int i =>
      cases e
      rfl
    | _ => cases ex
  | _ => cases ex
def spPlain (K : PySem.W.Frag) : Sp := fun vs H Q _ => ∃ (x : V) (n : String), vs = [x] ∧ TyX K H x (.type n) ∧ n ∈ kinds ∧ Q (.bl (decide (n = "int"))) H
def spPow2 : Sp := fun vs H Q _ => ∃ b : Int, vs = [.int b] ∧ Q (.bl (decide (Builtin.bitAnd b (b - 1) = 0))) H
def spIsPart (K : PySem.W.Frag) : Sp := fun vs H Q _ => (∃ (x : V) (n : String), vs = [x] ∧ TyX K H x (.type n) ∧ n ∈ kinds ∧ n ≠ "tuple" ∧ Q (.bl false) H) ∨
  ∃ (a : Addr) (xs : List V), vs = [.ref a] ∧ H a = some (.tup xs) ∧ (∀ y ∈ xs, Known K H y) ∧ Q (.bl (tupPart xs)) H
/-- the half of a part that is not nothing -/
def spHalf : Sp := fun vs H Q _ => ∃ (a : Addr) (x y : Int), vs = [.ref a] ∧ H a = some (.tup [.int x, .int y]) ∧ partB x y = true ∧ x ≠ 0 ∧
  ∀ p, H p = none → Q (.ref p) (upd H p (.tup [.int x, .int (y * 2)]))
/-- the text's own half -/
def spLHalf : Sp := fun vs H Q _ => ∃ (a : Addr) (x y : Int), vs = [.ref a] ∧ H a = some (.tup [.int x, .int y]) ∧ ∀ p, H p = none → Q (.ref p) (upd H p (.tup [.int x, .int (2 * y)]))
/-- a drawn part: x / 2 ^ n in lowest terms, not nothing -/
structure Drawn (x y : Int) (most : Nat) : Prop where
  ex : ∃ n : Nat, n ≤ most ∧ y = 2 ^ n
  lo : 1 ≤ x
  hi : x ≤ y
  odd : y = 1 ∨ x % 2 = 1
def spPart : Sp := fun vs H Q _ => ∃ (p : Addr) (most : Nat), vs = [.ref p, .int (most : Int)] ∧ BagAt H p ∧ most ≤ 200 ∧
  ∀ H' t x y, Grow p H H' → BagAt H' p → H t = none → H' t = some (.tup [.int x, .int y]) → Drawn x y most → Q (.ref t) H'
/-! ### arithmetic of parts -/
theorem pow2_pos (n : Nat) : (1 : Int) ≤ 2 ^ n := by
  have h : (0 : Nat) < 2 ^ n := Nat.two_pow_pos n
  have e : ((2 ^ n : Nat) : Int) = (2 : Int) ^ n := by simp
  omega
theorem pow2_and (n : Nat) : Builtin.bitAnd ((2 : Int) ^ n) ((2 : Int) ^ n - 1) = 0 := by
  rw [PySem.W.kbt_mask]
  exact Int.emod_self
theorem pow2_half {n : Nat} (h : n ≠ 0) : ∃ m, n = m + 1 ∧ (2 : Int) ^ n = 2 * 2 ^ m := by
  cases n with
  | zero => exact absurd rfl h
  | succ m => exact ⟨m, rfl, by rw [Int.pow_succ]; omega⟩
theorem Drawn.part {x y : Int} {most : Nat} (h : Drawn x y most) : partB x y = true := by
  obtain ⟨⟨n, _, rfl⟩, h1, h2, h3⟩ := h
  have := pow2_pos n
  unfold partB
  rw [decide_eq_true (show (1 : Int) ≤ 2 ^ n by omega), pow2_and, decide_eq_true rfl, decide_eq_true (show (0 : Int) ≤ x by omega), decide_eq_true h2, bitAnd_m1]
  rcases h3 with e | e
  · rw [decide_eq_true e]
    rfl
  · rw [decide_eq_true e, Bool.or_true]
    rfl
theorem Drawn.mono {x y : Int} {m k : Nat} (h : Drawn x y m) (le : m ≤ k) : Drawn x y k := by
  obtain ⟨⟨n, hn, e⟩, h1, h2, h3⟩ := h
  exact ⟨⟨n, by omega, e⟩, h1, h2, h3⟩
theorem Drawn.size {x y : Int} {most : Nat} (h : Drawn x y most) : x.natAbs ≤ 2 ^ most ∧ y.natAbs ≤ 2 ^ most := by
  obtain ⟨⟨n, hn, rfl⟩, h1, h2, h3⟩ := h
  have le : (2 : Nat) ^ n ≤ 2 ^ most := Nat.pow_le_pow_right (by decide) hn
  have e : ((2 ^ n : Nat) : Int) = (2 : Int) ^ n := by simp
  have := pow2_pos n
  omega
/-! ### data that repr shows in few signs -/
theorem leaf_short {i : Int} (h : i.natAbs < 10 ^ 60) : (PyData.shown (.int i)).length ≤ 64 := by
  have e := int_text_length_le10 (k := 60) (by decide) h
  show (Str.ofString (toString i)).length ≤ 64
  rw [PySem.ofString_length]
  omega
theorem leaf_show {i : Int} (h : i.natAbs < 10 ^ 60) : i.natAbs.log2 < 1920 := by
  have h2 : i.natAbs < 2 ^ 200 := Nat.lt_of_lt_of_le h (by decide)
  exact Nat.lt_of_lt_of_le (PySem.Flt.log2_lt_of (by decide) h2) (by decide)
theorem shown_fits {d : PyData} (h : d.leavesShort 64 = true) (hb : d.bulk ≤ 10000) : d.shown.length ≤ sizeLine := by
  have e := PyData.shown_le_bulk 64 (by decide) d h
  have z : sizeLine = 16777216 := sizeLine_eq
  omega
/-- the law's own promise -/
def spLaw (K : PySem.W.Frag) : Sp := fun vs H Q _ => ∃ (a : Addr) (ns : List Int), vs = [.ref a] ∧ SqL K H a (ns.map V.int) ∧ ns.length ≤ 63 ∧ ∀ H', Q (.bl true) H'
/-- the law's def by its body, the guards known -/
theorem law_ok {P : Program} {w : World} {K : PySem.W.Frag} {mg : Str → Option Value} {base : Heap} {x y : Str} {st : Stmt} {f : Addr} {fd : FuncData} {N : List Str} {sp : Sp} (F : Fun K x x st f fd) (S : FnScope N [y] (defScope st)) (len : ∀ vs H Q E, sp vs H Q E → vs.length = 1)
    (hbody : ∀ (cdv : Value) (A : Around) (outer : List Env) (s : Shared) (H : Hp) (vs : List V) (Q : VK) (E : XK), (A.deeper (envOfC x (defScope st) s.heap.objs.size f cdv)).guards = some [] → Room 30 (A.deeper (envOfC x (defScope st) s.heap.objs.size f cdv)) → sp vs H Q E →
      ∃ t, PSs (cxOf L2.CX0 P w K mg base N x (defScope st) f cdv A outer s H E).nox (defBody st) t ∧ t { nx := fun _ H' => Q .non H', rt := Q } (start N vs) H) : AtC P w K mg base L2.CX0 f fd y sp := by
  obtain ⟨oc, od, kV, doc, pm, an, cdv, ct, osl, rfl, lk, hcd⟩ := F.ex
  refine atC_of (k := 30) lk hcd S (by decide) len fun A outer s H vs Q E hA hr hsp => ?_
  obtain ⟨t, h, q⟩ := hbody cdv A outer s H vs Q E hA hr hsp
  exact ⟨t, h.nox, q⟩
/-- how many cells are played -/
theorem cells_of (n lo : Nat) (hi : Nat) (h : lo ≤ hi) : ∃ m : Nat, (if (if ((n : Nat) : Int) < (hi : Int) then (n : Int) else (hi : Int)) > (lo : Int) then (if ((n : Nat) : Int) < (hi : Int) then (n : Int) else (hi : Int)) else (lo : Int)) = (m : Int) ∧ m ≤ hi := by
  by_cases h1 : ((n : Nat) : Int) < (hi : Int)
  · by_cases h2 : ((n : Nat) : Int) > (lo : Int)
    · exact ⟨n, by rw [if_pos h1, if_pos h2], by omega⟩
    · exact ⟨lo, by rw [if_pos h1, if_neg h2], h⟩
  · by_cases h2 : ((hi : Nat) : Int) > (lo : Int)
    · exact ⟨hi, by rw [if_neg h1, if_pos h2], Nat.le_refl _⟩
    · exact ⟨lo, by rw [if_neg h1, if_neg h2], h⟩
end Tp

set_option Elab.async false
set_option linter.all false
set_option maxRecDepth 100000
set_option maxHeartbeats 2000000
namespace Tp
open PySem PySem.Spec PyProof.Rows L2

/-! ### lowest terms over a power of two -/
/-- how often both t and 2 ^ m can be halved -/
def low : Nat → Nat → Nat
  | 0, _ => 0
  | m + 1, t => if t % 2 = 1 then 0 else low m (t / 2) + 1
theorem low_le : ∀ m t, low m t ≤ m
  | 0, _ => Nat.le_refl _
  | m + 1, t => by
    have := low_le m (t / 2)
    unfold low
    split <;> omega
/-- the lowest bit -/
def lowb (b : Nat) : Nat := b - (b &&& (b - 1))
theorem and_parts (a b : Nat) : a &&& b = 2 * (a / 2 &&& b / 2) + (a &&& b) % 2 := by
  have h := Nat.and_div_two (a := a) (b := b)
  omega
theorem lowb_odd {b : Nat} (h : b % 2 = 1) : lowb b = 1 := by
  have e := and_parts b (b - 1)
  have e1 : (b - 1) / 2 = b / 2 := by omega
  rw [e1, Nat.and_self] at e
  have e2 : ¬ ((b &&& (b - 1)) % 2 = 1) := by
    rw [Nat.and_mod_two_eq_one]
    omega
  unfold lowb
  omega
theorem lowb_even {b : Nat} (h : 0 < b) : lowb (2 * b) = 2 * lowb b := by
  have e := and_parts (2 * b) (2 * b - 1)
  have e1 : (2 * b - 1) / 2 = b - 1 := by omega
  have e0 : 2 * b / 2 = b := by omega
  rw [e1, e0] at e
  have e2 : ¬ ((2 * b &&& (2 * b - 1)) % 2 = 1) := by
    rw [Nat.and_mod_two_eq_one]
    omega
  have e3 : b &&& (b - 1) ≤ b := Nat.and_le_left
  unfold lowb
  omega
theorem or_half {t m : Nat} (h : ¬ t % 2 = 1) : t ||| 2 ^ (m + 1) = 2 * (t / 2 ||| 2 ^ m) := by
  have e := Nat.or_div_two (a := t) (b := 2 ^ (m + 1))
  have e1 : 2 ^ (m + 1) / 2 = 2 ^ m := by
    rw [Nat.pow_succ]
    omega
  rw [e1] at e
  have e2 : ¬ ((t ||| 2 ^ (m + 1)) % 2 = 1) := by
    rw [Nat.or_mod_two_eq_one]
    have : (2 : Nat) ^ (m + 1) % 2 = 0 := by
      rw [Nat.pow_succ]
      omega
    omega
  omega
theorem or_pos (t m : Nat) : 0 < (t ||| 2 ^ m) := Nat.lt_of_lt_of_le (Nat.two_pow_pos m) Nat.right_le_or
theorem or_lowb : ∀ m t : Nat, lowb (t ||| 2 ^ m) = 2 ^ low m t
  | 0, t => by
    have e : (t ||| 2 ^ 0) % 2 = 1 := by
      rw [Nat.or_mod_two_eq_one]
      exact .inr rfl
    rw [lowb_odd e]
    rfl
  | m + 1, t => by
    by_cases h : t % 2 = 1
    · have e : (t ||| 2 ^ (m + 1)) % 2 = 1 := by
        rw [Nat.or_mod_two_eq_one]
        exact .inl h
      rw [lowb_odd e]
      rw [show low (m + 1) t = 0 by
        show (if t % 2 = 1 then 0 else low m (t / 2) + 1) = _
        rw [if_pos h]]
    · rw [or_half h, lowb_even (or_pos _ _), or_lowb m (t / 2)]
      rw [show low (m + 1) t = low m (t / 2) + 1 by
        show (if t % 2 = 1 then 0 else low m (t / 2) + 1) = _
        rw [if_neg h]]
      rw [Nat.pow_succ, Nat.mul_comm]
theorem and_neg {b : Nat} (h : 0 < b) : Builtin.bitAnd (b : Int) (-(b : Int)) = ((lowb b : Nat) : Int) := by
  rw [bitAnd_pn (by omega) (by omega)]
  have e : (Builtin.bitNot (-(b : Int))).toNat = b - 1 := by
    show (-(-(b : Int)) - 1).toNat = b - 1
    omega
  rw [e, Int.toNat_natCast]
  have e3 : b &&& (b - 1) ≤ b := Nat.and_le_left
  unfold lowb
  omega
theorem bits_pow (s : Nat) : Builtin.Int.intBits ((2 : Int) ^ s) = s + 1 := by
  have e : ((2 ^ s : Nat) : Int) = (2 : Int) ^ s := by simp
  unfold Builtin.Int.intBits
  have h := Nat.two_pow_pos s
  have z : ((2 : Int) ^ s == 0) = false := beq_eq_false_iff_ne.mpr (by omega)
  rw [z]
  have e2 : ((2 : Int) ^ s).natAbs = 2 ^ s := by omega
  rw [e2, Nat.log2_two_pow]
  rfl
theorem cast_pow (s : Nat) : ((2 ^ s : Nat) : Int) = (2 : Int) ^ s := by simp
/-- in lowest terms: top, bottom's exponent -/
def redT (m t : Nat) : Nat := t / 2 ^ low m t
def redM (m t : Nat) : Nat := m - low m t
theorem red_step {m t : Nat} (h : ¬ t % 2 = 1) : redT (m + 1) t = redT m (t / 2) ∧ redM (m + 1) t = redM m (t / 2) := by
  unfold redT redM
  rw [show low (m + 1) t = low m (t / 2) + 1 by
    show (if t % 2 = 1 then 0 else low m (t / 2) + 1) = _
    rw [if_neg h]]
  refine ⟨?_, by omega⟩
  rw [Nat.pow_succ, Nat.mul_comm, ← Nat.div_div_eq_div_mul]
theorem red_end {m t : Nat} (h : m = 0 ∨ t % 2 = 1) : redT m t = t ∧ redM m t = m := by
  unfold redT redM
  have e : low m t = 0 := by
    cases m with
    | zero => rfl
    | succ m =>
      show (if t % 2 = 1 then 0 else low m (t / 2) + 1) = 0
      rw [if_pos (by omega)]
  rw [e]
  exact ⟨Nat.div_one t, rfl⟩
theorem pow_div {m k : Nat} (h : k ≤ m) : (2 : Int) ^ m / 2 ^ k = 2 ^ (m - k) := by
  have e : (2 : Nat) ^ m / 2 ^ k = 2 ^ (m - k) := Nat.pow_div h (by decide)
  rw [← cast_pow, ← cast_pow, ← cast_pow, ← e]
  simp
/-- the sum of x / 2 ^ m and y / 2 ^ n, over the greater bottom -/
def sumT (x m y n : Nat) : Nat := x * 2 ^ (max m n - m) + y * 2 ^ (max m n - n)
theorem max_pow (m n : Nat) : (if ((2 : Int) ^ n) > 2 ^ m then (2 : Int) ^ n else 2 ^ m) = 2 ^ (max m n) := by
  by_cases h : m < n
  · have l : (2 : Nat) ^ m < 2 ^ n := Nat.pow_lt_pow_right (by decide) h
    have e1 := cast_pow m
    have e2 := cast_pow n
    rw [if_pos (by omega), Nat.max_eq_right (Nat.le_of_lt h)]
  · have l : (2 : Nat) ^ n ≤ 2 ^ m := Nat.pow_le_pow_right (by decide) (by omega)
    have e1 := cast_pow m
    have e2 := cast_pow n
    rw [if_neg (by omega), Nat.max_eq_left (by omega)]
theorem pow_big {n k : Nat} (h : n < k) : ((2 : Int) ^ n).natAbs < 2 ^ k := by
  have l : (2 : Nat) ^ n < 2 ^ k := Nat.pow_lt_pow_right (by decide) h
  rw [← cast_pow, Int.natAbs_natCast]
  exact l
/-- a part that is not nothing: x / 2 ^ m in lowest terms -/
structure Pt (x m : Nat) : Prop where
  lo : 1 ≤ x
  hi : x ≤ 2 ^ m
  odd : m = 0 ∨ x % 2 = 1
theorem Drawn.pt {x y : Int} {most : Nat} (h : Drawn x y most) : ∃ a m : Nat, x = (a : Int) ∧ y = 2 ^ m ∧ m ≤ most ∧ Pt a m := by
  obtain ⟨⟨m, hm, rfl⟩, h1, h2, h3⟩ := h
  obtain ⟨a, rfl⟩ := Int.eq_ofNat_of_zero_le (show (0 : Int) ≤ x by omega)
  have e := cast_pow m
  refine ⟨a, m, rfl, rfl, hm, by omega, by omega, ?_⟩
  rcases h3 with h3 | h3
  · left
    cases m with
    | zero => rfl
    | succ m =>
      obtain ⟨m', e1, e2⟩ := pow2_half (n := m + 1) (by omega)
      have := pow2_pos m'
      omega
  · right
    omega
theorem Pt.part {x m : Nat} (h : Pt x m) : partB (x : Int) (2 ^ m) = true := by
  have e := cast_pow m
  refine Drawn.part (most := m) ⟨⟨m, Nat.le_refl _, rfl⟩, by have := h.lo; omega, by have := h.hi; omega, ?_⟩
  rcases h.odd with rfl | z
  · exact .inl rfl
  · exact .inr (by omega)
theorem Pt.half {x m : Nat} (h : Pt x m) : Pt x (m + 1) ∧ 2 * x ≤ 2 ^ (m + 1) := by
  have h1 := h.hi
  have h2 := h.lo
  rw [Nat.pow_succ]
  refine ⟨⟨h2, by rw [Nat.pow_succ]; omega, .inr ?_⟩, by omega⟩
  rcases h.odd with rfl | z
  · have : x ≤ 1 := h1
    omega
  · exact z
theorem sum_fits {x m y n : Nat} (hx : 2 * x ≤ 2 ^ m) (hy : 2 * y ≤ 2 ^ n) : sumT x m y n ≤ 2 ^ max m n := by
  have a1 : 2 * x * 2 ^ (max m n - m) ≤ 2 ^ m * 2 ^ (max m n - m) := Nat.mul_le_mul_right _ hx
  have a2 : 2 * y * 2 ^ (max m n - n) ≤ 2 ^ n * 2 ^ (max m n - n) := Nat.mul_le_mul_right _ hy
  rw [← Nat.pow_add, show m + (max m n - m) = max m n by omega, Nat.mul_assoc] at a1
  rw [← Nat.pow_add, show n + (max m n - n) = max m n by omega, Nat.mul_assoc] at a2
  unfold sumT
  omega
theorem red_le {m t : Nat} (h : t ≤ 2 ^ m) : redT m t ≤ 2 ^ m := by
  unfold redT
  exact Nat.le_trans (Nat.div_le_self _ _) h
/-! ### promises of the sums -/
def isTup (H : Hp) (a : Addr) (x m : Nat) : Prop := H a = some (.tup [.int (x : Int), .int (2 ^ m)])
def spTopOver : Sp := fun vs H Q _ => ∃ (a : Addr) (x m M : Nat), vs = [.int (2 ^ M), .ref a] ∧ isTup H a x m ∧ m ≤ M ∧ M ≤ 1000 ∧ x ≤ 2 ^ m ∧ Q (.int ((x * 2 ^ (M - m) : Nat) : Int)) H
def spLowest : Sp := fun vs H Q _ => ∃ (t M : Nat), vs = [.int (t : Int), .int (2 ^ M)] ∧ ∀ p, H p = none → Q (.ref p) (upd H p (.tup [.int (redT M t : Nat), .int (2 ^ redM M t)]))
/-- two parts whose sum is at most the whole -/
def spPlus : Sp := fun vs H Q _ => ∃ (a b : Addr) (x m y n : Nat), vs = [.ref a, .ref b] ∧ isTup H a x m ∧ isTup H b y n ∧ partB (x : Int) (2 ^ m) = true ∧ partB (y : Int) (2 ^ n) = true ∧ x ≤ 2 ^ m ∧ y ≤ 2 ^ n ∧ m ≤ 1000 ∧ n ≤ 1000 ∧ sumT x m y n ≤ 2 ^ max m n ∧
  ∀ p, H p = none → Q (.ref p) (upd H p (.tup [.int (redT (max m n) (sumT x m y n) : Nat), .int (2 ^ redM (max m n) (sumT x m y n))]))
/-- the law's own sum, of any two -/
def spLPlus : Sp := fun vs H Q _ => ∃ (a b : Addr) (x m y n : Nat), vs = [.ref a, .ref b] ∧ isTup H a x m ∧ isTup H b y n ∧ x ≤ 2 ^ m ∧ y ≤ 2 ^ n ∧ m ≤ 1000 ∧ n ≤ 1000 ∧
  ∀ p, H p = none → Q (.ref p) (upd H p (.tup [.int (redT (max m n) (sumT x m y n) : Nat), .int (2 ^ redM (max m n) (sumT x m y n))]))
end Tp

set_option Elab.async false
set_option linter.all false
set_option maxRecDepth 100000
set_option maxHeartbeats 2000000
namespace Tp
open PySem PySem.Spec PyProof.Rows L2

/-! ### any values: as data that stand apart from the bag at p -/
def keyD : Key → PyData
  | .inl i => .int i
  | .inr x => .str x
mutual
/-- no list, no dict in it -/
def flatD : PyData → Bool
  | .none => true
  | .bool _ => true
  | .int _ => true
  | .str _ => true
  | .tuple ds => flatAll ds
  | .list _ => false
  | .dict _ => false
def flatAll : List PyData → Bool
  | [] => true
  | d :: ds => flatD d && flatAll ds
end
mutual
inductive Dz (H : Hp) (p : Addr) : V → PyData → Prop
  | non : Dz H p .non .none
  | bl (b : Bool) : Dz H p (.bl b) (.bool b)
  | int (i : Int) : Dz H p (.int i) (.int i)
  | str (x : Str) : Dz H p (.str x) (.str x)
  | lst {a : Addr} {xs : List V} {ds : List PyData} : H a = some (.lst xs) → a ≠ p → DzAll H p xs ds → Dz H p (.ref a) (.list ds)
  | tup {a : Addr} {xs : List V} {ds : List PyData} : H a = some (.tup xs) → DzAll H p xs ds → Dz H p (.ref a) (.tuple ds)
  | dict {a : Addr} {kvs : List (Key × V)} {ds : List PyData} : H a = some (.dK kvs) → DzAll H p (kvs.map (·.2)) ds → flatAll ds = true → Dz H p (.ref a) (.dict ((kvs.map fun kv => keyD kv.1).zip ds))
inductive DzAll (H : Hp) (p : Addr) : List V → List PyData → Prop
  | nil : DzAll H p [] []
  | cons {v : V} {vs : List V} {d : PyData} {ds : List PyData} : Dz H p v d → DzAll H p vs ds → DzAll H p (v :: vs) (d :: ds)
end
theorem DzAll.len {H : Hp} {p : Addr} : ∀ {vs : List V} {ds : List PyData}, DzAll H p vs ds → vs.length = ds.length
  | _, _, .nil => rfl
  | _, _, .cons _ t => by rw [List.length_cons, List.length_cons, DzAll.len t]
mutual
theorem reads_flat {h : Heap} : ∀ {u : Value} {d : PyData} {as : List Addr}, Reads h u d as → flatD d = true → as = []
  | _, _, _, .none, _ => rfl
  | _, _, _, .bool _, _ => rfl
  | _, _, _, .int _ _, _ => rfl
  | _, _, _, .str _ _, _ => rfl
  | _, _, _, .list _ _ _ _, f => by cases f
  | _, _, _, .tuple _ _ _ r, f => reads_flatAll r f
  | _, _, _, .dict _ _ _ _ _, f => by cases f
theorem reads_flatAll {h : Heap} : ∀ {us : List Value} {ds : List PyData} {as : List Addr}, ReadsAll h us ds as → flatAll ds = true → as = []
  | _, _, _, .nil, _ => rfl
  | _, _, _, .cons r t, f => by
    unfold flatAll at f
    rw [Bool.and_eq_true] at f
    rw [reads_flat r f.1, reads_flatAll t f.2]
    rfl
end
theorem tup_keep {H H' : Hp} {p a : Addr} {xs : List V} (hB : BagAt H p) (g : Grow p H H') (h : H a = some (.tup xs)) : H' a = some (.tup xs) := by
  obtain ⟨u, v, hp, _⟩ := hB
  exact g a _ (ne_of h hp (by intro z; cases z)) h
theorem dK_keep {H H' : Hp} {p a : Addr} {kvs : List (Key × V)} (hB : BagAt H p) (g : Grow p H H') (h : H a = some (.dK kvs)) : H' a = some (.dK kvs) := by
  obtain ⟨u, v, hp, _⟩ := hB
  exact g a _ (ne_of h hp (by intro z; cases z)) h
mutual
theorem dz_grow {H H' : Hp} {p : Addr} (hB : BagAt H p) (g : Grow p H H') : ∀ {v : V} {d : PyData}, Dz H p v d → Dz H' p v d
  | _, _, .non => .non
  | _, _, .bl b => .bl b
  | _, _, .int i => .int i
  | _, _, .str x => .str x
  | _, _, .lst q n a => .lst (g _ _ n q) n (dza_grow hB g a)
  | _, _, .tup q a => .tup (tup_keep hB g q) (dza_grow hB g a)
  | _, _, .dict q a f => .dict (dK_keep hB g q) (dza_grow hB g a) f
theorem dza_grow {H H' : Hp} {p : Addr} (hB : BagAt H p) (g : Grow p H H') : ∀ {vs : List V} {ds : List PyData}, DzAll H p vs ds → DzAll H' p vs ds
  | _, _, .nil => .nil
  | _, _, .cons a b => .cons (dz_grow hB g a) (dza_grow hB g b)
end
section
variable {X : Cx} {pins : List (Addr × Obj)} {σ : L2.St} {H : Hp} {s : Shared} {p : Addr}
theorem pairs_keys : ∀ {kvs : List (Key × V)} {ps : List (Key × Value)} {es : List DictEntry}, KV kvs ps → Pairs (mixKind X.prog X.w) es ps → ReadsAll s.heap (es.map (·.key)) (kvs.map fun kv => keyD kv.1) [] ∧ Vals (kvs.map (·.2)) (es.map (·.val)) := by
  intro kvs ps es r q
  unfold KV at r
  induction r generalizing es with
  | nil =>
    cases q
    exact ⟨.nil, .nil⟩
  | @cons kv kp kvs ps h t ih =>
    cases q with
    | @cons e _ es2 _ h1 h2 h3 =>
      obtain ⟨i1, i2⟩ := ih h3
      obtain ⟨e1, e2⟩ := h
      refine ⟨?_, .cons (show L2.RelV kv.2 e.val by rw [h2]; exact e2) i2⟩
      have k : keyIs kp.1 _ = true := h1
      rcases keyIs_shape k with ⟨i, t, z1, z2⟩ | ⟨x, t, z1, z2⟩
      · have z3 : keyD kv.1 = .int i := by
          rw [e1, z1]
          rfl
        show ReadsAll s.heap (e.key :: es2.map (·.key)) (keyD kv.1 :: kvs.map fun kv => keyD kv.1) []
        rw [z2, z3]
        exact ReadsAll.cons (as := []) (bs := []) (.int i t) i1
      · have z3 : keyD kv.1 = .str x := by
          rw [e1, z1]
          rfl
        show ReadsAll s.heap (e.key :: es2.map (·.key)) (keyD kv.1 :: kvs.map fun kv => keyD kv.1) []
        rw [z2, z3]
        exact ReadsAll.cons (as := []) (bs := []) (.str x t) i1
mutual
theorem dz_reads (I : Inv X pins σ H s) : ∀ {v : V} {d : PyData}, Dz H p v d → ∀ {u : Value}, RelV v u → ∃ as, Reads s.heap u d as
  | _, _, .non, _, r => by
    cases r
    exact ⟨_, Reads.none⟩
  | _, _, .bl b, _, r => by
    cases r
    exact ⟨_, Reads.bool b⟩
  | _, _, .int i, _, r => by
    obtain ⟨t, rfl⟩ := r
    exact ⟨_, Reads.int i t⟩
  | _, _, .str x, _, r => by
    obtain ⟨t, rfl⟩ := r
    exact ⟨_, Reads.str x t⟩
  | _, _, .lst q _ a, _, r => by
    cases r
    obtain ⟨its, rv, ⟨o, n, ho, hc, _, hd⟩, _⟩ := I.list (SqL.of (K := X.K) q)
    obtain ⟨as, hr⟩ := dz_readsAll I a rv
    exact ⟨_, Reads.list ho hc hd hr⟩
  | _, _, .tup q a, _, r => by
    cases r
    obtain ⟨its, rv, ⟨o, ho, hc, n, hd⟩, _⟩ := I.tuple (SqT.of (K := X.K) q)
    obtain ⟨as, hr⟩ := dz_readsAll I a rv
    exact ⟨_, Reads.tuple ho hc hd hr⟩
  | _, _, .dict q a f, _, r => by
    cases r
    obtain ⟨_, _, ps, rk, o, es, ep, ho, hx, hd, _, hp, _⟩ := I.hok _ _ q
    obtain ⟨k1, k2⟩ := pairs_keys (X := X) (s := s) rk hp
    obtain ⟨as, hr⟩ := dz_readsAll I a k2
    have z := a.len
    have e1 : ∀ (ks ds : List PyData), ks.length = ds.length → (ks.zip ds).map (·.1) = ks := fun ks ds h => List.map_fst_zip (by omega)
    have e2 : ∀ (ks ds : List PyData), ks.length = ds.length → (ks.zip ds).map (·.2) = ds := fun ks ds h => List.map_snd_zip (by omega)
    rw [List.length_map] at z
    exact ⟨_, Reads.dict ho hx.1 hd (by rw [e1 _ _ (by rw [List.length_map]; exact z)]; exact k1) (by rw [e2 _ _ (by rw [List.length_map]; exact z)]; exact hr)⟩
theorem dz_readsAll (I : Inv X pins σ H s) : ∀ {vs : List V} {ds : List PyData}, DzAll H p vs ds → ∀ {us : List Value}, Vals vs us → ∃ as, ReadsAll s.heap us ds as
  | _, _, .nil, _, r => by
    cases r
    exact ⟨_, ReadsAll.nil⟩
  | _, _, .cons a b, _, r => by
    cases r with
    | cons r1 r2 =>
      obtain ⟨as, q1⟩ := dz_reads I a r1
      obtain ⟨bs, q2⟩ := dz_readsAll I b r2
      exact ⟨_, ReadsAll.cons q1 q2⟩
end
end
/-- shown in few signs; a dict only at the top -/
structure FineZ (d : PyData) : Prop where
  show_ : d.showable = true
  short : d.leavesShort 64 = true
  deep : d.depth ≤ 40
  bulk : d.bulk ≤ 10000
  dict : d.hasDict = true → ∃ kvs, d = .dict kvs ∧ flatAll (kvs.map (·.1)) = true ∧ flatAll (kvs.map (·.2)) = true
theorem reprZ {X : Cx} (hg : X.A.guards = some []) (hu : X.A.units + 64 < cLine) :
    CallR X (.builtin "repr") (fun xs H Q => ∃ p v d, xs = [v] ∧ Dz H p v d ∧ FineZ d ∧ Q (.str d.shown) H) := by
  intro pins s σ H xs us Q I r h
  obtain ⟨p, v, d, rfl, hd, fz, q⟩ := h
  obtain ⟨u, rfl, ru⟩ := vals1 r
  obtain ⟨as, rd⟩ := dz_reads I hd ru
  have hs := fz.show_
  have hdep := fz.deep
  have hsz := shown_fits fz.short fz.bulk
  cases hd with
  | non =>
    cases (show u = Value.none from ru)
    exact PySem.P.repr_of_none ⟨.str _, H, I.tok _, ⟨_, rfl⟩, q⟩
  | bl b =>
    cases (show u = Value.bool b from ru)
    exact PySem.P.repr_of_bool ⟨.str _, H, I.tok _, ⟨_, rfl⟩, q⟩
  | int i =>
    obtain ⟨t, rfl⟩ := (show ∃ t, u = Value.int i t from ru)
    exact PySem.P.repr_of_int (by simpa [PyData.showable] using hs) ⟨.str _, H, I.tok _, ⟨_, rfl⟩, q⟩
  | str x =>
    obtain ⟨t, rfl⟩ := (show ∃ t, u = Value.str x t from ru)
    exact PySem.P.repr_of_str ⟨.str _, H, I.tok _, ⟨_, rfl⟩, q⟩ hsz
  | lst hq _ ha =>
    cases (show u = Value.ref _ from ru)
    exact repr_of_reads' rd hs (fun z => by obtain ⟨_, e, _⟩ := fz.dict z; cases e) hg (by omega) (fun _ _ e => e) (fun h' u tk hk => ⟨.str _, H, I.kept hk, ⟨_, rfl⟩, q⟩) hsz
  | tup hq ha =>
    cases (show u = Value.ref _ from ru)
    exact repr_of_reads' rd hs (fun z => by obtain ⟨_, e, _⟩ := fz.dict z; cases e) hg (by omega) (fun _ _ e => e) (fun h' u tk hk => ⟨.str _, H, I.kept hk, ⟨_, rfl⟩, q⟩) hsz
  | dict hq ha hf =>
    cases (show u = Value.ref _ from ru)
    have ns := (I.hok _ _ hq).2.1
    refine repr_of_reads' rd hs (fun z => ?_) hg (by omega) (fun _ _ e => e) (fun h' u tk hk => ⟨.str _, H, I.kept hk, ⟨_, rfl⟩, q⟩) hsz
    obtain ⟨kvs, e, f1, f2⟩ := fz.dict z
    cases e
    cases rd with
    | dict _ _ _ r1 r2 =>
      rw [reads_flatAll r1 f1, reads_flatAll r2 f2]
      intro m
      simp only [List.append_nil, List.mem_singleton] at m
      rw [← m] at ns
      simp at ns
/-- each value is of a plain kind -/
theorem dz_known {K : PySem.W.Frag} {H : Hp} {p : Addr} {v : V} {d : PyData} (h : Dz H p v d) : Known K H v := by
  cases h with
  | non => exact ⟨"NoneType", .base .non, by decide⟩
  | bl b => exact ⟨"bool", .base (.bl b), by decide⟩
  | int i => exact ⟨"int", .base (.int i), by decide⟩
  | str x => exact ⟨"str", .base (.str x), by decide⟩
  | lst q _ _ => exact ⟨"list", .base (.lst q), by decide⟩
  | tup q _ => exact ⟨"tuple", .base (.tup q), by decide⟩
  | dict q _ _ => exact ⟨"dict", .base (.dK q), by decide⟩
theorem dza_known {K : PySem.W.Frag} {H : Hp} {p : Addr} : ∀ {vs : List V} {ds : List PyData}, DzAll H p vs ds → ∀ y ∈ vs, Known K H y
  | _, _, .nil, _, m => absurd m (by simp)
  | _, _, .cons a b, y, m => by
    rcases List.mem_cons.mp m with rfl | m
    · exact dz_known a
    · exact dza_known b y m
/-- a tuple of plain things, or a thing of another kind -/
theorem dz_cases {K : PySem.W.Frag} {H : Hp} {p : Addr} {v : V} {d : PyData} (h : Dz H p v d) :
    (∃ n, TyX K H v (.type n) ∧ n ∈ kinds ∧ n ≠ "tuple") ∨ ∃ (a : Addr) (xs : List V), v = .ref a ∧ H a = some (.tup xs) ∧ ∀ y ∈ xs, Known K H y := by
  cases h with
  | non => exact .inl ⟨"NoneType", .base .non, by decide, by decide⟩
  | bl b => exact .inl ⟨"bool", .base (.bl b), by decide, by decide⟩
  | int i => exact .inl ⟨"int", .base (.int i), by decide, by decide⟩
  | str x => exact .inl ⟨"str", .base (.str x), by decide, by decide⟩
  | lst q _ _ => exact .inl ⟨"list", .base (.lst q), by decide, by decide⟩
  | tup q a => exact .inr ⟨_, _, rfl, q, dza_known a⟩
  | dict q _ _ => exact .inl ⟨"dict", .base (.dK q), by decide, by decide⟩
/-! ### small data -/
theorem ble {a b : Nat} (h : Nat.ble a b = true) : a ≤ b := Nat.le_of_ble_eq_true h
def Sm (d : PyData) : Prop := d.showable = true ∧ d.leavesShort 64 = true
def SmAll (ds : List PyData) : Prop := PyData.showableAll ds = true ∧ PyData.leavesShortAll 64 ds = true
theorem sm_int {i : Int} (h : i.natAbs < 10 ^ 60) : Sm (.int i) := ⟨by show decide _ = true; exact decide_eq_true (leaf_show h), by show decide _ = true; exact decide_eq_true (leaf_short h)⟩
theorem sm_none : Sm .none := ⟨rfl, rfl⟩
theorem sm_bool (b : Bool) : Sm (.bool b) := ⟨rfl, rfl⟩
theorem sm_str {x : Str} (h : x.cps.toList.all (fun c => decide (c < 16 ^ 8)) = true) : Sm (.str x) := ⟨rfl, h⟩
theorem sm_nil : SmAll [] := ⟨rfl, rfl⟩
theorem sm_cons {d : PyData} {ds : List PyData} (h : Sm d) (t : SmAll ds) : SmAll (d :: ds) := ⟨by show (_ && _) = true; rw [h.1, t.1]; rfl, by show (_ && _) = true; rw [h.2, t.2]; rfl⟩
theorem sm_list {ds : List PyData} (h : SmAll ds) : Sm (.list ds) := h
theorem sm_tuple {ds : List PyData} (h : SmAll ds) : Sm (.tuple ds) := h
theorem sm_dict1 {k v : PyData} (hk : Sm k) (hv : Sm v) : Sm (.dict [(k, v)]) := ⟨by show (_ && _ && _) = true; rw [hk.1, hv.1]; rfl, by show (_ && _ && _) = true; rw [hk.2, hv.2]; rfl⟩
/-- without a dict -/
theorem fz_plain {d : PyData} (s : Sm d) (h1 : Nat.ble d.depth 40 = true) (h2 : Nat.ble d.bulk 10000 = true) (h3 : d.hasDict = false) : FineZ d := ⟨s.1, s.2, ble h1, ble h2, fun z => by rw [h3] at z; cases z⟩
theorem fz_dict {kvs : List (PyData × PyData)} (s : Sm (.dict kvs)) (h1 : Nat.ble (PyData.dict kvs).depth 40 = true) (h2 : Nat.ble (PyData.dict kvs).bulk 10000 = true) (h3 : flatAll (kvs.map (·.1)) = true) (h4 : flatAll (kvs.map (·.2)) = true) : FineZ (.dict kvs) :=
  ⟨s.1, s.2, ble h1, ble h2, fun _ => ⟨kvs, rfl, h3, h4⟩⟩
theorem Same.mut {H H1 : Hp} {p : Addr} {o : HO} (e : Same H H1) (h : H p = none) : Same H (upd H1 p o) := fun b u q => by
  rw [upd_ne (ne_of_none q h)]
  exact e b u q
/-- a thing: some data in few signs -/
def Thing (H : Hp) (p : Addr) (v : V) : Prop := ∃ d, Dz H p v d ∧ FineZ d
def spThing : Sp := fun vs H Q _ => ∃ p : Addr, vs = [.ref p] ∧ BagAt H p ∧ ∀ H' v, Grow p H H' → BagAt H' p → Thing H' p v → Q v H'
/-- the law's own look at parts: it makes a list on its way -/
def spLIsPart (K : PySem.W.Frag) : Sp := fun vs H Q _ => (∃ (x : V) (n : String), vs = [x] ∧ TyX K H x (.type n) ∧ n ∈ kinds ∧ n ≠ "tuple" ∧ ∀ H', Same H H' → Q (.bl false) H') ∨
  ∃ (a : Addr) (xs : List V), vs = [.ref a] ∧ H a = some (.tup xs) ∧ (∀ y ∈ xs, Known K H y) ∧ ∀ H', Same H H' → Q (.bl (tupPart xs)) H'
/-! ### a dict of one written pair -/
theorem pe_d1 {X : Cx} {pos : Pos} {ke ve : Expr} {key : Key} {v : V} (hk : PE X ke (tC (kV key))) (hv : PE X ve (tC v)) : PE X (.Dict [some ke] [ve] pos) (fun _ H Q => ∀ p, H p = none → Q (.ref p) (upd H p (.dK [(key, v)]))) := by
  refine ⟨fun pins s σ H Q I h => (pe_disp (pps_cons hk hv pps_nil) rfl rfl (by simp) (ble rfl)).run pins s σ H Q I fun p np => ?_⟩
  refine ⟨upd_same, [(key, v)], rfl, ble rfl, ?_⟩
  rw [upd_upd]
  exact h p np
theorem pe_d1t {X : Cx} {pos tpos : Pos} {kx : Nat} {ke : Expr} {es : List Expr} {key : Key} {xs : List V} {t : TA} (hk : PE X ke (tC (kV key))) (hv : PA X es t) (ht : ∀ σ H (Q : List V → Hp → Prop), Q xs H → t σ H Q) (hl : xs.length ≤ sizeLine) :
    PE X (.Dict [some ke] [.Tuple es kx tpos] pos) (fun _ H Q => ∀ q, H q = none → ∀ p, upd H q (.tup xs) p = none → Q (.ref p) (upd (upd H q (.tup xs)) p (.dK [(key, .ref q)]))) := by
  refine ⟨fun pins s σ H Q I h => (pe_disp (pps_cons hk (pe_tup hv) pps_nil) rfl rfl (by simp) (ble rfl)).run pins s σ H Q I fun p np => ?_⟩
  refine ht _ _ _ ⟨hl, fun q nq => ?_⟩
  have nqp : q ≠ p := fun e => by
    subst e
    rw [upd_same] at nq
    cases nq
  rw [upd_ne nqp] at nq
  refine ⟨by rw [upd_ne nqp.symm]; exact upd_same, [(key, .ref q)], rfl, ble rfl, ?_⟩
  have k := h q nq p (by rw [upd_ne nqp.symm]; exact np)
  have e : upd (upd (upd H p (.dK [])) q (.tup xs)) p (.dK (mergeK [] [(key, V.ref q)])) = upd (upd H q (.tup xs)) p (.dK [(key, .ref q)]) := by
    funext b
    by_cases h1 : b = p
    · subst h1
      rw [upd_same, upd_same]
      rfl
    · rw [upd_ne h1, upd_ne h1]
      by_cases h2 : b = q
      · subst h2
        rw [upd_same, upd_same]
      · rw [upd_ne h2, upd_ne h2, upd_ne h1]
  rw [e]
  exact k
theorem BagAt.new_of {H : Hp} {p a : Addr} {o : HO} (_ : BagAt H p) (_ : H a = some o) (h : a ≠ p) : a ≠ p := h
theorem tyx_same {K : PySem.W.Frag} {H H' : Hp} (s : Same H H') {y : V} {t : Value} (h : TyX K H y t) : TyX K H' y t := by
  cases h with
  | base b =>
    cases b with
    | non => exact .base .non
    | bl b => exact .base (.bl b)
    | int i => exact .base (.int i)
    | str x => exact .base (.str x)
    | flt x => exact .base (.flt x)
    | lst e => exact .base (.lst (s _ _ e))
    | frz e => exact .base (.frz (s _ _ e))
    | tup e => exact .base (.tup (s _ _ e))
    | dK e => exact .base (.dK (s _ _ e))
    | dT e => exact .base (.dT (s _ _ e))
    | ins e c h1 h2 h3 h4 => exact .base (.ins (s _ _ e) c h1 h2 h3 h4)
  | byt b => exact .byt b
  | set e => exact .set (s _ _ e)
  | kList e c => exact .kList e c
  | kTuple e c => exact .kTuple e c
  | kDict e c => exact .kDict e c
  | fTuple e => exact .fTuple (s _ _ e)
  | fDict e => exact .fDict (s _ _ e)
theorem tupPart_no {xs : List V} (h : xs.length ≠ 2) : tupPart xs = false := by
  match xs, h with
  | [], _ => rfl
  | [x], _ => cases x <;> rfl
  | x :: y :: z :: r, _ => cases x <;> cases y <;> rfl
  | [x, y], h => exact absurd rfl h
theorem tupPart_l {K : PySem.W.Frag} {H : Hp} {x y : V} {n : String} (t : TyX K H x (.type n)) (h : n ≠ "int") : tupPart [x, y] = false := by
  match x, t with
  | .int j, t => exact absurd (tyx_is t) h
  | .non, _ => rfl
  | .bl _, _ => rfl
  | .str _, _ => rfl
  | .byt _, _ => rfl
  | .flt _, _ => rfl
  | .ref _, _ => rfl
  | .ty _, _ => rfl
theorem tupPart_r {K : PySem.W.Frag} {H : Hp} {x y : V} {n : String} (t : TyX K H y (.type n)) (h : n ≠ "int") : tupPart [x, y] = false := by
  match y, t with
  | .int j, t => exact absurd (tyx_is t) h
  | .non, _ => cases x <;> rfl
  | .bl _, _ => cases x <;> rfl
  | .str _, _ => cases x <;> rfl
  | .byt _, _ => cases x <;> rfl
  | .flt _, _ => cases x <;> rfl
  | .ref _, _ => cases x <;> rfl
  | .ty _, _ => cases x <;> rfl
theorem kit_tuple {n : String} (hn : n ∈ kinds) (h : n ≠ "tuple") : kitB n "tuple" = some false := by
  simp only [kinds, List.mem_cons, List.not_mem_nil, or_false] at hn
  rcases hn with rfl | rfl | rfl | rfl | rfl | rfl | rfl
  · decide +kernel
  · decide +kernel
  · decide +kernel
  · decide +kernel
  · decide +kernel
  · exact absurd rfl h
  · decide +kernel
/-- a number's text -/
theorem sm_num {x : Int} : Sm (.str (Str.ofString (toString x))) := by
  refine sm_str (List.all_eq_true.mpr fun c hc => decide_eq_true ?_)
  rw [Str.ofString_eq_toList] at hc
  simp only [List.toList_toArray, List.mem_map] at hc
  obtain ⟨k, _, rfl⟩ := hc
  exact UInt32.toNat_lt k.val
theorem fz_num {x y : Int} (s : Sm (.tuple [.str (Str.ofString (toString x)), .int y])) (h : x.natAbs < 10 ^ 60) : FineZ (.tuple [.str (Str.ofString (toString x)), .int y]) := by
  refine ⟨s.1, s.2, ble rfl, ?_, fun z => by cases z⟩
  have e := int_text_length_le10 (k := 60) (by decide) h
  have e2 : (Str.ofString (toString x)).length = (toString x).length := PySem.ofString_length _
  show (Str.ofString (toString x)).cps.size + 1 + (0 + 1 + 0) ≤ 10000
  have e3 : (Str.ofString (toString x)).cps.size = (Str.ofString (toString x)).length := rfl
  omega
end Tp

set_option Elab.async false
set_option linter.all false
set_option maxRecDepth 100000
set_option maxHeartbeats 2000000
/-! own exceptions over any built-in base, with an __init__ that stores one field, `part` -/
namespace PySem
namespace XPart
open PySem.W PySem.Calls PyProof.Rows PySem.HandSPX
def iA (p1 p2 : Pos) : Arguments := { posonlyargs := [], args := [{ arg := "self", annotation := none, pos := p1 }, { arg := "part", annotation := none, pos := p2 }], vararg := none, kwonlyargs := [], kw_defaults := [], kwarg := none, defaults := [] }
def iB (q1 q2 q3 q4 : Pos) : List Stmt := [.Assign [.Attribute (.Name "self" q1) "part" q2] (.Name "part" q3) q4]
def iS : Scope := { kind := .function, names := [(PySem.Str.ofString "self", .local), (PySem.Str.ofString "part", .local)], isGenerator := false, isCoroutine := false, more := [] }
/-- what is asked of the chain of the base -/
structure Tail (bm : List Value) : Prop where
  pass : ∀ self : Value, refuseLoop self "__setattr__" bm = pure ()
  ob : bm.contains (.type "object") = true
theorem tail_AE : Tail [.type "ArithmeticError", .type "Exception", .type "BaseException", .type "object"] := ⟨fun self => by kernel_rfl, by decide +kernel⟩
theorem tail_OE : Tail [.type "OverflowError", .type "ArithmeticError", .type "Exception", .type "BaseException", .type "object"] := ⟨fun self => by kernel_rfl, by decide +kernel⟩
section
open Builtin Builtin.ObjectAttr
variable {prog : Program} {w : World} {A : Around} {E : Value → Shared → Prop} {R : Result → Shared → Prop} {hp : Heap} {g : Array GenState} {d : Drawn} {t : Nat} {os : OsState}
theorem osa_first {K : W.Frag} {name : Str} {tk : Tok} {v : Value} {x C : Addr} {fv : Array Value} {cd : ClassData} {bm : List Value}
    (X : K.In hp) (hx : hp.get? x = some { cls := .ref C, data := .fields fv }) (hcd : W.clsIn K C = some cd) (hm : cd.mro = .ref C :: bm) (T : Tail bm) (hh : cd.hasDict = true) (ha : W.findIn K (.ref C) name = some none)
    (hq : ∀ h' tk' dx, (∀ b o, b ≠ x → hp.get? b = some o → h'.get? b = some o) → hp.objs.size ≤ dx → dx ≠ x → h'.get? x = some { cls := .ref C, dict := some dx, data := .fields fv } →
      h'.Ns1 dx (fun y => if y = name then some v else none) → R (.ok (.ret .none)) ⟨h', g, d, tk', os⟩) :
    codeAny (model prog w) A (.call (.builtin "object.__setattr__") ⟨[.ref x, .str name tk, v], []⟩) R ⟨hp, g, d, t, os⟩ := by
  have I : W.InstAt hp x { cls := .ref C, data := .fields fv } C none := ⟨hx, rfl, rfl, trivial⟩
  have SF := F.store_object
  have ne : cd.mro.isEmpty = false := by rw [hm]; rfl
  have hob : cd.mro.contains (.type "object") = true := by rw [hm, List.contains_cons, T.ob, Bool.or_true]
  have hpass : refuseLoop (.ref x) "__setattr__" cd.mro = pure () := by rw [hm, refuseLoop_ref]; exact T.pass _
  have hxs : x ≠ hp.objs.size := Nat.ne_of_lt (Heap.lt_size hx)
  have sub : W.Looks (model prog w) hp (isInstance (.ref x) (.type "object")) true := I.type.andThen (W.looks_mroIn X (by unfold W.mroIn; rw [hcd, Option.bind_some, if_neg (by rw [ne]; decide), hob]))
  refine codeAny_call_builtin SF.slot.plain SF.entry (@W.check_slot (model prog w) _ _ ⟨hp, g, d, t, os⟩ "object.__setattr__" "object" "__setattr__" (.ref x) [.str name tk, v] [] _ SF.kind SF.split sub (SF.args (.ref x) (.str name tk) v) ?_)
  have hmr : W.Looks (model prog w) hp (mroOf (.ref C)) cd.mro := (W.looks_clsIn X hcd).andThen .now
  have L3 : W.Looks (model prog w) hp (storeTaker? none) none := .now
  have hcls : W.Looks (model prog w) hp (classData C) cd := W.looks_clsIn X hcd
  rw [W.osa_eq, refuse_eq]
  refine wpAny_bind (wpAny_bind (I.type.at (wpAny_bind (hmr.at ?_))))
  rw [hpass]
  refine wpAny_pure (wpAny_bind (I.type.at (wpAny_bind ((W.looks_findIn X ha).at (wpAny_bind (L3.at ?_))))))
  show wpAny _ _ (storeInOwnDict (.ref x) (.ref C) (.str name tk) name v false) _ _ _
  clear hpass ne hob hm
  obtain ⟨nm, bs, mro, ns, qn, hd, sn, sb, ab, col, del⟩ := cd
  dsimp only at hh
  subst hh
  unfold storeInOwnDict ownDictForStores
  repeat (first | with_reducible refine store_in_new ?_ ?_ | with_reducible refine wpAny_loadPart_at hx ?_ | with_reducible refine hcls.at ?_ | wp_step)
  · exact ⟨_, #[], _, (Heap.get?_update_ne _ _ _ _ hxs.symm).trans (Heap.get?_push_at rfl rfl), rfl, fun e he => absurd he (by simp), fun _ => rfl⟩
  · intro h' tk' hn' hs
    have hx₁ : (hp.push { cls := .type "dict", data := .dict #[] }).get? x = some { cls := .ref C, data := .fields fv } := Heap.get?_push_of_some _ hx
    refine hq h' tk' hp.objs.size (fun b o hb ho => ?_) (Nat.le_refl _) hxs.symm ?_ hn'
    · exact (hs.2 b (Nat.ne_of_lt (Heap.lt_size ho))).trans ((Heap.get?_update_ne _ _ _ _ hb).trans (Heap.get?_push_of_some _ ho))
    · exact (hs.2 x hxs).trans (Heap.get?_update_self _ hx₁ rfl)
end
/-- what the written part says of the class cn, at C, and of its __init__, at fI -/
structure Txt (K : Frag) (mg : Str → Option Value) (cn qi : Str) (B newId initId : String) (bm : List Value) (C fI : Addr) : Prop where
  gC : mg cn = some (.ref C)
  base : ExcBaseFacts B newId initId bm
  tail : Tail bm
  cls : ∃ nm q N bs sn sub ab col dd k0 k1 k2 k3 k5, K.lookup C = some (excClassObj nm q C N bs bm true sn sub ab col dd k0 k1 k2 k3 k5 newId)
  sa : findIn K (.ref C) "__setattr__" = some (some (.builtin "object.__setattr__"))
  ga : findIn K (.ref C) "__getattribute__" = some (some (.builtin "BaseException.__getattribute__"))
  gg : findIn K (.ref C) "__getattr__" = some none
  noN : findIn K (.ref C) "part" = some none
  iC : findIn K (.ref C) "__init__" = some (some (.ref fI))
  tC : typeIn K (.ref fI) = some (.type "function")
  kC : keepIn K (.ref C) = true
  exC : subIn K (.ref C) (.type "BaseException") = some true
  tyC : typeIn K (.ref C) = some (.type "type")
  hdC : hasDictIn K C = true
  te : exmOne K (.ref C) (.ref C) = some true
  fn : ∃ (oc : Value) (od : Option Addr) (doc pm : Value) (an : Option Addr) (cdv ct : Value) (osl : Array (Option Value)) (p1 p2 q1 q2 q3 q4 : Pos),
    K.lookup fI = some ⟨oc, od, .func (fnOf "__init__" qi (iA p1 p2) (iB q1 q2 q3 q4) iS .none .none doc pm an cdv ct), osl⟩ ∧ codeIn K cdv qi = true
theorem one_size (v : Value) : [v].length ≤ sizeLine := by
  rw [sizeLine_eq]
  exact (by decide : 1 ≤ 16777216)
theorem ldC {M : Model} {s : Shared} {name : Str} {scope : Scope} {L a : Addr} {cd : Value} {m : Str → Option Value} {x : Str} {pos : Pos} {v : Value} {Q : Value → Shared → Prop} {A : Around} {E : Value → Shared → Prop} (hn : s.heap.Ns L m) (hv : m x = some v) (h : Q v s)
    (hk : scope.kind = .function := by rfl) (hl : (envOfC name scope L a cd).kindOf x = some .local := by rfl) (hd : (x == ("__debug__" : Str)) = false := by decide) :
    wpAny M A (eval (.Name x pos) (envOfC name scope L a cd)) Q E s := wpAny_Name (wpAny_loadName_local hk hl hn hv h) hd
structure InitEnd (h h' : Heap) (x C dx t1 : Addr) (v : Value) : Prop where
  keep : ∀ b o, b ≠ x → h.get? b = some o → h'.get? b = some o
  obj : h'.get? x = some { cls := .ref C, dict := some dx, data := .fields #[.ref t1, .none, .none, .none, .bool false, .none] }
  dbig : h.objs.size ≤ dx
  dne : dx ≠ x
  ns : h'.Ns1 dx (fun y => if y = "part" then some v else none)
structure OwnMade (h h' : Heap) (e C d : Addr) (v : Value) : Prop where
  keep : ∀ b o, h.get? b = some o → h'.get? b = some o
  new : h.objs.size ≤ e
  obj : ∃ oe vs, h'.get? e = some oe ∧ oe.cls = .ref C ∧ oe.dict = some d ∧ oe.data = .fields vs ∧ vs[1]? = some .none
  dbig : h.objs.size ≤ d
  dne : d ≠ e
  ns : h'.Ns1 d (fun y => if y = "part" then some v else none)
section
variable {prog : Program} {w : World} {A : Around} {E : Value → Shared → Prop} {R : Result → Shared → Prop} {s : Shared} {K : Frag} {mg : Str → Option Value} {C fI : Addr} {cn qi : Str} {B newId initId : String} {bm : List Value}
theorem x_init (T : Txt K mg cn qi B newId initId bm C fI) {x t0 : Addr} {v : Value} (X : K.In s.heap) (hlim : s.heap.NoLimit) (hx : s.heap.get? x = some (excO C t0)) (hnx : K.lookup x = none) (hroom : A.depth < recursionLimit)
    (hq : ∀ h' tk dx, InitEnd s.heap h' x C dx t0 v → R (.ok (.ret .none)) { s with heap := h', toks := tk }) :
    codeAny (model prog w) A (.call (.ref fI) ⟨[.ref x, v], []⟩) R s := by
  obtain ⟨oc, od, doc, pm, an, cdv, ct, osl, p1, p2, q1, q2, q3, q4, ho, hcd⟩ := T.fn
  obtain ⟨nm, q, N, bs, sn, sub, ab, col, dd, k0, k1, k2, k3, k5, hC⟩ := T.cls
  have hcl : clsIn K C = some { name := nm, bases := bs, mro := .ref C :: bm, ns := N, qualname := q, hasDict := true, slotNames := sn, subclasses := sub, abstract := ab, collection := col, hasDel := false } := by unfold clsIn; rw [hC] <;> rfl
  refine Att.call_fn (binds := [("self", .ref x), ("part", v)]) X hlim ho hcd hroom (BindsTo.of_eq (by first | rfl | with_unfolding_all rfl)) (by first | rfl | decide | with_unfolding_all rfl) (fun s₁ IC => ?_) rfl rfl rfl
  obtain ⟨h₁, tk₁, rfl⟩ := IC.toInCall.same
  have k : ∀ b o, s.heap.get? b = some o → h₁.get? b = some o := IC.toInCall.keep
  have hn := IC.toInCall.ns
  have hxL : s.heap.objs.size ≠ x := Nat.ne_of_gt (Heap.lt_size hx)
  have X₁ : K.In h₁ := X.keeps k
  have hx₁ := k _ _ hx
  show wpAny _ _ (execs _ _) _ _ _
  refine wpAny_execs_cons (plainObj_wpAny_Assign_Attribute ?_)
  refine ldC (v := v) hn (by first | rfl | with_unfolding_all rfl | kernel_rfl) (ldC (v := .ref x) hn (by first | rfl | with_unfolding_all rfl | kernel_rfl) ?_)
  refine set_plain X₁ (ox := excO C t0) (od := none) ⟨hx₁, rfl, rfl, trivial⟩ T.sa ?_
  refine osa_first X₁ hx₁ hcl rfl T.tail rfl T.noN (fun h₃ tk₃ dx k₃ dn dne hx₃ hn₃ => ?_)
  show wpAny _ _ (execs _ _) _ _ _
  have z : s.heap.objs.size < h₁.objs.size := hn.lt
  exact wpAny_execs_nil (hq h₃ tk₃ dx ⟨fun b o hb e => k₃ b o hb (k b o e), hx₃, Nat.le_of_lt (Nat.lt_of_lt_of_le z dn), dne, hn₃⟩)
theorem x_made (T : Txt K mg cn qi B newId initId bm C fI) {v : Value} (X : K.In s.heap) (hlim : s.heap.NoLimit) (hroom : A.depth + 1 < recursionLimit)
    (hq : ∀ h' tk e d, OwnMade s.heap h' e C d v → R (.ok (.ret (.ref e))) { s with heap := h', toks := tk }) :
    codeAny (model prog w) A (.call (.ref C) ⟨[v], []⟩) R s := by
  obtain ⟨nm, q, N, bs, sn, sub, ab, col, dd, k0, k1, k2, k3, k5, hC⟩ := T.cls
  obtain ⟨hp, g, dr, tk, os⟩ := s
  have k : ∀ b o, hp.get? b = some o → ((hp.push (kdv_tup [v])).push (excO C hp.objs.size)).get? b = some o := fun b o e => Heap.get?_push_of_some _ (Heap.get?_push_of_some _ e)
  have hget : ((hp.push (kdv_tup [v])).push (excO C hp.objs.size)).get? (hp.objs.size + 1) = some (excO C hp.objs.size) := by heap_get
  have hnx : K.lookup (hp.objs.size + 1) = none := by
    cases e : K.lookup (hp.objs.size + 1) with
    | none => rfl
    | some o =>
      have z : hp.get? (hp.objs.size + 1) = some o := X _ _ e
      exact absurd (Nat.lt_of_succ_lt (Heap.lt_size z)) (Nat.lt_irrefl _)
  refine call_own T.base (fun X => rfl) (X _ _ hC) (looks_findIn X T.iC) (fun self => bind_fn X self T.tC) (one_size v) ?_
  refine x_init (s := ⟨(hp.push (kdv_tup [v])).push (excO C hp.objs.size), g, dr, tk, os⟩) T (X.keeps k) (hlim.keeps k) hget hnx ?_ fun h' tk' dx ⟨k', hx, dn, dne, hns⟩ => ?_
  · show A.depth + 1 < recursionLimit
    exact hroom
  · have old : ∀ b o, hp.get? b = some o → h'.get? b = some o := fun b o e => k' b o (Nat.ne_of_lt (Nat.lt_succ_of_lt (Heap.lt_size e))) (k b o e)
    have z : hp.objs.size + 1 + 1 ≤ dx := by
      first
        | (simpa only [Heap.size_push] using dn)
        | exact dn
        | (have q := dn; rw [Heap.size_push, Heap.size_push] at q; exact q)
    exact ⟨rfl, hq h' tk' (hp.objs.size + 1) dx ⟨old, Nat.le_succ _, ⟨_, _, hx, rfl, rfl, rfl, rfl⟩, Nat.le_trans (Nat.le_trans (Nat.le_succ _) (Nat.le_succ _)) z, dne, hns⟩⟩
end
end XPart
end PySem
namespace Tp
open PySem PySem.Spec PyProof.Rows L2
theorem relO_part {v : V} {v' : Value} (r : RelV v v') (f : Str) : RelO (List.lookup f [(("part" : Str), v)]) (if f = "part" then some v' else none) := by
  by_cases hw : f = "part"
  · subst hw
    rw [if_pos rfl]
    have q : List.lookup ("part" : Str) [(("part" : Str), v)] = some v := by simp [List.lookup]
    rw [q]
    exact r
  · rw [if_neg hw]
    have qw : (f == ("part" : Str)) = false := by simpa using hw
    have q2 : List.lookup f [(("part" : Str), v)] = none := by simp [List.lookup, qw]
    rw [q2]
    trivial
abbrev xPart (v : V) : HO := .xd [(("part" : Str), v)]
section
variable {X : Cx} {C fI : Addr} {cn qi : Str} {B newId initId : String} {bm : List Value}
/-- C(e) -/
def tMkX (C : Addr) (ta : TA) : L2.St → Hp → XK → Prop := fun σ H Q => ta σ H fun vs H1 => ∃ v, vs = [v] ∧ ∀ d, H1 d = none → Q (.ref C) (some d) (upd H1 d (xPart v))
theorem pmk_x {a : Expr} {ta : TA} {p pos : Pos} {k : Nat} (T : PySem.XPart.Txt X.K X.mg cn qi B newId initId bm C fI) (hr : Room k X.A) (h1k : 1 ≤ k) (ha : PA X [a] ta) (hg : Gl X cn) (hdb : (cn == ("__debug__" : Str)) = false)
    (he : starEach (a :: []) X.env = (false, eval a X.env) :: starEach [] X.env := by rfl) (hpl : (backTo pos (starEach [] X.env)).any (·.1) = false := by rfl) :
    PMk X (.Call (.Name cn p) [a] [] pos) (tMkX C ta) := by
  intro pins s σ H Q I h
  refine wpAny_Call_Name_kw (ld_glob I hg T.gC ?_ hdb)
  refine PySem.W.callWith_K (h₀ := X.base) I.ok.mod.kin T.kC (thn (ha.run pos pins s σ H _ I h) fun us s1 hh => ?_) he hpl
  obtain ⟨vs, H1, I1, r1, v, ev, q1⟩ := hh
  subst ev
  refine ⟨I1.kIn, ?_⟩
  cases r1 with
  | cons rv rn =>
    rename_i v' us'
    cases rn
    show wpAny _ _ (call (.ref C) [v']) _ _ _
    have hlim := I1.nolimit
    obtain ⟨hp, g, dr, tk, os⟩ := s1
    refine wpAny_call (PySem.XPart.x_made T I1.kIn hlim (by have := hr.dp; omega) fun h' tk' e d M => ?_)
    show MkP X pins σ Q (.ref e) ⟨h', g, dr, tk', os⟩
    obtain ⟨oe, fv, hoe, hc, hd, hdat, h1⟩ := M.obj
    have hns := M.ns
    obtain ⟨G', g1, g2⟩ := restrict h' fun b => decide (b ≠ e)
    have gk : ∀ b, b ≠ e → G'.get? b = h'.get? b := fun b hb => g1 b (decide_eq_true hb)
    have ge : G'.get? e = none := g2 e (by simp)
    have old : ∀ b o, hp.get? b = some o → G'.get? b = some o := fun b o q => (gk b (Nat.ne_of_lt (Nat.lt_of_lt_of_le (Heap.lt_size q) M.new))).trans (M.keep b o q)
    have ob : ObjOk X.prog X.w (upd H1 d (xPart v)) G' d (xPart v) :=
      ⟨_, hns.at (fun o q => (gk d M.dne).trans q), fun f => relO_part rv f⟩
    have J : Inv X pins σ (upd H1 d (xPart v)) ⟨G', g, dr, tk', os⟩ := I1.laid (t' := tk') old M.dbig ob
    refine ⟨e, oe, fv, ⟨G', g, dr, tk', os⟩, _, .ref C, some d, rfl, J, fun b o q => ?_, ge, hoe, ⟨hc, hd⟩, hdat, h1, ?_, rfl, I1.bare, raises_own T.exC T.tyC, q1 d (I1.hok.fresh M.dbig)⟩
    · by_cases hb : b = e
      · have q' : G'.get? b = some o := q
        rw [hb, ge] at q'; cases q'
      · exact (gk b hb).symm.trans q
    · rw [upd_ne (Ne.symm M.dne)]
      exact I1.hok.fresh M.new
/-- raise C(e) -/
def tRaiseX (C : Addr) (W : WX) (ta : TA) : TS := fun _ σ H => tMkX C ta σ H fun cls d H' => W cls d σ H'
theorem ps_raiseX {a : Expr} {ta : TA} {W : WX} {p pos pos2 : Pos} {k : Nat} (hc : X.calm = true) (T : PySem.XPart.Txt X.K X.mg cn qi B newId initId bm C fI) (hr : Room k X.A) (h1k : 1 ≤ k) (tk : Takes X W) (ha : PA X [a] ta) (hg : Gl X cn) (hdb : (cn == ("__debug__" : Str)) = false)
    (he : starEach (a :: []) X.env = (false, eval a X.env) :: starEach [] X.env := by rfl) (hpl : (backTo pos (starEach [] X.env)).any (·.1) = false := by rfl) :
    PS X (.Raise (some (.Call (.Name cn p) [a] [] pos)) none pos2) (tRaiseX C W ta) := ps_raise hc tk (pmk_x T hr h1k ha hg hdb he hpl)
theorem xfC_of {K : PySem.W.Frag} {mg : Str → Option Value} (T : PySem.XPart.Txt K mg cn qi B newId initId bm C fI) : XfC K C := ⟨T.ga, T.gg, T.exC, T.hdC⟩
end
end Tp

set_option Elab.async false
set_option linter.all false
set_option maxRecDepth 100000
set_option maxHeartbeats 2000000
/-! several clauses, each with a name -/
namespace Tp
open PySem PySem.Spec PyProof.Rows L2
structure Cl where
  c : Value
  i : Nat
  ts : Addr → Value → Option Addr → TS
/-- where an exception ends that no clause names: Wout; else the clause's suite, its name in slot i, gone behind it -/
def wAsM (K : PySem.W.Frag) (Wout : WX) (D : Ends) : List Cl → WX
  | [] => Wout
  | k :: r => fun cls d σ H => ∃ b, PySem.W.exmOne K cls k.c = some b ∧
      (b = true → ∀ a, H a = none → k.ts a cls d { nx := fun σ' H' => D.nx (σ'.set k.i none) H', rt := D.rt, bk := fun σ' H' => D.bk (σ'.set k.i none) H', ct := fun σ' H' => D.ct (σ'.set k.i none) H' } (σ.set k.i (some (.ref a))) H) ∧
      (b = false → wAsM K Wout D r cls d σ H)
inductive HdsAs (X : Cx) : List ExceptHandler → List Cl → Prop
  | nil : HdsAs X [] []
  | cons {x n : Str} {k : Cl} {b₀ : Stmt} {suite : List Stmt} {np pos' : Pos} {hds : List ExceptHandler} {l : List Cl} (hi : X.N[k.i]? = some n) (hln : X.env.kindOf n = some .local) (hc : Names X x k.c)
      (hsu : ∀ (a : Addr) (oe : Obj) (cls : Value) (d : Option Addr) (pn : List (Addr × Obj)), Zc cls d oe → (∃ vs, oe.data = .fields vs) → PSs (X.suite a ((a, oe) :: pn)) (b₀ :: suite) (k.ts a cls d)) (r : HdsAs X hds l) :
      HdsAs X (.ExceptHandler (some (.Name x np)) (some n) (b₀ :: suite) pos' :: hds) (k :: l)
section
variable {X : Cx} {body : List Stmt} {h₀ : ExceptHandler} {hds : List ExceptHandler} {l : List Cl} {pos : Pos} {tb : WX → TS} {Wout : WX}
theorem ps_try_asm (hs : X.stack = X.env :: X.outer) (hf : X.env.frame = some X.env.locals) (hN : X.N.Nodup) (tk : Takes X Wout)
    (hb : ∀ (W : WX) (pn : List (Addr × Obj)) (xe : Value → Shared → Prop), Takes (X.tr pn xe) W → PassesOwn (model X.prog X.w) X.A X.env xe → PSs (X.tr pn xe) body (tb W))
    (hh : HdsAs X (h₀ :: hds) l) : PS X (.Try body (h₀ :: hds) [] [] pos) (fun D σ H => tb (wAsM X.K Wout D l) D σ H) := by
  refine ⟨fun pins s σ H D I h => ?_⟩
  have ok := I.ok
  have hfr : X.A.frames = some (X.env :: X.outer) := by rw [ok.frames, hs]
  refine wpAny_Try_except ?_
  refine wpAny_mono ((hb (wAsM X.K Wout D l) (X.pn ++ pins) (fun e s₁ => wpAny (model X.prog X.w) X.A (noteFrame e X.env) (fun _ s₂ => wpAny (model X.prog X.w) X.A (setFlight e none) (fun _ s₃ =>
    wpAny (model X.prog X.w) X.A (handleBy e X.env (h₀ :: hds)) (SP X pins D) X.xe s₃) X.xe s₂) X.xe s₁) (fun u s' xx => ?_) PassesOwn.looking).run [] s σ H D (I.toTry _) h) (fun f s1 hsp => ?_) (fun e s1 he => he)
  · -- the catch
    obtain ⟨a, B, sI, pins', σ', H', cls, d, rfl, J', nb, up, sky, na, os, ag, w⟩ := xx
    have J : Inv X pins σ' H' sI := J'.ofTry ok
    have sky' : Sky B (X.env :: X.outer) a (Zc cls d) X.env.locals s'.heap := by rw [← hs]; exact sky
    show wpAny (model X.prog X.w) X.A (noteFrame (.ref a) X.env) _ _ _
    refine Sky.land Zc.steady hfr hf sky' fun h3 fl3 up3 => ?_
    have J3 : Inv X pins σ' H' { s' with heap := h3 } := J.landed nb fl3.1 (up.trans up3) os ag
    obtain ⟨oe3, vs3, he3, hz3, hd3⟩ := fl3.there
    have notFr : ∀ {h : Heap} {o : Obj} {vs : Array Value}, h.FunFrames B (X.env :: X.outer) → h.get? a = some o → o.data = .fields vs → a ∉ frs (X.env :: X.outer) := fun {h o vs} ff e dd hm => by
      obtain ⟨_, o', e', hnf⟩ := ff.mem hm
      rw [e] at e'; cases e'
      exact hnf _ dd
    have nfr := notFr fl3.2.2.1 he3 hd3
    have nL : a ≠ X.env.locals := fun z => nfr (List.mem_filterMap.mpr ⟨X.env, List.mem_cons_self, by rw [hf, z]⟩)
    have nF : a ∉ X.fs := fun hm => by
      obtain ⟨e, he, q⟩ := List.mem_filterMap.mp hm
      exact nfr (List.mem_filterMap.mpr ⟨e, List.mem_cons_of_mem _ he, q⟩)
    have S3 := J3.suite he3 hd3 na nL nF
    have go : ∀ {hds' : List ExceptHandler} {l' : List Cl}, HdsAs X hds' l' → wAsM X.K Wout D l' cls d σ' H' →
        wpAny (model X.prog X.w) X.A (handleBy (.ref a) X.env hds') (SP X pins D) X.xe { s' with heap := h3 } := by
      intro hds' l' hk
      induction hk with
      | nil =>
        intro w
        refine wpAny_handleBy_nil ?_
        obtain ⟨k1, k2, k3, oe, vs, T, oT, ts', he, hz, hd, h1, hr⟩ := id fl3
        unfold PySem.passOn
        refine wpAny_bind (wpAny_field he hd h1 ?_)
        rw [if_neg (show ¬ ((Value.ref T == Value.none) = true) from by simp)]
        have fin : wpAny (model X.prog X.w) X.A (setFlight (.ref a) X.env.frame) (fun _ s4 => wpAny (model X.prog X.w) X.A (throw (.ref a) : Sem Flow) (SP X pins D) X.xe s4) X.xe { s' with heap := h3 } := by
          rw [hf]
          refine HandSPX.setFlight_upZ fl3 fun h4 hh4 up4 => wpAny_throw (tk _ _ ?_)
          exact ⟨a, B, sI, pins, σ', H', cls, d, rfl, J, nb, (up.trans up3).trans up4, .inr (.inr (by rw [hs]; exact hh4)), na, os, ag, w⟩
        first
          | exact wpAny_bind (wpAny_pure (wpAny_bind fin))
          | exact wpAny_bind fin
      | @cons x n k b₀ suite np pos' hds2 l2 hi hln hc hsu r ih =>
        intro w
        obtain ⟨b, hb1, hyes, hno⟩ := w
        have hloc : Loc X.env.scope n := .inl hln
        refine wpAny_handleBy_cons (codeAny_handlers_test ?_) (by intro q; cases q)
        have LT : PySem.W.Looks (model X.prog X.w) h3 (typeOf (.ref a)) cls := fun A Q E s k q => wpAny_typeOf_ref (k _ _ he3) (by rw [hz3.1]; exact q)
        have LM := PySem.W.exm_one (M := model X.prog X.w) (J3.kIn) LT hb1
        have test : ∀ {Q : Value → Shared → Prop} {E : Value → Shared → Prop}, Q k.c { s' with heap := h3 } → wpAny (model X.prog X.w) (X.A.mark (some (.ref a))) (eval (.Name x np) X.env) Q E { s' with heap := h3 } := fun {Q E} q => by
          obtain ⟨hg, hdbg, hm | ⟨hm, hv, hnn⟩⟩ := hc
          · exact ld_glob (X := X.suite a ((a, oe3) :: (X.pn ++ pins))) S3 hg hm q hdbg
          · exact ld_blt (X := X.suite a ((a, oe3) :: (X.pn ++ pins))) S3 hg hm hv q hnn hdbg
        refine test (LM.here ?_)
        cases b with
        | true =>
          refine codeAny_handlers_suite_as ?_
          refine HandSPX.lands_againZ fl3 fun h4 fl4 up4 => ?_
          have J4 : Inv X pins σ' H' { s' with heap := h4 } := J.landed nb fl4.1 ((up.trans up3).trans up4) os ag
          obtain ⟨oe4, vs4, he4, hz4, hd4⟩ := fl4.there
          have S4 := J4.suite he4 hd4 na nL nF
          refine store_ok (X := X.suite a ((a, oe4) :: (X.pn ++ pins))) (v := .ref a) S4 hN hi hloc rfl (fun s5 S5 => ?_) (.inr hln)
          refine wpAny_mono ((hsu a oe4 cls d (X.pn ++ pins) hz4 ⟨_, hd4⟩).run [] s5 _ H' _ S5 (hyes rfl a na)) (fun f s6 hsp => ?_) (fun _ _ z => False.elim z)
          have end_ : ∀ {σ6 : L2.St} {H6 : Hp} {Q : Shared → Prop}, Inv (X.suite a ((a, oe4) :: (X.pn ++ pins))) [] σ6 H6 s6 → (∀ s7, Inv X pins (σ6.set k.i none) H6 s7 → Q s7) →
              wpAny (model X.prog X.w) X.A (do bindName X.env n .none; unbindBehindTheSuite X.env n pos') (fun _ s7 => Q s7) X.xe s6 := fun {σ6 H6 Q} S6 hq => gone_ok (S6.unsuite ok) hN hi hln hq
          cases f with
          | next =>
            obtain ⟨σ6, H6, S6, q6⟩ := hsp
            exact end_ S6 fun s7 J7 => ⟨_, _, J7, q6⟩
          | brk =>
            obtain ⟨σ6, H6, S6, q6⟩ := hsp
            exact end_ S6 fun s7 J7 => ⟨_, _, J7, q6⟩
          | cont =>
            obtain ⟨σ6, H6, S6, q6⟩ := hsp
            exact end_ S6 fun s7 J7 => ⟨_, _, J7, q6⟩
          | ret u =>
            obtain ⟨v6, σ6, H6, S6, r6, q6⟩ := hsp
            exact end_ S6 fun s7 J7 => ⟨_, _, _, J7, r6, q6⟩
        | false =>
          show wpAny _ X.A (handleBy (.ref a) X.env hds2) _ _ _
          exact ih (hno rfl)
    exact go hh w
  · cases f with
    | next =>
      obtain ⟨σ', H', J', q⟩ := hsp
      exact wpAny_execs_nil ⟨σ', H', J'.ofTry ok, q⟩
    | brk =>
      obtain ⟨σ', H', J', q⟩ := hsp
      exact ⟨σ', H', J'.ofTry ok, q⟩
    | cont =>
      obtain ⟨σ', H', J', q⟩ := hsp
      exact ⟨σ', H', J'.ofTry ok, q⟩
    | ret u =>
      obtain ⟨v, σ', H', J', r, q⟩ := hsp
      exact ⟨v, σ', H', J'.ofTry ok, r, q⟩
end
end Tp

set_option Elab.async false
set_option linter.all false
set_option maxRecDepth 100000
set_option maxHeartbeats 2000000
namespace Tp
open PySem PySem.Spec PyProof.Rows L2 LamX
/-! ### a law that makes lambdas: the table of its code object, empty at first, is known at Pt -/
noncomputable def tabHp (K : PySem.W.Frag) (a Pt : Addr) (ob : Obj) (xs : List V) : Hp := fun b => if b = Pt then some (.tbl #[]) else scriptHp K a ob xs b
theorem law_atT {P : Program} {w : World} {K : PySem.W.Frag} {mg mb : Str → Option Value} {CX : CXT} {fa a c Pt : Addr} {fd : FuncData} {x : Str} {sp : Sp} {s1 : Shared} {vs : List Value} {ns : List Int}
    (KX : K.In s1.heap) (hns : s1.heap.Ns mainGlobals mg) (hb : s1.heap.Ns builtinsNs mb) (hbb : ∀ y : Str, y ≠ "__name__" → mb y = bootBuiltins y) (hlim : s1.heap.NoLimit) (hg : s1.gens = #[])
    (hT : s1.heap.get? Pt = some { cls := .none, data := .fields #[] }) (nT : K.lookup Pt = none) (hC : PySem.W.CodeHd s1.heap c Pt)
    (hbm : ∃ (bm : Addr) (ob : Obj), mg "__builtins__" = some (.ref bm) ∧ bm ≠ builtinsNs ∧ s1.heap.get? bm = some ob ∧ ob.cls = .type "module" ∧ ob.dict = some builtinsNs ∧ ob.data = .plain)
    (ha : s1.heap.get? a = some { cls := .type "list", data := .seq vs.toArray }) (hi : IntsAre vs ns) (hl : ns.length ≤ sizeLine)
    (F : ∀ base : Heap, K.In base → base.Ns mainGlobals mg → TabB base mg c Pt → AtC P w K mg base CX fa fd x sp) (hbind : ∀ (s : Shared) (u : Value), BindsTo s fd ⟨[u], []⟩ [(x, u)])
    (hsp : ∀ H : Hp, H Pt = some (.tbl #[]) → (∀ b o, H b = some o → b = Pt ∨ ∀ ps, o ≠ .tbl ps) → SqL K H a (ns.map V.int) → sp [.ref a] H (fun v _ => v = .bl true) fun _ _ _ => False)
    (hCX : ∀ H e s', CX [] H s1 (fun _ _ _ => False) e s' → False) :
    codeAny (model P w) callerA (.call (.ref fa) ⟨[.ref a], []⟩) (fun r s' => r = .ok (.ret (.bool true)) ∧ OldK s1.heap s'.heap ∧ s'.os = s1.os ∧ AllBare s'.gens) s1 := by
  have rv := vals_ints hi
  have lenV := hi.length
  have aP : a ≠ Pt := fun z => by
    rw [z, hT] at ha
    have z' := congrArg Obj.data (Option.some.inj ha)
    cases z'
  generalize eH : tabHp K a Pt { cls := .type "list", data := .seq vs.toArray } (ns.map V.int) = H
  have hP : H Pt = some (.tbl #[]) := by
    rw [← eH]
    exact if_pos rfl
  -- what is tracked: the table, and the script where no written part holds it
  have hat : ∀ {b : Addr} {o : HO}, H b = some o → (b = Pt ∧ o = .tbl #[]) ∨ (b ≠ Pt ∧ b = a ∧ K.lookup a = none ∧ o = .frz { cls := .type "list", data := .seq vs.toArray } (.lst (ns.map V.int))) := fun {b o} q => by
    rw [← eH] at q
    unfold tabHp at q
    split at q
    · rename_i e
      cases q
      exact .inl ⟨e, rfl⟩
    · rename_i e
      exact .inr ⟨e, scriptHp_some q⟩
  have hO : ∀ b o, H b = some o → b = Pt ∨ ∀ ps, o ≠ .tbl ps := fun b o q => by
    rcases hat q with ⟨e, _⟩ | ⟨_, _, _, rfl⟩
    · exact .inl e
    · exact .inr fun _ z => by cases z
  have hS : SqL K H a (ns.map V.int) := by
    cases hk : K.lookup a with
    | none =>
      refine .inl (.inr ⟨{ cls := .type "list", data := .seq vs.toArray }, ?_⟩)
      rw [← eH]
      exact (if_neg aP).trans (if_pos ⟨rfl, hk⟩)
    | some o =>
      have e := KX a o hk
      rw [ha] at e
      cases e
      exact .inr ⟨_, vs.toArray, _, hk, rfl, rfl, rfl, by rw [List.size_toArray, lenV]; exact hl, by simpa using rv⟩
  have hok : HOk P w H s1.heap := fun b o q => by
    rcases hat q with ⟨rfl, rfl⟩ | ⟨_, rfl, _, rfl⟩
    · exact hT
    · exact ⟨ha, by rw [List.length_map]; exact hl, vs, _, rv, ha⟩
  have none_of : ∀ {b : Addr} {o : Obj}, s1.heap.get? b = some o → o.data ≠ .fields #[] → (b = a → K.lookup a = none → False) → H b = none := fun {b o} e d z => by
    cases q : H b with
    | none => rfl
    | some u =>
      rcases hat q with ⟨e1, _⟩ | ⟨_, e1, e2, _⟩
      · rw [e1, hT] at e
        cases e
        exact absurd rfl d
      · exact (z e1 e2).elim
  have notA : ∀ {b : Addr} {o : Obj}, s1.heap.get? b = some o → (∀ us n, o.data ≠ .seq us n) → b = a → K.lookup a = none → False := fun {b o} e d e1 _ => by
    rw [e1, ha] at e
    cases e
    exact d _ _ rfl
  have dictFree : ∀ {b : Addr} {o : Obj} {es : Array DictEntry} {ep : Nat}, s1.heap.get? b = some o → o.data = .dict es ep → H b = none := fun {b o es ep} e d => none_of e (by rw [d]; intro z; cases z) (notA e (by rw [d]; intro _ _ z; cases z))
  have nsK : ∀ {b : Addr} {m : Str → Option Value}, s1.heap.Ns b m → (hidT s1.heap H).Ns b m := by
    rintro b m ⟨o, es, ep, e, d, r⟩
    exact ⟨o, es, ep, hidT_get e (dictFree e d), d, r⟩
  have hKb : K.In (hidT s1.heap H) := fun b o e => hidT_get (KX b o e) (by
    cases q : H b with
    | none => rfl
    | some u =>
      rcases hat q with ⟨e1, _⟩ | ⟨_, e1, e2, _⟩
      · rw [e1, nT] at e
        cases e
      · rw [e1, e2] at e
        cases e)
  obtain ⟨mc, lim1, lim2⟩ := hlim
  have hM : Mod K mg (hidT s1.heap H) := ⟨hKb, nsK hns, ⟨mb, nsK hb, hbb⟩, mc, nsK lim1, lim2⟩
  have e0 : Env0 P w K mg (hidT s1.heap H) callerA [] s1 H :=
    ⟨rfl, hM, fun b o e => of_hidT e, Nat.le_of_eq (hidT_size _ _), trivial, fun b hb => absurd (show b ∈ ([] : List Addr) from hb) (by simp), hok, .of_eq hg⟩
  have gP : mainGlobals ≠ Pt := fun z => by
    obtain ⟨o, es, ep, e, hd, _⟩ := hns
    rw [z, hT] at e
    cases e
    cases hd
  have TB : TabB (hidT s1.heap H) mg c Pt := by
    refine ⟨?_, ?_, gP⟩
    · obtain ⟨o, us, file, tf, flags, tg, inF, text, tt, e1, r1, r2, r3, r⟩ := hC
      refine ⟨o, us, file, tf, flags, tg, inF, text, tt, hidT_get e1 (none_of e1 (fun z => ?_) (notA e1 (by rw [r2]; intro _ _ z; cases z))), r1, r2, r3, r⟩
      rw [r2] at z
      cases z
      simp at r3
    · obtain ⟨bm, ob, b1, b2, b3, b4, b5, b6⟩ := hbm
      refine ⟨bm, ob, b1, b2, fun q => ?_, fun q => ?_, hidT_get b3 (none_of b3 (by rw [b6]; intro z; cases z) (notA b3 (by rw [b6]; intro _ _ z; cases z))), b4, b5, b6⟩
      · obtain ⟨o, es, ep, e, hd, _⟩ := hns
        rw [q, e] at b3
        cases b3
        rw [hd] at b6
        cases b6
      · rw [q, hT] at b3
        cases b3
        cases b6
  refine codeAny_mono (F _ hKb (nsK hns) TB s1 H ⟨[.ref a], []⟩ (.ref a) (.ref a) _ _ e0 (hbind s1 (.ref a)) rfl (hsp H hP hO hS)) fun r s' h => ?_
  cases r with
  | error e => exact (hCX H e s' h).elim
  | ok fl =>
    cases fl with
    | next => exact h.elim
    | brk => exact h.elim
    | cont => exact h.elim
    | ret u =>
      obtain ⟨v, H', os, bare, un, hok', r', q⟩ := h
      obtain rfl : v = .bl true := q
      obtain rfl : u = Value.bool true := r'
      obtain ⟨more, z⟩ := un.tbls Pt #[] hP
      have hm := hok' Pt _ z
      have key : ∀ b o, b ≠ Pt → s1.heap.get? b = some o → s'.heap.get? b = some o := fun b o nb e => by
        cases q : H b with
        | none => exact un.keep b o e q (fun z => absurd (show b ∈ ([] : List Addr) from z) (by simp)) (by simp)
        | some u =>
          rcases hat q with ⟨e1, _⟩ | ⟨_, e1, e2, e3⟩
          · exact absurd e1 nb
          · subst e3
            have z2 := un.frzs b _ _ q
            obtain ⟨k1, _⟩ := hok b _ q
            obtain ⟨k2, _⟩ := hok' b _ z2
            rw [e] at k1
            cases k1
            exact k2
      refine ⟨rfl, ⟨fun b o e => ?_, fun b o e => ?_⟩, os, bare⟩
      · by_cases hb : b = Pt
        · rw [hb] at e ⊢
          rw [hT] at e
          cases e
          exact .inr (.inl ⟨(hC.tab hT).isCodeTable, rfl, #[], _, rfl, by rw [Array.empty_append]; exact hm⟩)
        · exact .inl (key b o hb e)
      · by_cases hb : b = Pt
        · rw [hb]
          exact ⟨_, hm⟩
        · exact ⟨o, key b o hb e⟩
/-- the promise of a law that makes lambdas, its table at Pt -/
def spLawT (K : PySem.W.Frag) (Pt : Addr) : Sp := fun vs H Q _ => ∃ (a : Addr) (ns : List Int), vs = [.ref a] ∧ SqL K H a (ns.map V.int) ∧ ns.length ≤ 63 ∧ H Pt = some (.tbl #[]) ∧ (∀ b o, H b = some o → b = Pt ∨ ∀ ps, o ≠ .tbl ps) ∧ ∀ H', Q (.bl true) H'
theorem walk_at_lawT {l : PySem.W.OpenLaw} {n : Nat} {q : Program} {loose : List Str} {XP : (Str → Option Value) → Heap → Prop} {YP : World → Heap → Prop} {d : DefRec} {K : Params → PySem.W.Frag} {CX : CXT} {x : Str}
    (hn : l.most = some n) (hn2 : n ≤ sizeLine) (hdf : d.params.defaults = []) (hY : ∀ (w : World) (h : Heap), YP w h → (K w.params).In h)
    (F : ∀ (w : World) (mg : Str → Option Value) (fa : Addr) (h : Heap), YP w h → (K w.params).In h → h.Ns mainGlobals mg → mg d.name = some (.ref fa) →
      ∃ (fd : FuncData) (c Pt : Addr) (sp : Sp), h.get? Pt = some { cls := .none, data := .fields #[] } ∧ (K w.params).lookup Pt = none ∧ PySem.W.CodeHd h c Pt ∧ (∀ (s : Shared) (u : Value), BindsTo s fd ⟨[u], []⟩ [(x, u)]) ∧
        (∀ (H : Hp) (a : Addr) (ns : List Int), ns.length ≤ n → H Pt = some (.tbl #[]) → (∀ b o, H b = some o → b = Pt ∨ ∀ ps, o ≠ .tbl ps) → SqL (K w.params) H a (ns.map V.int) → sp [.ref a] H (fun v _ => v = .bl true) fun _ _ _ => False) ∧
        ∀ base : Heap, (K w.params).In base → base.Ns mainGlobals mg → TabB base mg c Pt → AtC l.prog w (K w.params) mg base CX fa fd x sp)
    (hCX : ∀ (H : Hp) (s : Shared) (e : Value) (s' : Shared), CX [] H s (fun _ _ _ => False) e s' → False) :
    PySem.W.WalkO q loose XP YP l.row.toRowW d [] (fun f vs => PySem.call f vs) := by
  refine Att.attach_call hn hdf fun w s0 s1 mg mb fa o pm cd doc a vs ns G Y ho hd hcd hmg hobj hints hlen hgen => ?_
  have KX := hY w _ Y
  obtain ⟨fd, c, Pt, sp, hT, nT, hC, hb, hsp, hF⟩ := F w mg fa _ Y KX G.T.g hmg
  exact law_atT KX G.T.g G.T.b G.T.builtins G.T.nolimit hgen hT nT hC G.T.bmain hobj hints (Nat.le_trans hlen hn2) hF hb (fun H hH hO hS => hsp H a ns hlen hH hO hS) fun H e s' => hCX H s1 e s'
end Tp

set_option Elab.async false
set_option linter.all false
set_option maxRecDepth 100000
set_option maxHeartbeats 2000000
namespace Tp
open PySem PySem.Spec PyProof.Rows L2 LamX
/-! ### whether a value is a part -/
def IsP (K : PySem.W.Frag) (H : Hp) (v : V) (b : Bool) : Prop := (∃ n : String, TyX K H v (.type n) ∧ n ∈ kinds ∧ n ≠ "tuple" ∧ b = false) ∨ ∃ (a : Addr) (xs : List V), v = .ref a ∧ H a = some (.tup xs) ∧ (∀ y ∈ xs, Known K H y) ∧ b = tupPart xs
theorem IsP.prog {K : PySem.W.Frag} {H : Hp} {v : V} {b : Bool} (h : IsP K H v b) {R : VK} {E : XK} (r : R (.bl b) H) : spIsPart K [v] H R E := by
  rcases h with ⟨n, t, hn, h1, rfl⟩ | ⟨a, xs, rfl, ha, hk, rfl⟩
  · exact .inl ⟨v, n, rfl, t, hn, h1, r⟩
  · exact .inr ⟨a, xs, rfl, ha, hk, r⟩
theorem IsP.law {K : PySem.W.Frag} {H : Hp} {v : V} {b : Bool} (h : IsP K H v b) {R : VK} {E : XK} (r : ∀ H', Same H H' → R (.bl b) H') : spLIsPart K [v] H R E := by
  rcases h with ⟨n, t, hn, h1, rfl⟩ | ⟨a, xs, rfl, ha, hk, rfl⟩
  · exact .inl ⟨v, n, rfl, t, hn, h1, r⟩
  · exact .inr ⟨a, xs, rfl, ha, hk, r⟩
theorem tupPart_is {xs : List V} (h : tupPart xs = true) : ∃ x y, xs = [.int x, .int y] ∧ partB x y = true := by
  unfold tupPart at h
  split at h
  · exact ⟨_, _, rfl, h⟩
  · cases h
theorem IsP.yes {K : PySem.W.Frag} {H : Hp} {v : V} (h : IsP K H v true) : ∃ a x y, v = .ref a ∧ H a = some (.tup [.int x, .int y]) ∧ partB x y = true := by
  rcases h with ⟨n, t, hn, h1, e⟩ | ⟨a, xs, rfl, ha, hk, e⟩
  · cases e
  · obtain ⟨x, y, rfl, q⟩ := tupPart_is e.symm
    exact ⟨a, x, y, rfl, ha, q⟩
theorem known_same {K : PySem.W.Frag} {H H' : Hp} (s : Same H H') {v : V} (h : Known K H v) : Known K H' v := by
  obtain ⟨n, t, m⟩ := h
  exact ⟨n, tyx_same s t, m⟩
theorem IsP.same {K : PySem.W.Frag} {H H' : Hp} {v : V} {b : Bool} (h : IsP K H v b) (s : Same H H') : IsP K H' v b := by
  rcases h with ⟨n, t, r⟩ | ⟨a, xs, e, ha, hk, r⟩
  · exact .inl ⟨n, tyx_same s t, r⟩
  · exact .inr ⟨a, xs, e, s _ _ ha, fun y m => known_same s (hk y m), r⟩
def dataPart : PyData → Bool
  | .tuple [.int x, .int y] => partB x y
  | _ => false
theorem dza_part {H : Hp} {p : Addr} {xs : List V} {ds : List PyData} (h : DzAll H p xs ds) : tupPart xs = dataPart (.tuple ds) := by
  cases h with
  | nil => rfl
  | cons h1 t =>
    cases t with
    | nil => cases h1 <;> rfl
    | cons h2 t =>
      cases t with
      | nil => cases h1 <;> cases h2 <;> rfl
      | cons h3 t => cases h1 <;> cases h2 <;> rfl
theorem dz_isP {K : PySem.W.Frag} {H : Hp} {p : Addr} {v : V} {d : PyData} (h : Dz H p v d) : IsP K H v (dataPart d) := by
  cases h with
  | non => exact .inl ⟨"NoneType", .base .non, by decide, by decide, rfl⟩
  | bl b => exact .inl ⟨"bool", .base (.bl b), by decide, by decide, rfl⟩
  | int i => exact .inl ⟨"int", .base (.int i), by decide, by decide, rfl⟩
  | str x => exact .inl ⟨"str", .base (.str x), by decide, by decide, rfl⟩
  | lst q _ _ => exact .inl ⟨"list", .base (.lst q), by decide, by decide, rfl⟩
  | tup q a => exact .inr ⟨_, _, rfl, q, dza_known a, (dza_part a).symm⟩
  | dict q _ _ => exact .inl ⟨"dict", .base (.dK q), by decide, by decide, rfl⟩
/-! ### what stays where lambdas are made and bags change -/
def Kp (p : Addr) (H H' : Hp) : Prop := ∀ b o, b ≠ p → (∀ ps, o ≠ .tbl ps) → H b = some o → H' b = some o
theorem Kp.refl (p : Addr) (H : Hp) : Kp p H H := fun _ _ _ _ h => h
theorem Kp.trans {p : Addr} {H H1 H2 : Hp} (a : Kp p H H1) (b : Kp p H1 H2) : Kp p H H2 := fun c o n m h => b c o n m (a c o n m h)
theorem Grow.kp {p : Addr} {H H' : Hp} (g : Grow p H H') : Kp p H H' := fun b o n _ h => g b o n h
theorem extN_kp {p : Addr} {H H' : Hp} (g : ExtN H H') : Kp p H H' := fun b o _ m h => g b o h m
theorem Same.ext {H H' : Hp} (g : Same H H') : ExtN H H' := fun b o h _ => g b o h
theorem Kp.extN {p : Addr} {H0 H H' : Hp} (e : ExtN H0 H) (n : H0 p = none) (g : Kp p H H') : ExtN H0 H' := fun b o h m => g b o (ne_of_none h n) m (e b o h m)
theorem BagAt.extN {H H' : Hp} {p : Addr} (h : BagAt H p) (e : ExtN H H') : BagAt H' p := by
  obtain ⟨a, b, hp, r⟩ := h
  exact ⟨a, b, e _ _ hp (fun _ z => by cases z), r⟩
theorem ExtN.sql {K : PySem.W.Frag} {H H' : Hp} {a : Addr} {xs : List V} (e : ExtN H H') (h : SqL K H a xs) : SqL K H' a xs := by
  rcases h with (h | ⟨o, h⟩) | h
  · exact .inl (.inl (e _ _ h (fun _ z => by cases z)))
  · exact .inl (.inr ⟨o, e _ _ h (fun _ z => by cases z)⟩)
  · exact .inr h
theorem tabs_same {T : List (Addr × Str)} {H H' : Hp} (s : Same H H') (t : Tabs T H) : Tabs T H' := t.ext s
theorem tabs_grow {T : List (Addr × Str)} {H H' : Hp} {p : Addr} (hB : BagAt H p) (g : Grow p H H') (t : Tabs T H) : Tabs T H' := by
  obtain ⟨u, v, hp, _⟩ := hB
  intro q hq
  obtain ⟨ps, h1, h2, h3⟩ := t q hq
  refine ⟨ps, g _ _ (ne_of h1 hp (by intro z; cases z)) h1, h2, fun pos cv hc => ?_⟩
  obtain ⟨c, e1, e2⟩ := h3 pos cv hc
  refine ⟨c, e1, g _ _ (ne_of e2 hp ?_) e2⟩
  intro z
  unfold CodeO at z
  cases z
mutual
theorem dz_kp {H H' : Hp} {p : Addr} (hB : BagAt H p) (g : Kp p H H') : ∀ {v : V} {d : PyData}, Dz H p v d → Dz H' p v d
  | _, _, .non => .non
  | _, _, .bl b => .bl b
  | _, _, .int i => .int i
  | _, _, .str x => .str x
  | _, _, .lst q n a => .lst (g _ _ n (fun _ z => by cases z) q) n (dza_kp hB g a)
  | _, _, .tup q a => .tup (g _ _ (by obtain ⟨u, v, hp, _⟩ := hB; exact ne_of q hp (by intro z; cases z)) (fun _ z => by cases z) q) (dza_kp hB g a)
  | _, _, .dict q a f => .dict (g _ _ (by obtain ⟨u, v, hp, _⟩ := hB; exact ne_of q hp (by intro z; cases z)) (fun _ z => by cases z) q) (dza_kp hB g a) f
theorem dza_kp {H H' : Hp} {p : Addr} (hB : BagAt H p) (g : Kp p H H') : ∀ {vs : List V} {ds : List PyData}, DzAll H p vs ds → DzAll H' p vs ds
  | _, _, .nil => .nil
  | _, _, .cons a b => .cons (dz_kp hB g a) (dza_kp hB g b)
end
/-! ### drawn values -/
structure Val (H : Hp) (p : Addr) (v : V) (d : PyData) : Prop where
  dz : Dz H p v d
  fz : FineZ d
  dep : d.depth ≤ 20
  blk : d.bulk ≤ 5000
  pt : dataPart d = true → ∃ x m : Nat, d = .tuple [.int (x : Int), .int (2 ^ m)] ∧ x ≤ 2 ^ m ∧ m ≤ 60
theorem Val.kp {H H' : Hp} {p : Addr} {v : V} {d : PyData} (h : Val H p v d) (hB : BagAt H p) (g : Kp p H H') : Val H' p v d := ⟨dz_kp hB g h.dz, h.fz, h.dep, h.blk, h.pt⟩
/-- the numbers of a value that is a part -/
theorem Val.tup {H : Hp} {p : Addr} {v : V} {d : PyData} (h : Val H p v d) (e : dataPart d = true) : ∃ (a : Addr) (x m : Nat), v = .ref a ∧ d = .tuple [.int (x : Int), .int (2 ^ m)] ∧ isTup H a x m ∧ partB (x : Int) (2 ^ m) = true ∧ x ≤ 2 ^ m ∧ m ≤ 60 := by
  obtain ⟨x, m, rfl, hx, hm⟩ := h.pt e
  have z := h.dz
  cases z with
  | tup q a =>
    cases a with
    | cons a1 t =>
      cases t with
      | cons a2 t =>
        cases t
        cases a1
        cases a2
        exact ⟨_, x, m, rfl, rfl, q, e, hx, hm⟩
def spValue : Sp := fun vs H Q _ => ∃ p : Addr, vs = [.ref p] ∧ BagAt H p ∧ ∀ H' v d, Grow p H H' → BagAt H' p → Val H' p v d → Q v H'
/-! ### repr of what a call came to: a tuple of a word and a value -/
theorem fz_pair {s : Str} {d : PyData} (hs : s.cps.size ≤ 100) (hc : s.cps.toList.all (fun c => decide (c < 16 ^ 8)) = true) (f : FineZ d) (h1 : d.depth ≤ 20) (h2 : d.bulk ≤ 5000) :
    (PyData.tuple [.str s, d]).showable = true ∧ (PyData.tuple [.str s, d]).leavesShort 64 = true ∧ (PyData.tuple [.str s, d]).depth ≤ 40 ∧ (PyData.tuple [.str s, d]).bulk ≤ 10000 := by
  refine ⟨?_, ?_, ?_, ?_⟩
  · exact (sm_tuple (sm_cons (sm_str hc) (sm_cons ⟨f.show_, f.short⟩ sm_nil))).1
  · exact (sm_tuple (sm_cons (sm_str hc) (sm_cons ⟨f.show_, f.short⟩ sm_nil))).2
  · show max 0 (max d.depth 0) + 1 ≤ 40
    omega
  · show s.cps.size + 1 + (d.bulk + 1 + 0) ≤ 10000
    omega
theorem reads_noSys {X : Cx} {pins : List (Addr × Obj)} {σ : L2.St} {H : Hp} {s : Shared} {p : Addr} {v : V} {d : PyData} {u : Value} {as : List Addr} (I : Inv X pins σ H s) (h : Dz H p v d) (r : RelV v u) (fz : FineZ d) (rd : Reads s.heap u d as) : d.hasDict = true → sysModules ∉ as := by
  intro z m
  obtain ⟨kvs, e, f1, f2⟩ := fz.dict z
  cases h with
  | dict hq ha hf =>
    cases (show u = Value.ref _ from r)
    have ns := (I.hok _ _ hq).2.1
    cases e
    cases rd with
    | dict _ _ _ r1 r2 =>
      rw [reads_flatAll r1 f1, reads_flatAll r2 f2] at m
      simp only [List.append_nil, List.mem_singleton] at m
      rw [← m] at ns
      simp at ns
  | _ => cases e
theorem reprP {X : Cx} (hg : X.A.guards = some []) (hu : X.A.units + 64 < cLine) :
    CallR X (.builtin "repr") (fun xs H Q => ∃ p a s v d, xs = [.ref a] ∧ H a = some (.tup [.str s, v]) ∧ Dz H p v d ∧ FineZ d ∧ d.depth ≤ 20 ∧ d.bulk ≤ 5000 ∧ s.cps.size ≤ 100 ∧ s.cps.toList.all (fun c => decide (c < 16 ^ 8)) = true ∧ Q (.str (PyData.tuple [.str s, d]).shown) H) := by
  intro pins s σ H xs us Q I r h
  obtain ⟨p, a, x, v, d, rfl, ha, hd, fz, h1, h2, h3, h4, q⟩ := h
  obtain ⟨u, rfl, ru⟩ := vals1 r
  obtain ⟨f1, f2, f3, f4⟩ := fz_pair h3 h4 fz h1 h2
  have hsz := shown_fits f2 f4
  have dzt : Dz H p (.ref a) (.tuple [.str x, d]) := .tup ha (.cons (.str x) (.cons hd .nil))
  cases (show u = Value.ref a from ru)
  obtain ⟨its, rv, ⟨o, ho, hc, n, hdat⟩, _⟩ := I.tuple (SqT.of (K := X.K) ha)
  obtain ⟨u1, u2, rfl⟩ : ∃ u1 u2, its = [u1, u2] := by
    cases rv with
    | cons a1 t => cases t with | cons a2 t => cases t; exact ⟨_, _, rfl⟩
  cases rv with
  | cons a1 t =>
    cases t with
    | cons a2 t =>
      obtain ⟨as, rd⟩ := dz_reads I hd a2
      obtain ⟨tk, rfl⟩ : ∃ t, u1 = Value.str x t := a1
      have rt : Reads s.heap (.ref a) (.tuple [.str x, d]) _ := Reads.tuple ho hc hdat (.cons (.str x tk) (.cons rd .nil))
      refine repr_of_reads' rt f1 (fun z => ?_) hg (by omega) (fun _ _ e => e) (fun h' u tk hk => ⟨.str _, H, I.kept hk, ⟨_, rfl⟩, q⟩) hsz
      have z' : d.hasDict = true := by
        have e : (PyData.tuple [.str x, d]).hasDict = (false || (d.hasDict || false)) := rfl
        rw [e] at z
        simpa using z
      have k := reads_noSys I hd a2 fz rd z'
      simpa using k
end Tp

set_option Elab.async false
set_option linter.all false
set_option maxRecDepth 100000
set_option maxHeartbeats 4000000
namespace Tp
open PySem PySem.Spec PyProof.Rows L2
/-! ### the text by places -/
def top (i : Nat) : Stmt := PySem.Challenge.pw_trailparts_k03_part_texts.main.body.getD i (.Pass ⟨0, 0, 0, 0⟩)
abbrev s_is_plain_int : Stmt := top 5
abbrev s_is_digits : Stmt := top 6
abbrev s_digits_of : Stmt := top 7
abbrev s_number_of : Stmt := top 8
abbrev s_is_part : Stmt := top 10
abbrev s_part_text : Stmt := top 11
abbrev s_read_part : Stmt := top 12
abbrev s_is_power_of_two : Stmt := top 13
abbrev s_told_pair : Stmt := top 14
abbrev s_l_bag : Stmt := top 16
abbrev s_l_take : Stmt := top 17
abbrev s_l_whole : Stmt := top 18
abbrev s_l_part : Stmt := top 19
abbrev s_l_is_part : Stmt := top 20
abbrev s_l_odd : Stmt := top 21
abbrev s_l_text : Stmt := top 22
abbrev s_l_bent : Stmt := top 23
abbrev s_l_read : Stmt := top 24
abbrev s_l_refused : Stmt := top 25
abbrev s_law : Stmt := top 26
theorem sc_is_plain_int : FnScope ["thing"] ["thing"] (defScope s_is_plain_int) := ⟨rfl, rfl, rfl, by decide +kernel, rfl, by decide +kernel, by decide +kernel⟩
theorem sc_is_digits : FnScope ["text"] ["text"] (defScope s_is_digits) := ⟨rfl, rfl, rfl, by decide +kernel, rfl, by decide +kernel, by decide +kernel⟩
theorem sc_digits_of : FnScope ["number", "rest", "chunks", "low"] ["number"] (defScope s_digits_of) := ⟨rfl, rfl, rfl, by decide +kernel, rfl, by decide +kernel, by decide +kernel⟩
theorem sc_number_of : FnScope ["digits", "width", "padded", "number", "at"] ["digits"] (defScope s_number_of) := ⟨rfl, rfl, rfl, by decide +kernel, rfl, by decide +kernel, by decide +kernel⟩
theorem sc_is_part : FnScope ["thing", "top", "bottom"] ["thing"] (defScope s_is_part) := ⟨rfl, rfl, rfl, by decide +kernel, rfl, by decide +kernel, by decide +kernel⟩
theorem sc_part_text : FnScope ["part", "top", "bottom"] ["part"] (defScope s_part_text) := ⟨rfl, rfl, rfl, by decide +kernel, rfl, by decide +kernel, by decide +kernel⟩
theorem sc_read_part : FnScope ["text", "part"] ["text"] (defScope s_read_part) := ⟨rfl, rfl, rfl, by decide +kernel, rfl, by decide +kernel, by decide +kernel⟩
theorem sc_is_power_of_two : FnScope ["number"] ["number"] (defScope s_is_power_of_two) := ⟨rfl, rfl, rfl, by decide +kernel, rfl, by decide +kernel, by decide +kernel⟩
theorem sc_told_pair : FnScope ["text", "top", "slash", "bottom"] ["text"] (defScope s_told_pair) := ⟨rfl, rfl, rfl, by decide +kernel, rfl, by decide +kernel, by decide +kernel⟩
theorem sc_l_bag : FnScope ["_law_script", "_law_at", "_law_cell", "_law_mixed", "_law_spot", "_law_other"] ["_law_script", "_law_at"] (defScope s_l_bag) := ⟨rfl, rfl, rfl, by decide +kernel, rfl, by decide +kernel, by decide +kernel⟩
theorem sc_l_take : FnScope ["_law_bag_here", "_law_many", "_law_digit"] ["_law_bag_here", "_law_many"] (defScope s_l_take) := ⟨rfl, rfl, rfl, by decide +kernel, rfl, by decide +kernel, by decide +kernel⟩
theorem sc_l_whole : FnScope ["_law_thing"] ["_law_thing"] (defScope s_l_whole) := ⟨rfl, rfl, rfl, by decide +kernel, rfl, by decide +kernel, by decide +kernel⟩
theorem sc_l_part : FnScope ["_law_bag_here", "_law_most", "_law_bottom", "_law_top"] ["_law_bag_here", "_law_most"] (defScope s_l_part) := ⟨rfl, rfl, rfl, by decide +kernel, rfl, by decide +kernel, by decide +kernel⟩
theorem sc_l_is_part : FnScope ["_law_thing", "_law_number", "_law_top", "_law_bottom"] ["_law_thing"] (defScope s_l_is_part) := ⟨rfl, rfl, rfl, by decide +kernel, rfl, by decide +kernel, by decide +kernel⟩
theorem sc_l_odd : FnScope ["_law_bag_here", "_law_some"] ["_law_bag_here"] (defScope s_l_odd) := ⟨rfl, rfl, rfl, by decide +kernel, rfl, by decide +kernel, by decide +kernel⟩
theorem sc_l_text : FnScope ["_law_part_here"] ["_law_part_here"] (defScope s_l_text) := ⟨rfl, rfl, rfl, by decide +kernel, rfl, by decide +kernel, by decide +kernel⟩
theorem sc_l_bent : FnScope ["_law_bag_here", "_law_text_here", "_law_at", "_law_sign", "_law_some"] ["_law_bag_here", "_law_text_here"] (defScope s_l_bent) := ⟨rfl, rfl, rfl, by decide +kernel, rfl, by decide +kernel, by decide +kernel⟩
theorem sc_l_read : FnScope ["_law_thing", "_law_words", "_law_word", "_law_sign", "_law_found"] ["_law_thing"] (defScope s_l_read) := ⟨rfl, rfl, rfl, by decide +kernel, rfl, by decide +kernel, by decide +kernel⟩
theorem sc_l_refused : FnScope ["_law_call", "e"] ["_law_call"] (defScope s_l_refused) := ⟨rfl, rfl, rfl, by decide +kernel, rfl, by decide +kernel, by decide +kernel⟩
theorem sc_law : FnScope ["_law_script", "_law_k", "_law_bag_here", "_law_part_here", "_law_turn", "_law_thing", "_law_found", "_law_due"] ["_law_script"] (defScope s_law) := ⟨rfl, rfl, rfl, by decide +kernel, rfl, by decide +kernel, by decide +kernel⟩
/-- the builtins that the text calls by their names -/
structure Bl (mg : Str → Option Value) : Prop where
  b_ArithmeticError : mg "ArithmeticError" = none
  b_abs : mg "abs" = none
  b_all : mg "all" = none
  b_bool : mg "bool" = none
  b_divmod : mg "divmod" = none
  b_enumerate : mg "enumerate" = none
  b_int : mg "int" = none
  b_isinstance : mg "isinstance" = none
  b_len : mg "len" = none
  b_max : mg "max" = none
  b_min : mg "min" = none
  b_range : mg "range" = none
  b_repr : mg "repr" = none
  b_str : mg "str" = none
  b_tuple : mg "tuple" = none
/-! ### the law's numbers -/
section
variable {P : Program} {w : World} {K : PySem.W.Frag} {mg : Str → Option Value} {base : Heap}
theorem ok_take {f : Addr} {fd : FuncData} (F : Fun K "_law_take" "_law_take" s_l_take f fd) : FnOk P w K mg base L2.CX0 1 f fd ["_law_bag_here", "_law_many"] spTake := by
  refine F.ok sc_l_take (fun vs H Q E h => ?_) (fun cdv A outer s H vs Q E hr h => ?_)
  · obtain ⟨p, m, rfl, _⟩ := h
    rfl
  · obtain ⟨p, m, rfl, ⟨a, b, hp, a0, b0, b1⟩, m0, m1, q⟩ := h
    have nd := sc_l_take.nd
    refine ⟨_, (pss_cons (ps_if (pt_cmpR op_gt (pe_ix ix_seq (pv 0) pe_int (fun _ _ => rfl)) pe_int (nomark _))
        (pss_cons (ps_set (i := 2) nd rfl (.inl rfl) (pe_op op_mod (pe_ix ix_seq (pv 0) pe_int (fun _ _ => rfl)) (pv 1)))
        (pss_cons (ps_asg (pe_op op_fdivW (pe_ix ix_seq (pv 0) pe_int (fun _ _ => rfl)) (pv 1)) (pg_sub (pv 0) pe_int set_list))
        (pss_one (ps_ret (pv 2)))))
        pss_nil)
      (pss_cons (ps_asg (pe_op op_mod (pe_op op_add (pe_op op_mulX (pe_ix ix_seq (pv 0) pe_int (fun _ _ => rfl)) pe_int) pe_int) pe_int) (pg_sub (pv 0) pe_int set_list))
      (pss_one (ps_ret (pe_op op_mod (pe_op op_fdivW (pe_op op_mod (pe_op op_mulX (pe_op op_fdivW (pe_ix ix_seq (pv 0) pe_int (fun _ _ => rfl)) pe_int) pe_int) pe_int) pe_int) (pv 1)))))), ?_⟩
    refine ⟨_, rfl, ixl (j := 0) hp rfl ⟨_, _, rfl, rfl, _, rfl, ite2 (fun e => ?_) (fun e => ?_)⟩⟩
    · -- the cell's own digits
      refine ⟨_, rfl, ixl (j := 0) hp rfl ⟨_, rfl, _, _, rfl, rfl, m0, ?_⟩⟩
      refine ⟨_, rfl, ixl (j := 0) hp rfl ⟨_, rfl, _, _, rfl, rfl, wide_div m0 m1 (by decide) (by decide), ?_⟩⟩
      refine ⟨_, rfl, p, _, _, 0, rfl, rfl, hp, rfl, ?_⟩
      refine ⟨_, rfl, ?_⟩
      exact q _ _ (fun z hz => upd_ne hz) ⟨_, _, upd_same, Int.ediv_nonneg a0 (Int.le_of_lt m0), b0, b1⟩ (Int.emod_nonneg _ (by omega)) (Int.emod_lt_of_pos _ m0)
    · -- the mixed number
      refine ⟨_, rfl, ixl (j := 1) hp rfl ⟨_, _, rfl, rfl, mulx_ok (a := 64) (b := 64) (by omega) (by decide) (by decide), _, _, rfl, rfl, _, _, rfl, rfl, (by show (0 : Int) < 2147483399; decide), ?_⟩⟩
      refine ⟨_, rfl, p, _, _, 1, rfl, rfl, hp, rfl, ?_⟩
      have c0 : 0 ≤ (b * 40692 + 3791) % 2147483399 := Int.emod_nonneg _ (by decide)
      have c1 : (b * 40692 + 3791) % 2147483399 < 2147483399 := Int.emod_lt_of_pos _ (by decide)
      refine ⟨_, rfl, ixl (j := 1) upd_same rfl ⟨_, _, rfl, rfl, wide_div (by decide) (b := 64) (by decide) (by decide) (by decide), _, _, rfl, rfl, mulx_ok (a := 64) (b := 64) (by omega) (by decide) (by decide), ?_⟩⟩
      refine ⟨_, _, rfl, rfl, (by show (0 : Int) < 2147483249; decide), _, _, rfl, rfl, wide_div (by decide) (b := 64) (by decide) (by decide) (by decide), _, rfl, _, _, rfl, rfl, m0, ?_⟩
      exact q _ _ (fun z hz => upd_ne hz) ⟨_, _, upd_same, a0, c0, by omega⟩ (Int.emod_nonneg _ (by omega)) (Int.emod_lt_of_pos _ m0)
theorem cut_ints (ns : List Int) (lo hi : Option Int) : ∃ ms : List Int, cutV (ns.map V.int) lo hi = ms.map V.int ∧ ms.length ≤ ns.length := by
  refine ⟨(ns.drop (HT.sIx (ns.map V.int).length 0 lo)).take (HT.sIx (ns.map V.int).length (ns.map V.int).length hi - HT.sIx (ns.map V.int).length 0 lo), ?_, ?_⟩
  · unfold cutV
    rw [List.map_take, List.map_drop]
  · rw [List.length_take, List.length_drop]
    omega
theorem ok_bag {f : Addr} {fd : FuncData} (F : Fun K "_law_bag" "_law_bag" s_l_bag f fd) (T : Bl mg) : FnOk P w K mg base L2.CX0 1 f fd ["_law_script", "_law_at"] (spBag K) := by
  refine F.ok sc_l_bag (fun vs H Q E h => ?_) (fun cdv A outer s H vs Q E hr h => ?_)
  · obtain ⟨a, ns, k, rfl, _⟩ := h
    rfl
  · obtain ⟨a, ns, k, rfl, hS, hlen, k0, k1, q⟩ := h
    have nd := sc_l_bag.nd
    refine ⟨_, (pss_cons (ps_set (i := 2) nd rfl (.inl rfl) (pe_cut (pe_ifExp (pt_cmpR op_lt (pv 1) (pe_callB call_len (by rfl) T.b_len (by decide +kernel) (pa_cons (pv 0) pa_nil)) (nomark _)) (pe_ix ix_seq (pv 0) (pv 1) (fun _ _ => rfl)) pe_int)))
      (pss_cons (ps_set (i := 3) nd rfl (.inl rfl) (pe_op op_add (pe_op op_mulX pe_int (pv 1)) pe_int))
      (pss_cons (ps_for PassesOwn.never rfl (pi_enum (by rfl) T.b_enumerate (pa_cons (pe_slice sl_list (pv 0) po_none (po_some pe_int)) pa_nil)) (pg_tup rfl (pgs_cons (pg_name (i := 4) nd rfl (.inl rfl)) (pgs_cons (pg_name (i := 5) nd rfl (.inl rfl)) pgs_nil)))
        (pss_one (ps_set (i := 3) nd rfl (.inl rfl) (pe_op op_mod (pe_op op_add (pe_op op_add (pe_op op_mulX (pv 3) pe_int) (pe_op op_mod (pv 5) pe_int)) (pe_op op_mulX pe_int (pv 4))) pe_int))))
      (pss_one (ps_ret (pe_lst (pa_cons (pe_cut (pe_ifExp (pt_cmpR op_ge (pe_callB call_abs (by rfl) T.b_abs (by decide +kernel) (pa_cons (pv 2) pa_nil)) (pe_op op_pow pe_int pe_int) (nomark _)) (pe_callB call_abs (by rfl) T.b_abs (by decide +kernel) (pa_cons (pv 2) pa_nil)) pe_int)) (pa_cons (pv 3) pa_nil)))))))), ?_⟩
    -- the cell
    refine ⟨fun v H' => (∃ c : Int, v = .int c) ∧ H' = H, ?_, ?_⟩
    · refine ⟨_, rfl, _, rfl, .ref a, _, rfl, .inl ⟨_, hS, rfl⟩, _, _, rfl, rfl, _, rfl, ite2 (fun e => ?_) (fun _ => ⟨⟨0, rfl⟩, rfl⟩)⟩
      have hk : k.toNat < ns.length := by
        have e1 := of_decide_eq_true e
        rw [List.length_map] at e1
        omega
      exact ⟨_, rfl, _, rfl, ixlS (j := k.toNat) (v := .int ns[k.toNat]) hS (by omega) (by rw [List.getElem?_map, List.getElem?_eq_getElem hk]; rfl) ⟨⟨_, rfl⟩, rfl⟩⟩
    rintro _ H0 ⟨⟨cell, rfl⟩, rfl⟩
    refine ⟨_, rfl, _, _, rfl, rfl, mulx_ok (a := 64) (b := 64) (by decide) (by omega) (by decide), _, _, rfl, rfl, ?_⟩
    -- the first thirty cells
    refine ⟨_, rfl, 30, rfl, a, _, rfl, hS, fun c nc => ?_⟩
    obtain ⟨ms, ems, hms⟩ := cut_ints ns none (some 30)
    have sc : Same H0 (upd H0 c (.lst (cutV (ns.map V.int) none (some 30)))) := Same.up0 nc
    refine ⟨c, _, rfl, SqL.of upd_same, ?_⟩
    refine for_enum (xs := ms.map V.int) (fun i σ H2 => ∃ (m : Int) (y4 y5 : Option V), σ = [some (.ref a), some (.int k), some (.int cell), some (.int m), y4, y5] ∧ 0 ≤ m ∧ m < 2147483563 ∧ Same H0 H2 ∧ H2 c = some (.lst (ms.map V.int))) ⟨_, none, none, rfl, by omega, by omega, sc, by rw [upd_same, ems]⟩
      (fun i σ H2 _ ⟨_, _, _, _, _, _, _, hc⟩ => SqL.of hc) ?_ ?_
    · rintro i x tp σ H2 hx ⟨m, y4, y5, rfl, m0, m1, s2, hc⟩ nt
      have hi : i < ms.length := by
        have q1 := (List.getElem?_eq_some_iff.mp hx).1
        rw [List.length_map] at q1
        exact q1
      rw [List.getElem?_map, List.getElem?_eq_getElem hi] at hx
      obtain rfl := (Option.some.inj hx).symm
      refine ⟨tp, _, rfl, SqT.of upd_same, rfl, _, _, rfl, _, _, rfl, rfl, ?_⟩
      refine ⟨_, rfl, _, _, rfl, rfl, mulx_ok (a := 64) (b := 64) (by omega) (by decide) (by decide), _, rfl, _, _, rfl, rfl, (by show (0 : Int) < 2147483563; decide), _, _, rfl, rfl, _, rfl, _, _, rfl, rfl, mulx_ok (a := 64) (b := 64) (by decide) (by omega) (by decide), _, _, rfl, rfl, _, _, rfl, rfl, (by show (0 : Int) < 2147483563; decide), ?_⟩
      refine ⟨_, _, _, rfl, Int.emod_nonneg _ (by decide), Int.emod_lt_of_pos _ (by decide), Same.up s2 nt, ?_⟩
      rw [upd_ne (ne_of_none hc nt)]
      exact hc
    · rintro σ H2 ⟨m, y4, y5, rfl, m0, m1, s2, hc⟩
      -- the bag
      have last : ∀ d : Int, 0 ≤ d → ∀ p, H2 p = none → Q (.ref p) (upd H2 p (.lst [.int d, .int m])) := fun d d0 p np =>
        q _ p (Same.up s2 np) (s2.free np) ⟨d, m, upd_same, d0, m0, m1⟩
      refine ⟨fun v H3 => (∃ d : Int, v = .int d ∧ 0 ≤ d) ∧ H3 = H2, ?_, ?_⟩
      · have ha : ∀ z : Int, 0 ≤ (if z < 0 then -z else z) := fun z => by
          split <;> omega
        refine ⟨_, rfl, _, rfl, _, _, rfl, rfl, ⟨by decide, by decide, by decide⟩, _, _, rfl, rfl, _, rfl, ite2 (fun _ => ?_) (fun _ => ⟨⟨0, rfl, by decide⟩, rfl⟩)⟩
        exact ⟨_, rfl, _, rfl, ⟨_, rfl, ha _⟩, rfl⟩
      rintro _ _ ⟨⟨d, rfl, d0⟩, rfl⟩
      exact ⟨_, rfl, lens 2 (by decide), last d d0⟩
end
/-! ### parts -/
section
variable {P : Program} {w : World} {K : PySem.W.Frag} {mg : Str → Option Value} {base : Heap}
theorem ok_plain {f : Addr} {fd : FuncData} (F : Fun K "is_plain_int" "is_plain_int" s_is_plain_int f fd) (T : Bl mg) : FnOk P w K mg base L2.CX0 1 f fd ["thing"] (spPlain K) := by
  refine F.ok sc_is_plain_int (fun vs H Q E h => ?_) (fun cdv A outer s H vs Q E hr h => ?_)
  · obtain ⟨x, n, rfl, _⟩ := h
    rfl
  · obtain ⟨x, n, rfl, ty, hn, q⟩ := h
    have nd := sc_is_plain_int.nd
    refine ⟨_, (pss_one (ps_ret (pe_and (pe_callB call_isi (by rfl) T.b_isinstance (by decide +kernel) (pa_cons (pv 0) (pa_cons (pe_bltn (v := .ty "int") (by rfl) T.b_int (by decide +kernel) rfl) pa_nil))) (pe_one (pe_not (pe_callB call_isi (by rfl) T.b_isinstance (by decide +kernel) (pa_cons (pv 0) (pa_cons (pe_bltn (v := .ty "bool") (by rfl) T.b_bool (by decide +kernel) rfl) pa_nil)))))))), ?_⟩
    by_cases h1 : n = "int"
    · subst h1
      rw [decide_eq_true rfl] at q
      exact ⟨_, rfl, x, .ty "int", _, _, true, rfl, .ty _, ty, kit_ty (by decide +kernel), true, rfl, iteT ⟨_, rfl, x, .ty "bool", _, _, false, rfl, .ty _, ty, kit_ty (by decide +kernel), false, rfl, q⟩⟩
    · rw [decide_eq_false h1] at q
      by_cases h2 : n = "bool"
      · subst h2
        exact ⟨_, rfl, x, .ty "int", _, _, true, rfl, .ty _, ty, kit_ty (by decide +kernel), true, rfl, iteT ⟨_, rfl, x, .ty "bool", _, _, true, rfl, .ty _, ty, kit_ty (by decide +kernel), true, rfl, q⟩⟩
      · have h3 : kitB n "int" = some false := by
          simp only [kinds, List.mem_cons, List.not_mem_nil, or_false] at hn
          rcases hn with rfl | rfl | rfl | rfl | rfl | rfl | rfl
          · decide +kernel
          · exact absurd rfl h2
          · exact absurd rfl h1
          · decide +kernel
          · decide +kernel
          · decide +kernel
          · decide +kernel
        exact ⟨_, rfl, x, .ty "int", _, _, false, rfl, .ty _, ty, kit_ty h3, false, rfl, iteF q⟩
theorem ok_pow2 {f : Addr} {fd : FuncData} (F : Fun K "is_power_of_two" "is_power_of_two" s_is_power_of_two f fd) : FnOk P w K mg base L2.CX0 1 f fd ["number"] spPow2 := by
  refine F.ok sc_is_power_of_two (fun vs H Q E h => ?_) (fun cdv A outer s H vs Q E hr h => ?_)
  · obtain ⟨b, rfl, _⟩ := h
    rfl
  · obtain ⟨b, rfl, q⟩ := h
    have nd := sc_is_power_of_two.nd
    refine ⟨_, (pss_one (ps_ret (pe_cmpR op_eq (pe_op op_and (pv 0) (pe_op op_sub (pv 0) pe_int)) pe_int (nomark _)))), ?_⟩
    refine ⟨_, rfl, _, rfl, _, _, rfl, rfl, _, _, rfl, rfl, rfl, ?_⟩
    have e : decide (V.int (Builtin.bitAnd b (b - 1)) = V.int 0) = decide (Builtin.bitAnd b (b - 1) = 0) := by
      rw [dec_int, Bool.beq_eq_decide_eq]
    show Q (.bl (decide (V.int (Builtin.bitAnd b (b - 1)) = V.int 0))) H
    rw [e]
    exact q
theorem ok_isPart {f : Addr} {fd : FuncData} (F : Fun K "is_part" "is_part" s_is_part f fd) (T : Bl mg) (c_is_plain_int : Cal P w K mg base 1 "is_plain_int" (spPlain K)) (c_is_power_of_two : Cal P w K mg base 1 "is_power_of_two" spPow2) :
    FnOk P w K mg base L2.CX0 2 f fd ["thing"] (spIsPart K) := by
  refine F.ok sc_is_part (fun vs H Q E h => ?_) (fun cdv A outer s H vs Q E hr h => ?_)
  · rcases h with ⟨x, n, rfl, _⟩ | ⟨a, xs, rfl, _⟩
    · rfl
    · rfl
  · have nd := sc_is_part.nd
    refine ⟨_, (pss_cons (ps_if (PW.pt (pw_or (pt_not (pt_val (pe_callB call_isi (by rfl) T.b_isinstance (by decide +kernel) (pa_cons (pv 0) (pa_cons (pe_bltn (v := .ty "tuple") (by rfl) T.b_tuple (by decide +kernel) rfl) pa_nil))))) (pw_or1 (pt_cmpR op_ne (pe_callB call_len (by rfl) T.b_len (by decide +kernel) (pa_cons (pv 0) pa_nil)) pe_int (nomark _)))))
        (pss_one (ps_ret pe_bl))
        pss_nil)
      (pss_cons (ps_asg (pv 0) (pg_tup rfl (pgs_cons (pg_name (i := 1) nd rfl (.inl rfl)) (pgs_cons (pg_name (i := 2) nd rfl (.inl rfl)) pgs_nil))))
      (pss_cons (ps_if (PW.pt (pw_or (pt_not (pt_val (pe_f c_is_plain_int hr rfl (pa_cons (pv 1) pa_nil)))) (pw_or1 (pt_not (pt_val (pe_f c_is_plain_int hr rfl (pa_cons (pv 2) pa_nil)))))))
        (pss_one (ps_ret pe_bl))
        pss_nil)
      (pss_cons (ps_if (PW.pt (pw_or (pt_cmpR op_lt (pv 2) pe_int (nomark _)) (pw_or1 (pt_not (pt_val (pe_f c_is_power_of_two hr rfl (pa_cons (pv 2) pa_nil)))))))
        (pss_one (ps_ret pe_bl))
        pss_nil)
      (pss_one (ps_ret (pe_and (pe_chain op_le op_le pe_int (pv 1) (pv 2)) (pe_one (pe_or (pe_cmpR op_eq (pv 2) pe_int (nomark _)) (pe_one (pe_cmpR op_eq (pe_op op_and (pv 1) pe_int) pe_int (nomark _)))))))))))), ?_⟩
    rcases h with ⟨x, n, rfl, ty, hn, h1, q⟩ | ⟨a, xs, rfl, ha, hk, q⟩
    · have h3 : kitB n "tuple" = some false := by
        simp only [kinds, List.mem_cons, List.not_mem_nil, or_false] at hn
        rcases hn with rfl | rfl | rfl | rfl | rfl | rfl | rfl
        · decide +kernel
        · decide +kernel
        · decide +kernel
        · decide +kernel
        · decide +kernel
        · exact absurd rfl h1
        · decide +kernel
      exact ⟨_, rfl, ⟨x, .ty "tuple", _, _, false, rfl, .ty _, ty, kit_ty h3, false, rfl, iteT (iteT q)⟩⟩
    · refine ⟨_, rfl, ⟨.ref a, .ty "tuple", _, _, true, rfl, .ty _, .base (.tup ha), kit_ty (by decide +kernel), true, rfl, iteF ?_⟩⟩
      refine ⟨_, rfl, .ref a, _, rfl, .inr ⟨_, SqT.of ha, rfl⟩, rfl, _, rfl, ?_⟩
      match xs, ha, hk, q with
      | [x, y], ha, hk, q =>
        refine iteF ?_
        refine ⟨_, rfl, a, _, rfl, SqT.of ha, rfl, _, _, rfl, _, _, rfl, rfl, ?_⟩
        obtain ⟨nx, tx, hx⟩ := hk x (by simp)
        obtain ⟨ny, ty, hy⟩ := hk y (by simp)
        refine ⟨_, rfl, x, nx, rfl, tx, hx, _, rfl, ?_⟩
        by_cases ex : nx = "int"
        · rw [decide_eq_true ex]
          refine iteF ?_
          refine ⟨_, rfl, y, ny, rfl, ty, hy, _, rfl, ?_⟩
          by_cases ey : ny = "int"
          · rw [decide_eq_true ey]
            refine iteF ?_
            subst ex ey
            obtain ⟨i, rfl⟩ := tyx_int tx
            obtain ⟨j, rfl⟩ := tyx_int ty
            refine ⟨_, rfl, _, _, rfl, rfl, _, rfl, ite2 (fun e => ?_) (fun e => ?_)⟩
            · have e1 : ¬ (1 ≤ j) := by
                have := of_decide_eq_true e
                omega
              refine iteT ?_
              have e2 : tupPart [.int i, .int j] = false := by
                show partB i j = false
                unfold partB
                rw [decide_eq_false e1]
                rfl
              rw [e2] at q
              exact q
            · have e1 : 1 ≤ j := by
                have : ¬ (j < 1) := fun z => e (decide_eq_true z)
                omega
              refine ⟨_, rfl, j, rfl, _, rfl, ?_⟩
              have eP : tupPart [.int i, .int j] = (decide (Builtin.bitAnd j (j - 1) = 0) && (decide (0 ≤ i) && (decide (i ≤ j) && (decide (j = 1) || decide (Builtin.bitAnd i 1 = 1))))) := by
                show partB i j = _
                unfold partB
                rw [decide_eq_true e1, Bool.true_and]
              rw [eP] at q
              by_cases e3 : Builtin.bitAnd j (j - 1) = 0
              · rw [decide_eq_true e3] at q ⊢
                rw [Bool.true_and] at q
                refine iteF ?_
                refine ⟨_, rfl, _, _, rfl, rfl, _, rfl, ite2 (fun e => ?_) (fun e => ?_)⟩
                · have e4 : (0 : Int) ≤ i := of_decide_eq_true e
                  rw [decide_eq_true e4, Bool.true_and] at q
                  refine ⟨_, rfl, _, _, rfl, rfl, _, rfl, ?_⟩
                  by_cases e5 : i ≤ j
                  · rw [decide_eq_true e5] at q ⊢
                    rw [Bool.true_and] at q
                    refine iteT ⟨_, rfl, rfl, _, rfl, ?_⟩
                    by_cases e6 : j = 1
                    · subst e6
                      rw [decide_eq_true rfl, Bool.true_or] at q
                      rw [decide_eq_true rfl]
                      exact iteT q
                    · rw [decide_eq_false e6, Bool.false_or] at q
                      rw [decide_eq_false (fun z => e6 (V.int.inj z))]
                      refine iteF ⟨_, rfl, _, _, rfl, rfl, rfl, ?_⟩
                      show Q (.bl (decide (V.int (Builtin.bitAnd i 1) = V.int 1))) H
                      rw [dec_int, Bool.beq_eq_decide_eq]
                      exact q
                  · rw [decide_eq_false e5] at q ⊢
                    exact iteF q
                · have e4 : ¬ (0 : Int) ≤ i := fun z => e (decide_eq_true z)
                  rw [decide_eq_false e4] at q
                  exact ⟨_, rfl, iteF q⟩
              · rw [decide_eq_false e3] at q ⊢
                exact iteT q
          · rw [decide_eq_false ey]
            refine iteT ?_
            have e2 : tupPart [x, y] = false := by
              match y, ty with
              | .int j, ty => exact absurd (tyx_is ty) ey
              | .non, _ => cases x <;> rfl
              | .bl _, _ => cases x <;> rfl
              | .str _, _ => cases x <;> rfl
              | .byt _, _ => cases x <;> rfl
              | .flt _, _ => cases x <;> rfl
              | .ref _, _ => cases x <;> rfl
              | .ty _, _ => cases x <;> rfl
            rw [e2] at q
            exact q
        · rw [decide_eq_false ex]
          refine iteT ?_
          have e2 : tupPart [x, y] = false := by
            match x, tx with
            | .int j, tx => exact absurd (tyx_is tx) ex
            | .non, _ => rfl
            | .bl _, _ => rfl
            | .str _, _ => rfl
            | .byt _, _ => rfl
            | .flt _, _ => rfl
            | .ref _, _ => rfl
            | .ty _, _ => rfl
          rw [e2] at q
          exact q
      | [], ha, hk, q => exact iteT q
      | [x], ha, hk, q =>
        have e2 : tupPart [x] = false := by cases x <;> rfl
        rw [e2] at q
        exact iteT q
      | x :: y :: z :: r, ha, hk, q =>
        have e2 : tupPart (x :: y :: z :: r) = false := by cases x <;> cases y <;> rfl
        rw [e2] at q
        have e3 : (!decide (V.int ((((x :: y :: z :: r).length : Nat) : Int)) = V.int 2)) = true := by
          rw [dec_int]
          have : ((((x :: y :: z :: r).length : Nat) : Int) == 2) = false := beq_eq_false_iff_ne.mpr (by simp only [List.length_cons]; omega)
          rw [this]
          rfl
        show (if (!decide (V.int ((((x :: y :: z :: r).length : Nat) : Int)) = V.int 2)) = true then _ else _)
        rw [e3]
        exact iteT q
end
/-! ### the law's own look at parts -/
section
variable {P : Program} {w : World} {K : PySem.W.Frag} {mg : Str → Option Value} {base : Heap}
theorem ok_whole {f : Addr} {fd : FuncData} (F : Fun K "_law_whole" "_law_whole" s_l_whole f fd) (T : Bl mg) : FnOk P w K mg base L2.CX0 1 f fd ["_law_thing"] (spPlain K) := by
  refine F.ok sc_l_whole (fun vs H Q E h => ?_) (fun cdv A outer s H vs Q E hr h => ?_)
  · obtain ⟨x, n, rfl, _⟩ := h
    rfl
  · obtain ⟨x, n, rfl, ty, hn, q⟩ := h
    have nd := sc_l_whole.nd
    refine ⟨_, (pss_one (ps_ret (pe_and (pe_callB call_isi (by rfl) T.b_isinstance (by decide +kernel) (pa_cons (pv 0) (pa_cons (pe_bltn (v := .ty "int") (by rfl) T.b_int (by decide +kernel) rfl) pa_nil))) (pe_one (pe_not (pe_callB call_isi (by rfl) T.b_isinstance (by decide +kernel) (pa_cons (pv 0) (pa_cons (pe_bltn (v := .ty "bool") (by rfl) T.b_bool (by decide +kernel) rfl) pa_nil)))))))), ?_⟩
    by_cases h1 : n = "int"
    · subst h1
      rw [decide_eq_true rfl] at q
      exact ⟨_, rfl, x, .ty "int", _, _, true, rfl, .ty _, ty, kit_ty (by decide +kernel), true, rfl, iteT ⟨_, rfl, x, .ty "bool", _, _, false, rfl, .ty _, ty, kit_ty (by decide +kernel), false, rfl, q⟩⟩
    · rw [decide_eq_false h1] at q
      by_cases h2 : n = "bool"
      · subst h2
        exact ⟨_, rfl, x, .ty "int", _, _, true, rfl, .ty _, ty, kit_ty (by decide +kernel), true, rfl, iteT ⟨_, rfl, x, .ty "bool", _, _, true, rfl, .ty _, ty, kit_ty (by decide +kernel), true, rfl, q⟩⟩
      · have h3 : kitB n "int" = some false := by
          simp only [kinds, List.mem_cons, List.not_mem_nil, or_false] at hn
          rcases hn with rfl | rfl | rfl | rfl | rfl | rfl | rfl
          · decide +kernel
          · exact absurd rfl h2
          · exact absurd rfl h1
          · decide +kernel
          · decide +kernel
          · decide +kernel
          · decide +kernel
        exact ⟨_, rfl, x, .ty "int", _, _, false, rfl, .ty _, ty, kit_ty h3, false, rfl, iteF q⟩
theorem ok_lisPart {f : Addr} {fd : FuncData} (F : Fun K "_law_is_part" "_law_is_part" s_l_is_part f fd) (T : Bl mg) (c_law_whole : Cal P w K mg base 1 "_law_whole" (spPlain K)) : FnOk P w K mg base L2.CX0 2 f fd ["_law_thing"] (spLIsPart K) := by
  refine F.ok sc_l_is_part (fun vs H Q E h => ?_) (fun cdv A outer s H vs Q E hr h => ?_)
  · rcases h with ⟨x, n, rfl, _⟩ | ⟨a, xs, rfl, _⟩
    · rfl
    · rfl
  · have nd := sc_l_is_part.nd
    refine ⟨_, (pss_cons (ps_if (PW.pt (pw_or (pt_not (pt_val (pe_callB call_isi (by rfl) T.b_isinstance (by decide +kernel) (pa_cons (pv 0) (pa_cons (pe_bltn (v := .ty "tuple") (by rfl) T.b_tuple (by decide +kernel) rfl) pa_nil))))) (pw_or (pt_cmpR op_ne (pe_callB call_len (by rfl) T.b_len (by decide +kernel) (pa_cons (pv 0) pa_nil)) pe_int (nomark _)) (pw_or1 (pt_not (pt_val (pe_callB (cr_all rfl) (by rfl) T.b_all (by decide +kernel) (pa_cons (pe_lc (own := [("_law_number", 1)]) (g := gName 1) (tt := tYes) rfl nd (pi_tup (pv 0)) (blkOk_by (N := ["_law_thing", "_law_number", "_law_top", "_law_bottom"]) (sc := defScope s_l_is_part) (by decide +kernel)) (fun _ _ _ _ _ => pg_name (i := 1) nd rfl (.inl rfl)) (fun _ _ _ _ _ => pts_nil) (fun _ _ _ _ _ => (pe_f c_law_whole hr rfl (pa_cons (pv 1) pa_nil)))) pa_nil))))))))
        (pss_one (ps_ret pe_bl))
        pss_nil)
      (pss_cons (ps_asg (pv 0) (pg_tup rfl (pgs_cons (pg_name (i := 2) nd rfl (.inl rfl)) (pgs_cons (pg_name (i := 3) nd rfl (.inl rfl)) pgs_nil))))
      (pss_cons (ps_if (PW.pt (pw_or (pt_cmpR op_lt (pv 3) pe_int (nomark _)) (pw_or (pt_cmpR op_ne (pe_op op_and (pv 3) (pe_op op_sub (pv 3) pe_int)) pe_int (nomark _)) (pw_or1 (pt_not (pt_chain op_le op_le pe_int (pv 2) (pv 3)))))))
        (pss_one (ps_ret pe_bl))
        pss_nil)
      (pss_one (ps_ret (pe_or (pe_cmpR op_eq (pv 3) pe_int (nomark _)) (pe_one (pe_cmpR op_eq (pe_op op_mod (pv 2) pe_int) pe_int (nomark _))))))))), ?_⟩
    rcases h with ⟨x, n, rfl, ty, hn, h1, q⟩ | ⟨a, xs, rfl, ha, hk, q⟩
    · exact ⟨_, rfl, ⟨x, .ty "tuple", _, _, false, rfl, .ty _, ty, kit_ty (kit_tuple hn h1), false, rfl, iteT (iteT (q H (Same.refl H)))⟩⟩
    · refine ⟨_, rfl, ⟨.ref a, .ty "tuple", _, _, true, rfl, .ty _, .base (.tup ha), kit_ty (by decide +kernel), true, rfl, iteF ?_⟩⟩
      refine ⟨_, rfl, .ref a, _, rfl, .inr ⟨_, SqT.of ha, rfl⟩, rfl, _, rfl, ?_⟩
      by_cases hl : xs.length = 2
      · match xs, hl, ha, hk, q with
        | [x, y], _, ha, hk, q =>
        refine iteF ?_
        obtain ⟨nx, tx, hx⟩ := hk x (by simp)
        obtain ⟨ny, ty, hy⟩ := hk y (by simp)
        -- each of both
        refine ⟨_, rfl, a, rfl, ⟨_, SqT.of ha⟩, fun D hD => ?_⟩
        refine lc_tup (xs := [x, y]) (fun i H' => H' D = some (.lst ((([decide (nx = "int"), decide (ny = "int")] : List Bool).take i).map V.bl)) ∧ Same H H') ⟨upd_same, Same.up0 hD⟩ (fun i H' _ ⟨_, s⟩ => SqT.of (s _ _ ha)) ?_ ?_
        · rintro i v H1 hv ⟨h1, s1⟩
          match i, hv with
          | 0, hv =>
            obtain rfl := Option.some.inj hv
            refine ⟨rfl, ?_⟩
            exact ⟨_, rfl, x, nx, rfl, tyx_same s1 tx, hx, [], h1, by decide, upd_same, Same.mut s1 hD⟩
          | 1, hv =>
            obtain rfl := Option.some.inj hv
            refine ⟨rfl, ?_⟩
            exact ⟨_, rfl, y, ny, rfl, tyx_same s1 ty, hy, [.bl (decide (nx = "int"))], h1, (by show (1 : Nat) < sizeLine; decide), upd_same, Same.mut s1 hD⟩
          | i + 2, hv => exact absurd hv (by simp)
        · rintro H1 ⟨h1, s1⟩
          refine ⟨D, [decide (nx = "int"), decide (ny = "int")], rfl, SqL.of h1, _, rfl, ?_⟩
          by_cases ex : nx = "int"
          · by_cases ey : ny = "int"
            · rw [decide_eq_true ex, decide_eq_true ey]
              refine iteF ?_
              subst ex ey
              obtain ⟨i, rfl⟩ := tyx_int tx
              obtain ⟨j, rfl⟩ := tyx_int ty
              have q1 := q H1 s1
              have eP : tupPart [.int i, .int j] = partB i j := rfl
              rw [eP] at q1
              unfold partB at q1
              refine ⟨_, rfl, a, _, rfl, SqT.of (s1 _ _ ha), rfl, _, _, rfl, _, _, rfl, rfl, ?_⟩
              refine ⟨_, rfl, _, _, rfl, rfl, _, rfl, ite2 (fun e => ?_) (fun e => ?_)⟩
              · have e1 := of_decide_eq_true e
                rw [decide_eq_false (show ¬ (1 : Int) ≤ j by omega)] at q1
                exact iteT q1
              · have e1 : (1 : Int) ≤ j := by
                  have : ¬ (j < 1) := fun z => e (decide_eq_true z)
                  omega
                rw [decide_eq_true e1, Bool.true_and] at q1
                refine ⟨_, rfl, _, rfl, _, _, rfl, rfl, _, _, rfl, rfl, rfl, _, rfl, ?_⟩
                show if (!decide (V.int (Builtin.bitAnd j (j - 1)) = V.int 0)) = true then _ else _
                rw [dec_int]
                by_cases e2 : Builtin.bitAnd j (j - 1) = 0
                · rw [decide_eq_true e2, Bool.true_and] at q1
                  rw [beq_iff_eq.mpr e2]
                  refine iteF ⟨_, rfl, _, _, rfl, rfl, _, rfl, ite2 (fun e => ?_) (fun e => ?_)⟩
                  · have e3 : (0 : Int) ≤ i := of_decide_eq_true e
                    rw [decide_eq_true e3, Bool.true_and] at q1
                    refine ⟨_, rfl, _, _, rfl, rfl, _, rfl, ?_⟩
                    by_cases e4 : i ≤ j
                    · rw [decide_eq_true e4] at q1 ⊢
                      rw [Bool.true_and] at q1
                      refine iteF ⟨_, rfl, rfl, _, rfl, ?_⟩
                      by_cases e6 : j = 1
                      · subst e6
                        rw [decide_eq_true rfl, Bool.true_or] at q1
                        rw [decide_eq_true rfl]
                        exact iteT q1
                      · rw [decide_eq_false e6, Bool.false_or, bitAnd_m1] at q1
                        rw [decide_eq_false (fun z => e6 (V.int.inj z))]
                        refine iteF ⟨_, rfl, _, _, rfl, rfl, (by show (0 : Int) < 2; decide), rfl, ?_⟩
                        show Q (.bl (decide (V.int (i % 2) = V.int 1))) H1
                        rw [dec_int, Bool.beq_eq_decide_eq]
                        exact q1
                    · rw [decide_eq_false e4] at q1 ⊢
                      exact iteT q1
                  · have e3 : ¬ (0 : Int) ≤ i := fun z => e (decide_eq_true z)
                    rw [decide_eq_false e3] at q1
                    exact ⟨_, rfl, iteT q1⟩
                · rw [decide_eq_false e2] at q1
                  rw [beq_eq_false_iff_ne.mpr e2]
                  exact iteT q1
            · rw [decide_eq_false ey]
              have q1 := q H1 s1
              rw [tupPart_r ty ey] at q1
              rw [show ([decide (nx = "int"), false] : List Bool).all id = false by cases decide (nx = "int") <;> rfl]
              exact iteT q1
          · rw [decide_eq_false ex]
            have q1 := q H1 s1
            rw [tupPart_l tx ex] at q1
            exact iteT q1
      · have q1 := q H (Same.refl H)
        rw [tupPart_no hl] at q1
        have e3 : (!decide (V.int ((xs.length : Nat) : Int) = V.int 2)) = true := by
          rw [dec_int, beq_eq_false_iff_ne.mpr (by omega)]
          rfl
        show (if (!decide (V.int ((xs.length : Nat) : Int) = V.int 2)) = true then _ else _)
        rw [e3]
        exact iteT q1
end
/-! ### drawn parts -/
section
variable {P : Program} {w : World} {K : PySem.W.Frag} {mg : Str → Option Value} {base : Heap}
theorem ok_part {f : Addr} {fd : FuncData} (F : Fun K "_law_part" "_law_part" s_l_part f fd) (T : Bl mg) (c_law_take : Cal P w K mg base 1 "_law_take" spTake) : FnOk P w K mg base L2.CX0 2 f fd ["_law_bag_here", "_law_most"] spPart := by
  refine F.ok sc_l_part (fun vs H Q E h => ?_) (fun cdv A outer s H vs Q E hr h => ?_)
  · obtain ⟨p, most, rfl, _⟩ := h
    rfl
  · obtain ⟨p, most, rfl, hB, hm, q⟩ := h
    have nd := sc_l_part.nd
    refine ⟨_, (pss_cons (ps_set (i := 2) nd rfl (.inl rfl) (pe_cut (pe_op op_shlW pe_int (pe_f c_law_take hr rfl (pa_cons (pv 0) (pa_cons (pe_op op_add (pv 1) pe_int) pa_nil))))))
      (pss_cons (ps_set (i := 3) nd rfl (.inl rfl) (pe_cut (pe_ix ix_seq (pe_lst (pa_cons pe_int (pa_cons (pv 2) (pa_cons (pe_op op_sub (pv 2) pe_int) (pa_cons (pe_op op_add pe_int (pe_f c_law_take hr rfl (pa_cons (pv 0) (pa_cons (pv 2) pa_nil)))) pa_nil))))) (pe_f c_law_take hr rfl (pa_cons (pv 0) (pa_cons pe_int pa_nil))) (fun _ _ => rfl))))
      (pss_cons (ps_while PassesOwn.never (PW.pt (pw_and (pt_cmpR op_gt (pv 2) pe_int (nomark _)) (pw_and1 (pt_cmpR op_eq (pe_op op_mod (pv 3) pe_int) pe_int (nomark _)))))
        (pss_one (ps_par (i := 3) (j := 2) rfl nd rfl rfl (by decide) rfl rfl (pa_cons (pe_op op_fdivW (pv 3) pe_int) (pa_cons (pe_op op_fdivW (pv 2) pe_int) pa_nil)) rfl)))
      (pss_one (ps_ret (pe_tup (pa_cons (pe_callB (call_max2 rfl) (by rfl) T.b_max (by decide +kernel) (pa_cons pe_int (pa_cons (pv 3) pa_nil))) (pa_cons (pv 2) pa_nil)))))))), ?_⟩
    -- the bottom
    refine ⟨fun v H1 => ∃ n : Nat, n ≤ most ∧ v = .int (2 ^ n) ∧ But p H H1 ∧ BagAt H1 p, ?_, ?_⟩
    · refine ⟨_, rfl, _, rfl, _, _, rfl, rfl, p, _, rfl, hB, by omega, ?_, ?_⟩
      · exact Nat.lt_of_le_of_lt (show ((most : Int) + 1).natAbs ≤ 2 ^ 8 by omega) (Nat.pow_lt_pow_right (by decide) (by decide))
      intro H1 r b1 hB1 r0 r1
      obtain ⟨n, rfl⟩ := Int.eq_ofNat_of_zero_le r0
      refine ⟨_, _, rfl, rfl, shl_ok (i := 1) (n := 2) (j := n) (by decide) (by omega), n, by omega, ?_, b1, hB1⟩
      show V.int (1 * 2 ^ ((n : Nat) : Int).toNat) = .int (2 ^ n)
      rw [Int.toNat_natCast, Int.one_mul]
    rintro _ H1 ⟨n, hn, rfl, b1, hB1⟩
    have n0 := pow2_pos n
    have nbig : ((2 : Int) ^ n).natAbs < 2 ^ 250 := by
      have e : ((2 ^ n : Nat) : Int) = (2 : Int) ^ n := by simp
      have l : (2 : Nat) ^ n < 2 ^ 250 := Nat.pow_lt_pow_right (by decide) (by omega)
      omega
    -- the top
    refine ⟨fun v H2 => (∃ x : Int, v = .int x ∧ 0 ≤ x ∧ x ≤ 2 ^ n ∧ (1 ≤ x ∨ n = 0)) ∧ Grow p H H2 ∧ BagAt H2 p, ?_, ?_⟩
    · refine ⟨_, rfl, _, rfl, _, _, rfl, rfl, _, rfl, _, rfl, p, _, rfl, hB1, by omega, nbig, ?_⟩
      intro H2 r b2 hB2 r0 r1
      refine ⟨_, _, rfl, rfl, lens 4 (by decide), fun l nl => ?_⟩
      have g2 : Grow p H (upd H2 l (.lst [.int 1, .int (2 ^ n), .int (2 ^ n - 1), .int (1 + r)])) := (b1.trans b2).grow.trans (Same.grow (Same.up0 nl))
      refine ⟨_, rfl, p, _, rfl, hB2.keep (Same.up0 nl), by decide, by decide, ?_⟩
      intro H3 k b3 hB3 k0 k1
      have hl : H3 l = some (.lst [.int 1, .int (2 ^ n), .int (2 ^ n - 1), .int (1 + r)]) := by
        rw [b3 l (hB2.new nl)]
        exact upd_same
      have fin : ∀ x : Int, 0 ≤ x → x ≤ 2 ^ n → (1 ≤ x ∨ n = 0) → (∃ y : Int, V.int x = .int y ∧ 0 ≤ y ∧ y ≤ 2 ^ n ∧ (1 ≤ y ∨ n = 0)) ∧ Grow p H H3 ∧ BagAt H3 p := fun x a b c => ⟨⟨x, rfl, a, b, c⟩, g2.trans b3.grow, hB3⟩
      have hk : k = 0 ∨ k = 1 ∨ k = 2 ∨ k = 3 := by omega
      rcases hk with rfl | rfl | rfl | rfl
      · exact ixl (j := 0) hl rfl (fin _ (by decide) n0 (.inl (by decide)))
      · exact ixl (j := 1) hl rfl (fin _ (by omega) (by omega) (.inl n0))
      · refine ixl (j := 2) hl rfl (fin _ (by omega) (by omega) ?_)
        by_cases e : n = 0
        · exact .inr e
        · obtain ⟨m, _, e2⟩ := pow2_half e
          have := pow2_pos m
          exact .inl (by omega)
      · exact ixl (j := 3) hl rfl (fin _ (by omega) (by omega) (.inl (by omega)))
    rintro _ H2 ⟨⟨x, rfl, x0, x1, x2⟩, g2, hB2⟩
    -- in lowest terms
    refine ⟨fun m σ H3 => ∃ x : Int, σ = [some (.ref p), some (.int (most : Int)), some (.int (2 ^ m)), some (.int x)] ∧ m ≤ n ∧ 0 ≤ x ∧ x ≤ 2 ^ m ∧ (1 ≤ x ∨ m = 0) ∧ H3 = H2, ⟨n, x, rfl, Nat.le_refl _, x0, x1, x2, rfl⟩, ?_⟩
    rintro m _ H3 ⟨x, rfl, hm2, x0, x1, x2, rfl⟩
    have m0 := pow2_pos m
    have done : (m = 0 ∨ x % 2 = 1) → ∀ t, H3 t = none → Q (.ref t) (upd H3 t (.tup [.int (if x > 1 then x else 1), .int (2 ^ m)])) := by
      intro hd t nt
      refine q _ t _ _ (g2.trans (Same.grow (Same.up0 nt))) (hB2.keep (Same.up0 nt)) ?_ upd_same ⟨⟨m, by omega, rfl⟩, ?_, ?_, ?_⟩
      · cases e : H t with
        | none => rfl
        | some o =>
          have ne : t ≠ p := hB2.new nt
          rw [g2 t o ne e] at nt
          cases nt
      · split <;> omega
      · split <;> omega
      · rcases hd with rfl | hd
        · exact .inl rfl
        · by_cases e : m = 0
          · subst e
            exact .inl rfl
          · refine .inr ?_
            rw [show (if x > 1 then x else 1) = x by split <;> omega]
            exact hd
    refine ⟨_, rfl, _, _, rfl, rfl, _, rfl, ite2 (fun e => ?_) (fun e => ?_)⟩
    · have m1 : m ≠ 0 := fun z => by
        subst z
        exact absurd (of_decide_eq_true e) (by decide)
      obtain ⟨m', rfl, e2⟩ := pow2_half m1
      have m2 := pow2_pos m'
      refine ⟨_, rfl, _, _, rfl, rfl, (by show (0 : Int) < 2; decide), rfl, _, rfl, ?_⟩
      rw [dec_int]
      by_cases e3 : x % 2 = 0
      · rw [beq_iff_eq.mpr e3]
        refine iteT ⟨fun σ' H' => ∃ x : Int, σ' = [some (.ref p), some (.int (most : Int)), some (.int (2 ^ m')), some (.int x)] ∧ 0 ≤ x ∧ x ≤ 2 ^ m' ∧ (1 ≤ x ∨ m' = 0) ∧ H' = H3, ?_, ?_⟩
        · rintro σ' H' ⟨x', rfl, a, b, c, rfl⟩
          exact ⟨m', by omega, x', rfl, by omega, a, b, c, rfl⟩
        · refine ⟨_, rfl, _, _, rfl, rfl, wide_div (by decide) (b := 64) (by decide) (by decide) (by decide), _, rfl, _, _, rfl, rfl, wide_div (by decide) (b := 64) (by decide) (by decide) (by decide), _, _, rfl, x / 2, ?_, by omega, by omega, .inl (by omega), rfl⟩
          have e4 : (2 : Int) ^ (m' + 1) / 2 = 2 ^ m' := by omega
          show [some (V.ref p), some (V.int (most : Int)), some (V.int ((2 : Int) ^ (m' + 1) / 2)), some (V.int (x / 2))] = _
          rw [e4]
      · rw [beq_eq_false_iff_ne.mpr e3]
        exact iteF ⟨_, rfl, _, _, rfl, _, rfl, lens 2 (by decide), done (.inr (by omega))⟩
    · have m1 : m = 0 := by
        have e1 : ¬ ((1 : Int) < 2 ^ m) := fun z => e (decide_eq_true z)
        by_cases z : m = 0
        · exact z
        · obtain ⟨m', _, e2⟩ := pow2_half z
          have := pow2_pos m'
          omega
      exact ⟨_, rfl, _, _, rfl, _, rfl, lens 2 (by decide), done (.inl m1)⟩
end
/-! ### the texts of numbers -/
theorem pe_gi {X : Cx} {x : Str} {i : Int} {t : Tok} {pos : Pos} (hg : Gl X x) (hm : X.mg x = some (.int i t)) (hd : (x == ("__debug__" : Str)) = false := by decide) : PE X (.Name x pos) (tC (.int i)) := pe_glob hg hm ⟨_, rfl⟩ hd
def spDigits : Sp := fun vs H Q _ => ∃ k : Nat, vs = [.int (k : Int)] ∧ k < 10 ^ 64 ∧ ∀ H', Same H H' → Q (.str (Str.ofString (toString (k : Int)))) H'
def spIsDigits : Sp := fun vs H Q _ => ∃ x : Str, vs = [.str x] ∧ Q (.bl (Txt.isascii x && Txt.isdigit x)) H
section
variable {P : Program} {w : World} {K : PySem.W.Frag} {mg : Str → Option Value} {base : Heap}
theorem ok_isDigits {f : Addr} {fd : FuncData} (F : Fun K "is_digits" "is_digits" s_is_digits f fd) : FnOk P w K mg base L2.CX0 1 f fd ["text"] spIsDigits := by
  refine F.ok sc_is_digits (fun vs H Q E h => ?_) (fun cdv A outer s H vs Q E hr h => ?_)
  · obtain ⟨x, rfl, _⟩ := h
    rfl
  · obtain ⟨x, rfl, q⟩ := h
    have nd := sc_is_digits.nd
    refine ⟨_, (pss_one (ps_ret (pe_and (pe_m0 PySem.F.slot_str_isascii PySem.F.type_str_isascii mt_isascii (pv 0)) (pe_one (pe_m0 PySem.F.slot_str_isdigit PySem.F.type_str_isdigit mt_isdigit (pv 0)))))), ?_⟩
    refine ⟨_, rfl, ⟨x, rfl⟩, x, rfl, rfl, trivial, ?_⟩
    cases e : Txt.isascii x with
    | false =>
      rw [e] at q
      exact ⟨_, rfl, q⟩
    | true =>
      rw [e] at q
      exact ⟨_, rfl, _, rfl, ⟨x, rfl⟩, x, rfl, rfl, trivial, q⟩
theorem ok_digits {f : Addr} {fd : FuncData} {t1 t2 : Tok} (F : Fun K "digits_of" "digits_of" s_digits_of f fd) (T : Bl mg) (m_CHUNK : mg "CHUNK" = some (.int 64 t1)) (m_CHUNK_BASE : mg "CHUNK_BASE" = some (.int (10 ^ 64) t2)) : FnOk P w K mg base L2.CX0 1 f fd ["number"] spDigits := by
  refine F.ok sc_digits_of (fun vs H Q E h => ?_) (fun cdv A outer s H vs Q E hr h => ?_)
  · obtain ⟨k, rfl, _⟩ := h
    rfl
  · obtain ⟨k, rfl, hk, q⟩ := h
    have nd := sc_digits_of.nd
    refine ⟨_, (pss_cons (ps_set (i := 1) nd rfl (.inl rfl) (pv 0))
      (pss_cons (ps_set (i := 2) nd rfl (.inl rfl) (pe_lst pa_nil))
      (pss_cons (ps_while PassesOwn.never (pt_cmpR op_ge (pv 1) (pe_gi rfl m_CHUNK_BASE) (nomark _))
        (pss_cons (ps_asg (pe_callB call_divmodW (by rfl) T.b_divmod (by decide +kernel) (pa_cons (pv 1) (pa_cons (pe_gi rfl m_CHUNK_BASE) pa_nil))) (pg_tup rfl (pgs_cons (pg_name (i := 1) nd rfl (.inl rfl)) (pgs_cons (pg_name (i := 3) nd rfl (.inl rfl)) pgs_nil))))
        (pss_one (ps_expr (pe_bm PySem.F.plainAttrs_list PySem.F.slot_list_append PySem.F.type_list_append mt_append (pv 2) (pa_cons (pe_m1 PySem.F.slot_str_zfill PySem.F.type_str_zfill mt_zfill (pe_callTy call_str_int (by rfl) T.b_str (by decide +kernel) (pa_cons (pv 3) pa_nil)) (pe_gi rfl m_CHUNK)) pa_nil))))))
      (pss_cons (ps_expr (pe_bm PySem.F.plainAttrs_list PySem.F.slot_list_append PySem.F.type_list_append mt_append (pv 2) (pa_cons (pe_callTy call_str_int (by rfl) T.b_str (by decide +kernel) (pa_cons (pv 1) pa_nil)) pa_nil)))
      (pss_cons (ps_expr (pe_bm0 PySem.F.plainAttrs_list PySem.F.slot_list_reverse PySem.F.type_list_reverse mt_reverse (pv 2)))
      (pss_one (ps_ret (pe_join pe_str (pv 2))))))))), ?_⟩
    refine ⟨_, rfl, lens 0 (by decide), fun l nl => ?_⟩
    refine ⟨fun _ σ H3 => σ = [some (.int (k : Int)), some (.int (k : Int)), some (.ref l), none] ∧ H3 = upd H l (.lst []), ⟨0, rfl, rfl⟩, ?_⟩
    rintro m _ H3 ⟨rfl, rfl⟩
    refine ⟨_, rfl, _, _, rfl, rfl, _, rfl, ite2 (fun e => ?_) (fun e => ?_)⟩
    · have e1 := of_decide_eq_true e
      omega
    have lg : ((k : Nat) : Int).natAbs.log2 < 1920 := by
      rw [Int.natAbs_natCast]
      exact Nat.lt_of_lt_of_le (PySem.Flt.log2_lt_of (k := 256) (by decide) (Nat.lt_of_lt_of_le hk (by decide))) (by decide)
    refine ⟨_, rfl, .inl ⟨rfl, _, SqL.of upd_same⟩, _, rfl, (k : Int), rfl, lg, l, [], _, rfl, rfl, upd_same, Nat.lt_of_lt_of_le (show 0 < 1 by decide) (lens 1 (by decide)), ?_⟩
    rw [upd_upd]
    refine ⟨_, rfl, .inl ⟨rfl, _, SqL.of upd_same⟩, l, _, rfl, rfl, upd_same, ?_⟩
    rw [upd_upd]
    refine ⟨⟨_, rfl⟩, _, rfl, _, l, [Str.ofString (toString (k : Int))], rfl, rfl, .inl (SqL.of upd_same), ?_, ?_⟩
    · have := int_text_length_le10 (k := 64) (a := (k : Int)) (by decide) (by rw [Int.natAbs_natCast]; exact hk)
      show (Str.ofString (toString (k : Int))).length + 0 + 1 * 0 ≤ 16777216
      rw [PySem.ofString_length]
      omega
    · rw [show Txt.join "" [Str.ofString (toString (k : Int))] = Str.ofString (toString (k : Int)) from rfl]
      exact q _ (Same.up0 nl)
theorem digitsVal_zeros : ∀ (n : Nat) (l : List Nat), PySem.NumText.digitsVal (List.replicate n 48 ++ l) = PySem.NumText.digitsVal l
  | 0, l => rfl
  | n + 1, l => by
    have ih := digitsVal_zeros n l
    show List.foldl _ (0 * 10 + (48 - 48)) (List.replicate n 48 ++ l) = _
    exact ih
theorem zfill_digits {x : Str} (h : PySem.NumText.AllDigits x.cps.toList) (hn : x.cps.toList ≠ []) (hl : x.length ≤ 64) : (Txt.zfill x 64).cps.toList = List.replicate (64 - x.length) 48 ++ x.cps.toList := by
  unfold Txt.zfill
  have el : x.cps.toList.length = x.length := Array.length_toList
  by_cases e : (64 : Int) ≤ x.length
  · rw [if_pos e, show 64 - x.length = 0 by omega]
    rfl
  · rw [if_neg e]
    have pd : zfilled x ((64 : Int).toNat - x.length) = Builtin.Str.padded x ((64 : Int).toNat - x.length) 0 48 := by
      unfold zfilled
      cases c : x.cps[0]? with
      | none => rfl
      | some d =>
        have m : d ∈ x.cps.toList := by
          have := Array.mem_of_getElem? c
          exact Array.mem_toList_iff.mpr this
        have := h d m
        split
        · rename_i z
          cases z
          omega
        · rename_i z
          cases z
          omega
        · rfl
    rw [pd]
    show (Array.replicate (64 - x.length) 48 ++ x.cps ++ Array.replicate 0 48).toList = _
    simp
theorem cut_all {z : Str} (h : z.length = 64) : cutS z (some 0) (some 64) = z := by
  unfold cutS
  rw [h, show (some (0 : Int)) = some ((0 : Nat) : Int) from rfl, show (some (64 : Int)) = some ((64 : Nat) : Int) from rfl, HT.sIx_nat, HT.sIx_nat]
  have el : z.cps.toList.length = 64 := by rw [Array.length_toList]; exact h
  rw [show min 0 64 = 0 from rfl, show min 64 64 - 0 = 64 from rfl, List.drop_zero, List.take_of_length_le (by omega)]
/-- the number that digits tell -/
def spNumber : Sp := fun vs H Q _ => ∃ x : Str, vs = [.str x] ∧ PySem.NumText.AllDigits x.cps.toList ∧ x.cps.toList ≠ [] ∧ x.length ≤ 64 ∧ Q (.int ((PySem.NumText.digitsVal x.cps.toList : Nat) : Int)) H
theorem ok_number {f : Addr} {fd : FuncData} {t1 t2 : Tok} (F : Fun K "number_of" "number_of" s_number_of f fd) (T : Bl mg) (m_CHUNK : mg "CHUNK" = some (.int 64 t1)) (m_CHUNK_BASE : mg "CHUNK_BASE" = some (.int (10 ^ 64) t2)) : FnOk P w K mg base L2.CX0 1 f fd ["digits"] spNumber := by
  refine F.ok sc_number_of (fun vs H Q E h => ?_) (fun cdv A outer s H vs Q E hr h => ?_)
  · obtain ⟨x, rfl, _⟩ := h
    rfl
  · obtain ⟨x, rfl, had, hne, hl, q⟩ := h
    have nd := sc_number_of.nd
    have el : x.cps.toList.length = x.length := Array.length_toList
    have h1 : 1 ≤ x.length := by
      rw [← el]
      exact List.length_pos_iff.mpr hne
    refine ⟨_, (pss_cons (ps_set (i := 1) nd rfl (.inl rfl) (pe_cut (pe_op op_mulX (pe_op op_fdivW (pe_op op_sub (pe_op op_add (pe_callB call_len (by rfl) T.b_len (by decide +kernel) (pa_cons (pv 0) pa_nil)) (pe_gi rfl m_CHUNK)) pe_int) (pe_gi rfl m_CHUNK)) (pe_gi rfl m_CHUNK))))
      (pss_cons (ps_set (i := 2) nd rfl (.inl rfl) (pe_m1 PySem.F.slot_str_zfill PySem.F.type_str_zfill mt_zfill (pv 0) (pv 1)))
      (pss_cons (ps_set (i := 3) nd rfl (.inl rfl) pe_int)
      (pss_cons (ps_for PassesOwn.never rfl (pi_range3 rfl T.b_range (pa_cons pe_int (pa_cons (pv 1) (pa_cons (pe_gi rfl m_CHUNK) pa_nil)))) (pg_name (i := 4) nd rfl (.inl rfl))
        (pss_one (ps_set (i := 3) nd rfl (.inl rfl) (pe_cut (pe_op op_add (pe_op op_mulX (pv 3) (pe_gi rfl m_CHUNK_BASE)) (pe_callTy call_int_str (by rfl) T.b_int (by decide +kernel) (pa_cons (pe_slice sl_str (pv 2) (po_some (pv 4)) (po_some (pe_op op_add (pv 4) (pe_gi rfl m_CHUNK)))) pa_nil)))))))
      (pss_one (ps_ret (pv 3))))))), ?_⟩
    refine ⟨fun v H' => v = .int 64 ∧ H' = H, ?_, ?_⟩
    · have ew : (((x.length : Nat) : Int) + 64 - 1) / 64 = 1 := by omega
      refine ⟨_, rfl, .str x, x.length, rfl, ⟨Nat.le_trans hl (lens 64 (by decide)), rfl⟩, _, _, rfl, rfl, _, _, rfl, rfl, _, _, rfl, rfl, wide_div (by decide) (b := 64) (by decide) (by decide) (by decide), _, _, rfl, rfl, ?_, ?_, rfl⟩
      · show CMulX ((((x.length : Nat) : Int) + 64 - 1) / 64) 64
        rw [ew]
        exact mulx_ok (a := 64) (b := 64) (by decide) (by decide) (by decide)
      · show V.int ((((x.length : Nat) : Int) + 64 - 1) / 64 * 64) = _
        rw [ew]
        rfl
    rintro _ H1 ⟨rfl, rfl⟩
    have zl := zfill_digits had hne hl
    have hz : (Txt.zfill x 64).length = 64 := by
      rw [show (Txt.zfill x 64).length = (Txt.zfill x 64).cps.toList.length from (Array.length_toList).symm, zl, List.length_append, List.length_replicate, el]
      omega
    have za : PySem.NumText.AllDigits (Txt.zfill x 64).cps.toList := by
      rw [zl]
      intro c hc
      rcases List.mem_append.mp hc with m | m
      · rw [(List.mem_replicate.mp m).2]
        decide
      · exact had c m
    have zv : PySem.NumText.digitsVal (Txt.zfill x 64).cps.toList = PySem.NumText.digitsVal x.cps.toList := by
      rw [zl, digitsVal_zeros]
    have zn : (Txt.zfill x 64).cps.toList ≠ [] := by
      intro z
      have : (Txt.zfill x 64).cps.toList.length = 64 := by rw [Array.length_toList]; exact hz
      rw [z] at this
      cases this
    refine ⟨_, rfl, ⟨x, rfl⟩, _, rfl, x, 64, rfl, rfl, by decide +kernel, ?_⟩
    generalize Txt.zfill x 64 = y at hz za zv zn ⊢
    refine ⟨_, rfl, 0, 64, 64, 1, rfl, ⟨by decide, by decide, by decide +kernel, by decide +kernel⟩, ?_⟩
    refine for_it (walk_rangeC (lo := 0) (c := 64) (n := 1)) (fun i σ H' => ∃ y4 : Option V, σ = [some (.str x), some (.int 64), some (.str y), some (.int (if i = 0 then 0 else ((PySem.NumText.digitsVal x.cps.toList : Nat) : Int))), y4] ∧ H' = H1) ⟨_, rfl, rfl⟩ (fun _ _ _ _ _ => trivial) ?_ ?_
    · rintro i z σ H' H2 hi ⟨y4, rfl, rfl⟩ ⟨rfl, rfl⟩
      have i0 : i = 0 := by omega
      subst i0
      refine ⟨fun v H' => v = .int ((PySem.NumText.digitsVal x.cps.toList : Nat) : Int) ∧ H' = H2, ?_, ?_⟩
      · refine ⟨_, rfl, _, _, rfl, rfl, mulx_ok (a := 64) (b := 256) (show ((0 : Int)).natAbs < 2 ^ 64 by decide) (by decide) (by decide), ?_⟩
        refine ⟨_, rfl, _, rfl, _, rfl, _, rfl, _, _, rfl, rfl, _, rfl, y, rfl, by rw [hz]; exact lens 64 (by decide), ?_⟩
        rw [show cutS y (some (0 + ((0 : Nat) : Int) * 64)) (some (0 + ((0 : Nat) : Int) * 64 + 64)) = y from cut_all hz]
        have en := PySem.intText_digits za zn (by omega)
        rw [zv] at en
        refine ⟨y, _, rfl, en, by omega, _, _, rfl, rfl, ?_, rfl⟩
        show V.int (0 * 10 ^ 64 + ((PySem.NumText.digitsVal x.cps.toList : Nat) : Int)) = _
        rw [Int.zero_mul, Int.zero_add]
      rintro _ H3 ⟨rfl, rfl⟩
      exact ⟨_, rfl, rfl⟩
    · rintro σ H' ⟨y4, rfl, rfl⟩
      exact ⟨_, rfl, q⟩
/-- the text of x / 2 ^ m -/
def num (k : Nat) : Str := Str.ofString (toString ((k : Nat) : Int))
def partText (x m : Nat) : Str := if m = 0 then num x else Str.empty ++ num x ++ "/" ++ num (2 ^ m)
def spPartText : Sp := fun vs H Q _ => ∃ (a : Addr) (x m : Nat), vs = [.ref a] ∧ isTup H a x m ∧ partB (x : Int) (2 ^ m) = true ∧ x ≤ 2 ^ m ∧ m ≤ 200 ∧ ∀ H', Same H H' → Q (.str (partText x m)) H'
theorem isP_pair {K : PySem.W.Frag} {H : Hp} {a : Addr} {x y : Int} {b : Bool} (h : H a = some (.tup [.int x, .int y])) (e : partB x y = b) : IsP K H (.ref a) b := by
  refine .inr ⟨a, _, rfl, h, fun v hv => ?_, e.symm⟩
  simp only [List.mem_cons, List.not_mem_nil, or_false] at hv
  rcases hv with rfl | rfl
  · exact Known.int _
  · exact Known.int _
theorem num_len {k : Nat} (h : k < 10 ^ 64) : (num k).length ≤ 65 := by
  have := int_text_length_le10 (k := 64) (a := (k : Int)) (by decide) (by rw [Int.natAbs_natCast]; exact h)
  show (Str.ofString (toString (k : Int))).length ≤ 65
  rw [PySem.ofString_length]
  omega
theorem ok_partText {f : Addr} {fd : FuncData} (F : Fun K "part_text" "part_text" s_part_text f fd) (T : Bl mg) (c_is_part : Cal P w K mg base 2 "is_part" (spIsPart K)) (c_digits_of : Cal P w K mg base 1 "digits_of" spDigits) : FnOk P w K mg base L2.CX0 3 f fd ["part"] spPartText := by
  refine F.ok sc_part_text (fun vs H Q E h => ?_) (fun cdv A outer s H vs Q E hr h => ?_)
  · obtain ⟨a, x, m, rfl, _⟩ := h
    rfl
  · obtain ⟨a, x, m, rfl, ha, hp, hx, hm, q⟩ := h
    have nd := sc_part_text.nd
    have pw : (2 : Nat) ^ m ≤ 2 ^ 200 := Nat.pow_le_pow_right (by decide) hm
    have b1 : x < 10 ^ 64 := Nat.lt_of_le_of_lt (Nat.le_trans hx pw) (by decide)
    have b2 : 2 ^ m < 10 ^ 64 := Nat.lt_of_le_of_lt pw (by decide)
    have cp := cast_pow m
    refine ⟨_, (pss_cons (ps_if (pt_not (pt_val (pe_cut (pe_f c_is_part hr rfl (pa_cons (pv 0) pa_nil)))))
        (pss_one ps_never)
        pss_nil)
      (pss_cons (ps_asg (pv 0) (pg_tup rfl (pgs_cons (pg_name (i := 1) nd rfl (.inl rfl)) (pgs_cons (pg_name (i := 2) nd rfl (.inl rfl)) pgs_nil))))
      (pss_cons (ps_if (pt_cmpR op_eq (pv 2) pe_int (nomark _))
        (pss_one (ps_ret (pe_f c_digits_of hr rfl (pa_cons (pv 1) pa_nil))))
        pss_nil)
      (pss_one (ps_ret (pe_joined (.cons (pe_fmt (pe_f c_digits_of hr rfl (pa_cons (pv 1) pa_nil))) (.cons pe_str (.cons (pe_fmt (pe_f c_digits_of hr rfl (pa_cons (pv 2) pa_nil))) .nil))))))))), ?_⟩
    refine ⟨fun r H' => r = .bl true ∧ H' = H, ⟨_, rfl, (isP_pair ha hp).prog (E := E0) (R := fun r H' => r = .bl true ∧ H' = H) ⟨rfl, rfl⟩⟩, ?_⟩
    rintro _ H0 ⟨rfl, e0⟩
    cases e0
    refine ⟨_, rfl, iteF ?_⟩
    refine ⟨_, rfl, a, _, rfl, SqT.of ha, rfl, _, _, rfl, _, _, rfl, rfl, ?_⟩
    refine ⟨_, rfl, rfl, _, rfl, ite2 (fun e => ?_) (fun e => ?_)⟩
    · have e1 : (2 : Int) ^ m = 1 := V.int.inj (of_decide_eq_true e)
      have m0 : m = 0 := by
        by_cases z : m = 0
        · exact z
        · obtain ⟨k, _, e2⟩ := pow2_half z
          have := pow2_pos k
          omega
      refine ⟨_, rfl, x, rfl, b1, fun H' s => ?_⟩
      have k := q H' s
      unfold partText at k
      rw [if_pos m0] at k
      exact k
    · have m0 : m ≠ 0 := fun z => e (decide_eq_true (by rw [z]; rfl))
      refine ⟨_, rfl, x, rfl, b1, fun H1 s1 => ?_⟩
      have l1 := num_len b1
      have l2 := num_len b2
      have fits : ∀ n : Nat, n ≤ 200 → n ≤ sizeLine := fun n h => lens n (by omega)
      have la : ∀ u v : Str, (u ++ v).length = u.length + v.length := fun u v => Array.size_append
      have le0 : Str.empty.length = 0 := rfl
      have ls : ("/" : Str).length = 1 := rfl
      refine .inl ⟨_, rfl, fits _ (by show (num x).length ≤ 200; omega), _, rfl, fits _ (by show (Str.empty ++ num x).length ≤ 200; rw [la]; omega), _, rfl, fits _ (by show (Str.empty ++ num x ++ "/").length ≤ 200; rw [la, la]; omega), ?_⟩
      refine ⟨_, rfl, 2 ^ m, congrArg (fun z => [V.int z]) cp.symm, b2, fun H2 s2 => ?_⟩
      refine .inl ⟨_, rfl, fits _ (by show (num (2 ^ m)).length ≤ 200; omega), _, rfl, fits _ (by show (Str.empty ++ num x ++ "/" ++ num (2 ^ m)).length ≤ 200; rw [la, la, la]; omega), ?_⟩
      have k := q H2 (s1.trans s2)
      unfold partText at k
      rw [if_neg m0] at k
      exact k
/-- what a text tells: a pair of numbers, or nothing -/
def isDig (z : Str) : Bool := Txt.isascii z && Txt.isdigit z
structure DigOk (z : Str) : Prop where
  all : PySem.NumText.AllDigits z.cps.toList
  ne : z.cps.toList ≠ []
  len : z.length ≤ 64
def spTold : Sp := fun vs H Q _ => ∃ (z a s b c : Str), vs = [.str z] ∧ z.length ≤ sizeLine ∧ s.length ≤ 1 ∧ Txt.partition z "/" = (a, s, b) ∧ c = (if s.length = 0 then ("1" : Str) else b) ∧
  ((isDig a && isDig c) = false → ∀ H', Same H H' → Q .non H') ∧ ((isDig a && isDig c) = true → DigOk a ∧ DigOk c ∧ ∀ H' t, Same H H' → H' t = some (.tup [.int ((PySem.NumText.digitsVal a.cps.toList : Nat) : Int), .int ((PySem.NumText.digitsVal c.cps.toList : Nat) : Int)]) → Q (.ref t) H')
theorem ok_told {f : Addr} {fd : FuncData} (F : Fun K "told_pair" "told_pair" s_told_pair f fd) (T : Bl mg) (c_is_digits : Cal P w K mg base 1 "is_digits" spIsDigits) (c_number_of : Cal P w K mg base 1 "number_of" spNumber) : FnOk P w K mg base L2.CX0 2 f fd ["text"] spTold := by
  refine F.ok sc_told_pair (fun vs H Q E h => ?_) (fun cdv A outer s H vs Q E hr h => ?_)
  · obtain ⟨z, a, s, b, c, rfl, _⟩ := h
    rfl
  · obtain ⟨z, a, s', b, c, rfl, hz, hs1, hp, hc, k0, k1⟩ := h
    have nd := sc_told_pair.nd
    refine ⟨_, (pss_cons (ps_asg (pe_partition (pv 0) pe_str) (pg_tup rfl (pgs_cons (pg_name (i := 1) nd rfl (.inl rfl)) (pgs_cons (pg_name (i := 2) nd rfl (.inl rfl)) (pgs_cons (pg_name (i := 3) nd rfl (.inl rfl)) pgs_nil)))))
      (pss_mid (ps_if (pt_not (pt_truth (pv 2) (fun _ => rfl)))
        (pss_one (ps_set (i := 3) nd rfl (.inl rfl) pe_str))
        pss_nil)
      (pss_cons (ps_if (PW.pt (pw_or (pt_not (pt_val (pe_f c_is_digits hr rfl (pa_cons (pv 1) pa_nil)))) (pw_or1 (pt_not (pt_val (pe_f c_is_digits hr rfl (pa_cons (pv 3) pa_nil)))))))
        (pss_one (ps_ret pe_non))
        pss_nil)
      (pss_one (ps_ret (pe_tup (pa_cons (pe_f c_number_of hr rfl (pa_cons (pv 1) pa_nil)) (pa_cons (pe_f c_number_of hr rfl (pa_cons (pv 3) pa_nil)) pa_nil)))))))), ?_⟩
    refine ⟨_, rfl, ⟨z, rfl⟩, z, "/", rfl, rfl, by decide, hz, fun p np => ?_⟩
    rw [hp]
    have s1 := Same.up0 (o := .tup [.str a, .str s', .str b]) np
    refine ⟨p, _, rfl, SqT.of upd_same, rfl, _, _, rfl, _, _, rfl, _, _, rfl, rfl, ?_⟩
    have s1 : Same H (upd H p (.tup [.str a, .str s', .str b])) := s1
    generalize upd H p (.tup [.str a, .str s', .str b]) = H1 at s1 ⊢
    refine ⟨fun σ H' => (∃ y4 : Option V, σ = [some (.str z), some (.str a), some (.str s'), some (.str c)]) ∧ H' = H1, ?_, ?_⟩
    · refine ⟨_, rfl, _, ⟨lens _ (show s'.length ≤ 1000 by omega), rfl⟩, ?_⟩
      by_cases e : s'.length = 0
      · rw [if_pos e] at hc
        rw [show (!(((s'.length : Nat) : Int) != 0)) = true by rw [e]; rfl, hc]
        exact iteT ⟨⟨none, rfl⟩, rfl⟩
      · rw [if_neg e] at hc
        rw [show (!(((s'.length : Nat) : Int) != 0)) = false by simp [e], hc]
        exact iteF ⟨⟨none, rfl⟩, rfl⟩
    rintro _ H2 ⟨⟨y4, rfl⟩, rfl⟩
    refine ⟨_, rfl, a, rfl, _, rfl, ?_⟩
    have ea : (Txt.isascii a && Txt.isdigit a) = isDig a := rfl
    have ec : (Txt.isascii c && Txt.isdigit c) = isDig c := rfl
    rw [ea]
    cases e1 : isDig a with
    | false => exact iteT (k0 (by rw [e1]; rfl) _ s1)
    | true =>
      refine iteF ⟨_, rfl, c, rfl, _, rfl, ?_⟩
      rw [ec]
      cases e2 : isDig c with
      | false => exact iteT (k0 (by rw [e1, e2]; rfl) _ s1)
      | true =>
        obtain ⟨da, dc, k⟩ := k1 (by rw [e1, e2]; rfl)
        refine iteF ⟨_, rfl, a, rfl, da.all, da.ne, da.len, _, rfl, c, rfl, dc.all, dc.ne, dc.len, lens 2 (by decide), fun t nt => ?_⟩
        exact k _ t (Same.up s1 nt) upd_same
open TL in
theorem num_list (k : Nat) : (num k).cps.toList = numL k := tl_num k
open TL in
theorem dig_num {k : Nat} (h : k < 10 ^ 64) : DigOk (num k) := by
  refine ⟨by rw [num_list]; exact numL_digits k, by rw [num_list]; exact numL_ne k, ?_⟩
  have e : (num k).cps.toList.length = (num k).length := Array.length_toList
  rw [← e, num_list]
  exact numL_len (by decide) h
open TL in
theorem val_num (k : Nat) : PySem.NumText.digitsVal (num k).cps.toList = k := by rw [num_list]; exact numL_val k
theorem isDig_of {z : Str} (h : PySem.NumText.AllDigits z.cps.toList) (hn : z.cps.toList ≠ []) : isDig z = true := by
  have uni : ∀ d : Nat, d < 10 → Unicode.isDigit (48 + d) = true := by decide +kernel
  have e : z.cps.toList.length = z.length := Array.length_toList
  have h1 : 0 < z.length := by rw [← e]; exact List.length_pos_iff.mpr hn
  have a1 : z.cps.all (· < 128) = true := by
    rw [← Array.all_toList]
    exact List.all_eq_true.mpr fun c hc => by have := h c hc; simp; omega
  have a2 : z.cps.all Unicode.isDigit = true := by
    rw [← Array.all_toList]
    refine List.all_eq_true.mpr fun c hc => ?_
    have r := h c hc
    have := uni (c - 48) (by omega)
    rwa [show 48 + (c - 48) = c by omega] at this
  unfold isDig Txt.isascii Txt.isdigit
  rw [a1, a2]
  simp [h1]
theorem one_dig : DigOk "1" := dig_num (k := 1) (by decide)
def spReadBack : Sp := fun vs H Q _ => ∃ x m : Nat, vs = [.str (partText x m)] ∧ partB (x : Int) (2 ^ m) = true ∧ x ≤ 2 ^ m ∧ m ≤ 200 ∧ ∀ H' t, Same H H' → H' t = some (.tup [.int (x : Int), .int (2 ^ m)]) → Q (.ref t) H'
theorem empty_cat (u : Str) : Str.empty ++ u = u := by
  show (⟨#[] ++ u.cps⟩ : Str) = u
  rw [Array.empty_append]

open TL in
theorem partText_cut {x m : Nat} (hx : x < 10 ^ 64) (hm : 2 ^ m < 10 ^ 64) : ∃ a s b c : Str, Txt.partition (partText x m) "/" = (a, s, b) ∧ s.length ≤ 1 ∧ c = (if s.length = 0 then ("1" : Str) else b) ∧ DigOk a ∧ DigOk c ∧ PySem.NumText.digitsVal a.cps.toList = x ∧ PySem.NumText.digitsVal c.cps.toList = 2 ^ m := by
  have ey : tl ("/" : Str) = 47 :: [] := rfl
  have fr : 47 ∉ tl (num x) := by
    show 47 ∉ (num x).cps.toList
    rw [num_list]
    exact numL_free (.inl (by decide))
  unfold partText
  by_cases m0 : m = 0
  · rw [if_pos m0]
    refine ⟨_, _, _, "1", partition_none ey fr, by decide, rfl, dig_num hx, one_dig, val_num x, ?_⟩
    rw [m0]
    decide +kernel
  · rw [if_neg m0, empty_cat]
    exact ⟨_, _, _, num (2 ^ m), partition_app ey fr, by decide, rfl, dig_num hx, dig_num hm, val_num x, val_num _⟩
theorem ok_readBack {f : Addr} {fd : FuncData} (F : Fun K "read_part" "read_part" s_read_part f fd) (T : Bl mg) (c_told_pair : Cal P w K mg base 2 "told_pair" spTold) (c_is_part : Cal P w K mg base 2 "is_part" (spIsPart K)) (c_part_text : Cal P w K mg base 3 "part_text" spPartText) : FnOk P w K mg base L2.CX0 4 f fd ["text"] spReadBack := by
  refine F.ok sc_read_part (fun vs H Q E h => ?_) (fun cdv A outer s H vs Q E hr h => ?_)
  · obtain ⟨x, m, rfl, _⟩ := h
    rfl
  · obtain ⟨x, m, rfl, hp, hx, hm, q⟩ := h
    have nd := sc_read_part.nd
    have pw : (2 : Nat) ^ m ≤ 2 ^ 200 := Nat.pow_le_pow_right (by decide) hm
    have b1 : x < 10 ^ 64 := Nat.lt_of_le_of_lt (Nat.le_trans hx pw) (by decide)
    have b2 : 2 ^ m < 10 ^ 64 := Nat.lt_of_le_of_lt pw (by decide)
    obtain ⟨a, s', b, c, e1, e2, e3, da, dc, va, vc⟩ := partText_cut b1 b2
    have hz : (partText x m).length ≤ sizeLine := by
      have l1 := num_len b1
      have l2 := num_len b2
      have la : ∀ u v : Str, (u ++ v).length = u.length + v.length := fun u v => Array.size_append
      have ls : ("/" : Str).length = 1 := rfl
      refine Nat.le_trans ?_ (lens 200 (by decide))
      unfold partText
      split
      · omega
      · rw [empty_cat, la, la]
        omega
    refine ⟨_, (pss_cons (ps_if (pt_not (pt_val (pe_callB call_isi (by rfl) T.b_isinstance (by decide +kernel) (pa_cons (pv 0) (pa_cons (pe_bltn (v := .ty "str") (by rfl) T.b_str (by decide +kernel) rfl) pa_nil)))))
        (pss_one ps_never)
        pss_nil)
      (pss_cons (ps_set (i := 1) nd rfl (.inl rfl) (pe_cut (pe_f c_told_pair hr rfl (pa_cons (pv 0) pa_nil))))
      (pss_cons (ps_if (PW.pt (pw_or (pt_not (pt_val (pe_cut (pe_f c_is_part hr rfl (pa_cons (pv 1) pa_nil))))) (pw_or1 (pt_cmpR op_ne (pe_f c_part_text hr rfl (pa_cons (pv 1) pa_nil)) (pv 0) (nomark _)))))
        (pss_one ps_never)
        pss_nil)
      (pss_one (ps_ret (pv 1)))))), ?_⟩
    refine ⟨_, rfl, .str (partText x m), .ty "str", _, _, true, rfl, .ty _, .base (.str _), kit_ty (by decide +kernel), true, rfl, iteF ?_⟩
    refine ⟨fun r H' => ∃ t, r = .ref t ∧ Same H H' ∧ isTup H' t x m, ⟨_, rfl, partText x m, a, s', b, c, rfl, hz, e2, e1, e3, fun z => ?_, fun _ => ⟨da, dc, fun H' t s ht => ⟨t, rfl, s, ?_⟩⟩⟩, ?_⟩
    · rw [isDig_of da.all da.ne, isDig_of dc.all dc.ne] at z
      cases z
    · unfold isTup
      rw [ht, va, vc, cast_pow]
    rintro _ H1 ⟨t, rfl, s1, ht⟩
    have s1 : Same H H1 := s1
    refine ⟨fun r H' => r = .bl true ∧ H' = H1, ⟨_, rfl, (isP_pair ht hp).prog (E := E0) (R := fun r H' => r = .bl true ∧ H' = H1) ⟨rfl, rfl⟩⟩, ?_⟩
    rintro _ H0 ⟨rfl, e0⟩
    cases e0
    refine ⟨_, rfl, iteF ?_⟩
    refine ⟨_, rfl, t, x, m, rfl, ht, hp, hx, hm, fun H2 s2 => ?_⟩
    refine ⟨_, rfl, rfl, _, rfl, ?_⟩
    rw [decide_eq_true rfl]
    refine iteF ?_
    exact ⟨_, rfl, q H2 t (s1.trans s2) (s2 _ _ ht)⟩
end
theorem tyx_str {K : PySem.W.Frag} {H : Hp} {y : V} (h : TyX K H y (.type "str")) : ∃ s, y = .str s := by
  generalize e : Value.type "str" = t at h
  cases h with
  | base b =>
    cases b with
    | str s => exact ⟨s, rfl⟩
    | _ => first | (exact absurd (Value.type.inj e) (by decide)) | cases e
  | _ => first | (exact absurd (Value.type.inj e) (by decide)) | cases e
theorem tyx_isS {K : PySem.W.Frag} {H : Hp} {s : Str} {n : String} (h : TyX K H (.str s) (.type n)) : n = "str" := by
  generalize ex : V.str s = x at h
  generalize e : Value.type n = t at h
  cases h with
  | base b =>
    cases b with
    | str s =>
      cases e
      rfl
    | _ => cases ex
  | _ => cases ex
theorem kit_str {n : String} (hn : n ∈ kinds) (h : n ≠ "str") : kitB n "str" = some false := by
  simp only [kinds, List.mem_cons, List.not_mem_nil, or_false] at hn
  rcases hn with rfl | rfl | rfl | rfl | rfl | rfl | rfl
  · decide +kernel
  · decide +kernel
  · decide +kernel
  · exact absurd rfl h
  · decide +kernel
  · decide +kernel
  · decide +kernel
/-! ### what is the text of a part -/
section
open TL PySem.NumText
theorem ofNat_digit {c : Nat} (h : 48 ≤ c ∧ c ≤ 57) : (Char.ofNat c).toNat = c := by
  have k : ∀ d : Nat, d < 10 → (Char.ofNat (48 + d)).toNat = 48 + d := by decide +kernel
  have := k (c - 48) (by omega)
  rwa [show 48 + (c - 48) = c by omega] at this
theorem fold_lt : ∀ (cs : List Nat) (a : Nat), AllDigits cs → cs.foldl (fun acc c => acc * 10 + (c - 48)) a < (a + 1) * 10 ^ cs.length
  | [], a, _ => by simp
  | c :: r, a, h => by
    have ih := fold_lt r (a * 10 + (c - 48)) h.tail
    have hc := h.head
    rw [List.foldl_cons, List.length_cons, Nat.pow_succ, Nat.mul_comm (10 ^ r.length) 10, ← Nat.mul_assoc]
    refine Nat.lt_of_lt_of_le ih (Nat.mul_le_mul_right _ ?_)
    omega
theorem digits_lt {cs : List Nat} (h : AllDigits cs) : digitsVal cs < 10 ^ cs.length := by
  have := fold_lt cs 0 h
  rw [Nat.zero_add, Nat.one_mul] at this
  exact this
/-- digits as they are written: no noughts ahead -/
def Canon (cs : List Nat) : Prop := AllDigits cs ∧ (cs = [48] ∨ ∃ c r, cs = c :: r ∧ 49 ≤ c)
theorem canon_num {cs : List Nat} (h : Canon cs) : numL (digitsVal cs) = cs := by
  obtain ⟨ha, hl⟩ := h
  have hn : ∃ n, cs.length = n + 1 ∧ (n = 0 ∨ ∃ c r, cs = c :: r ∧ 49 ≤ c) := by
    rcases hl with rfl | ⟨c, r, rfl, hc⟩
    · exact ⟨0, rfl, .inl rfl⟩
    · exact ⟨r.length, by rw [List.length_cons], .inr ⟨c, r, rfl, hc⟩⟩
  obtain ⟨n, h1, h2⟩ := hn
  show (Nat.toDigits 10 (digitsVal cs)).map Char.toNat = cs
  rw [toDigits_digitsVal n cs h1 ha h2, List.map_map]
  have : cs.map (Char.toNat ∘ Char.ofNat) = cs.map id := List.map_congr_left fun c hc => ofNat_digit (ha c hc)
  rw [this, List.map_id]
theorem num_canon (k : Nat) : Canon (numL k) := by
  refine ⟨numL_digits k, ?_⟩
  cases e : numL k with
  | nil => exact absurd e (numL_ne k)
  | cons c r =>
    have hd := numL_digits k
    rw [e] at hd
    have hc := hd c (by simp)
    by_cases z : c = 48
    · left
      subst z
      cases r with
      | nil => rfl
      | cons c2 r2 =>
        -- a nought ahead would fall away
        exfalso
        have v := numL_val k
        rw [e, digitsVal_zero] at v
        have len1 : (numL k).length ≤ (c2 :: r2).length := by
          rw [← v]
          refine numL_len (by simp) ?_
          exact digits_lt (fun d hd2 => hd d (List.mem_cons_of_mem _ hd2))
        rw [e, List.length_cons] at len1
        omega
    · right
      exact ⟨c, r, rfl, by omega⟩
theorem pow_of_and : ∀ n y : Nat, y ≤ n → 1 ≤ y → lowb y = y → ∃ m, y = 2 ^ m
  | 0, y, h, h1, _ => absurd h1 (by omega)
  | n + 1, y, h, h1, e => by
    by_cases o : y % 2 = 1
    · rw [lowb_odd o] at e
      exact ⟨0, e.symm⟩
    · obtain ⟨b, rfl⟩ : ∃ b, y = 2 * b := ⟨y / 2, by omega⟩
      rw [lowb_even (by omega)] at e
      obtain ⟨m, hm⟩ := pow_of_and n b (by omega) (by omega) (by omega)
      exact ⟨m + 1, by rw [hm, Nat.pow_succ, Nat.mul_comm]⟩
theorem partB_pow {x y : Nat} (h : partB (x : Int) (y : Int) = true) : ∃ m, y = 2 ^ m ∧ x ≤ 2 ^ m := by
  unfold partB at h
  simp only [Bool.and_eq_true, decide_eq_true_eq] at h
  obtain ⟨h1, h2, _, h4, _⟩ := h
  have hy : 1 ≤ y := by omega
  rw [bitAnd_pp (by omega) (by omega), Int.toNat_natCast, show ((y : Int) - 1).toNat = y - 1 by omega] at h2
  have h3 : y &&& (y - 1) = 0 := by omega
  obtain ⟨m, rfl⟩ := pow_of_and y y (Nat.le_refl _) hy (by unfold lowb; omega)
  exact ⟨m, rfl, by omega⟩
/-- z is the text of the part x / 2 ^ m -/
structure PG (z : Str) (x m : Nat) : Prop where
  part : partB (x : Int) (2 ^ m) = true
  hi : x ≤ 2 ^ m
  small : 2 ^ m < 10 ^ 60
  txt : z = partText x m
theorem PG.m {z : Str} {x m : Nat} (h : PG z x m) : m ≤ 199 := by
  by_cases e : m ≤ 199
  · exact e
  · have h1 : (2 : Nat) ^ 200 ≤ 2 ^ m := Nat.pow_le_pow_right (by decide) (by omega)
    have h2 : (10 : Nat) ^ 60 < 2 ^ 200 := by decide
    have := h.small
    omega
theorem isDig_all {z : Str} (h : isDig z = true) : AllDigits (tl z) ∧ tl z ≠ [] := by
  unfold isDig Txt.isascii Txt.isdigit at h
  simp only [Bool.and_eq_true] at h
  obtain ⟨h1, h2, h3⟩ := h
  have uni : ∀ c : Nat, c < 128 → Unicode.isDigit c = true → 48 ≤ c ∧ c ≤ 57 := by decide +kernel
  rw [← Array.all_toList] at h1 h3
  constructor
  · intro c hc
    exact uni c (of_decide_eq_true (List.all_eq_true.mp h1 c hc)) (List.all_eq_true.mp h3 c hc)
  · intro e
    have e2 : z.cps.toList.length = z.length := Array.length_toList
    have e3 : z.cps.toList = [] := e
    rw [e3] at e2
    have : z.length > 0 := of_decide_eq_true h2
    simp at e2
    omega
theorem tl_slash : tl ("/" : Str) = 47 :: [] := rfl
theorem slash_cases (z : Str) : 47 ∉ tl z ∨ ∃ a b : Str, z = a ++ "/" ++ b ∧ 47 ∉ tl a ∧ a.length + b.length + 1 = z.length := by
  by_cases h : 47 ∈ tl z
  · right
    obtain ⟨as, bs, e, n⟩ := List.eq_append_cons_of_mem h
    refine ⟨⟨as.toArray⟩, ⟨bs.toArray⟩, ?_, n, ?_⟩
    · refine ext_tl ?_
      rw [tl_append, tl_append, tl_slash, e]
      show _ = as ++ [47] ++ bs
      simp
    · rw [len_tl z, e, List.length_append, List.length_cons]
      show as.toArray.size + bs.toArray.size + 1 = _
      simp
      omega
  · exact .inl h
theorem part_none {z : Str} (h : 47 ∉ tl z) : Txt.partition z "/" = (z, Str.empty, Str.empty) := partition_none tl_slash h
theorem part_app {a b : Str} (h : 47 ∉ tl a) : Txt.partition (a ++ "/" ++ b) "/" = (a, ("/" : Str), b) := partition_app tl_slash h
theorem split_none {z : Str} (h : 47 ∉ tl z) : Txt.split z "/" = [z] := by
  refine map_tl_inj ?_
  rw [split_spl z "/" (by rw [tl_slash]; simp) (kind_ok (by decide +kernel)), tl_slash, spl_last1 h]
  simp
theorem split_app {a b : Str} (h : 47 ∉ tl a) : Txt.split (a ++ "/" ++ b) "/" = a :: Txt.split b "/" := by
  refine map_tl_inj ?_
  rw [split_spl _ "/" (by rw [tl_slash]; simp) (kind_ok (by decide +kernel)), tl_append, tl_append, tl_slash, List.append_assoc]
  rw [List.map_cons, split_spl b "/" (by rw [tl_slash]; simp) (kind_ok (by decide +kernel)), tl_slash, spl_part1 h]
  simp
theorem split_len : ∀ (n : Nat) (z : Str), z.length ≤ n → (∀ u ∈ Txt.split z "/", u.length ≤ n) ∧ 1 ≤ (Txt.split z "/").length ∧ (Txt.split z "/").length ≤ n + 1
  | n, z, h => by
    rcases slash_cases z with e | ⟨a, b, rfl, ha, hl⟩
    · rw [split_none e]
      exact ⟨fun u hu => by rw [List.mem_singleton.mp hu]; exact h, by simp, by simp⟩
    · obtain ⟨h1, h2, h3⟩ := split_len (n - 1) b (by omega)
      rw [split_app ha]
      refine ⟨fun u hu => ?_, by simp, by rw [List.length_cons]; omega⟩
      rcases List.mem_cons.mp hu with rfl | hu
      · omega
      · have := h1 u hu
        omega
  termination_by n => n
  decreasing_by omega
/-- the words of a text: one, two, or more -/
theorem words_cases (z : Str) : (47 ∉ tl z ∧ Txt.split z "/" = [z]) ∨ (∃ a b, z = a ++ "/" ++ b ∧ 47 ∉ tl a ∧ 47 ∉ tl b ∧ Txt.split z "/" = [a, b]) ∨ ∃ a b, z = a ++ "/" ++ b ∧ 47 ∉ tl a ∧ 47 ∈ tl b ∧ 3 ≤ (Txt.split z "/").length := by
  rcases slash_cases z with e | ⟨a, b, rfl, ha, _⟩
  · exact .inl ⟨e, split_none e⟩
  · right
    rcases slash_cases b with e | ⟨c, d, rfl, hc, _⟩
    · exact .inl ⟨a, b, rfl, ha, e, by rw [split_app ha, split_none e]⟩
    · refine .inr ⟨a, _, rfl, ha, ?_, ?_⟩
      · rw [tl_append, tl_append, tl_slash]
        simp
      · rw [split_app ha, split_app hc, List.length_cons, List.length_cons]
        have := (split_len d.length d (Nat.le_refl _)).2.1
        omega
theorem tl_numS (k : Nat) : tl (num k) = numL k := tl_num k
theorem free_num (k : Nat) : 47 ∉ tl (num k) := by
  rw [tl_numS]
  exact numL_free (.inl (by decide))
theorem partText_0 (x : Nat) : partText x 0 = num x := by
  unfold partText
  rw [if_pos rfl]
theorem partText_s {x m : Nat} (h : m ≠ 0) : partText x m = num x ++ "/" ++ num (2 ^ m) := by
  unfold partText
  rw [if_neg h, empty_cat]
theorem PG.one {z : Str} {x m : Nat} (h : PG z x m) (n : 47 ∉ tl z) : m = 0 ∧ z = num x := by
  by_cases e : m = 0
  · subst e
    exact ⟨rfl, h.txt.trans (partText_0 x)⟩
  · exfalso
    have t := h.txt
    rw [partText_s e] at t
    rw [t, tl_append, tl_append, tl_slash] at n
    simp at n
theorem PG.two {a b : Str} {x m : Nat} (h : PG (a ++ "/" ++ b) x m) (n : 47 ∉ tl a) : m ≠ 0 ∧ a = num x ∧ b = num (2 ^ m) := by
  by_cases e : m = 0
  · exfalso
    subst e
    have t := h.txt
    rw [partText_0] at t
    have f := free_num x
    rw [← t, tl_append, tl_append, tl_slash] at f
    simp at f
  · have t := h.txt
    rw [partText_s e] at t
    have p1 := part_app (b := b) n
    rw [t, part_app (free_num x)] at p1
    cases p1
    exact ⟨e, rfl, rfl⟩
theorem PG.canon {z : Str} {x m : Nat} (h : PG z x m) : ∀ u ∈ Txt.split z "/", Canon (tl u) := by
  intro u hu
  by_cases e : m = 0
  · subst e
    have t := h.txt
    rw [partText_0] at t
    subst t
    rw [split_none (free_num x)] at hu
    rw [List.mem_singleton.mp hu, tl_numS]
    exact num_canon x
  · have t := h.txt
    rw [partText_s e] at t
    subst t
    rw [split_app (free_num x), split_none (free_num _)] at hu
    simp only [List.mem_cons, List.not_mem_nil, or_false] at hu
    rcases hu with rfl | rfl <;> (rw [tl_numS]; exact num_canon _)
theorem canon_str {u : Str} (h : Canon (tl u)) : num (digitsVal (tl u)) = u := by
  refine ext_tl ?_
  rw [tl_numS]
  exact canon_num h
/-- one word -/
theorem pg_one {z : Str} (h : Canon (tl z)) (p : partB ((digitsVal (tl z) : Nat) : Int) 1 = true) : PG z (digitsVal (tl z)) 0 := by
  have p' : partB ((digitsVal (tl z) : Nat) : Int) ((1 : Nat) : Int) = true := p
  refine ⟨p, ?_, by decide, ?_⟩
  · unfold partB at p
    simp only [Bool.and_eq_true, decide_eq_true_eq] at p
    have := p.2.2.2.1
    rw [Nat.pow_zero]
    omega
  · rw [partText_0, canon_str h]
/-- two words -/
theorem pg_two {a b : Str} (ha : Canon (tl a)) (hb : Canon (tl b)) (l : b.length ≤ 60) (h2 : 2 ≤ digitsVal (tl b)) (p : partB ((digitsVal (tl a) : Nat) : Int) ((digitsVal (tl b) : Nat) : Int) = true) :
    ∃ m, digitsVal (tl b) = 2 ^ m ∧ PG (a ++ "/" ++ b) (digitsVal (tl a)) m := by
  obtain ⟨m, e, le⟩ := partB_pow p
  have lt : digitsVal (tl b) < 10 ^ 60 := Nat.lt_of_lt_of_le (digits_lt hb.1) (Nat.pow_le_pow_right (by decide) (by rw [← len_tl]; exact l))
  refine ⟨m, e, ?_, le, by rw [← e]; exact lt, ?_⟩
  · rw [e, cast_pow] at p
    exact p
  · have m0 : m ≠ 0 := fun z => by
      rw [z] at e
      omega
    rw [partText_s m0, canon_str ha, ← e, canon_str hb]
end
/-! ### texts that may be refused -/
abbrev NPT (K : PySem.W.Frag) (mg : Str → Option Value) (CN fN : Addr) : Prop := PySem.XPart.Txt K mg "NoPart" "NoPart.__init__" "ArithmeticError" "ArithmeticError.__new__" "ArithmeticError.__init__" [.type "ArithmeticError", .type "Exception", .type "BaseException", .type "object"] CN fN
def spTextX (K : PySem.W.Frag) (CN : Addr) : Sp := fun vs H Q E => ∃ v : V, vs = [v] ∧ IsP K H v false ∧ ∀ d, H d = none → E (.ref CN) (some d) (upd H d (xPart v))
/-- what a value tells, if it is the text of a part -/
def TextOf (K : PySem.W.Frag) (H : Hp) (v : V) (yes : Nat → Nat → Prop) (no : Prop) : Prop := (∃ n, TyX K H v (.type n) ∧ n ∈ kinds ∧ n ≠ "str" ∧ no) ∨ ∃ z : Str, v = .str z ∧ z.length ≤ 60 ∧ (∀ a m, PG z a m → yes a m) ∧ ((∀ a m, ¬ PG z a m) → no)
def spReadX (K : PySem.W.Frag) (CN : Addr) : Sp := fun vs H Q E => ∃ v : V, vs = [v] ∧ TextOf K H v (fun a m => ∀ H' t, Same H H' → isTup H' t a m → Q (.ref t) H') (∀ H' d, Same H H' → H' d = none → E (.ref CN) (some d) (upd H' d (xPart v)))
def spLRead (K : PySem.W.Frag) : Sp := fun vs H Q _ => ∃ v : V, vs = [v] ∧ TextOf K H v (fun a m => ∀ H' t, Same H H' → isTup H' t a m → Q (.ref t) H') (∀ H', Same H H' → Q .non H')
theorem none_isP {K : PySem.W.Frag} {H : Hp} : IsP K H .non false := .inl ⟨"NoneType", .base .non, by decide, by decide, rfl⟩
section
variable {P : Program} {w : World} {K : PySem.W.Frag} {mg : Str → Option Value} {base : Heap} {CN fN : Addr}
theorem ok_textX {f : Addr} {fd : FuncData} (F : Fun K "part_text" "part_text" s_part_text f fd) (T : Bl mg) (TN : NPT K mg CN fN) (c_is_part : Cal P w K mg base 2 "is_part" (spIsPart K)) (c_digits_of : Cal P w K mg base 1 "digits_of" spDigits) : FnOk P w K mg base (L2.CX P w) 3 f fd ["part"] (spTextX K CN) := by
  refine F.okX sc_part_text (fun vs H Q E h => ?_) (fun cdv A outer s H vs Q E hr h => ?_)
  · obtain ⟨v, rfl, _⟩ := h
    rfl
  · obtain ⟨v, rfl, hv, kE⟩ := h
    have nd := sc_part_text.nd
    refine ⟨_, (pss_cons (ps_if (pt_not (pt_val (pe_cut (pe_f c_is_part hr rfl (pa_cons (pv 0) pa_nil)))))
        (pss_one (ps_raiseX rfl TN hr (by decide) (takes_of rfl rfl rfl rfl) (by exact (pa_cons (pv 0) pa_nil)) rfl (by decide)))
        pss_nil)
      (pss_cons (ps_asg (pv 0) (pg_tup rfl (pgs_cons (pg_name (i := 1) nd rfl (.inl rfl)) (pgs_cons (pg_name (i := 2) nd rfl (.inl rfl)) pgs_nil))))
      (pss_cons (ps_if (pt_cmpR op_eq (pv 2) pe_int (nomark _))
        (pss_one (ps_ret (pe_f c_digits_of hr rfl (pa_cons (pv 1) pa_nil))))
        pss_nil)
      (pss_one (ps_ret (pe_joined (.cons (pe_fmt (pe_f c_digits_of hr rfl (pa_cons (pv 1) pa_nil))) (.cons pe_str (.cons (pe_fmt (pe_f c_digits_of hr rfl (pa_cons (pv 2) pa_nil))) .nil))))))))), ?_⟩
    refine ⟨fun r H' => r = .bl false ∧ H' = H, ⟨_, rfl, hv.prog (E := E0) (R := fun r H' => r = .bl false ∧ H' = H) ⟨rfl, rfl⟩⟩, ?_⟩
    rintro _ H0 ⟨rfl, e0⟩
    cases e0
    refine ⟨_, rfl, iteT ?_⟩
    exact ⟨_, rfl, _, rfl, fun d nd' => kE d nd'⟩
theorem ok_readX {f : Addr} {fd : FuncData} (F : Fun K "read_part" "read_part" s_read_part f fd) (T : Bl mg) (TN : NPT K mg CN fN) (c_told_pair : Cal P w K mg base 2 "told_pair" spTold) (c_is_part : Cal P w K mg base 2 "is_part" (spIsPart K)) (c_part_text : Cal P w K mg base 3 "part_text" spPartText) : FnOk P w K mg base (L2.CX P w) 4 f fd ["text"] (spReadX K CN) := by
  refine F.okX sc_read_part (fun vs H Q E h => ?_) (fun cdv A outer s H vs Q E hr h => ?_)
  · obtain ⟨v, rfl, _⟩ := h
    rfl
  · obtain ⟨v, rfl, tx⟩ := h
    have nd := sc_read_part.nd
    refine ⟨_, (pss_cons (ps_if (pt_not (pt_val (pe_callB call_isi (by rfl) T.b_isinstance (by decide +kernel) (pa_cons (pv 0) (pa_cons (pe_bltn (v := .ty "str") (by rfl) T.b_str (by decide +kernel) rfl) pa_nil)))))
        (pss_one (ps_raiseX rfl TN hr (by decide) (takes_of rfl rfl rfl rfl) (by exact (pa_cons (pv 0) pa_nil)) rfl (by decide)))
        pss_nil)
      (pss_cons (ps_set (i := 1) nd rfl (.inl rfl) (pe_cut (pe_f c_told_pair hr rfl (pa_cons (pv 0) pa_nil))))
      (pss_cons (ps_if (PW.pt (pw_or (pt_not (pt_val (pe_cut (pe_f c_is_part hr rfl (pa_cons (pv 1) pa_nil))))) (pw_or1 (pt_cmpR op_ne (pe_f c_part_text hr rfl (pa_cons (pv 1) pa_nil)) (pv 0) (nomark _)))))
        (pss_one (ps_raiseX rfl TN hr (by decide) (takes_of rfl rfl rfl rfl) (by exact (pa_cons (pv 0) pa_nil)) rfl (by decide)))
        pss_nil)
      (pss_one (ps_ret (pv 1)))))), ?_⟩
    rcases tx with ⟨n, ty, hn, h1, no⟩ | ⟨z, rfl, hz, yes, no⟩
    · refine ⟨_, rfl, v, .ty "str", _, _, false, rfl, .ty _, ty, kit_ty (kit_str hn h1), false, rfl, iteT ?_⟩
      exact ⟨_, rfl, _, rfl, fun d nd' => no H d (Same.refl H) nd'⟩
    refine ⟨_, rfl, .str z, .ty "str", _, _, true, rfl, .ty _, .base (.str _), kit_ty (by decide +kernel), true, rfl, iteF ?_⟩
    -- what the text tells
    have told : ∃ a s b c : Str, Txt.partition z "/" = (a, s, b) ∧ s.length ≤ 1 ∧ c = (if s.length = 0 then ("1" : Str) else b) ∧ a.length ≤ 60 ∧ c.length ≤ 60 := by
      rcases slash_cases z with e | ⟨a, b, rfl, ha, hl⟩
      · exact ⟨_, _, _, "1", part_none e, by decide, rfl, hz, by decide⟩
      · exact ⟨_, _, _, b, part_app ha, by decide, rfl, by omega, by omega⟩
    obtain ⟨a, s', b, c, e1, e2, e3, la, lc⟩ := told
    refine ⟨fun r H' => Same H H' ∧ ((r = .non ∧ (isDig a && isDig c) = false) ∨ ∃ t, r = .ref t ∧ (isDig a && isDig c) = true ∧ H' t = some (.tup [.int ((PySem.NumText.digitsVal a.cps.toList : Nat) : Int), .int ((PySem.NumText.digitsVal c.cps.toList : Nat) : Int)])), ⟨_, rfl, z, a, s', b, c, rfl, Nat.le_trans hz (lens 60 (by decide)), e2, e1, e3, fun e H' s => ⟨s, .inl ⟨rfl, e⟩⟩, fun e => ?_⟩, ?_⟩
    · have e' := e
      rw [Bool.and_eq_true] at e'
      obtain ⟨d1, d2⟩ := isDig_all e'.1
      obtain ⟨d3, d4⟩ := isDig_all e'.2
      exact ⟨⟨d1, d2, by omega⟩, ⟨d3, d4, by omega⟩, fun H' t s ht => ⟨s, .inr ⟨t, rfl, e, ht⟩⟩⟩
    rintro r H1 ⟨s1, h1⟩
    have s1 : Same H H1 := s1
    rcases h1 with ⟨rfl, e⟩ | ⟨t, rfl, e, ht⟩
    · -- no digits
      have no := no fun A m g => by
        obtain ⟨a2, s2, b2, c2, f1, f2, f3, da, dc, _, _⟩ := partText_cut (x := A) (m := m) (Nat.lt_of_le_of_lt g.hi (Nat.lt_trans g.small (by decide))) (Nat.lt_trans g.small (by decide))
        rw [← g.txt, e1] at f1
        cases f1
        rw [← e3] at f3
        subst f3
        rw [isDig_of da.all da.ne, isDig_of dc.all dc.ne] at e
        cases e
      refine ⟨fun r H' => r = .bl false ∧ H' = H1, ⟨_, rfl, none_isP.prog (E := E0) (R := fun r H' => r = .bl false ∧ H' = H1) ⟨rfl, rfl⟩⟩, ?_⟩
      rintro _ H0 ⟨rfl, e0⟩
      cases e0
      refine ⟨_, rfl, iteT ?_⟩
      exact ⟨_, rfl, _, rfl, fun d nd' => no H1 d s1 nd'⟩
    · rw [Bool.and_eq_true] at e
      cases hp : partB ((PySem.NumText.digitsVal a.cps.toList : Nat) : Int) ((PySem.NumText.digitsVal c.cps.toList : Nat) : Int) with
      | false =>
        have no := no fun A m g => by
          obtain ⟨a2, s2, b2, c2, f1, f2, f3, da, dc, va, vc⟩ := partText_cut (x := A) (m := m) (Nat.lt_of_le_of_lt g.hi (Nat.lt_trans g.small (by decide))) (Nat.lt_trans g.small (by decide))
          rw [← g.txt, e1] at f1
          cases f1
          rw [← e3] at f3
          subst f3
          rw [va, vc, cast_pow, g.part] at hp
          cases hp
        refine ⟨fun r H' => r = .bl false ∧ H' = H1, ⟨_, rfl, (isP_pair ht hp).prog (E := E0) (R := fun r H' => r = .bl false ∧ H' = H1) ⟨rfl, rfl⟩⟩, ?_⟩
        rintro _ H0 ⟨rfl, e0⟩
        cases e0
        refine ⟨_, rfl, iteT ?_⟩
        exact ⟨_, rfl, _, rfl, fun d nd' => no H1 d s1 nd'⟩
      | true =>
        obtain ⟨m, em, le⟩ := partB_pow hp
        have d3 := (isDig_all e.2).1
        have small : 2 ^ m < 10 ^ 60 := by
          rw [← em]
          exact Nat.lt_of_lt_of_le (digits_lt d3) (Nat.pow_le_pow_right (by decide) (by rw [← TL.len_tl]; exact lc))
        have hp2 := hp
        rw [em, cast_pow] at hp2
        have hm : m ≤ 199 := by
          by_cases e : m ≤ 199
          · exact e
          · have h1 : (2 : Nat) ^ 200 ≤ 2 ^ m := Nat.pow_le_pow_right (by decide) (by omega)
            have h2 : (10 : Nat) ^ 60 < 2 ^ 200 := by decide
            omega
        have ht2 : isTup H1 t (PySem.NumText.digitsVal a.cps.toList) m := by
          unfold isTup
          rw [ht, em, cast_pow]
        refine ⟨fun r H' => r = .bl true ∧ H' = H1, ⟨_, rfl, (isP_pair ht hp).prog (E := E0) (R := fun r H' => r = .bl true ∧ H' = H1) ⟨rfl, rfl⟩⟩, ?_⟩
        rintro _ H0 ⟨rfl, e0⟩
        cases e0
        refine ⟨_, rfl, iteF ?_⟩
        refine ⟨_, rfl, t, _, m, rfl, ht2, hp2, le, by omega, fun H2 s2 => ?_⟩
        refine ⟨_, rfl, rfl, _, rfl, ?_⟩
        by_cases hz2 : partText (PySem.NumText.digitsVal a.cps.toList) m = z
        · rw [decide_eq_true (show V.str (partText (PySem.NumText.digitsVal a.cps.toList) m) = V.str z by rw [hz2])]
          refine iteF ?_
          exact ⟨_, rfl, yes _ m ⟨hp2, le, small, hz2.symm⟩ H2 t (s1.trans s2) (s2 _ _ ht2)⟩
        · rw [decide_eq_false (fun z => hz2 (V.str.inj z))]
          refine iteT ?_
          have no := no fun A m' g => by
            obtain ⟨a2, s2, b2, c2, f1, f2, f3, da, dc, va, vc⟩ := partText_cut (x := A) (m := m') (Nat.lt_of_le_of_lt g.hi (Nat.lt_trans g.small (by decide))) (Nat.lt_trans g.small (by decide))
            rw [← g.txt, e1] at f1
            cases f1
            rw [← e3] at f3
            subst f3
            refine hz2 ?_
            rw [em] at vc
            have : m = m' := (Nat.pow_right_inj (by decide)).mp vc
            rw [va, this, g.txt]
          exact ⟨_, rfl, _, rfl, fun d nd' => no H2 d (s1.trans s2) nd'⟩
end
/-! ### a test in the middle -/
theorem pt_cut {X : Cx} {e : Expr} {te : TT} (h : PT X e te) : PT X e (fun σ H Q => ∃ M : Bool → Hp → Prop, te σ H M ∧ ∀ b H', M b H' → Q b H') := by
  refine ⟨fun pins s σ H Q I hq => ?_⟩
  obtain ⟨M, hm, k⟩ := hq
  refine thn (h.run pins s σ H M I hm) fun u s1 hh => ?_
  obtain ⟨H1, I1, q1⟩ := hh
  exact ⟨H1, I1, k u H1 q1⟩

/-! ### [e for c in s] -/
theorem lc_str {x : Str} {g : TG} {tt : TT} {te : TE} {vs : List Nat} {σ : L2.St} {H1 : Hp} {D : Addr} {Qd : Hp → Prop} (Pv : Nat → Hp → Prop) (h0 : Pv 0 (upd H1 D (.lst [])))
    (hs : ∀ i c H, x.cps[i]? = some c → Pv i H → g (.str ⟨#[c]⟩) (wipe σ vs) H fun σ2 H2 => wipe σ2 vs = wipe σ vs ∧ tt σ2 H2 fun b H3 =>
      if b = true then te σ2 H3 fun y H4 => ∃ acc, H4 D = some (.lst acc) ∧ acc.length < sizeLine ∧ Pv (i + 1) (upd H4 D (.lst (acc ++ [y]))) else Pv (i + 1) H3) (hd : ∀ H, Pv x.cps.size H → Qd H) :
    ∃ W : Nat → Nat → Hp → Prop, (∃ m, W 0 m (upd H1 D (.lst []))) ∧ ∀ i m H, W i m H →
      ((Its x).stop i H ∧ Qd H) ∨ ((Its x).go i H ∧ ∃ Nx : Hp → Prop, (∀ H', Nx H' → ∃ m', m' < m ∧ W (i + 1) m' H') ∧ ∀ y H', (Its x).yld i H y H' → g y (wipe σ vs) H' fun σ2 H2 => wipe σ2 vs = wipe σ vs ∧ tt σ2 H2 fun b H3 =>
        if b = true then te σ2 H3 fun y H4 => ∃ acc, H4 D = some (.lst acc) ∧ acc.length < sizeLine ∧ Nx (upd H4 D (.lst (acc ++ [y]))) else Nx H3) := by
  refine ⟨fun i m H => m = x.cps.size - i ∧ i ≤ x.cps.size ∧ Pv i H, ⟨x.cps.size, by simp, Nat.zero_le _, h0⟩, ?_⟩
  rintro i m H ⟨rfl, hi, p⟩
  by_cases hlt : i < x.cps.size
  · refine .inr ⟨hlt, Pv (i + 1), fun H' p' => ⟨x.cps.size - (i + 1), by omega, rfl, hlt, p'⟩, fun y H' yy => ?_⟩
    obtain ⟨rfl, c, hc, rfl⟩ := yy
    exact hs i c H' hc p
  · have e : i = x.cps.size := by omega
    subst e
    exact .inl ⟨Nat.le_refl _, hd H p⟩

/-! ### the law's own reading -/
theorem digits_in (c : Nat) : decide (c ∈ (("0123456789" : Str)).cps.toList) = decide (48 ≤ c ∧ c ≤ 57) := by
  have e : (("0123456789" : Str)).cps.toList = (List.range 10).map (· + 48) := by decide +kernel
  rw [e]
  refine decide_eq_decide.mpr ?_
  rw [List.mem_map]
  constructor
  · rintro ⟨d, hd, rfl⟩
    have := List.mem_range.mp hd
    omega
  · intro h
    exact ⟨c - 48, List.mem_range.mpr (by omega), by omega⟩
theorem all_bools (l : List Nat) (p : Nat → Bool) : (l.map p).all id = l.all p := by
  rw [List.all_map]
  rfl
theorem canon_int {u : Str} (h : Canon (TL.tl u)) (l : u.length ≤ 60) : PySem.intText? u = some ((PySem.NumText.digitsVal (TL.tl u) : Nat) : Int) := by
  refine PySem.intText_digits h.1 (fun e => ?_) (by omega)
  rcases h.2 with z | ⟨c, r, z, _⟩
  · have : TL.tl u = [] := e
    rw [this] at z
    cases z
  · have : TL.tl u = [] := e
    rw [this] at z
    cases z
section
variable {P : Program} {w : World} {K : PySem.W.Frag} {mg : Str → Option Value} {base : Heap}
theorem ok_lread {f : Addr} {fd : FuncData} (F : Fun K "_law_read" "_law_read" s_l_read f fd) (T : Bl mg) (c_law_is_part : Cal P w K mg base 2 "_law_is_part" (spLIsPart K)) : FnOk P w K mg base L2.CX0 3 f fd ["_law_thing"] (spLRead K) := by
  refine F.ok sc_l_read (fun vs H Q E h => ?_) (fun cdv A outer s H vs Q E hr h => ?_)
  · obtain ⟨v, rfl, _⟩ := h
    rfl
  · obtain ⟨v, rfl, tx⟩ := h
    have nd := sc_l_read.nd
    refine ⟨_, (pss_cons (ps_if (pt_not (pt_val (pe_callB call_isi (by rfl) T.b_isinstance (by decide +kernel) (pa_cons (pv 0) (pa_cons (pe_bltn (v := .ty "str") (by rfl) T.b_str (by decide +kernel) rfl) pa_nil)))))
        (pss_one (ps_ret pe_non))
        pss_nil)
      (pss_cons (ps_set (i := 1) nd rfl (.inl rfl) (pe_split (pv 0) pe_str))
      (pss_cons (ps_for PassesOwn.never rfl (pi_list (pv 1)) (pg_name (i := 2) nd rfl (.inl rfl))
        (pss_one (ps_if (pt_cut (PW.pt (pw_or (pt_cmpR op_eq (pv 2) pe_str (nomark _)) (pw_or (pt_not (pt_val (pe_callB (cr_all rfl) (by rfl) T.b_all (by decide +kernel) (pa_cons (pe_lc (own := [("_law_sign", 3)]) (g := gName 3) (tt := tYes) rfl nd (pi_str (pv 2)) (blkOk_by (N := ["_law_thing", "_law_words", "_law_word", "_law_sign", "_law_found"]) (sc := defScope s_l_read) (by decide +kernel)) (fun _ _ _ _ _ => pg_name (i := 3) nd rfl (.inl rfl)) (fun _ _ _ _ _ => pts_nil) (fun _ _ _ _ _ => (pe_cmpR op_in_sign (pv 3) pe_str (by rfl)))) pa_nil)))) (pw_or1 (PW.pt (pw_and (pt_cmpR op_ne (pv 2) pe_str (nomark _)) (pw_and1 (pt_cmpR op_eq (pe_ix ix_seq (pv 2) pe_int (fun _ _ => rfl)) pe_str (nomark _))))))))))
          (pss_one (ps_ret pe_non))
          pss_nil)))
      (pss_cons (ps_if (pt_cut (PW.pt (pw_or (pt_cmpR op_gt (pe_callB call_len (by rfl) T.b_len (by decide +kernel) (pa_cons (pv 1) pa_nil)) pe_int (nomark _)) (pw_or1 (PW.pt (pw_and (pt_cmpR op_eq (pe_callB call_len (by rfl) T.b_len (by decide +kernel) (pa_cons (pv 1) pa_nil)) pe_int (nomark _)) (pw_and1 (pt_cmpR op_lt (pe_callTy call_int_str (by rfl) T.b_int (by decide +kernel) (pa_cons (pe_ix ix_seq (pv 1) pe_int (fun _ _ => rfl)) pa_nil)) pe_int (nomark _)))))))))
        (pss_one (ps_ret pe_non))
        pss_nil)
      (pss_cons (ps_set (i := 4) nd rfl (.inl rfl) (pe_tup (pa_cons (pe_callTy call_int_str (by rfl) T.b_int (by decide +kernel) (pa_cons (pe_ix ix_seq (pv 1) pe_int (fun _ _ => rfl)) pa_nil)) (pa_cons (pe_cut (pe_ifExp (pt_cmpR op_eq (pe_callB call_len (by rfl) T.b_len (by decide +kernel) (pa_cons (pv 1) pa_nil)) pe_int (nomark _)) (pe_callTy call_int_str (by rfl) T.b_int (by decide +kernel) (pa_cons (pe_ix ix_seq (pv 1) pe_int (fun _ _ => rfl)) pa_nil)) pe_int)) pa_nil))))
      (pss_one (ps_ret (pe_ifExp (pt_val (pe_cut (pe_f c_law_is_part hr rfl (pa_cons (pv 4) pa_nil)))) (pv 4) pe_non)))))))), ?_⟩
    rcases tx with ⟨n, ty, hn, h1, no⟩ | ⟨z, rfl, hz, yes, no⟩
    · refine ⟨_, rfl, v, .ty "str", _, _, false, rfl, .ty _, ty, kit_ty (kit_str hn h1), false, rfl, iteT ?_⟩
      exact no H (Same.refl H)
    refine ⟨_, rfl, .str z, .ty "str", _, _, true, rfl, .ty _, .base (.str _), kit_ty (by decide +kernel), true, rfl, iteF ?_⟩
    refine ⟨_, rfl, ⟨z, rfl⟩, z, "/", rfl, rfl, by decide, lens _ (by omega), fun l nl => ?_⟩
    have s1 := Same.up0 (o := .lst ((Txt.split z "/").map V.str)) nl
    have hl : upd H l (.lst ((Txt.split z "/").map V.str)) l = some (.lst ((Txt.split z "/").map V.str)) := upd_same
    generalize upd H l (.lst ((Txt.split z "/").map V.str)) = H1 at s1 hl ⊢
    obtain ⟨wl, w1, _⟩ := split_len 60 z hz
    have pgc : ∀ {A m : Nat}, PG z A m → ∀ u ∈ Txt.split z "/", Canon (TL.tl u) := fun g => g.canon
    have wc := words_cases z
    generalize ew : Txt.split z "/" = ws at hl wl w1 pgc wc ⊢
    refine ⟨_, rfl, l, rfl, ⟨_, SqL.of hl⟩, ?_⟩
    refine for_list (xs := ws.map V.str) (fun i σ H' => ∃ y2 y3 y4 : Option V, σ = [some (.str z), some (.ref l), y2, y3, y4] ∧ Same H1 H' ∧ ∀ u ∈ ws.take i, Canon (TL.tl u)) ⟨_, _, _, rfl, Same.refl H1, fun u hu => absurd hu (by simp)⟩ (fun i σ H' _ ⟨_, _, _, _, s, _⟩ => SqL.of (s _ _ hl)) ?_ ?_
    · rintro i x σ H2 hx ⟨y2, y3, y4, rfl, s2, hc⟩
      obtain ⟨u, hu, rfl⟩ : ∃ u, ws[i]? = some u ∧ V.str u = x := by
        rw [List.getElem?_map] at hx
        cases e : ws[i]? with
        | none => rw [e] at hx; cases hx
        | some u => rw [e] at hx; exact ⟨u, rfl, Option.some.inj hx⟩
      have um := List.mem_of_getElem? hu
      have ul := wl u um
      have el : u.cps.toList.length = u.cps.size := Array.length_toList
      have es : u.cps.size = u.length := rfl
      refine ⟨fun b H' => (b = false → Canon (TL.tl u)) ∧ (b = true → ¬ Canon (TL.tl u)) ∧ Same H2 H', ?_, ?_⟩
      · refine ⟨_, rfl, rfl, _, rfl, ?_⟩
        by_cases u0 : u = ""
        · rw [decide_eq_true (show V.str u = V.str "" by rw [u0])]
          refine iteT ⟨fun z => Bool.noConfusion z, fun _ c => ?_, Same.refl H2⟩
          rw [u0] at c
          rcases c.2 with e | ⟨_, _, e, _⟩ <;> cases e
        · rw [decide_eq_false (fun z => u0 (V.str.inj z))]
          refine iteF ?_
          refine ⟨_, rfl, u, rfl, fun D hD => ?_⟩
          refine lc_str (x := u) (fun i H' => H' D = some (.lst (((u.cps.toList.map fun c => decide (48 ≤ c ∧ c ≤ 57)).take i).map V.bl)) ∧ Same H2 H') ⟨upd_same, Same.up0 hD⟩ ?_ ?_
          · rintro i c H3 hc ⟨h1, s3⟩
            have hi : i < u.cps.size := (Array.getElem?_eq_some_iff.mp hc).1
            refine ⟨rfl, ?_⟩
            refine ⟨_, rfl, c, _, rfl, rfl, _, h1, ?_, ?_, Same.mut s3 hD⟩
            · rw [List.length_map, List.length_take]
              exact Nat.lt_of_lt_of_le (show min i _ < 1000 by omega) (lens 1000 (by decide))
            · rw [upd_same, List.take_succ, List.getElem?_map]
              have hc' : u.cps.toList[i]? = some c := by rw [Array.getElem?_toList]; exact hc
              rw [hc', List.map_append, digits_in]
              rfl
          · rintro H3 ⟨h1, s3⟩
            rw [List.take_of_length_le (by rw [List.length_map]; omega)] at h1
            refine ⟨D, _, rfl, SqL.of h1, _, rfl, ?_⟩
            rw [all_bools]
            cases ea : u.cps.toList.all fun c => decide (48 ≤ c ∧ c ≤ 57) with
            | false =>
              refine iteT ⟨fun z => Bool.noConfusion z, fun _ c => ?_, s3⟩
              have : (u.cps.toList.all fun c => decide (48 ≤ c ∧ c ≤ 57)) = true := List.all_eq_true.mpr fun d hd => decide_eq_true (c.1 d hd)
              rw [this] at ea
              cases ea
            | true =>
              have hd : PySem.NumText.AllDigits (TL.tl u) := fun d hd => of_decide_eq_true (List.all_eq_true.mp ea d hd)
              refine iteF ?_
              refine ⟨_, rfl, rfl, _, rfl, ?_⟩
              by_cases uz : u = "0"
              · rw [decide_eq_true (show V.str u = V.str "0" by rw [uz])]
                refine iteF ⟨fun _ => ?_, fun z => Bool.noConfusion z, s3⟩
                rw [uz]
                exact ⟨by rw [uz] at hd; exact hd, .inl rfl⟩
              · rw [decide_eq_false (fun z => uz (V.str.inj z))]
                refine iteT ?_
                obtain ⟨c, r, ec⟩ : ∃ c r, TL.tl u = c :: r := by
                  cases e : TL.tl u with
                  | nil => exact absurd (TL.ext_tl (by rw [e]; rfl)) u0
                  | cons c r => exact ⟨c, r, rfl⟩
                have hc0 : u.cps.toList[0]? = some c := by
                  have : TL.tl u = u.cps.toList := rfl
                  rw [← this, ec]
                  rfl
                refine ⟨_, rfl, .inr (.inr ⟨u, _, c, rfl, rfl, lens _ (by omega), atI_nat (j := 0) hc0, rfl, _, rfl, ?_⟩)⟩
                by_cases c48 : c = 48
                · rw [c48]
                  rw [decide_eq_true (show V.str ⟨#[48]⟩ = V.str "0" from rfl)]
                  refine ⟨fun z => Bool.noConfusion z, fun _ cn => ?_, s3⟩
                  rcases cn.2 with e | ⟨c', r', e, h'⟩
                  · exact uz (TL.ext_tl (by rw [e]; rfl))
                  · rw [ec] at e
                    cases e
                    omega
                · rw [decide_eq_false (fun z => c48 (by
                    have e := congrArg TL.tl (V.str.inj z)
                    have e2 : [c] = [48] := e
                    exact (List.cons.inj e2).1))]
                  refine ⟨fun _ => ⟨hd, .inr ⟨c, r, ec, ?_⟩⟩, fun z => Bool.noConfusion z, s3⟩
                  have := hd c (by rw [ec]; simp)
                  omega
      rintro b H3 ⟨cn, cb, s3⟩
      have s3 : Same H2 H3 := s3
      cases b with
      | true =>
        refine iteT ?_
        exact no (fun A m g => cb rfl (pgc g u um)) _ (s1.trans (s2.trans s3))
      | false =>
        refine iteF ⟨_, _, _, rfl, s2.trans s3, fun u' hu' => ?_⟩
        rw [List.take_succ, hu] at hu'
        rcases List.mem_append.mp hu' with h | h
        · exact hc u' h
        · rw [List.mem_singleton.mp h]
          exact cn rfl
    · rintro σ H2 ⟨y2, y3, y4, rfl, s2, hc⟩
      have hc : ∀ u ∈ ws, Canon (TL.tl u) := fun u hu => hc u (by
        rw [List.length_map, List.take_length]
        exact hu)
      have hl2 := s2 _ _ hl
      have s02 := s1.trans s2
      have nowhere : (∀ A m, ¬ PG z A m) → ∀ H', Same H H' → Q .non H' := no
      rcases wc with ⟨n47, rfl⟩ | ⟨a, b, rfl, na, nb, rfl⟩ | ⟨a, b, rfl, na, nb, l3⟩
      · -- one word
        have cz := hc z (by simp)
        refine ⟨fun b H' => b = false ∧ H' = H2, ?_, ?_⟩
        · refine ⟨_, rfl, .ref l, _, rfl, .inl ⟨_, SqL.of hl2, rfl⟩, _, _, rfl, rfl, _, rfl, iteF ?_⟩
          exact ⟨_, rfl, .ref l, _, rfl, .inl ⟨_, SqL.of hl2, rfl⟩, rfl, _, rfl, iteF ⟨rfl, rfl⟩⟩
        rintro _ H0 ⟨rfl, e0⟩
        cases e0
        refine iteF ?_
        refine ⟨_, rfl, ixl (j := 0) hl2 rfl ⟨z, _, rfl, canon_int cz hz, by omega, ?_⟩⟩
        refine ⟨fun v H' => v = .int 1 ∧ H' = H2, ?_, ?_⟩
        · exact ⟨_, rfl, .ref l, _, rfl, .inl ⟨_, SqL.of hl2, rfl⟩, rfl, _, rfl, iteF ⟨rfl, rfl⟩⟩
        rintro _ H0 ⟨rfl, e0⟩
        cases e0
        refine ⟨lens 2 (by decide), fun t nt => ?_⟩
        have s3 := Same.up0 (o := .tup [.int ((PySem.NumText.digitsVal (TL.tl z) : Nat) : Int), .int 1]) nt
        have ht : upd H2 t (.tup [.int ((PySem.NumText.digitsVal (TL.tl z) : Nat) : Int), .int 1]) t = some (.tup [.int ((PySem.NumText.digitsVal (TL.tl z) : Nat) : Int), .int 1]) := upd_same
        generalize upd H2 t (.tup [.int ((PySem.NumText.digitsVal (TL.tl z) : Nat) : Int), .int 1]) = H3 at s3 ht ⊢
        cases hp : partB ((PySem.NumText.digitsVal (TL.tl z) : Nat) : Int) 1 with
        | true =>
          refine ⟨fun r H' => r = .bl true ∧ Same H3 H', ⟨_, rfl, (isP_pair ht hp).law (E := E0) (R := fun r H' => r = .bl true ∧ Same H3 H') fun H' s => ⟨rfl, s⟩⟩, ?_⟩
          rintro _ H4 ⟨rfl, s4⟩
          exact ⟨_, rfl, iteT ⟨_, rfl, yes _ 0 (pg_one cz hp) H4 t ((s02.trans s3).trans s4) (s4 _ _ ht)⟩⟩
        | false =>
          refine ⟨fun r H' => r = .bl false ∧ Same H3 H', ⟨_, rfl, (isP_pair ht hp).law (E := E0) (R := fun r H' => r = .bl false ∧ Same H3 H') fun H' s => ⟨rfl, s⟩⟩, ?_⟩
          rintro _ H4 ⟨rfl, s4⟩
          refine ⟨_, rfl, iteF ?_⟩
          refine nowhere (fun A m g => ?_) H4 ((s02.trans s3).trans s4)
          obtain ⟨rfl, e⟩ := g.one n47
          have gp : partB (A : Int) 1 = true := g.part
          rw [e, tl_numS, TL.numL_val, gp] at hp
          cases hp
      · -- two words
        have ca := hc a (by simp)
        have cb := hc b (by simp)
        have la := wl a (by simp)
        have lb := wl b (by simp)
        by_cases v2 : PySem.NumText.digitsVal (TL.tl b) < 2
        · refine ⟨fun b H' => b = true ∧ H' = H2, ?_, ?_⟩
          · refine ⟨_, rfl, .ref l, _, rfl, .inl ⟨_, SqL.of hl2, rfl⟩, _, _, rfl, rfl, _, rfl, iteF ?_⟩
            refine ⟨_, rfl, .ref l, _, rfl, .inl ⟨_, SqL.of hl2, rfl⟩, rfl, _, rfl, iteT ?_⟩
            refine ⟨_, rfl, ixl (j := 1) hl2 rfl ⟨b, _, rfl, canon_int cb lb, by omega, _, _, rfl, rfl, _, rfl, ?_⟩⟩
            exact ⟨decide_eq_true (by omega), rfl⟩
          rintro _ _ ⟨rfl, rfl⟩
          refine iteT ?_
          refine nowhere (fun A m g => ?_) _ s02
          obtain ⟨m0, _, e⟩ := g.two na
          rw [e, tl_numS, TL.numL_val] at v2
          have := Nat.pow_le_pow_right (show 0 < 2 by decide) (show 1 ≤ m by omega)
          omega
        refine ⟨fun b H' => b = false ∧ H' = H2, ?_, ?_⟩
        · refine ⟨_, rfl, .ref l, _, rfl, .inl ⟨_, SqL.of hl2, rfl⟩, _, _, rfl, rfl, _, rfl, iteF ?_⟩
          refine ⟨_, rfl, .ref l, _, rfl, .inl ⟨_, SqL.of hl2, rfl⟩, rfl, _, rfl, iteT ?_⟩
          refine ⟨_, rfl, ixl (j := 1) hl2 rfl ⟨b, _, rfl, canon_int cb lb, by omega, _, _, rfl, rfl, _, rfl, ?_⟩⟩
          exact ⟨decide_eq_false (by omega), rfl⟩
        rintro _ H0 ⟨rfl, e0⟩
        cases e0
        refine iteF ?_
        refine ⟨_, rfl, ixl (j := 0) hl2 rfl ⟨a, _, rfl, canon_int ca la, by omega, ?_⟩⟩
        refine ⟨fun v H' => v = .int ((PySem.NumText.digitsVal (TL.tl b) : Nat) : Int) ∧ H' = H2, ?_, ?_⟩
        · exact ⟨_, rfl, .ref l, _, rfl, .inl ⟨_, SqL.of hl2, rfl⟩, rfl, _, rfl, iteT ⟨_, rfl, ixl (j := 1) hl2 rfl ⟨b, _, rfl, canon_int cb lb, by omega, rfl, rfl⟩⟩⟩
        rintro _ H0 ⟨rfl, e0⟩
        cases e0
        refine ⟨lens 2 (by decide), fun t nt => ?_⟩
        have s3 := Same.up0 (o := .tup [.int ((PySem.NumText.digitsVal (TL.tl a) : Nat) : Int), .int ((PySem.NumText.digitsVal (TL.tl b) : Nat) : Int)]) nt
        have ht : upd H2 t (.tup [.int ((PySem.NumText.digitsVal (TL.tl a) : Nat) : Int), .int ((PySem.NumText.digitsVal (TL.tl b) : Nat) : Int)]) t = some (.tup [.int ((PySem.NumText.digitsVal (TL.tl a) : Nat) : Int), .int ((PySem.NumText.digitsVal (TL.tl b) : Nat) : Int)]) := upd_same
        generalize upd H2 t (.tup [.int ((PySem.NumText.digitsVal (TL.tl a) : Nat) : Int), .int ((PySem.NumText.digitsVal (TL.tl b) : Nat) : Int)]) = H3 at s3 ht ⊢
        cases hp : partB ((PySem.NumText.digitsVal (TL.tl a) : Nat) : Int) ((PySem.NumText.digitsVal (TL.tl b) : Nat) : Int) with
        | true =>
          obtain ⟨m, em, g⟩ := pg_two ca cb lb (by omega) hp
          have ht2 : isTup H3 t (PySem.NumText.digitsVal (TL.tl a)) m := by
            unfold isTup
            rw [ht, em, cast_pow]
          refine ⟨fun r H' => r = .bl true ∧ Same H3 H', ⟨_, rfl, (isP_pair ht hp).law (E := E0) (R := fun r H' => r = .bl true ∧ Same H3 H') fun H' s => ⟨rfl, s⟩⟩, ?_⟩
          rintro _ H4 ⟨rfl, s4⟩
          exact ⟨_, rfl, iteT ⟨_, rfl, yes _ m g H4 t ((s02.trans s3).trans s4) (s4 _ _ ht2)⟩⟩
        | false =>
          refine ⟨fun r H' => r = .bl false ∧ Same H3 H', ⟨_, rfl, (isP_pair ht hp).law (E := E0) (R := fun r H' => r = .bl false ∧ Same H3 H') fun H' s => ⟨rfl, s⟩⟩, ?_⟩
          rintro _ H4 ⟨rfl, s4⟩
          refine ⟨_, rfl, iteF ?_⟩
          refine nowhere (fun A m g => ?_) H4 ((s02.trans s3).trans s4)
          obtain ⟨_, e1, e2⟩ := g.two na
          have gp := g.part
          rw [e1, e2, tl_numS, tl_numS, TL.numL_val, TL.numL_val, cast_pow, gp] at hp
          cases hp
      · -- three or more
        refine ⟨fun b H' => b = true ∧ H' = H2, ?_, ?_⟩
        · refine ⟨_, rfl, .ref l, _, rfl, .inl ⟨_, SqL.of hl2, rfl⟩, _, _, rfl, rfl, _, rfl, ?_⟩
          rw [decide_eq_true (show (((ws.map V.str).length : Nat) : Int) > 2 by rw [List.length_map]; omega)]
          exact iteT ⟨rfl, rfl⟩
        rintro _ _ ⟨rfl, rfl⟩
        refine iteT ?_
        refine nowhere (fun A m g => ?_) _ s02
        obtain ⟨_, _, e⟩ := g.two na
        rw [e] at nb
        exact free_num _ nb
end
/-! ### drawn values -/
def strD : PyData → Bool
  | .str s => Nat.ble s.length 60
  | _ => true
structure Val3 (H : Hp) (p : Addr) (v : V) (d : PyData) : Prop where
  dz : Dz H p v d
  fz : FineZ d
  dep : d.depth ≤ 20
  blk : d.bulk ≤ 5000
  str : strD d = true
theorem Val3.kp {H H' : Hp} {p : Addr} {v : V} {d : PyData} (h : Val3 H p v d) (hB : BagAt H p) (g : Kp p H H') : Val3 H' p v d := ⟨dz_kp hB g h.dz, h.fz, h.dep, h.blk, h.str⟩
def spVal3 : Sp := fun vs H Q _ => ∃ p : Addr, vs = [.ref p] ∧ BagAt H p ∧ ∀ H' v d, Grow p H H' → BagAt H' p → Val3 H' p v d → Q v H'
def Odd3 (H : Hp) (p : Addr) (v : V) : Prop := ∃ d, Dz H p v d ∧ FineZ d ∧ Nat.ble d.depth 20 = true ∧ Nat.ble d.bulk 5000 = true ∧ dataPart d = false ∧ strD d = true
theorem Odd3.val {H H' : Hp} {p : Addr} {v : V} (h : Odd3 H p v) (hB : BagAt H p) (g : Grow p H H') {R : Prop} (r : ∀ d, Val3 H' p v d → R) : R := by
  obtain ⟨d, dz, fz, h1, h2, h3, h4⟩ := h
  exact r d ⟨dz_grow hB g dz, fz, ble h1, ble h2, h4⟩
section
variable {P : Program} {w : World} {K : PySem.W.Frag} {mg : Str → Option Value} {base : Heap}
theorem ok_odd {f : Addr} {fd : FuncData} (F : Fun K "_law_odd" "_law_odd" s_l_odd f fd) (c_law_take : Cal P w K mg base 1 "_law_take" spTake) : FnOk P w K mg base L2.CX0 2 f fd ["_law_bag_here"] spVal3 := by
  refine F.ok sc_l_odd (fun vs H Q E h => ?_) (fun cdv A outer s H vs Q E hr h => ?_)
  · obtain ⟨p, rfl, _⟩ := h
    rfl
  · obtain ⟨p, rfl, hB, q⟩ := h
    have nd := sc_l_odd.nd
    obtain ⟨hb1, hb2, hb0, _⟩ := id hB
    refine ⟨_, (pss_cons (ps_set (i := 1) nd rfl (.inl rfl) (pe_lst (pa_cons pe_non (pa_cons pe_bl (pa_cons pe_bl (pa_cons pe_int (pa_cons pe_int (pa_cons (pe_un un_neg pe_int) (pa_cons (pe_op op_pow pe_int pe_int) (pa_cons pe_str (pa_cons pe_str (pa_cons pe_str (pa_cons (pe_tup pa_nil) (pa_cons (pe_lst pa_nil) (pa_cons (pe_tup (pa_cons pe_int pa_nil)) (pa_cons (pe_lst (pa_cons pe_int (pa_cons pe_int pa_nil))) (pa_cons pe_dnewK (pa_cons (pe_d1 (key := Sum.inr "a") pe_str pe_int) (pa_cons (pe_tup (pa_cons pe_int (pa_cons pe_int (pa_cons pe_int pa_nil)))) pa_nil)))))))))))))))))))
      (pss_cons (ps_set (i := 1) nd rfl (.inl rfl) (pe_op op_cat (pv 1) (pe_lst (pa_cons (pe_tup (pa_cons pe_non (pa_cons pe_int pa_nil))) (pa_cons (pe_tup (pa_cons pe_str (pa_cons pe_str pa_nil))) (pa_cons (pe_tup (pa_cons (pe_tup (pa_cons pe_int (pa_cons pe_int pa_nil))) pa_nil)) (pa_cons (pe_lst (pa_cons (pe_tup (pa_cons pe_int (pa_cons pe_int pa_nil))) pa_nil)) (pa_cons (pe_tup (pa_cons pe_int (pa_cons (pe_lst (pa_cons pe_int pa_nil)) pa_nil))) (pa_cons (pe_tup (pa_cons pe_str pa_nil)) (pa_cons (pe_d1t (key := Sum.inl 1) (xs := [.int 1, .int 2]) pe_int (pa_cons pe_int (pa_cons pe_int pa_nil)) (fun _ _ _ q => q) (lens 2 (by decide))) pa_nil))))))))))
      (pss_one (ps_ret (pe_ix ix_seq (pv 1) (pe_f c_law_take hr rfl (pa_cons (pv 0) (pa_cons pe_int pa_nil))) (fun _ _ => rfl)))))), ?_⟩
    refine ⟨_, rfl, _, _, rfl, rfl, ⟨by decide, by decide, by decide⟩, lens 0 (by decide), fun a1 n1 => ?_⟩
    have s1 := Same.up0 (o := .tup []) n1
    have f1 : upd H a1 (.tup []) a1 = some (.tup []) := upd_same
    generalize upd H a1 (.tup []) = H1 at s1 f1 ⊢
    refine ⟨lens 0 (by decide), fun a2 n2 => ?_⟩
    have s2 := Same.up0 (o := .lst []) n2
    have f2 : upd H1 a2 (.lst []) a2 = some (.lst []) := upd_same
    generalize upd H1 a2 (.lst []) = H2 at s2 f2 ⊢
    refine ⟨lens 1 (by decide), fun a3 n3 => ?_⟩
    have s3 := Same.up0 (o := .tup [.int 1]) n3
    have f3 : upd H2 a3 (.tup [.int 1]) a3 = some (.tup [.int 1]) := upd_same
    generalize upd H2 a3 (.tup [.int 1]) = H3 at s3 f3 ⊢
    refine ⟨lens 2 (by decide), fun a4 n4 => ?_⟩
    have s4 := Same.up0 (o := .lst [.int 1, .int 2]) n4
    have f4 : upd H3 a4 (.lst [.int 1, .int 2]) a4 = some (.lst [.int 1, .int 2]) := upd_same
    generalize upd H3 a4 (.lst [.int 1, .int 2]) = H4 at s4 f4 ⊢
    refine fun a5 n5 => ?_
    have s5 := Same.up0 (o := .dK []) n5
    have f5 : upd H4 a5 (.dK []) a5 = some (.dK []) := upd_same
    generalize upd H4 a5 (.dK []) = H5 at s5 f5 ⊢
    refine fun a6 n6 => ?_
    have s6 := Same.up0 (o := .dK [((Sum.inr "a" : Key), (.int 1 : V))]) n6
    have f6 : upd H5 a6 (.dK [((Sum.inr "a" : Key), (.int 1 : V))]) a6 = some (.dK [((Sum.inr "a" : Key), (.int 1 : V))]) := upd_same
    generalize upd H5 a6 (.dK [((Sum.inr "a" : Key), (.int 1 : V))]) = H6 at s6 f6 ⊢
    refine ⟨lens 3 (by decide), fun a7 n7 => ?_⟩
    have s7 := Same.up0 (o := .tup [.int 1, .int 2, .int 3]) n7
    have f7 : upd H6 a7 (.tup [.int 1, .int 2, .int 3]) a7 = some (.tup [.int 1, .int 2, .int 3]) := upd_same
    generalize upd H6 a7 (.tup [.int 1, .int 2, .int 3]) = H7 at s7 f7 ⊢
    refine ⟨lens 17 (by decide), fun a8 n8 => ?_⟩
    have s8 := Same.up0 (o := .lst [.non, .bl true, .bl false, .int 0, .int 1, .int (-1), .int (10 ^ (39 : Int).toNat), .str "", .str "1/2", .str "x", .ref a1, .ref a2, .ref a3, .ref a4, .ref a5, .ref a6, .ref a7]) n8
    have f8 : upd H7 a8 (.lst [.non, .bl true, .bl false, .int 0, .int 1, .int (-1), .int (10 ^ (39 : Int).toNat), .str "", .str "1/2", .str "x", .ref a1, .ref a2, .ref a3, .ref a4, .ref a5, .ref a6, .ref a7]) a8 = some (.lst [.non, .bl true, .bl false, .int 0, .int 1, .int (-1), .int (10 ^ (39 : Int).toNat), .str "", .str "1/2", .str "x", .ref a1, .ref a2, .ref a3, .ref a4, .ref a5, .ref a6, .ref a7]) := upd_same
    generalize upd H7 a8 (.lst [.non, .bl true, .bl false, .int 0, .int 1, .int (-1), .int (10 ^ (39 : Int).toNat), .str "", .str "1/2", .str "x", .ref a1, .ref a2, .ref a3, .ref a4, .ref a5, .ref a6, .ref a7]) = H8 at s8 f8 ⊢
    refine ⟨_, rfl, lens 2 (by decide), fun a9 n9 => ?_⟩
    have s9 := Same.up0 (o := .tup [.non, .int 1]) n9
    have f9 : upd H8 a9 (.tup [.non, .int 1]) a9 = some (.tup [.non, .int 1]) := upd_same
    generalize upd H8 a9 (.tup [.non, .int 1]) = H9 at s9 f9 ⊢
    refine ⟨lens 2 (by decide), fun a10 n10 => ?_⟩
    have s10 := Same.up0 (o := .tup [.str "1", .str "2"]) n10
    have f10 : upd H9 a10 (.tup [.str "1", .str "2"]) a10 = some (.tup [.str "1", .str "2"]) := upd_same
    generalize upd H9 a10 (.tup [.str "1", .str "2"]) = H10 at s10 f10 ⊢
    refine ⟨lens 2 (by decide), fun a11 n11 => ?_⟩
    have s11 := Same.up0 (o := .tup [.int 1, .int 2]) n11
    have f11 : upd H10 a11 (.tup [.int 1, .int 2]) a11 = some (.tup [.int 1, .int 2]) := upd_same
    generalize upd H10 a11 (.tup [.int 1, .int 2]) = H11 at s11 f11 ⊢
    refine ⟨lens 1 (by decide), fun a12 n12 => ?_⟩
    have s12 := Same.up0 (o := .tup [.ref a11]) n12
    have f12 : upd H11 a12 (.tup [.ref a11]) a12 = some (.tup [.ref a11]) := upd_same
    generalize upd H11 a12 (.tup [.ref a11]) = H12 at s12 f12 ⊢
    refine ⟨lens 2 (by decide), fun a13 n13 => ?_⟩
    have s13 := Same.up0 (o := .tup [.int 1, .int 2]) n13
    have f13 : upd H12 a13 (.tup [.int 1, .int 2]) a13 = some (.tup [.int 1, .int 2]) := upd_same
    generalize upd H12 a13 (.tup [.int 1, .int 2]) = H13 at s13 f13 ⊢
    refine ⟨lens 1 (by decide), fun a14 n14 => ?_⟩
    have s14 := Same.up0 (o := .lst [.ref a13]) n14
    have f14 : upd H13 a14 (.lst [.ref a13]) a14 = some (.lst [.ref a13]) := upd_same
    generalize upd H13 a14 (.lst [.ref a13]) = H14 at s14 f14 ⊢
    refine ⟨lens 1 (by decide), fun a15 n15 => ?_⟩
    have s15 := Same.up0 (o := .lst [.int 2]) n15
    have f15 : upd H14 a15 (.lst [.int 2]) a15 = some (.lst [.int 2]) := upd_same
    generalize upd H14 a15 (.lst [.int 2]) = H15 at s15 f15 ⊢
    refine ⟨lens 2 (by decide), fun a16 n16 => ?_⟩
    have s16 := Same.up0 (o := .tup [.int 1, .ref a15]) n16
    have f16 : upd H15 a16 (.tup [.int 1, .ref a15]) a16 = some (.tup [.int 1, .ref a15]) := upd_same
    generalize upd H15 a16 (.tup [.int 1, .ref a15]) = H16 at s16 f16 ⊢
    refine ⟨lens 1 (by decide), fun a17 n17 => ?_⟩
    have s17 := Same.up0 (o := .tup [.str "get"]) n17
    have f17 : upd H16 a17 (.tup [.str "get"]) a17 = some (.tup [.str "get"]) := upd_same
    generalize upd H16 a17 (.tup [.str "get"]) = H17 at s17 f17 ⊢
    refine fun a18 n18 => ?_
    have s18 := Same.up0 (o := .tup [.int 1, .int 2]) n18
    have f18 : upd H17 a18 (.tup [.int 1, .int 2]) a18 = some (.tup [.int 1, .int 2]) := upd_same
    generalize upd H17 a18 (.tup [.int 1, .int 2]) = H18 at s18 f18 ⊢
    refine fun a19 n19 => ?_
    have s19 := Same.up0 (o := .dK [((Sum.inl 1 : Key), (.ref a18 : V))]) n19
    have f19 : upd H18 a19 (.dK [((Sum.inl 1 : Key), (.ref a18 : V))]) a19 = some (.dK [((Sum.inl 1 : Key), (.ref a18 : V))]) := upd_same
    generalize upd H18 a19 (.dK [((Sum.inl 1 : Key), (.ref a18 : V))]) = H19 at s19 f19 ⊢
    refine ⟨lens 7 (by decide), fun a20 n20 => ?_⟩
    have s20 := Same.up0 (o := .lst [.ref a9, .ref a10, .ref a12, .ref a14, .ref a16, .ref a17, .ref a19]) n20
    have f20 : upd H19 a20 (.lst [.ref a9, .ref a10, .ref a12, .ref a14, .ref a16, .ref a17, .ref a19]) a20 = some (.lst [.ref a9, .ref a10, .ref a12, .ref a14, .ref a16, .ref a17, .ref a19]) := upd_same
    generalize upd H19 a20 (.lst [.ref a9, .ref a10, .ref a12, .ref a14, .ref a16, .ref a17, .ref a19]) = H20 at s20 f20 ⊢
    refine ⟨a8, a20, _, _, rfl, rfl, (s20 _ _ (s19 _ _ (s18 _ _ (s17 _ _ (s16 _ _ (s15 _ _ (s14 _ _ (s13 _ _ (s12 _ _ (s11 _ _ (s10 _ _ (s9 _ _ f8)))))))))))), f20, lens 24 (by decide), fun a21 n21 => ?_⟩
    have s21 := Same.up0 (o := .lst ([.non, .bl true, .bl false, .int 0, .int 1, .int (-1), .int (10 ^ (39 : Int).toNat), .str "", .str "1/2", .str "x", .ref a1, .ref a2, .ref a3, .ref a4, .ref a5, .ref a6, .ref a7] ++ [.ref a9, .ref a10, .ref a12, .ref a14, .ref a16, .ref a17, .ref a19])) n21
    have f21 : upd H20 a21 (.lst ([.non, .bl true, .bl false, .int 0, .int 1, .int (-1), .int (10 ^ (39 : Int).toNat), .str "", .str "1/2", .str "x", .ref a1, .ref a2, .ref a3, .ref a4, .ref a5, .ref a6, .ref a7] ++ [.ref a9, .ref a10, .ref a12, .ref a14, .ref a16, .ref a17, .ref a19])) a21 = some (.lst ([.non, .bl true, .bl false, .int 0, .int 1, .int (-1), .int (10 ^ (39 : Int).toNat), .str "", .str "1/2", .str "x", .ref a1, .ref a2, .ref a3, .ref a4, .ref a5, .ref a6, .ref a7] ++ [.ref a9, .ref a10, .ref a12, .ref a14, .ref a16, .ref a17, .ref a19])) := upd_same
    generalize upd H20 a21 (.lst ([.non, .bl true, .bl false, .int 0, .int 1, .int (-1), .int (10 ^ (39 : Int).toNat), .str "", .str "1/2", .str "x", .ref a1, .ref a2, .ref a3, .ref a4, .ref a5, .ref a6, .ref a7] ++ [.ref a9, .ref a10, .ref a12, .ref a14, .ref a16, .ref a17, .ref a19])) = H21 at s21 f21 ⊢
    have f21 : H21 a21 = some (.lst [.non, .bl true, .bl false, .int 0, .int 1, .int (-1), .int (10 ^ (39 : Int).toNat), .str "", .str "1/2", .str "x", .ref a1, .ref a2, .ref a3, .ref a4, .ref a5, .ref a6, .ref a7, .ref a9, .ref a10, .ref a12, .ref a14, .ref a16, .ref a17, .ref a19]) := f21
    have S21 : Same H21 H21 := Same.refl _
    have S20 : Same H20 H21 := s21.trans S21
    have S19 : Same H19 H21 := s20.trans S20
    have S18 : Same H18 H21 := s19.trans S19
    have S17 : Same H17 H21 := s18.trans S18
    have S16 : Same H16 H21 := s17.trans S17
    have S15 : Same H15 H21 := s16.trans S16
    have S14 : Same H14 H21 := s15.trans S15
    have S13 : Same H13 H21 := s14.trans S14
    have S12 : Same H12 H21 := s13.trans S13
    have S11 : Same H11 H21 := s12.trans S12
    have S10 : Same H10 H21 := s11.trans S11
    have S9 : Same H9 H21 := s10.trans S10
    have S8 : Same H8 H21 := s9.trans S9
    have S7 : Same H7 H21 := s8.trans S8
    have S6 : Same H6 H21 := s7.trans S7
    have S5 : Same H5 H21 := s6.trans S6
    have S4 : Same H4 H21 := s5.trans S5
    have S3 : Same H3 H21 := s4.trans S4
    have S2 : Same H2 H21 := s3.trans S3
    have S1 : Same H1 H21 := s2.trans S2
    have S0 : Same H H21 := s1.trans S1
    have g1 := S1 _ _ f1
    have q1 : a1 ≠ p := fun z => by rw [z, hb0] at n1; cases n1
    have g2 := S2 _ _ f2
    have q2 : a2 ≠ p := fun z => by rw [z, (s1 _ _ hb0)] at n2; cases n2
    have g3 := S3 _ _ f3
    have q3 : a3 ≠ p := fun z => by rw [z, (s2 _ _ (s1 _ _ hb0))] at n3; cases n3
    have g4 := S4 _ _ f4
    have q4 : a4 ≠ p := fun z => by rw [z, (s3 _ _ (s2 _ _ (s1 _ _ hb0)))] at n4; cases n4
    have g5 := S5 _ _ f5
    have q5 : a5 ≠ p := fun z => by rw [z, (s4 _ _ (s3 _ _ (s2 _ _ (s1 _ _ hb0))))] at n5; cases n5
    have g6 := S6 _ _ f6
    have q6 : a6 ≠ p := fun z => by rw [z, (s5 _ _ (s4 _ _ (s3 _ _ (s2 _ _ (s1 _ _ hb0)))))] at n6; cases n6
    have g7 := S7 _ _ f7
    have q7 : a7 ≠ p := fun z => by rw [z, (s6 _ _ (s5 _ _ (s4 _ _ (s3 _ _ (s2 _ _ (s1 _ _ hb0))))))] at n7; cases n7
    have g8 := S8 _ _ f8
    have q8 : a8 ≠ p := fun z => by rw [z, (s7 _ _ (s6 _ _ (s5 _ _ (s4 _ _ (s3 _ _ (s2 _ _ (s1 _ _ hb0)))))))] at n8; cases n8
    have g9 := S9 _ _ f9
    have q9 : a9 ≠ p := fun z => by rw [z, (s8 _ _ (s7 _ _ (s6 _ _ (s5 _ _ (s4 _ _ (s3 _ _ (s2 _ _ (s1 _ _ hb0))))))))] at n9; cases n9
    have g10 := S10 _ _ f10
    have q10 : a10 ≠ p := fun z => by rw [z, (s9 _ _ (s8 _ _ (s7 _ _ (s6 _ _ (s5 _ _ (s4 _ _ (s3 _ _ (s2 _ _ (s1 _ _ hb0)))))))))] at n10; cases n10
    have g11 := S11 _ _ f11
    have q11 : a11 ≠ p := fun z => by rw [z, (s10 _ _ (s9 _ _ (s8 _ _ (s7 _ _ (s6 _ _ (s5 _ _ (s4 _ _ (s3 _ _ (s2 _ _ (s1 _ _ hb0))))))))))] at n11; cases n11
    have g12 := S12 _ _ f12
    have q12 : a12 ≠ p := fun z => by rw [z, (s11 _ _ (s10 _ _ (s9 _ _ (s8 _ _ (s7 _ _ (s6 _ _ (s5 _ _ (s4 _ _ (s3 _ _ (s2 _ _ (s1 _ _ hb0)))))))))))] at n12; cases n12
    have g13 := S13 _ _ f13
    have q13 : a13 ≠ p := fun z => by rw [z, (s12 _ _ (s11 _ _ (s10 _ _ (s9 _ _ (s8 _ _ (s7 _ _ (s6 _ _ (s5 _ _ (s4 _ _ (s3 _ _ (s2 _ _ (s1 _ _ hb0))))))))))))] at n13; cases n13
    have g14 := S14 _ _ f14
    have q14 : a14 ≠ p := fun z => by rw [z, (s13 _ _ (s12 _ _ (s11 _ _ (s10 _ _ (s9 _ _ (s8 _ _ (s7 _ _ (s6 _ _ (s5 _ _ (s4 _ _ (s3 _ _ (s2 _ _ (s1 _ _ hb0)))))))))))))] at n14; cases n14
    have g15 := S15 _ _ f15
    have q15 : a15 ≠ p := fun z => by rw [z, (s14 _ _ (s13 _ _ (s12 _ _ (s11 _ _ (s10 _ _ (s9 _ _ (s8 _ _ (s7 _ _ (s6 _ _ (s5 _ _ (s4 _ _ (s3 _ _ (s2 _ _ (s1 _ _ hb0))))))))))))))] at n15; cases n15
    have g16 := S16 _ _ f16
    have q16 : a16 ≠ p := fun z => by rw [z, (s15 _ _ (s14 _ _ (s13 _ _ (s12 _ _ (s11 _ _ (s10 _ _ (s9 _ _ (s8 _ _ (s7 _ _ (s6 _ _ (s5 _ _ (s4 _ _ (s3 _ _ (s2 _ _ (s1 _ _ hb0)))))))))))))))] at n16; cases n16
    have g17 := S17 _ _ f17
    have q17 : a17 ≠ p := fun z => by rw [z, (s16 _ _ (s15 _ _ (s14 _ _ (s13 _ _ (s12 _ _ (s11 _ _ (s10 _ _ (s9 _ _ (s8 _ _ (s7 _ _ (s6 _ _ (s5 _ _ (s4 _ _ (s3 _ _ (s2 _ _ (s1 _ _ hb0))))))))))))))))] at n17; cases n17
    have g18 := S18 _ _ f18
    have q18 : a18 ≠ p := fun z => by rw [z, (s17 _ _ (s16 _ _ (s15 _ _ (s14 _ _ (s13 _ _ (s12 _ _ (s11 _ _ (s10 _ _ (s9 _ _ (s8 _ _ (s7 _ _ (s6 _ _ (s5 _ _ (s4 _ _ (s3 _ _ (s2 _ _ (s1 _ _ hb0)))))))))))))))))] at n18; cases n18
    have g19 := S19 _ _ f19
    have q19 : a19 ≠ p := fun z => by rw [z, (s18 _ _ (s17 _ _ (s16 _ _ (s15 _ _ (s14 _ _ (s13 _ _ (s12 _ _ (s11 _ _ (s10 _ _ (s9 _ _ (s8 _ _ (s7 _ _ (s6 _ _ (s5 _ _ (s4 _ _ (s3 _ _ (s2 _ _ (s1 _ _ hb0))))))))))))))))))] at n19; cases n19
    have g20 := S20 _ _ f20
    have q20 : a20 ≠ p := fun z => by rw [z, (s19 _ _ (s18 _ _ (s17 _ _ (s16 _ _ (s15 _ _ (s14 _ _ (s13 _ _ (s12 _ _ (s11 _ _ (s10 _ _ (s9 _ _ (s8 _ _ (s7 _ _ (s6 _ _ (s5 _ _ (s4 _ _ (s3 _ _ (s2 _ _ (s1 _ _ hb0)))))))))))))))))))] at n20; cases n20
    have g21 := S21 _ _ f21
    have q21 : a21 ≠ p := fun z => by rw [z, (s20 _ _ (s19 _ _ (s18 _ _ (s17 _ _ (s16 _ _ (s15 _ _ (s14 _ _ (s13 _ _ (s12 _ _ (s11 _ _ (s10 _ _ (s9 _ _ (s8 _ _ (s7 _ _ (s6 _ _ (s5 _ _ (s4 _ _ (s3 _ _ (s2 _ _ (s1 _ _ hb0))))))))))))))))))))] at n21; cases n21
    have all := (List.forall_mem_cons.mpr ⟨⟨.none, .non, (fz_plain sm_none rfl rfl rfl), rfl, rfl, by decide +kernel, by decide +kernel⟩, (List.forall_mem_cons.mpr ⟨⟨.bool true, (.bl _), (fz_plain (sm_bool _) rfl rfl rfl), rfl, rfl, by decide +kernel, by decide +kernel⟩, (List.forall_mem_cons.mpr ⟨⟨.bool false, (.bl _), (fz_plain (sm_bool _) rfl rfl rfl), rfl, rfl, by decide +kernel, by decide +kernel⟩, (List.forall_mem_cons.mpr ⟨⟨.int 0, (.int _), (fz_plain (sm_int (by decide)) rfl rfl rfl), rfl, rfl, by decide +kernel, by decide +kernel⟩, (List.forall_mem_cons.mpr ⟨⟨.int 1, (.int _), (fz_plain (sm_int (by decide)) rfl rfl rfl), rfl, rfl, by decide +kernel, by decide +kernel⟩, (List.forall_mem_cons.mpr ⟨⟨.int (-1), (.int _), (fz_plain (sm_int (by decide)) rfl rfl rfl), rfl, rfl, by decide +kernel, by decide +kernel⟩, (List.forall_mem_cons.mpr ⟨⟨.int (10 ^ (39 : Int).toNat), (.int _), (fz_plain (sm_int (by decide +kernel)) rfl rfl rfl), rfl, rfl, by decide +kernel, by decide +kernel⟩, (List.forall_mem_cons.mpr ⟨⟨.str "", (.str _), (fz_plain (sm_str (by decide +kernel)) rfl rfl rfl), rfl, rfl, by decide +kernel, by decide +kernel⟩, (List.forall_mem_cons.mpr ⟨⟨.str "1/2", (.str _), (fz_plain (sm_str (by decide +kernel)) rfl rfl rfl), rfl, rfl, by decide +kernel, by decide +kernel⟩, (List.forall_mem_cons.mpr ⟨⟨.str "x", (.str _), (fz_plain (sm_str (by decide +kernel)) rfl rfl rfl), rfl, rfl, by decide +kernel, by decide +kernel⟩, (List.forall_mem_cons.mpr ⟨⟨.tuple [], (.tup g1 .nil), (fz_plain (sm_tuple sm_nil) rfl rfl rfl), rfl, rfl, by decide +kernel, by decide +kernel⟩, (List.forall_mem_cons.mpr ⟨⟨.list [], (.lst g2 q2 .nil), (fz_plain (sm_list sm_nil) rfl rfl rfl), rfl, rfl, by decide +kernel, by decide +kernel⟩, (List.forall_mem_cons.mpr ⟨⟨.tuple [.int 1], (.tup g3 (.cons (.int _) .nil)), (fz_plain (sm_tuple (sm_cons (sm_int (by decide)) sm_nil)) rfl rfl rfl), rfl, rfl, by decide +kernel, by decide +kernel⟩, (List.forall_mem_cons.mpr ⟨⟨.list [.int 1, .int 2], (.lst g4 q4 (.cons (.int _) (.cons (.int _) .nil))), (fz_plain (sm_list (sm_cons (sm_int (by decide)) (sm_cons (sm_int (by decide)) sm_nil))) rfl rfl rfl), rfl, rfl, by decide +kernel, by decide +kernel⟩, (List.forall_mem_cons.mpr ⟨⟨.dict [], (.dict (kvs := []) g5 .nil rfl), (fz_dict ⟨rfl, rfl⟩ rfl rfl rfl rfl), rfl, rfl, by decide +kernel, by decide +kernel⟩, (List.forall_mem_cons.mpr ⟨⟨.dict [(.str "a", .int 1)], (.dict (kvs := [((Sum.inr "a" : Key), (.int 1 : V))]) g6 (.cons (.int _) .nil) rfl), (fz_dict (sm_dict1 (sm_str (by decide +kernel)) (sm_int (by decide))) rfl rfl rfl rfl), rfl, rfl, by decide +kernel, by decide +kernel⟩, (List.forall_mem_cons.mpr ⟨⟨.tuple [.int 1, .int 2, .int 3], (.tup g7 (.cons (.int _) (.cons (.int _) (.cons (.int _) .nil)))), (fz_plain (sm_tuple (sm_cons (sm_int (by decide)) (sm_cons (sm_int (by decide)) (sm_cons (sm_int (by decide)) sm_nil)))) rfl rfl rfl), rfl, rfl, by decide +kernel, by decide +kernel⟩, (List.forall_mem_cons.mpr ⟨⟨.tuple [.none, .int 1], (.tup g9 (.cons .non (.cons (.int _) .nil))), (fz_plain (sm_tuple (sm_cons sm_none (sm_cons (sm_int (by decide)) sm_nil))) rfl rfl rfl), rfl, rfl, by decide +kernel, by decide +kernel⟩, (List.forall_mem_cons.mpr ⟨⟨.tuple [.str "1", .str "2"], (.tup g10 (.cons (.str _) (.cons (.str _) .nil))), (fz_plain (sm_tuple (sm_cons (sm_str (by decide +kernel)) (sm_cons (sm_str (by decide +kernel)) sm_nil))) rfl rfl rfl), rfl, rfl, by decide +kernel, by decide +kernel⟩, (List.forall_mem_cons.mpr ⟨⟨.tuple [.tuple [.int 1, .int 2]], (.tup g12 (.cons (.tup g11 (.cons (.int _) (.cons (.int _) .nil))) .nil)), (fz_plain (sm_tuple (sm_cons (sm_tuple (sm_cons (sm_int (by decide)) (sm_cons (sm_int (by decide)) sm_nil))) sm_nil)) rfl rfl rfl), rfl, rfl, by decide +kernel, by decide +kernel⟩, (List.forall_mem_cons.mpr ⟨⟨.list [.tuple [.int 1, .int 2]], (.lst g14 q14 (.cons (.tup g13 (.cons (.int _) (.cons (.int _) .nil))) .nil)), (fz_plain (sm_list (sm_cons (sm_tuple (sm_cons (sm_int (by decide)) (sm_cons (sm_int (by decide)) sm_nil))) sm_nil)) rfl rfl rfl), rfl, rfl, by decide +kernel, by decide +kernel⟩, (List.forall_mem_cons.mpr ⟨⟨.tuple [.int 1, .list [.int 2]], (.tup g16 (.cons (.int _) (.cons (.lst g15 q15 (.cons (.int _) .nil)) .nil))), (fz_plain (sm_tuple (sm_cons (sm_int (by decide)) (sm_cons (sm_list (sm_cons (sm_int (by decide)) sm_nil)) sm_nil))) rfl rfl rfl), rfl, rfl, by decide +kernel, by decide +kernel⟩, (List.forall_mem_cons.mpr ⟨⟨.tuple [.str "get"], (.tup g17 (.cons (.str _) .nil)), (fz_plain (sm_tuple (sm_cons (sm_str (by decide +kernel)) sm_nil)) rfl rfl rfl), rfl, rfl, by decide +kernel, by decide +kernel⟩, (List.forall_mem_cons.mpr ⟨⟨.dict [(.int 1, .tuple [.int 1, .int 2])], (.dict (kvs := [((Sum.inl 1 : Key), (.ref a18 : V))]) g19 (.cons (.tup g18 (.cons (.int _) (.cons (.int _) .nil))) .nil) rfl), (fz_dict (sm_dict1 (sm_int (by decide)) (sm_tuple (sm_cons (sm_int (by decide)) (sm_cons (sm_int (by decide)) sm_nil)))) rfl rfl rfl rfl), rfl, rfl, by decide +kernel, by decide +kernel⟩, (List.forall_mem_nil (fun v => Odd3 H21 p v))⟩)⟩)⟩)⟩)⟩)⟩)⟩)⟩)⟩)⟩)⟩)⟩)⟩)⟩)⟩)⟩)⟩)⟩)⟩)⟩)⟩)⟩)⟩)⟩)
    refine ⟨_, rfl, _, rfl, p, _, rfl, hB.keep S0, by decide, by decide, fun H' r b hB' r0 r1 => ?_⟩
    have hl := (b a21 ((hB.keep S0).new_of g21 q21)).trans g21
    obtain ⟨j, rfl⟩ := Int.eq_ofNat_of_zero_le r0
    have hj : j < 24 := by omega
    refine ixl (j := j) hl (List.getElem?_eq_getElem hj) ?_
    have th := all _ (List.getElem_mem hj)
    exact th.val (hB.keep S0) b.grow fun d V => q _ _ d ((Same.grow S0).trans b.grow) hB' V
/-! ### texts, bent -/
def Asc (z : Str) : Prop := ∀ c ∈ z.cps.toList, c < 128
theorem Asc.app {u v : Str} (a : Asc u) (b : Asc v) : Asc (u ++ v) := by
  intro c hc
  have e : (u ++ v).cps.toList = u.cps.toList ++ v.cps.toList := TL.tl_append u v
  rw [e] at hc
  rcases List.mem_append.mp hc with h | h
  · exact a c h
  · exact b c h
theorem Asc.cut {z : Str} (a : Asc z) (lo hi : Option Int) : Asc (cutS z lo hi) := by
  intro c hc
  have e : (cutS z lo hi).cps.toList = (z.cps.toList.drop (HT.sIx z.length 0 lo)).take (HT.sIx z.length z.length hi - HT.sIx z.length 0 lo) := rfl
  rw [e] at hc
  exact a c (List.mem_of_mem_drop (List.mem_of_mem_take hc))
theorem asc_of {z : Str} (h : (z.cps.toList.all fun c => decide (c < 128)) = true) : Asc z := fun c hc => of_decide_eq_true (List.all_eq_true.mp h c hc)
theorem cut_len (z : Str) (lo hi : Option Int) : (cutS z lo hi).length = min (HT.sIx z.length z.length hi - HT.sIx z.length 0 lo) (z.length - HT.sIx z.length 0 lo) := by
  have e : (cutS z lo hi).cps.toList = (z.cps.toList.drop (HT.sIx z.length 0 lo)).take (HT.sIx z.length z.length hi - HT.sIx z.length 0 lo) := rfl
  have e2 : (cutS z lo hi).cps.toList.length = (cutS z lo hi).length := Array.length_toList
  have e3 : z.cps.toList.length = z.length := Array.length_toList
  rw [← e2, e, List.length_take, List.length_drop, e3]
theorem cut_fstS (z : Str) (j : Nat) : (cutS z none (some (j : Int))).length ≤ j := by
  rw [cut_len, HT.sIx_none, HT.sIx_nat]
  omega
theorem cut_sndS (z : Str) (j : Nat) : (cutS z (some (j : Int)) none).length ≤ z.length - j := by
  rw [cut_len, HT.sIx_none, HT.sIx_nat]
  omega
theorem str_app (u v : Str) : (u ++ v).length = u.length + v.length := Array.size_append
def spBent : Sp := fun vs H Q _ => ∃ (p : Addr) (z : Str), vs = [.ref p, .str z] ∧ BagAt H p ∧ Asc z ∧ 1 ≤ z.length ∧ z.length ≤ 40 ∧ ∀ H' z', Grow p H H' → BagAt H' p → Asc z' → z'.length ≤ 60 → Q (.str z') H'
def spLText : Sp := fun vs H Q _ => ∃ (t : Addr) (a m : Nat), vs = [.ref t] ∧ isTup H t a m ∧ a ≤ 2 ^ m ∧ m ≤ 60 ∧ Q (.str (partText a m)) H
theorem num_small {k : Nat} (h : k ≤ 2 ^ 60) : (num k).length ≤ 19 ∧ 1 ≤ (num k).length ∧ Asc (num k) := by
  have e : (num k).length = (TL.numL k).length := by rw [TL.len_tl, tl_numS]
  refine ⟨?_, ?_, ?_⟩
  · rw [e]
    exact TL.numL_len (by decide) (Nat.lt_of_le_of_lt h (by decide))
  · rw [e]
    exact List.length_pos_iff.mpr (TL.numL_ne k)
  · intro c hc
    have e2 : (num k).cps.toList = TL.numL k := tl_numS k
    rw [e2] at hc
    have := TL.numL_digits k c hc
    omega
theorem partText_small {a m : Nat} (h : a ≤ 2 ^ m) (hm : m ≤ 60) : Asc (partText a m) ∧ 1 ≤ (partText a m).length ∧ (partText a m).length ≤ 40 := by
  have pw : (2 : Nat) ^ m ≤ 2 ^ 60 := Nat.pow_le_pow_right (by decide) hm
  obtain ⟨a1, a2, a3⟩ := num_small (Nat.le_trans h pw)
  obtain ⟨b1, b2, b3⟩ := num_small pw
  by_cases e : m = 0
  · subst e
    rw [partText_0]
    exact ⟨a3, a2, by omega⟩
  · rw [partText_s e]
    refine ⟨(a3.app (asc_of (by decide +kernel))).app b3, ?_, ?_⟩
    · rw [str_app, str_app]
      omega
    · rw [str_app, str_app]
      have : ("/" : Str).length = 1 := rfl
      omega
theorem log_small {i : Int} (h : i.natAbs < 2 ^ 200) : i.natAbs.log2 < 1920 := Nat.lt_of_lt_of_le (PySem.Flt.log2_lt_of (k := 200) (by decide) h) (by decide)
theorem ok_ltext {f : Addr} {fd : FuncData} (F : Fun K "_law_text" "_law_text" s_l_text f fd) (T : Bl mg) : FnOk P w K mg base L2.CX0 1 f fd ["_law_part_here"] spLText := by
  refine F.ok sc_l_text (fun vs H Q E h => ?_) (fun cdv A outer s H vs Q E hr h => ?_)
  · obtain ⟨t, a, m, rfl, _⟩ := h
    rfl
  · obtain ⟨t, a, m, rfl, ht, hx, hm, q⟩ := h
    have nd := sc_l_text.nd
    have pw : (2 : Nat) ^ m ≤ 2 ^ 60 := Nat.pow_le_pow_right (by decide) hm
    have cp := cast_pow m
    have la : ((a : Nat) : Int).natAbs.log2 < 1920 := log_small (by rw [Int.natAbs_natCast]; exact Nat.lt_of_le_of_lt (Nat.le_trans hx pw) (by decide))
    have lb : ((2 : Int) ^ m).natAbs.log2 < 1920 := log_small (by rw [← cp, Int.natAbs_natCast]; exact Nat.lt_of_le_of_lt pw (by decide))
    refine ⟨_, (pss_one (ps_ret (pe_ifExp (pt_cmpR op_eq (pe_ix ix_seq (pv 0) pe_int (fun _ _ => rfl)) pe_int (nomark _)) (pe_callTy call_str_int (by rfl) T.b_str (by decide +kernel) (pa_cons (pe_ix ix_seq (pv 0) pe_int (fun _ _ => rfl)) pa_nil)) (pe_op op_add_str (pe_op op_add_str (pe_callTy call_str_int (by rfl) T.b_str (by decide +kernel) (pa_cons (pe_ix ix_seq (pv 0) pe_int (fun _ _ => rfl)) pa_nil)) pe_str) (pe_callTy call_str_int (by rfl) T.b_str (by decide +kernel) (pa_cons (pe_ix ix_seq (pv 0) pe_int (fun _ _ => rfl)) pa_nil)))))), ?_⟩
    refine ⟨_, rfl, ixt (j := 1) ht rfl ⟨rfl, _, rfl, ite2 (fun e => ?_) (fun e => ?_)⟩⟩
    · have e1 : (2 : Int) ^ m = 1 := V.int.inj (of_decide_eq_true e)
      have m0 : m = 0 := by
        by_cases z : m = 0
        · exact z
        · obtain ⟨k, _, e2⟩ := pow2_half z
          have := pow2_pos k
          omega
      subst m0
      rw [partText_0] at q
      exact ⟨_, rfl, ixt (j := 0) ht rfl ⟨_, rfl, la, q⟩⟩
    · have m0 : m ≠ 0 := fun z => e (decide_eq_true (by rw [z]; rfl))
      rw [partText_s m0] at q
      obtain ⟨a1, _, _⟩ := num_small (Nat.le_trans hx pw)
      obtain ⟨b1, _, _⟩ := num_small pw
      refine ⟨_, rfl, ixt (j := 0) ht rfl ⟨_, rfl, la, _, _, rfl, rfl, lens _ (by show (num a).length + 1 ≤ 1000; omega), ?_⟩⟩
      have e2 : num (2 ^ m) = Str.ofString (toString ((2 : Int) ^ m)) := by
        unfold num
        rw [cp]
      rw [e2] at q b1
      refine ⟨_, rfl, ixt (j := 1) ht rfl ⟨_, rfl, lb, _, _, rfl, rfl, lens _ ?_, q⟩⟩
      show (num a ++ "/").length + (Str.ofString (toString ((2 : Int) ^ m))).length ≤ 1000
      rw [str_app]
      have : ("/" : Str).length = 1 := rfl
      omega
theorem ok_bent {f : Addr} {fd : FuncData} (F : Fun K "_law_bent" "_law_bent" s_l_bent f fd) (T : Bl mg) (c_law_take : Cal P w K mg base 1 "_law_take" spTake) : FnOk P w K mg base L2.CX0 2 f fd ["_law_bag_here", "_law_text_here"] spBent := by
  refine F.ok sc_l_bent (fun vs H Q E h => ?_) (fun cdv A outer s H0 vs Q E hr h => ?_)
  · obtain ⟨p, z, rfl, _⟩ := h
    rfl
  · obtain ⟨p, z, rfl, hB0, az, z1, z40, q0⟩ := h
    have nd := sc_l_bent.nd
    refine ⟨_, (pss_cons (ps_par (i := 2) (j := 3) rfl nd rfl rfl (by decide) rfl rfl (pa_cons (pe_f c_law_take hr rfl (pa_cons (pv 0) (pa_cons (pe_callB call_len (by rfl) T.b_len (by decide +kernel) (pa_cons (pv 1) pa_nil)) pa_nil))) (pa_cons (pe_ix ix_seq pe_str (pe_f c_law_take hr rfl (pa_cons (pv 0) (pa_cons pe_int pa_nil))) (fun _ _ => rfl)) pa_nil)) rfl)
      (pss_cons (ps_set (i := 4) nd rfl (.inl rfl) (pe_lst (pa_cons (pv 1) (pa_cons (pe_op op_add_str (pe_op op_add_str (pe_slice sl_str (pv 1) po_none (po_some (pv 2))) (pv 3)) (pe_slice sl_str (pv 1) (po_some (pv 2)) po_none)) (pa_cons (pe_op op_add_str (pe_slice sl_str (pv 1) po_none (po_some (pv 2))) (pe_slice sl_str (pv 1) (po_some (pe_op op_add (pv 2) pe_int)) po_none)) (pa_cons (pe_op op_add_str (pe_op op_add_str (pe_slice sl_str (pv 1) po_none (po_some (pv 2))) (pv 3)) (pe_slice sl_str (pv 1) (po_some (pe_op op_add (pv 2) pe_int)) po_none)) pa_nil))))))
      (pss_cons (ps_set (i := 4) nd rfl (.inl rfl) (pe_op op_cat (pv 4) (pe_lst (pa_cons (pe_op op_add_str pe_str (pv 1)) (pa_cons (pe_op op_add_str (pv 1) pe_str) (pa_cons (pe_op op_add_str (pv 1) pe_str) (pa_cons (pe_op op_add_str pe_str (pv 1)) (pa_cons (pe_op op_add_str (pv 1) pe_str) (pa_cons (pe_op op_add_str pe_str (pv 1)) (pa_cons (pe_op op_add_str (pv 1) pe_str) (pa_cons (pe_op op_add_str pe_str (pv 1)) pa_nil)))))))))))
      (pss_one (ps_ret (pe_ix ix_seq (pv 4) (pe_f c_law_take hr rfl (pa_cons (pv 0) (pa_cons pe_int pa_nil))) (fun _ _ => rfl))))))), ?_⟩
    refine ⟨_, rfl, _, rfl, .str z, z.length, rfl, ⟨lens _ (by omega), rfl⟩, p, _, rfl, hB0, by omega, ?_, fun H1 r1 b1 hB1 r10 r11 => ?_⟩
    · rw [Int.natAbs_natCast]
      exact Nat.lt_of_le_of_lt (show z.length ≤ 2 ^ 8 by omega) (by decide)
    obtain ⟨j, rfl⟩ := Int.eq_ofNat_of_zero_le r10
    have hj : j < z.length := by omega
    refine ⟨_, rfl, p, _, rfl, hB1, by decide, by decide, fun H r2 b2 hB r20 r21 => ?_⟩
    obtain ⟨i, rfl⟩ := Int.eq_ofNat_of_zero_le r20
    have hi : i < (("0123456789/ -+.a\n" : Str)).cps.toList.length := by
      have e : (("0123456789/ -+.a\n" : Str)).cps.toList.length = 17 := by decide +kernel
      omega
    refine .inr (.inr ⟨_, _, _, rfl, rfl, lens 17 (by decide), atI_nat (List.getElem?_eq_getElem hi), ?_⟩)
    have hc : (("0123456789/ -+.a\n" : Str)).cps.toList[i] < 128 := (asc_of (z := ("0123456789/ -+.a\n" : Str)) (by decide +kernel)) _ (List.getElem_mem hi)
    generalize (("0123456789/ -+.a\n" : Str)).cps.toList[i] = c at hc ⊢
    have ac : Asc ⟨#[c]⟩ := fun d hd => by
      have : d = c := List.mem_singleton.mp hd
      omega
    have lc : (⟨#[c]⟩ : Str).length = 1 := rfl
    refine ⟨_, _, rfl, ?_⟩
    have g0 : Grow p H0 H := b1.grow.trans b2.grow
    have q : ∀ H' z', Grow p H H' → BagAt H' p → Asc z' → z'.length ≤ 60 → Q (.str z') H' := fun H' z' g hB' a l => q0 H' z' (g0.trans g) hB' a l
    obtain ⟨hb1, hb2, hb0, _⟩ := id hB
    have hz : z.length ≤ sizeLine := lens _ (by omega)
    have k1 := cut_fstS z j
    have k2 := cut_sndS z j
    have k3 : (cutS z (some ((j : Int) + 1)) none).length ≤ z.length - (j + 1) := cut_sndS z (j + 1)
    have m1 : (cutS z none (some (j : Int))).length + (⟨#[c]⟩ : Str).length ≤ sizeLine := lens _ (by omega)
    have l1 : (cutS z none (some (j : Int)) ++ ⟨#[c]⟩).length + (cutS z (some (j : Int)) none).length ≤ 60 := by rw [str_app]; omega
    have m2 : (cutS z none (some (j : Int)) ++ ⟨#[c]⟩).length + (cutS z (some (j : Int)) none).length ≤ sizeLine := lens _ (by omega)
    have l3 : (cutS z none (some (j : Int))).length + (cutS z (some ((j : Int) + 1)) none).length ≤ 60 := by omega
    have m3 : (cutS z none (some (j : Int))).length + (cutS z (some ((j : Int) + 1)) none).length ≤ sizeLine := lens _ (by omega)
    have l4 : (cutS z none (some (j : Int)) ++ ⟨#[c]⟩).length + (cutS z (some ((j : Int) + 1)) none).length ≤ 60 := by rw [str_app]; omega
    have m4 : (cutS z none (some (j : Int)) ++ ⟨#[c]⟩).length + (cutS z (some ((j : Int) + 1)) none).length ≤ sizeLine := lens _ (by omega)
    have mr : ∀ {u : Str}, u.length ≤ 2 → z.length + u.length ≤ sizeLine := fun {u} h => lens _ (by omega)
    have ml : ∀ {u : Str}, u.length ≤ 2 → u.length + z.length ≤ sizeLine := fun {u} h => lens _ (by omega)
    have as1 := (az.cut none (some (j : Int)))
    have as2 := (az.cut (some (j : Int)) none)
    have as3 := (az.cut (some ((j : Int) + 1)) none)
    have lr : ∀ {u : Str}, u.length ≤ 2 → (u.cps.toList.all fun c => decide (c < 128)) = true → Asc (z ++ u) ∧ (z ++ u).length ≤ 60 := fun {u} h k => ⟨az.app (asc_of k), by rw [str_app]; omega⟩
    have ll : ∀ {u : Str}, u.length ≤ 2 → (u.cps.toList.all fun c => decide (c < 128)) = true → Asc (u ++ z) ∧ (u ++ z).length ≤ 60 := fun {u} h k => ⟨(asc_of k).app az, by rw [str_app]; omega⟩
    refine ⟨_, rfl, _, rfl, _, rfl, (j : Int), rfl, z, rfl, hz, _, rfl, _, _, rfl, rfl, m1, _, rfl, _, rfl, (j : Int), rfl, z, rfl, hz, _, _, rfl, rfl, m2, _, rfl, _, rfl, (j : Int), rfl, z, rfl, hz, _, rfl, _, rfl, _, _, rfl, rfl, (j : Int) + 1, rfl, z, rfl, hz, _, _, rfl, rfl, m3, _, rfl, _, rfl, (j : Int), rfl, z, rfl, hz, _, rfl, _, _, rfl, rfl, m1, _, rfl, _, rfl, _, _, rfl, rfl, (j : Int) + 1, rfl, z, rfl, hz, _, _, rfl, rfl, m4, lens 4 (by decide), fun a1 n1 => ?_⟩
    have s1 := Same.up0 (o := .lst [.str z, .str (cutS z none (some (j : Int)) ++ ⟨#[c]⟩ ++ cutS z (some (j : Int)) none), .str (cutS z none (some (j : Int)) ++ cutS z (some ((j : Int) + 1)) none), .str (cutS z none (some (j : Int)) ++ ⟨#[c]⟩ ++ cutS z (some ((j : Int) + 1)) none)]) n1
    have f1 : upd H a1 (.lst [.str z, .str (cutS z none (some (j : Int)) ++ ⟨#[c]⟩ ++ cutS z (some (j : Int)) none), .str (cutS z none (some (j : Int)) ++ cutS z (some ((j : Int) + 1)) none), .str (cutS z none (some (j : Int)) ++ ⟨#[c]⟩ ++ cutS z (some ((j : Int) + 1)) none)]) a1 = some (.lst [.str z, .str (cutS z none (some (j : Int)) ++ ⟨#[c]⟩ ++ cutS z (some (j : Int)) none), .str (cutS z none (some (j : Int)) ++ cutS z (some ((j : Int) + 1)) none), .str (cutS z none (some (j : Int)) ++ ⟨#[c]⟩ ++ cutS z (some ((j : Int) + 1)) none)]) := upd_same
    generalize upd H a1 (.lst [.str z, .str (cutS z none (some (j : Int)) ++ ⟨#[c]⟩ ++ cutS z (some (j : Int)) none), .str (cutS z none (some (j : Int)) ++ cutS z (some ((j : Int) + 1)) none), .str (cutS z none (some (j : Int)) ++ ⟨#[c]⟩ ++ cutS z (some ((j : Int) + 1)) none)]) = H1 at s1 f1 ⊢
    refine ⟨_, rfl, _, rfl, _, _, rfl, rfl, ml (by decide), _, rfl, _, _, rfl, rfl, mr (by decide), _, rfl, _, _, rfl, rfl, mr (by decide), _, rfl, _, _, rfl, rfl, ml (by decide), _, rfl, _, _, rfl, rfl, mr (by decide), _, rfl, _, _, rfl, rfl, ml (by decide), _, rfl, _, _, rfl, rfl, mr (by decide), _, rfl, _, _, rfl, rfl, ml (by decide), lens 8 (by decide), fun a2 n2 => ?_⟩
    have s2 := Same.up0 (o := .lst [.str (("0" : Str) ++ z), .str (z ++ ("/1" : Str)), .str (z ++ (" " : Str)), .str ((" " : Str) ++ z), .str (z ++ ("/" : Str)), .str (("/" : Str) ++ z), .str (z ++ ("\n" : Str)), .str (("-" : Str) ++ z)]) n2
    have f2 : upd H1 a2 (.lst [.str (("0" : Str) ++ z), .str (z ++ ("/1" : Str)), .str (z ++ (" " : Str)), .str ((" " : Str) ++ z), .str (z ++ ("/" : Str)), .str (("/" : Str) ++ z), .str (z ++ ("\n" : Str)), .str (("-" : Str) ++ z)]) a2 = some (.lst [.str (("0" : Str) ++ z), .str (z ++ ("/1" : Str)), .str (z ++ (" " : Str)), .str ((" " : Str) ++ z), .str (z ++ ("/" : Str)), .str (("/" : Str) ++ z), .str (z ++ ("\n" : Str)), .str (("-" : Str) ++ z)]) := upd_same
    generalize upd H1 a2 (.lst [.str (("0" : Str) ++ z), .str (z ++ ("/1" : Str)), .str (z ++ (" " : Str)), .str ((" " : Str) ++ z), .str (z ++ ("/" : Str)), .str (("/" : Str) ++ z), .str (z ++ ("\n" : Str)), .str (("-" : Str) ++ z)]) = H2 at s2 f2 ⊢
    refine ⟨a1, a2, _, _, rfl, rfl, (s2 _ _ f1), f2, lens 12 (by decide), fun a3 n3 => ?_⟩
    have s3 := Same.up0 (o := .lst ([.str z, .str (cutS z none (some (j : Int)) ++ ⟨#[c]⟩ ++ cutS z (some (j : Int)) none), .str (cutS z none (some (j : Int)) ++ cutS z (some ((j : Int) + 1)) none), .str (cutS z none (some (j : Int)) ++ ⟨#[c]⟩ ++ cutS z (some ((j : Int) + 1)) none)] ++ [.str (("0" : Str) ++ z), .str (z ++ ("/1" : Str)), .str (z ++ (" " : Str)), .str ((" " : Str) ++ z), .str (z ++ ("/" : Str)), .str (("/" : Str) ++ z), .str (z ++ ("\n" : Str)), .str (("-" : Str) ++ z)])) n3
    have f3 : upd H2 a3 (.lst ([.str z, .str (cutS z none (some (j : Int)) ++ ⟨#[c]⟩ ++ cutS z (some (j : Int)) none), .str (cutS z none (some (j : Int)) ++ cutS z (some ((j : Int) + 1)) none), .str (cutS z none (some (j : Int)) ++ ⟨#[c]⟩ ++ cutS z (some ((j : Int) + 1)) none)] ++ [.str (("0" : Str) ++ z), .str (z ++ ("/1" : Str)), .str (z ++ (" " : Str)), .str ((" " : Str) ++ z), .str (z ++ ("/" : Str)), .str (("/" : Str) ++ z), .str (z ++ ("\n" : Str)), .str (("-" : Str) ++ z)])) a3 = some (.lst ([.str z, .str (cutS z none (some (j : Int)) ++ ⟨#[c]⟩ ++ cutS z (some (j : Int)) none), .str (cutS z none (some (j : Int)) ++ cutS z (some ((j : Int) + 1)) none), .str (cutS z none (some (j : Int)) ++ ⟨#[c]⟩ ++ cutS z (some ((j : Int) + 1)) none)] ++ [.str (("0" : Str) ++ z), .str (z ++ ("/1" : Str)), .str (z ++ (" " : Str)), .str ((" " : Str) ++ z), .str (z ++ ("/" : Str)), .str (("/" : Str) ++ z), .str (z ++ ("\n" : Str)), .str (("-" : Str) ++ z)])) := upd_same
    generalize upd H2 a3 (.lst ([.str z, .str (cutS z none (some (j : Int)) ++ ⟨#[c]⟩ ++ cutS z (some (j : Int)) none), .str (cutS z none (some (j : Int)) ++ cutS z (some ((j : Int) + 1)) none), .str (cutS z none (some (j : Int)) ++ ⟨#[c]⟩ ++ cutS z (some ((j : Int) + 1)) none)] ++ [.str (("0" : Str) ++ z), .str (z ++ ("/1" : Str)), .str (z ++ (" " : Str)), .str ((" " : Str) ++ z), .str (z ++ ("/" : Str)), .str (("/" : Str) ++ z), .str (z ++ ("\n" : Str)), .str (("-" : Str) ++ z)])) = H3 at s3 f3 ⊢
    have f3 : H3 a3 = some (.lst [.str z, .str (cutS z none (some (j : Int)) ++ ⟨#[c]⟩ ++ cutS z (some (j : Int)) none), .str (cutS z none (some (j : Int)) ++ cutS z (some ((j : Int) + 1)) none), .str (cutS z none (some (j : Int)) ++ ⟨#[c]⟩ ++ cutS z (some ((j : Int) + 1)) none), .str (("0" : Str) ++ z), .str (z ++ ("/1" : Str)), .str (z ++ (" " : Str)), .str ((" " : Str) ++ z), .str (z ++ ("/" : Str)), .str (("/" : Str) ++ z), .str (z ++ ("\n" : Str)), .str (("-" : Str) ++ z)]) := f3
    have S3 : Same H3 H3 := Same.refl _
    have S2 : Same H2 H3 := s3.trans S3
    have S1 : Same H1 H3 := s2.trans S2
    have S0 : Same H H3 := s1.trans S1
    have g1 := S1 _ _ f1
    have q1 : a1 ≠ p := fun z => by rw [z, hb0] at n1; cases n1
    have g2 := S2 _ _ f2
    have q2 : a2 ≠ p := fun z => by rw [z, (s1 _ _ hb0)] at n2; cases n2
    have g3 := S3 _ _ f3
    have q3 : a3 ≠ p := fun z => by rw [z, (s2 _ _ (s1 _ _ hb0))] at n3; cases n3
    have all : ∀ v ∈ ([.str z, .str (cutS z none (some (j : Int)) ++ ⟨#[c]⟩ ++ cutS z (some (j : Int)) none), .str (cutS z none (some (j : Int)) ++ cutS z (some ((j : Int) + 1)) none), .str (cutS z none (some (j : Int)) ++ ⟨#[c]⟩ ++ cutS z (some ((j : Int) + 1)) none), .str (("0" : Str) ++ z), .str (z ++ ("/1" : Str)), .str (z ++ (" " : Str)), .str ((" " : Str) ++ z), .str (z ++ ("/" : Str)), .str (("/" : Str) ++ z), .str (z ++ ("\n" : Str)), .str (("-" : Str) ++ z)] : List V), ∃ u, v = V.str u ∧ Asc u ∧ u.length ≤ 60 := (List.forall_mem_cons.mpr ⟨⟨_, rfl, ⟨az, by omega⟩⟩, (List.forall_mem_cons.mpr ⟨⟨_, rfl, ⟨(as1.app ac).app as2, by rw [str_app]; exact l1⟩⟩, (List.forall_mem_cons.mpr ⟨⟨_, rfl, ⟨as1.app as3, by rw [str_app]; exact l3⟩⟩, (List.forall_mem_cons.mpr ⟨⟨_, rfl, ⟨(as1.app ac).app as3, by rw [str_app]; exact l4⟩⟩, (List.forall_mem_cons.mpr ⟨⟨_, rfl, (ll (by decide) (by decide +kernel))⟩, (List.forall_mem_cons.mpr ⟨⟨_, rfl, (lr (by decide) (by decide +kernel))⟩, (List.forall_mem_cons.mpr ⟨⟨_, rfl, (lr (by decide) (by decide +kernel))⟩, (List.forall_mem_cons.mpr ⟨⟨_, rfl, (ll (by decide) (by decide +kernel))⟩, (List.forall_mem_cons.mpr ⟨⟨_, rfl, (lr (by decide) (by decide +kernel))⟩, (List.forall_mem_cons.mpr ⟨⟨_, rfl, (ll (by decide) (by decide +kernel))⟩, (List.forall_mem_cons.mpr ⟨⟨_, rfl, (lr (by decide) (by decide +kernel))⟩, (List.forall_mem_cons.mpr ⟨⟨_, rfl, (ll (by decide) (by decide +kernel))⟩, (List.forall_mem_nil (fun v => ∃ u, v = V.str u ∧ Asc u ∧ u.length ≤ 60))⟩)⟩)⟩)⟩)⟩)⟩)⟩)⟩)⟩)⟩)⟩)⟩)
    refine ⟨_, rfl, _, rfl, p, _, rfl, hB.keep S0, by decide, by decide, fun H' r b hB' r0 r1 => ?_⟩
    have hl := (b a3 ((hB.keep S0).new_of g3 q3)).trans g3
    obtain ⟨k, rfl⟩ := Int.eq_ofNat_of_zero_le r0
    have hk : k < 12 := by omega
    refine ixl (j := k) hl (List.getElem?_eq_getElem hk) ?_
    obtain ⟨u, e, au, lu⟩ := all _ (List.getElem_mem hk)
    rw [e]
    exact q _ _ ((Same.grow S0).trans b.grow) hB' au lu
end
/-! ### what a call comes to, one class -/
def Ech1 (CN : Addr) (Q : VK) : XK := fun cls d H' => cls = .ref CN ∧ ∃ dd v, d = some dd ∧ H' dd = some (xPart v) ∧ ∀ t, H' t = none → Q (.ref t) (upd H' t (.tup [.str "NoPart", v]))
def TTout1 (CN : Addr) : (XK → Hp → VK → Prop) → Hp → VK → Prop := fun tl H Q => tl (Ech1 CN Q) H (fun v H1 => 2 ≤ sizeLine ∧ ∀ t, H1 t = none → Q (.ref t) (upd H1 t (.tup [.str "returned", v])))
theorem takes_len {X : Cx} {W : WX} (t : Takes X W) : Takes X (fun cls d σ H => σ.length = X.N.length → W cls d σ H) := fun u s' ⟨a, B, sI, pins, σ, H, cls, d, e, I, nb, up, sky, na, os, ag, w⟩ =>
  t u s' ⟨a, B, sI, pins, σ, H, cls, d, e, I, nb, up, sky, na, os, ag, w I.len⟩
theorem len2 {σ : L2.St} (h : σ.length = 2) (x : Option V) : (σ.set 1 x)[1]? = some x := by
  rw [List.getElem?_set_self (by omega)]
section
open LamX
variable {X : Cx} {CN fN : Addr}
abbrev outCx1 (X : Cx) (g : Addr) (cdg : Value) (s : Shared) (H : Hp) : Cx := (cxOf C8.CX0 X.prog X.w X.K X.mg X.base ["_law_call", "e"] "_law_refused" (defScope s_l_refused) g cdg X.A X.stack s H C8.E0).nox
theorem out_gives1 {q : Str} {g : Addr} {cdg : Value} (TN : NPT X.K X.mg CN fN) :
    GivesTo X ["_law_call", "e"] "_law_refused" (defScope s_l_refused) g cdg (defBody s_l_refused) "_law_call" q (TTout1 CN) := by
  intro f c' s H Q tl act hc h
  have nd := sc_l_refused.nd
  refine ⟨_, pss_one (ps_try_asm (X := outCx1 X g cdg s H) (Wout := fun _ _ _ _ => False)
    (l := [⟨.ref CN, 1, fun a cls d => tRet (tTup (tCons (tC (.str "NoPart")) (tCons (tXf a cls d CN "part" (tVar 1)) tNil)))⟩])
    (tb := fun W D σ H => ∃ E : XK, (∀ cls d σ' H', E cls d H' → σ'.length = 2 → W cls d σ' H') ∧ σ[0]? = some (some (.ref f)) ∧ H c' = some (CodeO c' q) ∧ tl E H (fun v H1 => 2 ≤ sizeLine ∧ ∀ t, H1 t = none → D.rt (.ref t) (upd H1 t (.tup [.str "returned", v]))))
    rfl rfl nd L2.takes0 ?bd
    (.cons (k := ⟨.ref CN, 1, _⟩) rfl rfl ⟨rfl, by decide, .inl TN.gC⟩ ?h1 .nil)), ?fin⟩
  case bd =>
    intro W pn xe tk _
    refine ⟨fun pins s' σ H' D I h' => ?_⟩
    obtain ⟨E, hW, h1, h2, h3⟩ := h'
    exact (pss_one (ps_ret (pe_tup (pa_cons pe_str (pa_cons (act _ pn xe E _ _ (takes_len tk) hW) pa_nil))))).run pins s' σ H' D I ⟨h1, h2, h3⟩
  case h1 =>
    intro a oe cls d pn hz hf
    exact pss_one (ps_ret (pe_tup (pa_cons pe_str (pa_cons (pe_xf (X := outCx1 X g cdg s H) (xfC_of TN) TN.noN hz hf (pv (X := (outCx1 X g cdg s H).suite a ((a, oe) :: pn)) 1)) pa_nil))))
  case fin =>
    refine ⟨Ech1 CN Q, fun cls d σ' H' e hl => ?_, rfl, hc, h⟩
    obtain ⟨rfl, dd, v, rfl, hx, k⟩ := e
    refine ⟨true, TN.te, fun _ a na => ?_, fun z => Bool.noConfusion z⟩
    exact ⟨_, len2 hl _, rfl, rfl, dd, _, v, rfl, hx, rfl, lens 2 (by decide), k⟩
end
/-! ### both sides come to the same -/
section
variable {K : PySem.W.Frag} {H : Hp} {p : Addr} {CN : Addr}
def Res (H : Hp) (p t : Addr) (s0 : Str) (d0 : PyData) : Prop := ∃ v0, H t = some (.tup [.str s0, v0]) ∧ Dz H p v0 d0
structure Fit (s0 : Str) (d0 : PyData) : Prop where
  fz : FineZ d0
  dep : d0.depth ≤ 20
  blk : d0.bulk ≤ 5000
  sz : s0.cps.size ≤ 100
  al : s0.cps.toList.all (fun c => decide (c < 16 ^ 8)) = true
theorem Val3.fit {v : V} {d : PyData} (h : Val3 H p v d) {s0 : Str} (h1 : s0.cps.size ≤ 100) (h2 : s0.cps.toList.all (fun c => decide (c < 16 ^ 8)) = true) : Fit s0 d := ⟨h.fz, h.dep, h.blk, h1, h2⟩
theorem fit_pair {s0 : Str} {x y : Int} (hx : x.natAbs < 10 ^ 60) (hy : y.natAbs < 10 ^ 60) (h1 : s0.cps.size ≤ 100) (h2 : s0.cps.toList.all (fun c => decide (c < 16 ^ 8)) = true) : Fit s0 (.tuple [.int x, .int y]) :=
  ⟨fz_plain (sm_tuple (sm_cons (sm_int hx) (sm_cons (sm_int hy) sm_nil))) rfl rfl rfl, ble rfl, ble rfl, h1, h2⟩
theorem refused_out {H1 : Hp} {Q : VK} {v : V} {d : PyData} (hB : BagAt H1 p) (dz : Dz H1 p v d) (r : ∀ H' t, Same H1 H' → Res H' p t "NoPart" d → Q (.ref t) H') {H2 : Hp} (s : Same H1 H2) (dd : Addr) (nd : H2 dd = none) :
    Ech1 CN Q (.ref CN) (some dd) (upd H2 dd (xPart v)) := by
  refine ⟨rfl, dd, v, rfl, upd_same, fun t nt => ?_⟩
  have s1 : Same H1 (upd (upd H2 dd (xPart v)) t (.tup [.str "NoPart", v])) := s.trans (Same.up (Same.up0 nd) nt)
  exact r _ t s1 ⟨v, upd_same, dz_kp hB (Same.grow s1).kp dz⟩
/-- no text of a part, or the text of this one -/
theorem Val3.cases {v : V} {d : PyData} (V0 : Val3 H p v d) : (∀ {H1 : Hp}, Kp p H H1 → BagAt H p → ∀ (yes : Nat → Nat → Prop) (no : Prop), no → TextOf K H1 v yes no) ∨ ∃ (z : Str) (a m : Nat), v = .str z ∧ PG z a m ∧ z.length ≤ 60 := by
  by_cases hg : ∃ (z : Str) (a m : Nat), v = .str z ∧ PG z a m
  · right
    obtain ⟨z, a, m, rfl, g⟩ := hg
    refine ⟨z, a, m, rfl, g, ?_⟩
    have dz := V0.dz
    cases dz
    exact ble V0.str
  · left
    intro H1 k hB yes no hn
    have dz := dz_kp hB k V0.dz
    have str := V0.str
    cases dz with
    | non => exact .inl ⟨"NoneType", .base .non, by decide, by decide, hn⟩
    | bl b => exact .inl ⟨"bool", .base (.bl b), by decide, by decide, hn⟩
    | int i => exact .inl ⟨"int", .base (.int i), by decide, by decide, hn⟩
    | str x => exact .inr ⟨x, rfl, ble str, fun a m g => absurd ⟨x, a, m, rfl, g⟩ hg, fun _ => hn⟩
    | lst q _ _ => exact .inl ⟨"list", .base (.lst q), by decide, by decide, hn⟩
    | tup q a => exact .inl ⟨"tuple", .base (.tup q), by decide, by decide, hn⟩
    | dict q _ _ => exact .inl ⟨"dict", .base (.dK q), by decide, by decide, hn⟩
/-- the text of this part, and of no other -/
theorem PG.same {z : Str} {a m a' m' : Nat} (g : PG z a m) (g' : PG z a' m') : a' = a ∧ m' = m := by
  obtain ⟨a1, s1, b1, c1, f1, _, f3, _, _, va, vc⟩ := partText_cut (x := a) (m := m) (Nat.lt_of_le_of_lt g.hi (Nat.lt_trans g.small (by decide))) (Nat.lt_trans g.small (by decide))
  obtain ⟨a2, s2, b2, c2, e1, _, e3, _, _, wa, wc⟩ := partText_cut (x := a') (m := m') (Nat.lt_of_le_of_lt g'.hi (Nat.lt_trans g'.small (by decide))) (Nat.lt_trans g'.small (by decide))
  rw [← g.txt] at f1
  rw [← g'.txt, f1] at e1
  cases e1
  rw [← f3] at e3
  subst e3
  rw [va] at wa
  rw [vc] at wc
  exact ⟨wa.symm, ((Nat.pow_right_inj (by decide)).mp wc).symm⟩
theorem tup_at {H1 : Hp} (hB : BagAt H p) (k : Kp p H H1) {a : Addr} {xs : List V} (h : H a = some (.tup xs)) : H1 a = some (.tup xs) := by
  obtain ⟨u, v, hp, _⟩ := hB
  exact k _ _ (ne_of h hp (by intro z; cases z)) (fun _ z => by cases z) h
theorem Res.kp {H1 : Hp} {t : Addr} {s0 : Str} {d0 : PyData} (r : Res H p t s0 d0) (hB : BagAt H p) (k : Kp p H H1) : Res H1 p t s0 d0 := by
  obtain ⟨v0, h1, h2⟩ := r
  exact ⟨v0, tup_at hB k h1, dz_kp hB k h2⟩
theorem val_str {z : Str} (a : Asc z) (l : z.length ≤ 60) : Val3 H p (.str z) (.str z) := by
  have hc : (z.cps.toList.all fun c => decide (c < 16 ^ 8)) = true := List.all_eq_true.mpr fun c hc => decide_eq_true (Nat.lt_trans (a c hc) (by decide))
  refine ⟨.str z, ⟨rfl, hc, Nat.zero_le _, ?_, fun z => by cases z⟩, Nat.zero_le _, ?_, Nat.ble_eq_true_of_le l⟩
  · show z.cps.size ≤ 10000
    have : z.cps.size = z.length := rfl
    omega
  · show z.cps.size ≤ 5000
    have : z.cps.size = z.length := rfl
    omega
end
/-! ### the law -/
structure CalX (P : Program) (w : World) (K : PySem.W.Frag) (mg : Str → Option Value) (base : Heap) (k : Nat) (x : Str) (sp : Sp) : Prop where
  ex : ∃ (f : Addr) (fd : FuncData) (ps : List Str), FnOk P w K mg base (L2.CX P w) k f fd ps sp ∧ mg x = some (.ref f) ∧ PySem.W.keepIn K (.ref f) = true ∧ Binds K fd ps []
theorem pe_fX {X : Cx} {k j : Nat} {x : Str} {sp : Sp} {p pos : Pos} {e : Expr} {es : List Expr} {t : TA} {W : WX} (c : CalX X.prog X.w X.K X.mg X.base k x sp) (hr : Room j X.A) (hg : Gl X x) (tk : Takes X W) (ha : PA X (e :: es) t) (hk : k ≤ j := by decide)
    (hdb : (x == ("__debug__" : Str)) = false := by decide) (he : starEach (e :: es) X.env = (false, eval e X.env) :: starEach es X.env := by rfl) (hpl : (backTo pos (starEach es X.env)).any (·.1) = false := by rfl) :
    PE X (.Call (.Name x p) (e :: es) [] pos) (tCallS sp (WE W) t) := by
  obtain ⟨f, fd, ps, F, hm, kp, b⟩ := c.ex
  exact pe_callS F (hr.mono hk) hg hm kp b (fun σ => passAt tk σ) ha hdb he hpl
theorem calX_of {P : Program} {w : World} {K : PySem.W.Frag} {mg : Str → Option Value} {base : Heap} {x : Str} {st : Stmt} {k : Nat} {ps : List Str} {sp : Sp} (D : DefIn K mg x st)
    (h : ∀ f fd, Fun K x x st f fd → FnOk P w K mg base (L2.CX P w) k f fd ps sp)
    (hb : ∀ (kV doc pm : Value) (an : Option Addr) (cdv ct : Value) (us : List Value), us.length = ps.length → bindArgs (PySem.W.fnOf x x (defArgs st) (defBody st) (defScope st) .none kV doc pm an cdv ct) ⟨us, []⟩ = pure (ps.zip us)) :
    CalX P w K mg base k x sp := by
  obtain ⟨f, fd, F, hm⟩ := D.ex
  exact ⟨f, fd, ps, h f fd F, hm, F.kp, F.binds hb⟩
theorem mem1 {α β : Type} {a a' : α} {b : β} {p : α × β} (h : p ∈ [(a, b)]) (_ : p.1 = a') : p.2 = b := by
  rw [List.mem_singleton.mp h]
theorem dp_pair {K : PySem.W.Frag} {H : Hp} {a : Addr} {x y : Int} (h : H a = some (.tup [.int x, .int y])) : Dp K H (.ref a) (.tuple [.int x, .int y]) := .tup (SqT.of h) (.cons (.int x) (.cons (.int y) .nil))
section
open LamX
variable {P : Program} {w : World} {K : PySem.W.Frag} {mg : Str → Option Value} {base : Heap} {CN fN : Addr}
theorem ok_law {f cL Pt : Addr} {oc kV doc pm ct : Value} {od an : Option Addr} {osl : Array (Option Value)} (lk : K.lookup f = some ⟨oc, od, .func (PySem.W.fnOf "law" "law" (defArgs s_law) (defBody s_law) (defScope s_law) .none kV doc pm an (.ref cL) ct), osl⟩) (hcd : PySem.W.codeIn K (.ref cL) "law" = true)
    (T : Bl mg) (TB : TabB base mg cL Pt) (TN : NPT K mg CN fN) (D_refused : DefIn K mg "_law_refused" s_l_refused)
    (c_law_bag : Cal P w K mg base 1 "_law_bag" (spBag K)) (c_law_take : Cal P w K mg base 1 "_law_take" spTake) (c_law_part : Cal P w K mg base 2 "_law_part" spPart) (c_part_text : Cal P w K mg base 3 "part_text" spPartText) (c_read_part : Cal P w K mg base 4 "read_part" spReadBack)
    (c_law_text : Cal P w K mg base 1 "_law_text" spLText) (c_law_odd : Cal P w K mg base 2 "_law_odd" spVal3) (c_law_bent : Cal P w K mg base 2 "_law_bent" spBent) (c_law_read : Cal P w K mg base 3 "_law_read" (spLRead K)) (c_law_is_part : Cal P w K mg base 2 "_law_is_part" (spLIsPart K))
    (x_read : CalX P w K mg base 4 "read_part" (spReadX K CN)) (x_text : CalX P w K mg base 3 "part_text" (spTextX K CN)) :
    AtC P w K mg base L2.CX0 f (PySem.W.fnOf "law" "law" (defArgs s_law) (defBody s_law) (defScope s_law) .none kV doc pm an (.ref cL) ct) "_law_script"
      (spLawT K Pt) := by
  obtain ⟨fo, fdo, FO, hmo⟩ := D_refused.ex
  have kpo := FO.kp
  have bO := FO.binds (ps := ["_law_call"]) fun _ _ _ _ _ _ us hl => match us, hl with | [_], _ => rfl
  obtain ⟨oco, odo, kVo, doco, pmo, ano, cdo, cto, oslo, rfl, lko, hco⟩ := FO.ex
  refine atC_of (k := 30) lk hcd sc_law (by decide) (fun vs H Q E h => by obtain ⟨a, ns, rfl, _⟩ := h; rfl) fun A outer s H vs Q E hgd0 hr h => ?_
  obtain ⟨a, ns, rfl, hS, hlen, hP, hO, q⟩ := h
  have nd := sc_law.nd
  have hu64 := hr.units
  have hgd : (A.deeper (envOfC "law" (defScope s_law) s.heap.objs.size f (.ref cL))).guards = some [] := hgd0
  have r6 : Room 6 (A.deeper (envOfC "law" (defScope s_law) s.heap.objs.size f (.ref cL))) := hr.mono (by decide)
  generalize eT : [(Pt, (envOfC "law" (defScope s_law) s.heap.objs.size f (.ref cL)).qual ++ ("<lambda>" : Str))] = TT
  have hmT : (Pt, (envOfC "law" (defScope s_law) s.heap.objs.size f (.ref cL)).qual ++ ("<lambda>" : Str)) ∈ TT := by rw [← eT]; exact List.mem_singleton.mpr rfl
  have huT : ∀ p ∈ TT, p.1 = Pt → p.2 = (envOfC "law" (defScope s_law) s.heap.objs.size f (.ref cL)).qual ++ ("<lambda>" : Str) := fun p hp e => by rw [← eT] at hp; exact mem1 hp e
  have T0 : Tabs TT H := by
    rw [← eT]
    intro p hp
    rw [List.mem_singleton.mp hp]
    exact TabS.nil hP
  have hres : ∃ t, PSs (cxOf L2.CX0 P w K mg base ["_law_script", "_law_k", "_law_bag_here", "_law_part_here", "_law_turn", "_law_thing", "_law_found", "_law_due"] "law" (defScope s_law) f (.ref cL) A outer s H E).nox (defBody s_law) t ∧ t { nx := fun _ H' => Q .non H', rt := Q } (start ["_law_script", "_law_k", "_law_bag_here", "_law_part_here", "_law_turn", "_law_thing", "_law_found", "_law_due"] [.ref a]) H := by
    refine ⟨_, (pss_cons (ps_for PassesOwn.never rfl (pi_range1 rfl T.b_range (pa_cons (pe_callB (call_max2 rfl) (by rfl) T.b_max (by decide +kernel) (pa_cons pe_int (pa_cons (pe_callB (call_min2 rfl) (by rfl) T.b_min (by decide +kernel) (pa_cons pe_int (pa_cons (pe_callB call_len (by rfl) T.b_len (by decide +kernel) (pa_cons (pv 0) pa_nil)) pa_nil))) pa_nil))) pa_nil)) (pg_name (i := 1) nd rfl (.inl rfl))
        (pss_cons (ps_set (i := 2) nd rfl (.inl rfl) (pe_f c_law_bag hr rfl (pa_cons (pv 0) (pa_cons (pv 1) pa_nil))))
        (pss_cons (ps_set (i := 3) nd rfl (.inl rfl) (pe_cut (pe_ix ix_seq (pe_lst (pa_cons (pe_tup (pa_cons pe_int (pa_cons pe_int pa_nil))) (pa_cons (pe_tup (pa_cons pe_int (pa_cons pe_int pa_nil))) (pa_cons (pe_f c_law_part hr rfl (pa_cons (pv 2) (pa_cons pe_int pa_nil))) (pa_cons (pe_f c_law_part hr rfl (pa_cons (pv 2) (pa_cons pe_int pa_nil))) pa_nil))))) (pe_f c_law_take hr rfl (pa_cons (pv 2) (pa_cons pe_int pa_nil))) (fun _ _ => rfl))))
        (pss_cons (ps_if (PW.pt (pw_or (pt_cmpR op_ne (pe_f c_part_text hr rfl (pa_cons (pv 3) pa_nil)) (pe_f c_law_text hr rfl (pa_cons (pv 3) pa_nil)) (nomark _)) (pw_or1 (pt_cmpR (op_neD hu64) (pe_f c_read_part hr rfl (pa_cons (pe_f c_law_text hr rfl (pa_cons (pv 3) pa_nil)) pa_nil)) (pv 3) (nomark _)))))
          (pss_one (ps_ret pe_bl))
          pss_nil)
        (pss_one (ps_for PassesOwn.never rfl (pi_range1 rfl T.b_range (pa_cons pe_int pa_nil)) (pg_name (i := 4) nd rfl (.inl rfl))
          (pss_cons (ps_set (i := 5) nd rfl (.inr rfl) (pe_cut (pe_ifExp (pt_cmpR op_eq (pe_f c_law_take hr rfl (pa_cons (pv 2) (pa_cons pe_int pa_nil))) pe_int (nomark _)) (pe_f c_law_odd hr rfl (pa_cons (pv 2) pa_nil)) (pe_f c_law_bent hr rfl (pa_cons (pv 2) (pa_cons (pe_f c_law_text hr rfl (pa_cons (pv 3) pa_nil)) pa_nil))))))
          (pss_cons (ps_set (i := 6) nd rfl (.inl rfl) (pe_cut (pe_f c_law_read hr rfl (pa_cons (pv 5) pa_nil))))
          (pss_mid (ps_set (i := 7) nd rfl (.inl rfl) (pe_ifExp (pt_cmpR op_isN (pv 6) pe_non (nomark _)) (pe_tup (pa_cons pe_str (pa_cons (pv 5) pa_nil))) (pe_tup (pa_cons pe_str (pa_cons (pv 6) pa_nil)))))
          (pss_cons (ps_if (pt_cmpR op_ne (pe_callB (reprP hgd hu64) (by rfl) T.b_repr (by decide +kernel) (pa_cons (pe_cut (pe_lamcall (k := 4) (T := TT) (t := fun E => tCallS (spReadX K CN) (WE (fun cls d _ H => E cls d H)) (tCons (tVar 5) tNil)) rfl hmo kpo lko hco bO sc_l_refused rfl (.inl rfl) (out_gives1 TN) TB rfl hmT huT r6 (lamS_by (sc := defScope s_law) (by decide +kernel)) rfl (fun _ _ _ _ _ => rfl) (fun A outer s H E f c' hr2 => by exact (pe_fX x_read hr2 rfl (takes_of rfl rfl rfl rfl) (pa_cons (pv 5) pa_nil))))) pa_nil)) (pe_callB (reprP hgd hu64) (by rfl) T.b_repr (by decide +kernel) (pa_cons (pv 7) pa_nil)) (nomark _))
            (pss_one (ps_ret pe_bl))
            pss_nil)
          (pss_one (ps_if (PW.pt (pw_and (pt_not (pt_val (pe_cut (pe_f c_law_is_part hr rfl (pa_cons (pv 5) pa_nil))))) (pw_and1 (pt_cmpR op_ne (pe_callB (reprP hgd hu64) (by rfl) T.b_repr (by decide +kernel) (pa_cons (pe_cut (pe_lamcall (k := 4) (T := TT) (t := fun E => tCallS (spTextX K CN) (WE (fun cls d _ H => E cls d H)) (tCons (tVar 5) tNil)) rfl hmo kpo lko hco bO sc_l_refused rfl (.inl rfl) (out_gives1 TN) TB rfl hmT huT r6 (lamS_by (sc := defScope s_law) (by decide +kernel)) rfl (fun _ _ _ _ _ => rfl) (fun A outer s H E f c' hr2 => by exact (pe_fX x_text hr2 rfl (takes_of rfl rfl rfl rfl) (pa_cons (pv 5) pa_nil))))) pa_nil)) (pe_callB (reprP hgd hu64) (by rfl) T.b_repr (by decide +kernel) (pa_cons (pe_tup (pa_cons pe_str (pa_cons (pv 5) pa_nil))) pa_nil)) (nomark _)))))
            (pss_one (ps_ret pe_bl))
            pss_nil))))))))))))
      (pss_one (ps_ret pe_bl))), ?_⟩
    obtain ⟨m, em, hm⟩ := cells_of ns.length 2 6 (by decide)
    refine ⟨_, rfl, .ref a, _, rfl, .inl ⟨_, hS, rfl⟩, _, _, rfl, _, _, rfl, (m : Int), ?_, by omega, by omega, ?_⟩
    · rw [List.length_map]
      exact congrArg (fun z => [V.int z]) em
    refine for_range (lo := 0) (n := m) (fun i σ H' => ∃ y1 y2 y3 y4 y5 y6 y7 : Option V, σ = [some (.ref a), y1, y2, y3, y4, y5, y6, y7] ∧ ExtN H H' ∧ Tabs TT H') ⟨_, _, _, _, _, _, _, rfl, ExtN.refl H, T0⟩ ?_ ?_
    · rintro i σ H1 hi ⟨y1, y2, y3, y4, y5, y6, y7, rfl, x1, T1⟩
      refine ⟨_, rfl, _, rfl, a, ns, _, rfl, Tp.ExtN.sql x1 hS, by omega, by omega, by omega, fun H2 p s2 np hB => ?_⟩
      have np0 : H p = none := by
        cases e : H p with
        | none => rfl
        | some o =>
          rcases hO p o e with e1 | e1
          · obtain ⟨ps, z, _⟩ := T1 _ hmT
            rw [← e1] at z
            have z' : H1 p = some (.tbl ps) := z
            rw [np] at z'
            cases z'
          · have z' := x1 p o e e1
            rw [np] at z'
            cases z'
      have T2 : Tabs TT H2 := tabs_same s2 T1
      have x2 : ExtN H H2 := x1.trans (Same.ext s2)
      -- the part
      refine ⟨fun v H' => ∃ (t : Addr) (x n : Nat), v = .ref t ∧ isTup H' t x n ∧ partB (x : Int) (2 ^ n) = true ∧ x ≤ 2 ^ n ∧ n ≤ 60 ∧ Grow p H2 H' ∧ BagAt H' p, ?_, ?_⟩
      · refine ⟨lens 2 (by decide), fun ta na => ⟨lens 2 (by decide), fun tb nb => ?_⟩⟩
        have sa : Same H2 (upd H2 ta (.tup [.int 0, .int 1])) := Same.up0 na
        have ha : isTup (upd H2 ta (.tup [.int 0, .int 1])) ta 0 0 := upd_same
        generalize upd H2 ta (.tup [.int 0, .int 1]) = H3 at sa ha nb ⊢
        have sb : Same H3 (upd H3 tb (.tup [.int 1, .int 1])) := Same.up0 nb
        have hb : isTup (upd H3 tb (.tup [.int 1, .int 1])) tb 1 0 := upd_same
        generalize upd H3 tb (.tup [.int 1, .int 1]) = H4 at sb hb ⊢
        have hB4 := (hB.keep sa).keep sb
        have ha4 : isTup H4 ta 0 0 := sb _ _ ha
        refine ⟨_, rfl, p, 60, rfl, hB4, by decide, fun H5 tc xc yc g5 hB5 nc hc Dc => ?_⟩
        refine ⟨_, rfl, p, 5, rfl, hB5, by decide, fun H6 td xd yd g6 hB6 nd' hd Dd => ?_⟩
        refine ⟨lens 4 (by decide), fun l nl => ?_⟩
        have sl := Same.up0 (o := .lst [.ref ta, .ref tb, .ref tc, .ref td]) nl
        have hl : upd H6 l (.lst [.ref ta, .ref tb, .ref tc, .ref td]) l = some (.lst [.ref ta, .ref tb, .ref tc, .ref td]) := upd_same
        generalize upd H6 l (.lst [.ref ta, .ref tb, .ref tc, .ref td]) = H7 at sl hl ⊢
        have hB7 := hB6.keep sl
        have nlp : l ≠ p := hB6.new nl
        refine ⟨_, rfl, p, _, rfl, hB7, by decide, by decide, fun H8 r b8 hB8 r0 r1 => ?_⟩
        have hl8 := (b8 l nlp).trans hl
        have g48 : Grow p H4 H8 := g5.trans (g6.trans ((Same.grow sl).trans b8.grow))
        have g58 : Grow p H5 H8 := g6.trans ((Same.grow sl).trans b8.grow)
        have g68 : Grow p H6 H8 := (Same.grow sl).trans b8.grow
        have g28 : Grow p H2 H8 := (Same.grow (sa.trans sb)).trans g48
        obtain ⟨xc', mc, rfl, rfl, hmc, Pc⟩ := Dc.pt
        obtain ⟨xd', md, rfl, rfl, hmd, Pd⟩ := Dd.pt
        obtain ⟨j, rfl⟩ := Int.eq_ofNat_of_zero_le r0
        match j, r1 with
        | 0, _ => exact ixl (j := 0) hl8 rfl ⟨ta, 0, 0, rfl, tup_keep hB4 g48 ha4, by decide +kernel, Nat.zero_le _, Nat.zero_le _, g28, hB8⟩
        | 1, _ => exact ixl (j := 1) hl8 rfl ⟨tb, 1, 0, rfl, tup_keep hB4 g48 hb, by decide +kernel, Nat.le_refl _, Nat.zero_le _, g28, hB8⟩
        | 2, _ => exact ixl (j := 2) hl8 rfl ⟨tc, xc', mc, rfl, tup_keep hB5 g58 hc, Pc.part, Pc.hi, hmc, g28, hB8⟩
        | 3, _ => exact ixl (j := 3) hl8 rfl ⟨td, xd', md, rfl, tup_keep hB6 g68 hd, Pd.part, Pd.hi, by omega, g28, hB8⟩
        | j + 4, z => exact absurd z (by omega)
      rintro _ H3 ⟨t, x, n, rfl, ht, hp, hx, hn, g3, hB3⟩
      have T3 : Tabs TT H3 := tabs_grow hB g3 T2
      refine ⟨_, rfl, t, x, n, rfl, ht, hp, hx, by omega, fun H4 s4 => ?_⟩
      have ht4 : isTup H4 t x n := s4 _ _ ht
      refine ⟨_, rfl, t, x, n, rfl, ht4, hx, hn, rfl, _, rfl, ?_⟩
      rw [decide_eq_true rfl]
      refine iteF ?_
      refine ⟨_, rfl, t, x, n, rfl, ht4, hx, hn, x, n, rfl, hp, hx, by omega, fun H5 t2 s5 ht2 => ?_⟩
      have ht5 : isTup H5 t x n := s5 _ _ ht4
      refine ⟨_, rfl, _, _, dp_pair ht2, dp_pair ht5, rfl, rfl, _, rfl, ?_⟩
      rw [SeqAt.eqv_refl _ rfl]
      refine iteF ?_
      have s35 := s4.trans s5
      have hB5 := hB3.keep s35
      have T5 : Tabs TT H5 := tabs_same s35 T3
      have k25 : Kp p H2 H5 := (g3.trans (Same.grow s35)).kp
      refine ⟨5, rfl, by decide, by decide, ?_⟩
      refine for_range (lo := 0) (n := 5) (fun _ σ H' => ∃ y4 y5 y6 y7 : Option V, σ = [some (.ref a), some (.int (0 + (i : Nat))), some (.ref p), some (.ref t), y4, y5, y6, y7] ∧ Kp p H5 H' ∧ BagAt H' p ∧ Tabs TT H') ⟨_, _, _, _, rfl, Kp.refl p H5, hB5, T5⟩ ?_ ?_
      · rintro i' σ H6 hi' ⟨y4, y5, y6, y7, rfl, k6, hB6, T6⟩
        have ht6 : isTup H6 t x n := tup_at hB5 k6 ht5
        refine ⟨fun v H' => ∃ d, Grow p H6 H' ∧ BagAt H' p ∧ Val3 H' p v d, ?_, ?_⟩
        · refine ⟨_, rfl, p, _, rfl, hB6, by decide, by decide, fun H7 r b7 hB7 r0 r1 => ⟨rfl, _, rfl, ite2 (fun _ => ?_) (fun _ => ?_)⟩⟩
          · exact ⟨_, rfl, p, rfl, hB7, fun H' v d g hB' Vt => ⟨d, b7.grow.trans g, hB', Vt⟩⟩
          · obtain ⟨az, z1, z40⟩ := partText_small hx hn
            exact ⟨_, rfl, _, rfl, t, x, n, rfl, tup_keep hB6 b7.grow ht6, hx, hn, p, _, rfl, hB7, az, z1, z40, fun H' z' g hB' az' lz' => ⟨_, b7.grow.trans g, hB', val_str az' lz'⟩⟩
        rintro v H7 ⟨d, g7, hB7, V7⟩
        have T7 : Tabs TT H7 := tabs_grow hB6 g7 T6
        -- the law's reading
        refine ⟨fun r H' => Same H7 H' ∧ ((r = .non ∧ ∀ {H1 : Hp}, Kp p H7 H1 → ∀ (yes : Nat → Nat → Prop) (no : Prop), no → TextOf K H1 v yes no) ∨ ∃ (t2 : Addr) (z : Str) (A M : Nat), r = .ref t2 ∧ v = .str z ∧ PG z A M ∧ z.length ≤ 60 ∧ isTup H' t2 A M), ?_, ?_⟩
        · rcases V7.cases with k0 | ⟨z, A, M, rfl, g, lz⟩
          · exact ⟨_, rfl, v, rfl, k0 (Kp.refl p H7) hB7 _ _ fun H' s => ⟨s, .inl ⟨rfl, fun {H1} k => k0 k hB7⟩⟩⟩
          · refine ⟨_, rfl, _, rfl, .inr ⟨z, rfl, lz, fun A' M' g' H' t2 s ht2 => ⟨s, .inr ⟨t2, z, A, M, rfl, rfl, g, lz, ?_⟩⟩, fun no => absurd g (no A M)⟩⟩
            obtain ⟨rfl, rfl⟩ := g.same g'
            exact ht2
        rintro r H8 ⟨s8, found⟩
        have s8 : Same H7 H8 := s8
        have hB8 := hB7.keep s8
        have T8 : Tabs TT H8 := tabs_same s8 T7
        have V8 : Val3 H8 p v d := V7.kp hB7 (Same.grow s8).kp
        -- what is due
        refine ⟨fun σ' H' => ∃ (tt : Addr) (s0 : Str) (d0 : PyData), σ' = [some (.ref a), some (.int (0 + (i : Nat))), some (.ref p), some (.ref t), some (.int (0 + (i' : Nat))), some v, some r, some (.ref tt)] ∧ Same H8 H' ∧ Res H' p tt s0 d0 ∧ Fit s0 d0 ∧
          ∀ H1 (Q : VK), Kp p H8 H1 → BagAt H1 p → (∀ H' t, Same H1 H' → Res H' p t s0 d0 → Q (.ref t) H') → TTout1 CN (fun E H' Q' => spReadX K CN [v] H' Q' fun cls d H2 => E cls d H2) H1 Q, ?_, ?_⟩
        · rcases found with ⟨rfl, k0⟩ | ⟨t2, z, A, M, rfl, rfl, g, lz, ht2⟩
          · refine ⟨_, rfl, rfl, _, rfl, ?_⟩
            rw [decide_eq_true rfl]
            refine iteT ⟨_, rfl, lens 2 (by decide), fun tt nt => ?_⟩
            have st := Same.up0 (o := .tup [.str "NoPart", v]) nt
            refine ⟨tt, "NoPart", d, rfl, st, ⟨v, upd_same, dz_kp hB8 (Same.grow st).kp V8.dz⟩, V8.fit (by decide) (by decide +kernel), fun H1 Q k1 hB1 res => ?_⟩
            refine ⟨v, rfl, k0 ((Same.grow s8).kp.trans k1) _ _ fun H' dd s nd'' => ?_⟩
            exact refused_out hB1 (V8.kp hB8 k1).dz res s dd nd''
          · refine ⟨_, rfl, rfl, _, rfl, ?_⟩
            rw [decide_eq_false (fun z => V.noConfusion z)]
            refine iteF ⟨_, rfl, lens 2 (by decide), fun tt nt => ?_⟩
            have st := Same.up0 (o := .tup [.str "returned", .ref t2]) nt
            have cp := cast_pow M
            have b1 : ((A : Nat) : Int).natAbs < 10 ^ 60 := by
              rw [Int.natAbs_natCast]
              exact Nat.lt_of_le_of_lt g.hi g.small
            have b2 : ((2 : Int) ^ M).natAbs < 10 ^ 60 := by
              rw [← cp, Int.natAbs_natCast]
              exact g.small
            refine ⟨tt, "returned", .tuple [.int (A : Int), .int (2 ^ M)], rfl, st, ⟨_, upd_same, .tup (st _ _ ht2) (.cons (.int _) (.cons (.int _) .nil))⟩, fit_pair b1 b2 (by decide) (by decide +kernel), fun H1 Q k1 hB1 res => ?_⟩
            refine ⟨_, rfl, .inr ⟨z, rfl, lz, fun A' M' g' H' t3 s ht3 => ⟨lens 2 (by decide), fun t4 n4 => ?_⟩, fun no => absurd g (no A M)⟩⟩
            obtain ⟨rfl, rfl⟩ := g.same g'
            have s4 := Same.up0 (o := .tup [.str "returned", .ref t3]) n4
            exact res _ t4 (s.trans s4) ⟨_, upd_same, .tup (s4 _ _ ht3) (.cons (.int _) (.cons (.int _) .nil))⟩
        rintro _ H9 ⟨tt, s0, d0, rfl, s9, due, fit, ho⟩
        have s9 : Same H8 H9 := s9
        have hB9 := hB8.keep s9
        have T9 : Tabs TT H9 := tabs_same s9 T8
        have V9 : Val3 H9 p v d := V8.kp hB8 (Same.grow s9).kp
        refine ⟨fun r H' => ∃ t, r = .ref t ∧ Kp p H9 H' ∧ BagAt H' p ∧ Tabs TT H' ∧ Res H' p t s0 d0, ⟨T9, fun Hx xx Tx => ⟨_, rfl, ho Hx (fun r H' => ∃ t, r = .ref t ∧ Kp p H9 H' ∧ BagAt H' p ∧ Tabs TT H' ∧ Res H' p t s0 d0) ((Same.grow s9).kp.trans (extN_kp xx)) (BagAt.extN hB9 xx) fun H' t s r => ⟨t, rfl, (extN_kp xx).trans (Same.grow s).kp, (BagAt.extN hB9 xx).keep s, tabs_same s Tx, r⟩⟩⟩, ?_⟩
        rintro _ H10 ⟨t1, rfl, k10, hB10, T10, v01, ht1, dz1⟩
        refine ⟨p, t1, s0, v01, d0, rfl, ht1, dz1, fit.fz, fit.dep, fit.blk, fit.sz, fit.al, ?_⟩
        obtain ⟨v02, hd2, dz2⟩ := due.kp hB9 k10
        refine ⟨_, rfl, p, tt, s0, v02, d0, rfl, hd2, dz2, fit.fz, fit.dep, fit.blk, fit.sz, fit.al, rfl, _, rfl, ?_⟩
        rw [decide_eq_true rfl]
        refine iteF ?_
        have V10 : Val3 H10 p v d := V9.kp hB9 k10
        refine ⟨fun r H' => r = .bl (dataPart d) ∧ Same H10 H', ⟨_, rfl, (dz_isP V10.dz).law (E := E0) (R := fun r H' => r = .bl (dataPart d) ∧ Same H10 H') fun H' s => ⟨rfl, s⟩⟩, ?_⟩
        rintro _ H11 ⟨rfl, s11⟩
        have s11 : Same H10 H11 := s11
        have hB11 := hB10.keep s11
        have T11 : Tabs TT H11 := tabs_same s11 T10
        have V11 : Val3 H11 p v d := V10.kp hB10 (Same.grow s11).kp
        have k611 : Kp p H6 H11 := g7.kp.trans ((Same.grow s8).kp.trans ((Same.grow s9).kp.trans (k10.trans (Same.grow s11).kp)))
        refine ⟨_, rfl, ?_⟩
        cases ed : dataPart d with
        | true =>
          refine iteF (iteF ?_)
          exact ⟨_, _, _, _, rfl, k6.trans k611, hB11, T11⟩
        | false =>
          refine iteT ?_
          have fit2 : Fit "NoPart" d := V11.fit (by decide) (by decide +kernel)
          refine ⟨fun r H' => ∃ t, r = .ref t ∧ Kp p H11 H' ∧ BagAt H' p ∧ Tabs TT H' ∧ Res H' p t "NoPart" d, ⟨T11, fun Hx xx Tx => ⟨_, rfl, v, rfl, ?_, fun dd nd'' => ?_⟩⟩, ?_⟩
          · have e := dz_isP (K := K) (V11.kp hB11 (extN_kp xx)).dz
            rw [ed] at e
            exact e
          · exact refused_out (BagAt.extN hB11 xx) (V11.kp hB11 (extN_kp xx)).dz (fun H' t s r => ⟨t, rfl, (extN_kp xx).trans (Same.grow s).kp, (BagAt.extN hB11 xx).keep s, tabs_same s Tx, r⟩) (Same.refl Hx) dd nd''
          rintro _ H12 ⟨t3, rfl, k12, hB12, T12, v03, ht3, dz3⟩
          refine ⟨p, t3, "NoPart", v03, d, rfl, ht3, dz3, fit2.fz, fit2.dep, fit2.blk, fit2.sz, fit2.al, ?_⟩
          refine ⟨_, rfl, lens 2 (by decide), fun t4 n4 => ?_⟩
          have s4 := Same.up0 (o := .tup [.str "NoPart", v]) n4
          refine ⟨p, t4, "NoPart", v, d, rfl, upd_same, dz_kp hB12 (Same.grow s4).kp (V11.kp hB11 k12).dz, fit2.fz, fit2.dep, fit2.blk, fit2.sz, fit2.al, rfl, _, rfl, ?_⟩
          rw [decide_eq_true rfl]
          refine iteF ?_
          exact ⟨_, _, _, _, rfl, k6.trans (k611.trans (k12.trans (Same.grow s4).kp)), hB12.keep s4, tabs_same s4 T12⟩
      · rintro σ H6 ⟨y4, y5, y6, y7, rfl, k6, hB6, T6⟩
        exact ⟨_, _, _, _, _, _, _, rfl, Kp.extN x2 np0 (k25.trans k6), T6⟩
    · rintro σ H1 ⟨y1, y2, y3, y4, y5, y6, y7, rfl, x1, T1⟩
      exact q H1
  obtain ⟨t, h1, h2⟩ := hres
  exact ⟨t, h1.nox, h2⟩
end
theorem exm_of {K : PySem.W.Frag} {S T : Addr} {b : Bool} (h1 : PySem.W.subIn K (.ref T) (.type "BaseException") = some true) (h2 : PySem.W.isClsIn K T = true) (h3 : PySem.W.typeIn K (.ref T) = some (.type "type")) (h4 : PySem.W.subIn K (.ref S) (.ref T) = some b) : PySem.W.exmOne K (.ref S) (.ref T) = some b := by
  have e1 : (PySem.W.subIn K (.ref T) (.type "BaseException") == some true) = true := by rw [h1] <;> rfl
  have e2 : ((PySem.W.clsIn K T).isSome && PySem.W.typeIn K (.ref T) == some (.type "type")) = true := by
    have h2' : (PySem.W.clsIn K T).isSome = true := h2
    rw [h2', h3] <;> rfl
  show (if (PySem.W.subIn K (.ref T) (.type "BaseException") == some true) = true then (if ((PySem.W.clsIn K T).isSome && PySem.W.typeIn K (.ref T) == some (.type "type")) = true then PySem.W.subIn K (.ref S) (.ref T) else none) else none) = some b
  rw [if_pos e1, if_pos e2]
  exact h4
/-! ### what the top has written -/
theorem all_mk {l : PySem.W.OpenLaw} {w : World} {K : PySem.W.Frag} {h : Heap} {mg : Str → Option Value} {fa cL Pt f0 f1 f2 f3 f4 f5 f6 f7 f8 f9 f10 f11 f12 f13 f14 f15 f16 f17 f18 f19 : Addr} (X : K.In h) (G : h.Ns mainGlobals mg) (hfa : mg "law" = some (.ref fa))
    {od0 an0 od1 an1 od2 an2 od3 an3 od4 an4 od5 an5 od6 an6 od7 an7 od8 an8 od9 an9 od10 an10 od11 an11 od12 an12 od13 an13 od14 an14 od15 an15 od16 an16 od17 an17 od18 an18 od19 an19 : Option Addr} {sl0 sl1 sl2 sl3 sl4 sl5 sl6 sl7 sl8 sl9 sl10 sl11 sl12 sl13 sl14 sl15 sl16 sl17 sl18 sl19 : Array (Option Value)} {oc0 kV0 dc0 pm0 cd0 ct0 oc1 kV1 dc1 pm1 cd1 ct1 oc2 kV2 dc2 pm2 cd2 ct2 oc3 kV3 dc3 pm3 cd3 ct3 oc4 kV4 dc4 pm4 cd4 ct4 oc5 kV5 dc5 pm5 cd5 ct5 oc6 kV6 dc6 pm6 cd6 ct6 oc7 kV7 dc7 pm7 cd7 ct7 oc8 kV8 dc8 pm8 cd8 ct8 oc9 kV9 dc9 pm9 cd9 ct9 oc10 kV10 dc10 pm10 cd10 ct10 oc11 kV11 dc11 pm11 cd11 ct11 oc12 kV12 dc12 pm12 cd12 ct12 oc13 kV13 dc13 pm13 cd13 ct13 oc14 kV14 dc14 pm14 cd14 ct14 oc15 kV15 dc15 pm15 cd15 ct15 oc16 kV16 dc16 pm16 cd16 ct16 oc17 kV17 dc17 pm17 cd17 ct17 oc18 kV18 dc18 pm18 cd18 ct18 oc19 kV19 dc19 pm19 ct19 : Value}
    {CN iN NN : Addr} {nmN qN : Str} {bsN subN : List Value} {snN : List Str} {abN : Bool} {colN : Option Bool} {ddN ioN iaN : Option Addr} {m0N m1N m2N m3N m5N : Option Value} {islN : Array (Option Value)} {iocN idcN ipmN icdN ictN : Value} {p1N p2N q1N q2N q3N q4N : Pos}
    (aCN : PySem.W.nsIn K mainGlobals "NoPart" = some (some (.ref CN)))
    (xCN : K.lookup CN = some (excClassObj nmN qN CN NN bsN [.type "ArithmeticError", .type "Exception", .type "BaseException", .type "object"] true snN subN abN colN ddN m0N m1N m2N m3N m5N "ArithmeticError.__new__"))
    (saN : PySem.W.findIn K (.ref CN) "__setattr__" = some (some (.builtin "object.__setattr__")))
    (gaN : PySem.W.findIn K (.ref CN) "__getattribute__" = some (some (.builtin "BaseException.__getattribute__")))
    (ggN : PySem.W.findIn K (.ref CN) "__getattr__" = some none)
    (nbN : PySem.W.findIn K (.ref CN) "part" = some none)
    (aiN : PySem.W.findIn K (.ref CN) "__init__" = some (some (.ref iN)))
    (tiN : PySem.W.typeIn K (.ref iN) = some (.type "function"))
    (liN : K.lookup iN = some ⟨iocN, ioN, .func (PySem.W.fnOf "__init__" "NoPart.__init__" (PySem.XPart.iA p1N p2N) (PySem.XPart.iB q1N q2N q3N q4N) PySem.XPart.iS .none .none idcN ipmN iaN icdN ictN), islN⟩)
    (ciN : PySem.W.codeIn K icdN "NoPart.__init__" = true)
    (kCN : PySem.W.keepIn K (.ref CN) = true)
    (eCN : PySem.W.subIn K (.ref CN) (.type "BaseException") = some true)
    (tCN : PySem.W.typeIn K (.ref CN) = some (.type "type"))
    (hCN : PySem.W.hasDictIn K CN = true)
    (iCN : PySem.W.isClsIn K CN = true)
    (sCN : PySem.W.subIn K (.ref CN) (.ref CN) = some true)
    (a0 : PySem.W.nsIn K mainGlobals "is_plain_int" = some (some (.ref f0))) (l0 : K.lookup f0 = some ⟨oc0, od0, .func (PySem.W.fnOf "is_plain_int" "is_plain_int" (defArgs s_is_plain_int) (defBody s_is_plain_int) (defScope s_is_plain_int) .none kV0 dc0 pm0 an0 cd0 ct0), sl0⟩)
    (c0 : PySem.W.codeIn K cd0 "is_plain_int" = true) (k0 : PySem.W.keepIn K (.ref f0) = true)
    (a1 : PySem.W.nsIn K mainGlobals "is_digits" = some (some (.ref f1))) (l1 : K.lookup f1 = some ⟨oc1, od1, .func (PySem.W.fnOf "is_digits" "is_digits" (defArgs s_is_digits) (defBody s_is_digits) (defScope s_is_digits) .none kV1 dc1 pm1 an1 cd1 ct1), sl1⟩)
    (c1 : PySem.W.codeIn K cd1 "is_digits" = true) (k1 : PySem.W.keepIn K (.ref f1) = true)
    (a2 : PySem.W.nsIn K mainGlobals "digits_of" = some (some (.ref f2))) (l2 : K.lookup f2 = some ⟨oc2, od2, .func (PySem.W.fnOf "digits_of" "digits_of" (defArgs s_digits_of) (defBody s_digits_of) (defScope s_digits_of) .none kV2 dc2 pm2 an2 cd2 ct2), sl2⟩)
    (c2 : PySem.W.codeIn K cd2 "digits_of" = true) (k2 : PySem.W.keepIn K (.ref f2) = true)
    (a3 : PySem.W.nsIn K mainGlobals "number_of" = some (some (.ref f3))) (l3 : K.lookup f3 = some ⟨oc3, od3, .func (PySem.W.fnOf "number_of" "number_of" (defArgs s_number_of) (defBody s_number_of) (defScope s_number_of) .none kV3 dc3 pm3 an3 cd3 ct3), sl3⟩)
    (c3 : PySem.W.codeIn K cd3 "number_of" = true) (k3 : PySem.W.keepIn K (.ref f3) = true)
    (a4 : PySem.W.nsIn K mainGlobals "is_part" = some (some (.ref f4))) (l4 : K.lookup f4 = some ⟨oc4, od4, .func (PySem.W.fnOf "is_part" "is_part" (defArgs s_is_part) (defBody s_is_part) (defScope s_is_part) .none kV4 dc4 pm4 an4 cd4 ct4), sl4⟩)
    (c4 : PySem.W.codeIn K cd4 "is_part" = true) (k4 : PySem.W.keepIn K (.ref f4) = true)
    (a5 : PySem.W.nsIn K mainGlobals "part_text" = some (some (.ref f5))) (l5 : K.lookup f5 = some ⟨oc5, od5, .func (PySem.W.fnOf "part_text" "part_text" (defArgs s_part_text) (defBody s_part_text) (defScope s_part_text) .none kV5 dc5 pm5 an5 cd5 ct5), sl5⟩)
    (c5 : PySem.W.codeIn K cd5 "part_text" = true) (k5 : PySem.W.keepIn K (.ref f5) = true)
    (a6 : PySem.W.nsIn K mainGlobals "read_part" = some (some (.ref f6))) (l6 : K.lookup f6 = some ⟨oc6, od6, .func (PySem.W.fnOf "read_part" "read_part" (defArgs s_read_part) (defBody s_read_part) (defScope s_read_part) .none kV6 dc6 pm6 an6 cd6 ct6), sl6⟩)
    (c6 : PySem.W.codeIn K cd6 "read_part" = true) (k6 : PySem.W.keepIn K (.ref f6) = true)
    (a7 : PySem.W.nsIn K mainGlobals "is_power_of_two" = some (some (.ref f7))) (l7 : K.lookup f7 = some ⟨oc7, od7, .func (PySem.W.fnOf "is_power_of_two" "is_power_of_two" (defArgs s_is_power_of_two) (defBody s_is_power_of_two) (defScope s_is_power_of_two) .none kV7 dc7 pm7 an7 cd7 ct7), sl7⟩)
    (c7 : PySem.W.codeIn K cd7 "is_power_of_two" = true) (k7 : PySem.W.keepIn K (.ref f7) = true)
    (a8 : PySem.W.nsIn K mainGlobals "told_pair" = some (some (.ref f8))) (l8 : K.lookup f8 = some ⟨oc8, od8, .func (PySem.W.fnOf "told_pair" "told_pair" (defArgs s_told_pair) (defBody s_told_pair) (defScope s_told_pair) .none kV8 dc8 pm8 an8 cd8 ct8), sl8⟩)
    (c8 : PySem.W.codeIn K cd8 "told_pair" = true) (k8 : PySem.W.keepIn K (.ref f8) = true)
    (a9 : PySem.W.nsIn K mainGlobals "_law_bag" = some (some (.ref f9))) (l9 : K.lookup f9 = some ⟨oc9, od9, .func (PySem.W.fnOf "_law_bag" "_law_bag" (defArgs s_l_bag) (defBody s_l_bag) (defScope s_l_bag) .none kV9 dc9 pm9 an9 cd9 ct9), sl9⟩)
    (c9 : PySem.W.codeIn K cd9 "_law_bag" = true) (k9 : PySem.W.keepIn K (.ref f9) = true)
    (a10 : PySem.W.nsIn K mainGlobals "_law_take" = some (some (.ref f10))) (l10 : K.lookup f10 = some ⟨oc10, od10, .func (PySem.W.fnOf "_law_take" "_law_take" (defArgs s_l_take) (defBody s_l_take) (defScope s_l_take) .none kV10 dc10 pm10 an10 cd10 ct10), sl10⟩)
    (c10 : PySem.W.codeIn K cd10 "_law_take" = true) (k10 : PySem.W.keepIn K (.ref f10) = true)
    (a11 : PySem.W.nsIn K mainGlobals "_law_whole" = some (some (.ref f11))) (l11 : K.lookup f11 = some ⟨oc11, od11, .func (PySem.W.fnOf "_law_whole" "_law_whole" (defArgs s_l_whole) (defBody s_l_whole) (defScope s_l_whole) .none kV11 dc11 pm11 an11 cd11 ct11), sl11⟩)
    (c11 : PySem.W.codeIn K cd11 "_law_whole" = true) (k11 : PySem.W.keepIn K (.ref f11) = true)
    (a12 : PySem.W.nsIn K mainGlobals "_law_part" = some (some (.ref f12))) (l12 : K.lookup f12 = some ⟨oc12, od12, .func (PySem.W.fnOf "_law_part" "_law_part" (defArgs s_l_part) (defBody s_l_part) (defScope s_l_part) .none kV12 dc12 pm12 an12 cd12 ct12), sl12⟩)
    (c12 : PySem.W.codeIn K cd12 "_law_part" = true) (k12 : PySem.W.keepIn K (.ref f12) = true)
    (a13 : PySem.W.nsIn K mainGlobals "_law_is_part" = some (some (.ref f13))) (l13 : K.lookup f13 = some ⟨oc13, od13, .func (PySem.W.fnOf "_law_is_part" "_law_is_part" (defArgs s_l_is_part) (defBody s_l_is_part) (defScope s_l_is_part) .none kV13 dc13 pm13 an13 cd13 ct13), sl13⟩)
    (c13 : PySem.W.codeIn K cd13 "_law_is_part" = true) (k13 : PySem.W.keepIn K (.ref f13) = true)
    (a14 : PySem.W.nsIn K mainGlobals "_law_odd" = some (some (.ref f14))) (l14 : K.lookup f14 = some ⟨oc14, od14, .func (PySem.W.fnOf "_law_odd" "_law_odd" (defArgs s_l_odd) (defBody s_l_odd) (defScope s_l_odd) .none kV14 dc14 pm14 an14 cd14 ct14), sl14⟩)
    (c14 : PySem.W.codeIn K cd14 "_law_odd" = true) (k14 : PySem.W.keepIn K (.ref f14) = true)
    (a15 : PySem.W.nsIn K mainGlobals "_law_text" = some (some (.ref f15))) (l15 : K.lookup f15 = some ⟨oc15, od15, .func (PySem.W.fnOf "_law_text" "_law_text" (defArgs s_l_text) (defBody s_l_text) (defScope s_l_text) .none kV15 dc15 pm15 an15 cd15 ct15), sl15⟩)
    (c15 : PySem.W.codeIn K cd15 "_law_text" = true) (k15 : PySem.W.keepIn K (.ref f15) = true)
    (a16 : PySem.W.nsIn K mainGlobals "_law_bent" = some (some (.ref f16))) (l16 : K.lookup f16 = some ⟨oc16, od16, .func (PySem.W.fnOf "_law_bent" "_law_bent" (defArgs s_l_bent) (defBody s_l_bent) (defScope s_l_bent) .none kV16 dc16 pm16 an16 cd16 ct16), sl16⟩)
    (c16 : PySem.W.codeIn K cd16 "_law_bent" = true) (k16 : PySem.W.keepIn K (.ref f16) = true)
    (a17 : PySem.W.nsIn K mainGlobals "_law_read" = some (some (.ref f17))) (l17 : K.lookup f17 = some ⟨oc17, od17, .func (PySem.W.fnOf "_law_read" "_law_read" (defArgs s_l_read) (defBody s_l_read) (defScope s_l_read) .none kV17 dc17 pm17 an17 cd17 ct17), sl17⟩)
    (c17 : PySem.W.codeIn K cd17 "_law_read" = true) (k17 : PySem.W.keepIn K (.ref f17) = true)
    (a18 : PySem.W.nsIn K mainGlobals "_law_refused" = some (some (.ref f18))) (l18 : K.lookup f18 = some ⟨oc18, od18, .func (PySem.W.fnOf "_law_refused" "_law_refused" (defArgs s_l_refused) (defBody s_l_refused) (defScope s_l_refused) .none kV18 dc18 pm18 an18 cd18 ct18), sl18⟩)
    (c18 : PySem.W.codeIn K cd18 "_law_refused" = true) (k18 : PySem.W.keepIn K (.ref f18) = true)
    (a19 : PySem.W.nsIn K mainGlobals "law" = some (some (.ref f19))) (l19 : K.lookup f19 = some ⟨oc19, od19, .func (PySem.W.fnOf "law" "law" (defArgs s_law) (defBody s_law) (defScope s_law) .none kV19 dc19 pm19 an19 (.ref cL) ct19), sl19⟩)
    (c19 : PySem.W.codeIn K (.ref cL) "law" = true) (k19 : PySem.W.keepIn K (.ref f19) = true)
    (z_ArithmeticError : PySem.W.nsIn K mainGlobals "ArithmeticError" = some none)
    (z_abs : PySem.W.nsIn K mainGlobals "abs" = some none)
    (z_all : PySem.W.nsIn K mainGlobals "all" = some none)
    (z_bool : PySem.W.nsIn K mainGlobals "bool" = some none)
    (z_divmod : PySem.W.nsIn K mainGlobals "divmod" = some none)
    (z_enumerate : PySem.W.nsIn K mainGlobals "enumerate" = some none)
    (z_int : PySem.W.nsIn K mainGlobals "int" = some none)
    (z_isinstance : PySem.W.nsIn K mainGlobals "isinstance" = some none)
    (z_len : PySem.W.nsIn K mainGlobals "len" = some none)
    (z_max : PySem.W.nsIn K mainGlobals "max" = some none)
    (z_min : PySem.W.nsIn K mainGlobals "min" = some none)
    (z_range : PySem.W.nsIn K mainGlobals "range" = some none)
    (z_repr : PySem.W.nsIn K mainGlobals "repr" = some none)
    (z_str : PySem.W.nsIn K mainGlobals "str" = some none)
    (z_tuple : PySem.W.nsIn K mainGlobals "tuple" = some none)
    {tk0 : Tok} (gk0 : PySem.W.nsIn K mainGlobals "CHUNK" = some (some (.int 64 tk0)))
    {tk1 : Tok} (gk1 : PySem.W.nsIn K mainGlobals "CHUNK_BASE" = some (some (.int (10 ^ 64) tk1)))
    (hPt : ∀ P ∈ [Pt], h.get? P = some (PySem.W.tabObj #[])) (hcL : PySem.W.codeHdIn K cL Pt = true) (nPt : K.lookup Pt = none)
    : ∃ (fd : FuncData) (c Pt : Addr) (sp : Sp), h.get? Pt = some { cls := .none, data := .fields #[] } ∧ K.lookup Pt = none ∧ PySem.W.CodeHd h c Pt ∧ (∀ (s : Shared) (u : Value), BindsTo s fd ⟨[u], []⟩ [("_law_script", u)]) ∧
      (∀ (H : Hp) (a : Addr) (ns : List Int), ns.length ≤ 63 → H Pt = some (.tbl #[]) → (∀ b o, H b = some o → b = Pt ∨ ∀ ps, o ≠ .tbl ps) → SqL K H a (ns.map V.int) → sp [.ref a] H (fun v _ => v = .bl true) fun _ _ _ => False) ∧
      ∀ base : Heap, K.In base → base.Ns mainGlobals mg → LamX.TabB base mg c Pt → AtC l.prog w K mg base L2.CX0 fa fd "_law_script" sp := by
  have e := hfa.symm.trans (PySem.W.mg_of X G a19)
  cases e
  have T : Bl mg := ⟨PySem.W.mg_none_of X G z_ArithmeticError, PySem.W.mg_none_of X G z_abs, PySem.W.mg_none_of X G z_all, PySem.W.mg_none_of X G z_bool, PySem.W.mg_none_of X G z_divmod, PySem.W.mg_none_of X G z_enumerate, PySem.W.mg_none_of X G z_int, PySem.W.mg_none_of X G z_isinstance, PySem.W.mg_none_of X G z_len, PySem.W.mg_none_of X G z_max, PySem.W.mg_none_of X G z_min, PySem.W.mg_none_of X G z_range, PySem.W.mg_none_of X G z_repr, PySem.W.mg_none_of X G z_str, PySem.W.mg_none_of X G z_tuple⟩
  have TN : PySem.XPart.Txt K mg "NoPart" "NoPart.__init__" "ArithmeticError" "ArithmeticError.__new__" "ArithmeticError.__init__" [.type "ArithmeticError", .type "Exception", .type "BaseException", .type "object"] CN iN := { gC := PySem.W.mg_of X G aCN, base := PySem.F.excBase_ArithmeticError, tail := PySem.XPart.tail_AE, cls := ⟨_, _, _, _, _, _, _, _, _, _, _, _, _, _, xCN⟩, sa := saN, ga := gaN, gg := ggN, noN := nbN, iC := aiN, tC := tiN, kC := kCN, exC := eCN, tyC := tCN, hdC := hCN, te := exm_of eCN iCN tCN sCN, fn := ⟨_, _, _, _, _, _, _, _, _, _, _, _, _, _, liN, ciN⟩ }
  have D_is_plain_int : DefIn K mg "is_plain_int" s_is_plain_int := ⟨f0, _, fun_mk (st := s_is_plain_int) l0 c0 k0, PySem.W.mg_of X G a0⟩
  have D_is_digits : DefIn K mg "is_digits" s_is_digits := ⟨f1, _, fun_mk (st := s_is_digits) l1 c1 k1, PySem.W.mg_of X G a1⟩
  have D_digits_of : DefIn K mg "digits_of" s_digits_of := ⟨f2, _, fun_mk (st := s_digits_of) l2 c2 k2, PySem.W.mg_of X G a2⟩
  have D_number_of : DefIn K mg "number_of" s_number_of := ⟨f3, _, fun_mk (st := s_number_of) l3 c3 k3, PySem.W.mg_of X G a3⟩
  have D_is_part : DefIn K mg "is_part" s_is_part := ⟨f4, _, fun_mk (st := s_is_part) l4 c4 k4, PySem.W.mg_of X G a4⟩
  have D_part_text : DefIn K mg "part_text" s_part_text := ⟨f5, _, fun_mk (st := s_part_text) l5 c5 k5, PySem.W.mg_of X G a5⟩
  have D_read_part : DefIn K mg "read_part" s_read_part := ⟨f6, _, fun_mk (st := s_read_part) l6 c6 k6, PySem.W.mg_of X G a6⟩
  have D_is_power_of_two : DefIn K mg "is_power_of_two" s_is_power_of_two := ⟨f7, _, fun_mk (st := s_is_power_of_two) l7 c7 k7, PySem.W.mg_of X G a7⟩
  have D_told_pair : DefIn K mg "told_pair" s_told_pair := ⟨f8, _, fun_mk (st := s_told_pair) l8 c8 k8, PySem.W.mg_of X G a8⟩
  have D_l_bag : DefIn K mg "_law_bag" s_l_bag := ⟨f9, _, fun_mk (st := s_l_bag) l9 c9 k9, PySem.W.mg_of X G a9⟩
  have D_l_take : DefIn K mg "_law_take" s_l_take := ⟨f10, _, fun_mk (st := s_l_take) l10 c10 k10, PySem.W.mg_of X G a10⟩
  have D_l_whole : DefIn K mg "_law_whole" s_l_whole := ⟨f11, _, fun_mk (st := s_l_whole) l11 c11 k11, PySem.W.mg_of X G a11⟩
  have D_l_part : DefIn K mg "_law_part" s_l_part := ⟨f12, _, fun_mk (st := s_l_part) l12 c12 k12, PySem.W.mg_of X G a12⟩
  have D_l_is_part : DefIn K mg "_law_is_part" s_l_is_part := ⟨f13, _, fun_mk (st := s_l_is_part) l13 c13 k13, PySem.W.mg_of X G a13⟩
  have D_l_odd : DefIn K mg "_law_odd" s_l_odd := ⟨f14, _, fun_mk (st := s_l_odd) l14 c14 k14, PySem.W.mg_of X G a14⟩
  have D_l_text : DefIn K mg "_law_text" s_l_text := ⟨f15, _, fun_mk (st := s_l_text) l15 c15 k15, PySem.W.mg_of X G a15⟩
  have D_l_bent : DefIn K mg "_law_bent" s_l_bent := ⟨f16, _, fun_mk (st := s_l_bent) l16 c16 k16, PySem.W.mg_of X G a16⟩
  have D_l_read : DefIn K mg "_law_read" s_l_read := ⟨f17, _, fun_mk (st := s_l_read) l17 c17 k17, PySem.W.mg_of X G a17⟩
  have D_l_refused : DefIn K mg "_law_refused" s_l_refused := ⟨f18, _, fun_mk (st := s_l_refused) l18 c18 k18, PySem.W.mg_of X G a18⟩
  have m_CHUNK := PySem.W.mg_of X G gk0
  have m_CHUNK_BASE := PySem.W.mg_of X G gk1
  refine ⟨PySem.W.fnOf "law" "law" (defArgs s_law) (defBody s_law) (defScope s_law) .none kV19 dc19 pm19 an19 (.ref cL) ct19, cL, Pt, spLawT K Pt, hPt Pt (List.mem_singleton.mpr rfl), nPt, PySem.W.codeHd_of_K X hcL, fun s v => .of_eq rfl, ?_, fun base _ _ TB => ?_⟩
  rotate_left
  · have c_take : Cal l.prog w K mg base 1 "_law_take" spTake := cal_of D_l_take (fun _ _ F => ok_take F) fun _ _ _ _ _ _ us hl => match us, hl with | [_, _], _ => rfl
    have c_bag : Cal l.prog w K mg base 1 "_law_bag" (spBag K) := cal_of D_l_bag (fun _ _ F => ok_bag F T) fun _ _ _ _ _ _ us hl => match us, hl with | [_, _], _ => rfl
    have c_plain : Cal l.prog w K mg base 1 "is_plain_int" (spPlain K) := cal_of D_is_plain_int (fun _ _ F => ok_plain F T) fun _ _ _ _ _ _ us hl => match us, hl with | [_], _ => rfl
    have c_pow2 : Cal l.prog w K mg base 1 "is_power_of_two" spPow2 := cal_of D_is_power_of_two (fun _ _ F => ok_pow2 F) fun _ _ _ _ _ _ us hl => match us, hl with | [_], _ => rfl
    have c_isPart : Cal l.prog w K mg base 2 "is_part" (spIsPart K) := cal_of D_is_part (fun _ _ F => ok_isPart F T c_plain c_pow2) fun _ _ _ _ _ _ us hl => match us, hl with | [_], _ => rfl
    have c_whole : Cal l.prog w K mg base 1 "_law_whole" (spPlain K) := cal_of D_l_whole (fun _ _ F => ok_whole F T) fun _ _ _ _ _ _ us hl => match us, hl with | [_], _ => rfl
    have c_lis : Cal l.prog w K mg base 2 "_law_is_part" (spLIsPart K) := cal_of D_l_is_part (fun _ _ F => ok_lisPart F T c_whole) fun _ _ _ _ _ _ us hl => match us, hl with | [_], _ => rfl
    have c_part : Cal l.prog w K mg base 2 "_law_part" spPart := cal_of D_l_part (fun _ _ F => ok_part F T c_take) fun _ _ _ _ _ _ us hl => match us, hl with | [_, _], _ => rfl
    have c_isDigits : Cal l.prog w K mg base 1 "is_digits" spIsDigits := cal_of D_is_digits (fun _ _ F => ok_isDigits F) fun _ _ _ _ _ _ us hl => match us, hl with | [_], _ => rfl
    have c_digits : Cal l.prog w K mg base 1 "digits_of" spDigits := cal_of D_digits_of (fun _ _ F => ok_digits F T m_CHUNK m_CHUNK_BASE) fun _ _ _ _ _ _ us hl => match us, hl with | [_], _ => rfl
    have c_number : Cal l.prog w K mg base 1 "number_of" spNumber := cal_of D_number_of (fun _ _ F => ok_number F T m_CHUNK m_CHUNK_BASE) fun _ _ _ _ _ _ us hl => match us, hl with | [_], _ => rfl
    have c_partText : Cal l.prog w K mg base 3 "part_text" spPartText := cal_of D_part_text (fun _ _ F => ok_partText F T c_isPart c_digits) fun _ _ _ _ _ _ us hl => match us, hl with | [_], _ => rfl
    have c_told : Cal l.prog w K mg base 2 "told_pair" spTold := cal_of D_told_pair (fun _ _ F => ok_told F T c_isDigits c_number) fun _ _ _ _ _ _ us hl => match us, hl with | [_], _ => rfl
    have c_readPart : Cal l.prog w K mg base 4 "read_part" spReadBack := cal_of D_read_part (fun _ _ F => ok_readBack F T c_told c_isPart c_partText) fun _ _ _ _ _ _ us hl => match us, hl with | [_], _ => rfl
    have c_ltext : Cal l.prog w K mg base 1 "_law_text" spLText := cal_of D_l_text (fun _ _ F => ok_ltext F T) fun _ _ _ _ _ _ us hl => match us, hl with | [_], _ => rfl
    have c_odd : Cal l.prog w K mg base 2 "_law_odd" spVal3 := cal_of D_l_odd (fun _ _ F => ok_odd F c_take) fun _ _ _ _ _ _ us hl => match us, hl with | [_], _ => rfl
    have c_bent : Cal l.prog w K mg base 2 "_law_bent" spBent := cal_of D_l_bent (fun _ _ F => ok_bent F T c_take) fun _ _ _ _ _ _ us hl => match us, hl with | [_, _], _ => rfl
    have c_lread : Cal l.prog w K mg base 3 "_law_read" (spLRead K) := cal_of D_l_read (fun _ _ F => ok_lread F T c_lis) fun _ _ _ _ _ _ us hl => match us, hl with | [_], _ => rfl
    have x_read : CalX l.prog w K mg base 4 "read_part" (spReadX K CN) := calX_of D_read_part (fun _ _ F => ok_readX F T TN c_told c_isPart c_partText) fun _ _ _ _ _ _ us hl => match us, hl with | [_], _ => rfl
    have x_text : CalX l.prog w K mg base 3 "part_text" (spTextX K CN) := calX_of D_part_text (fun _ _ F => ok_textX F T TN c_isPart c_digits) fun _ _ _ _ _ _ us hl => match us, hl with | [_], _ => rfl
    exact ok_law l19 c19 T TB TN D_l_refused c_bag c_take c_part c_partText c_readPart c_ltext c_odd c_bent c_lread c_lis x_read x_text
  · exact fun H a ns hl hP hO hS => ⟨a, ns, rfl, hS, hl, hP, hO, fun _ => rfl⟩
end Tp
open PySem PySem.W PyProof.Rows in
set_option maxRecDepth 100000 in
set_option maxHeartbeats 0 in
theorem PySem.Challenge.cw_trailparts_k03_part_texts_holds : PySem.Challenge.rw_trailparts_k03_part_texts.Holds := by
  w_on; o_law; k_head; (case hw => w_witness2)
  k_fill
  refine Tp.walk_at_lawT (l := PySem.Challenge.rw_trailparts_k03_part_texts) (n := 63) (CX := L2.CX0) (x := "_law_script") rfl (by decide) rfl (fun w h Y => PySem.W.km_in_of Y) ?F (fun _ _ _ _ z => z)
  case F =>
    intro w mg fa h Y KX G hmg
    refine' Tp.all_mk KX G hmg ?aCN ?xCN ?saN ?gaN ?ggN ?nbN ?aiN ?tiN ?liN ?ciN ?kCN ?eCN ?tCN ?hCN ?iCN ?sCN ?a0 ?l0 ?c0 ?k0 ?a1 ?l1 ?c1 ?k1 ?a2 ?l2 ?c2 ?k2 ?a3 ?l3 ?c3 ?k3 ?a4 ?l4 ?c4 ?k4 ?a5 ?l5 ?c5 ?k5 ?a6 ?l6 ?c6 ?k6 ?a7 ?l7 ?c7 ?k7 ?a8 ?l8 ?c8 ?k8 ?a9 ?l9 ?c9 ?k9 ?a10 ?l10 ?c10 ?k10 ?a11 ?l11 ?c11 ?k11 ?a12 ?l12 ?c12 ?k12 ?a13 ?l13 ?c13 ?k13 ?a14 ?l14 ?c14 ?k14 ?a15 ?l15 ?c15 ?k15 ?a16 ?l16 ?c16 ?k16 ?a17 ?l17 ?c17 ?k17 ?a18 ?l18 ?c18 ?k18 ?a19 ?l19 ?c19 ?k19 ?z_ArithmeticError ?z_abs ?z_all ?z_bool ?z_divmod ?z_enumerate ?z_int ?z_isinstance ?z_len ?z_max ?z_min ?z_range ?z_repr ?z_str ?z_tuple ?gk0 ?gk1 ?hPt ?hcL ?nPt
    (case aCN => k_is)
    (case xCN => k_is)
    (case saN => k_is)
    (case gaN => k_is)
    (case ggN => k_is)
    (case nbN => k_is)
    (case aiN => k_is)
    (case tiN => k_is)
    (case liN => k_is)
    (case ciN => k_is)
    (case kCN => k_is)
    (case eCN => k_is)
    (case tCN => k_is)
    (case hCN => k_is)
    (case iCN => k_is)
    (case sCN => first | rfl | k_is)
    (case a0 => k_is)
    (case l0 => k_is)
    (case c0 => k_is)
    (case k0 => k_is)
    (case a1 => k_is)
    (case l1 => k_is)
    (case c1 => k_is)
    (case k1 => k_is)
    (case a2 => k_is)
    (case l2 => k_is)
    (case c2 => k_is)
    (case k2 => k_is)
    (case a3 => k_is)
    (case l3 => k_is)
    (case c3 => k_is)
    (case k3 => k_is)
    (case a4 => k_is)
    (case l4 => k_is)
    (case c4 => k_is)
    (case k4 => k_is)
    (case a5 => k_is)
    (case l5 => k_is)
    (case c5 => k_is)
    (case k5 => k_is)
    (case a6 => k_is)
    (case l6 => k_is)
    (case c6 => k_is)
    (case k6 => k_is)
    (case a7 => k_is)
    (case l7 => k_is)
    (case c7 => k_is)
    (case k7 => k_is)
    (case a8 => k_is)
    (case l8 => k_is)
    (case c8 => k_is)
    (case k8 => k_is)
    (case a9 => k_is)
    (case l9 => k_is)
    (case c9 => k_is)
    (case k9 => k_is)
    (case a10 => k_is)
    (case l10 => k_is)
    (case c10 => k_is)
    (case k10 => k_is)
    (case a11 => k_is)
    (case l11 => k_is)
    (case c11 => k_is)
    (case k11 => k_is)
    (case a12 => k_is)
    (case l12 => k_is)
    (case c12 => k_is)
    (case k12 => k_is)
    (case a13 => k_is)
    (case l13 => k_is)
    (case c13 => k_is)
    (case k13 => k_is)
    (case a14 => k_is)
    (case l14 => k_is)
    (case c14 => k_is)
    (case k14 => k_is)
    (case a15 => k_is)
    (case l15 => k_is)
    (case c15 => k_is)
    (case k15 => k_is)
    (case a16 => k_is)
    (case l16 => k_is)
    (case c16 => k_is)
    (case k16 => k_is)
    (case a17 => k_is)
    (case l17 => k_is)
    (case c17 => k_is)
    (case k17 => k_is)
    (case a18 => k_is)
    (case l18 => k_is)
    (case c18 => k_is)
    (case k18 => k_is)
    (case a19 => k_is)
    (case l19 => k_is)
    (case c19 => k_is)
    (case k19 => k_is)
    (case z_ArithmeticError => k_is)
    (case z_abs => k_is)
    (case z_all => k_is)
    (case z_bool => k_is)
    (case z_divmod => k_is)
    (case z_enumerate => k_is)
    (case z_int => k_is)
    (case z_isinstance => k_is)
    (case z_len => k_is)
    (case z_max => k_is)
    (case z_min => k_is)
    (case z_range => k_is)
    (case z_repr => k_is)
    (case z_str => k_is)
    (case z_tuple => k_is)
    (case gk0 => k_is)
    (case gk1 => k_is)
    (case hPt => exact PySem.W.km_tabs_of Y)
    (case hcL => first | kernel_rfl | k_is)
    (case nPt => first | k_is | rfl | kernel_rfl)
#print axioms PySem.Challenge.cw_trailparts_k03_part_texts_holds
