import PyProof.Rows.All
import Wide.All
import OpenK.AllK
import Wide.FinOn
import HandS.Base
import HandS.Call
import HandS.List
import HandS.Ends
import HandS.Iter
import HandS.Words
import HandS.Wide
import HandS.WideBits
import HandS.IsInst
import HandS.Style
import HandS.TupAny
import HandS.Comp
import HandS.Dict
import PySem.Challenge.RW_trailparts_k01_parts_known
set_option Elab.async false
set_option linter.all false
set_option maxRecDepth 100000
set_option maxHeartbeats 2000000
namespace Tp
open PySem PySem.Spec PyProof.Rows L2

/-! ### repr of data -/
theorem reprD {X : Cx} (hg : X.A.guards = some []) (hu : X.A.units + 64 < cLine) :
    CallR X (.builtin "repr") (fun xs H Q => ∃ v d, xs = [v] ∧ Dp X.K H v d ∧ d.showable = true ∧ d.hasDict = false ∧ d.depth ≤ 40 ∧ d.shown.length ≤ sizeLine ∧ Q (.str d.shown) H) := by
  intro pins s σ H xs us Q I r h
  obtain ⟨v, d, rfl, hd, hs, hnd, hdep, hsz, q⟩ := h
  obtain ⟨u, rfl, ru⟩ := vals1 r
  obtain ⟨as, rd⟩ := Dp.reads I d v u hd ru
  cases hd with
  | non =>
    cases (show u = Value.none from ru)
    exact PySem.P.repr_of_none ⟨.str _, H, I.tok _, ⟨_, rfl⟩, q⟩
  | bl b =>
    cases (show u = Value.bool b from ru)
    exact PySem.P.repr_of_bool ⟨.str _, H, I.tok _, ⟨_, rfl⟩, q⟩
  | int i =>
    obtain ⟨t, rfl⟩ := (show ∃ t, u = Value.int i t from ru)
    exact PySem.P.repr_of_int (by simpa [PyData.showable] using hs) ⟨.str _, H, I.tok _, ⟨_, rfl⟩, q⟩
  | str x =>
    obtain ⟨t, rfl⟩ := (show ∃ t, u = Value.str x t from ru)
    exact PySem.P.repr_of_str ⟨.str _, H, I.tok _, ⟨_, rfl⟩, q⟩ hsz
  | lst hq ha =>
    cases (show u = Value.ref _ from ru)
    exact repr_of_reads' rd hs (fun z => by rw [hnd] at z; cases z) hg (by omega) (fun _ _ e => e) (fun h' u tk hk => ⟨.str _, H, I.kept hk, ⟨_, rfl⟩, q⟩) hsz
  | tup hq ha =>
    cases (show u = Value.ref _ from ru)
    exact repr_of_reads' rd hs (fun z => by rw [hnd] at z; cases z) hg (by omega) (fun _ _ e => e) (fun h' u tk hk => ⟨.str _, H, I.kept hk, ⟨_, rfl⟩, q⟩) hsz

/-! ### the law itself: its call is at a known place, so the guards are known -/
/-- the law's promise at the caller's place alone -/
def AtC (P : Program) (w : World) (K : PySem.W.Frag) (mg : Str → Option Value) (base : Heap) (CX : CXT) (f : Addr) (fd : FuncData) (x : Str) (sp : Sp) : Prop :=
  ∀ (s : Shared) (H : Hp) (args : Args) (u : Value) (v : V) (Q : VK) (E : XK), Env0 P w K mg base callerA [] s H → BindsTo s fd args [(x, u)] → RelV v u → sp [v] H Q E →
    codeAny (model P w) callerA (.call (.ref f) args) (CR CX [] P w H s Q E) s
theorem room_caller {k : Nat} (h : k ≤ 40) : Room k callerA := by
  have h2 : Room 40 callerA := ⟨rfl, by decide, by decide⟩
  exact h2.mono h

/-- a def at the caller's place, from its body; the guards there are none -/
theorem atC_of {CX : CXT} {P : Program} {w : World} {K : PySem.W.Frag} {mg : Str → Option Value} {base : Heap} {k : Nat} {f : Addr} {name qual : Str} {params : Arguments} {body : List Stmt} {scope : Scope}
    {dV kV doc pm cdv ct oc : Value} {an od : Option Addr} {osl : Array (Option Value)} {N : List Str} {x : Str} {sp : Sp}
    (lk : K.lookup f = some ⟨oc, od, .func (PySem.W.fnOf name qual params body scope dV kV doc pm an cdv ct), osl⟩) (hcd : PySem.W.codeIn K cdv qual = true) (S : FnScope N [x] scope) (hk : k ≤ 30)
    (len : ∀ vs H Q E, sp vs H Q E → vs.length = 1)
    (hbody : ∀ (A : Around) (outer : List Env) (s : Shared) (H : Hp) (vs : List V) (Q : VK) (E : XK), A.guards = some [] → Room k (A.deeper (envOfC qual scope s.heap.objs.size f cdv)) → sp vs H Q E →
      ∃ t, PSs (cxOf CX P w K mg base N qual scope f cdv A outer s H E) body t ∧ t { nx := fun _ H' => Q .non H', rt := Q } (start N vs) H) :
    AtC P w K mg base CX f (PySem.W.fnOf name qual params body scope dV kV doc pm an cdv ct) x sp := by
  intro s H args u v Q E e0 hb rv hsp
  have hr : Room (k + 1) callerA := room_caller (by omega)
  have KX : K.In s.heap := e0.mod.kin.keeps fun b o e => (e0.bs b o e).1
  have lim : s.heap.NoLimit := e0.mod.nolimit.keeps fun b o e => (e0.bs b o e).1
  have hkind : ∀ y ∈ [(x, u)], scope.names.lookup y.1 = some .local ∨ (scope.names.lookup y.1 = some .cell ∧ ((cellsFrom (s.heap.objs.size + 1) scope.names []).lookup y.1).isSome = true) := by
    intro y hy
    obtain rfl : y = (x, u) := List.mem_singleton.mp hy
    exact (S.par x (by simp)).imp id fun q => ⟨q, PySem.W.cellsFrom_some _ _ _ (.inl q)⟩
  refine codeAny_call_function hr.depth (KX _ _ lk) rfl S.co S.gen rfl (PySem.W.codeRec_of KX hcd) (hb _ _ _ _ ?_)
  refine wpAny_newFunctionEnv_cells S.kind hkind fun env he s1 xn => ?_
  subst he
  refine ⟨lim.keeps xn.toInCall.keep, codeAny_func ?_⟩
  obtain ⟨t, ht, hq⟩ := hbody callerA [] s H [v] Q E rfl (hr.deeper _) hsp
  have I : Inv (cxOf CX P w K mg base N qual scope f cdv callerA [] s H E) [] (start N [v]) H s1 :=
    inv_start (ps := [x]) (us := [u]) S hr.hd e0 rfl (.cons rv .nil) xn
  refine wpAny_mono (ht.run [] s1 (start N [v]) H _ I hq) (fun fl s' hs => ?_) fun _ _ hs => hs
  cases fl with
  | brk =>
    obtain ⟨_, _, _, q⟩ := hs
    exact q.elim
  | cont =>
    obtain ⟨_, _, _, q⟩ := hs
    exact q.elim
  | next =>
    obtain ⟨σ', H', J, q⟩ := hs
    exact ⟨.non, H', J.os, J.bare, J.base, J.hok, rfl, q⟩
  | ret z =>
    obtain ⟨v', σ', H', J, rv', q⟩ := hs
    exact ⟨v', H', J.os, J.bare, J.base, J.hok, rv', q⟩

/-- the abstract heap at the entry: the script alone, if it is not one of the module's own objects -/
noncomputable def scriptHp (K : PySem.W.Frag) (a : Addr) (ob : Obj) (xs : List V) : Hp := fun b => if b = a ∧ K.lookup a = none then some (.frz ob (.lst xs)) else none
theorem scriptHp_some {K : PySem.W.Frag} {a b : Addr} {ob : Obj} {xs : List V} {o : HO} (h : scriptHp K a ob xs b = some o) : b = a ∧ K.lookup a = none ∧ o = .frz ob (.lst xs) := by
  unfold scriptHp at h
  split at h
  · rename_i c
    exact ⟨c.1, c.2, (Option.some.inj h).symm⟩
  · cases h
theorem script_only {K : PySem.W.Frag} {a : Addr} {ob : Obj} {xs : List V} : Only (scriptHp K a ob xs) := by
  intro b
  cases e : scriptHp K a ob xs b with
  | none => exact .inl rfl
  | some o =>
    obtain ⟨_, _, rfl⟩ := scriptHp_some e
    exact .inr ⟨_, _, rfl⟩

theorem law_at {P : Program} {w : World} {K : PySem.W.Frag} {mg mb : Str → Option Value} {CX : CXT} {fa a : Addr} {fd : FuncData} {x : Str} {sp : Sp} {s1 : Shared} {vs : List Value} {ns : List Int}
    (KX : K.In s1.heap) (hns : s1.heap.Ns mainGlobals mg) (hb : s1.heap.Ns builtinsNs mb) (hbb : ∀ y : Str, y ≠ "__name__" → mb y = bootBuiltins y) (hlim : s1.heap.NoLimit) (hg : s1.gens = #[])
    (ha : s1.heap.get? a = some { cls := .type "list", data := .seq vs.toArray }) (hi : IntsAre vs ns) (hl : ns.length ≤ sizeLine)
    (F : ∀ base : Heap, K.In base → base.Ns mainGlobals mg → AtC P w K mg base CX fa fd x sp) (hbind : ∀ (s : Shared) (u : Value), BindsTo s fd ⟨[u], []⟩ [(x, u)])
    (hsp : ∀ H : Hp, Only H → SqL K H a (ns.map V.int) → sp [.ref a] H (fun v _ => v = .bl true) fun _ _ _ => False)
    (hCX : ∀ H e s', CX [] H s1 (fun _ _ _ => False) e s' → False) :
    codeAny (model P w) callerA (.call (.ref fa) ⟨[.ref a], []⟩) (fun r s' => r = .ok (.ret (.bool true)) ∧ OldK s1.heap s'.heap ∧ s'.os = s1.os ∧ AllBare s'.gens) s1 := by
  have rv := vals_ints hi
  have lenV := hi.length
  generalize eH : scriptHp K a { cls := .type "list", data := .seq vs.toArray } (ns.map V.int) = H
  have hO : Only H := by
    rw [← eH]
    exact script_only
  have hat : ∀ {b : Addr} {o : HO}, H b = some o → b = a ∧ K.lookup a = none ∧ o = .frz { cls := .type "list", data := .seq vs.toArray } (.lst (ns.map V.int)) := fun {b o} q => by
    rw [← eH] at q
    exact scriptHp_some q
  have hS : SqL K H a (ns.map V.int) := by
    cases hk : K.lookup a with
    | none =>
      refine .inl (.inr ⟨{ cls := .type "list", data := .seq vs.toArray }, ?_⟩)
      rw [← eH]
      exact if_pos ⟨rfl, hk⟩
    | some o =>
      have e := KX a o hk
      rw [ha] at e
      cases e
      exact .inr ⟨_, vs.toArray, _, hk, rfl, rfl, rfl, by rw [List.size_toArray, lenV]; exact hl, by simpa using rv⟩
  have hok : HOk P w H s1.heap := fun b o q => by
    obtain ⟨rfl, _, rfl⟩ := hat q
    exact ⟨ha, by rw [List.length_map]; exact hl, vs, _, rv, ha⟩
  have none_of : ∀ {b : Addr} {o : Obj}, s1.heap.get? b = some o → (b = a → K.lookup a = none → False) → H b = none := fun {b o} _ z => by
    cases q : H b with
    | none => rfl
    | some u =>
      obtain ⟨e1, e2, _⟩ := hat q
      exact (z e1 e2).elim
  have dictFree : ∀ {b : Addr} {o : Obj} {es : Array DictEntry} {ep : Nat}, s1.heap.get? b = some o → o.data = .dict es ep → H b = none := fun {b o es ep} e d => none_of e fun e1 _ => by
    subst e1
    rw [ha] at e
    cases e
    cases (show Data.seq vs.toArray _ = Data.dict es ep from d)
  have nsK : ∀ {b : Addr} {m : Str → Option Value}, s1.heap.Ns b m → (hidT s1.heap H).Ns b m := by
    rintro b m ⟨o, es, ep, e, d, r⟩
    exact ⟨o, es, ep, hidT_get e (dictFree e d), d, r⟩
  have hKb : K.In (hidT s1.heap H) := fun b o e => hidT_get (KX b o e) (none_of (KX b o e) fun e1 e2 => by
    subst e1
    rw [e2] at e
    cases e)
  obtain ⟨mc, lim1, lim2⟩ := hlim
  have hM : Mod K mg (hidT s1.heap H) := ⟨hKb, nsK hns, ⟨mb, nsK hb, hbb⟩, mc, nsK lim1, lim2⟩
  have e0 : Env0 P w K mg (hidT s1.heap H) callerA [] s1 H :=
    ⟨rfl, hM, fun b o e => of_hidT e, Nat.le_of_eq (hidT_size _ _), trivial, fun b hb => absurd (show b ∈ ([] : List Addr) from hb) (by simp), hok, .of_eq hg⟩
  refine codeAny_mono (F _ hKb (nsK hns) s1 H ⟨[.ref a], []⟩ (.ref a) (.ref a) _ _ e0 (hbind s1 (.ref a)) rfl (hsp H hO hS)) fun r s' h => ?_
  cases r with
  | error e => exact (hCX H e s' h).elim
  | ok fl =>
    cases fl with
    | next => exact h.elim
    | brk => exact h.elim
    | cont => exact h.elim
    | ret u =>
      obtain ⟨v, H', os, bare, un, hok', r', q⟩ := h
      obtain rfl : v = .bl true := q
      obtain rfl : u = Value.bool true := r'
      refine ⟨rfl, OldK.of_keep fun b o e => ?_, os, bare⟩
      cases q : H b with
      | none => exact un.keep b o e q (fun z => absurd (show b ∈ ([] : List Addr) from z) (by simp)) (by simp)
      | some u =>
        obtain ⟨e1, e2, e3⟩ := hat q
        subst e3
        have z2 := un.frzs b _ _ q
        obtain ⟨k1, _⟩ := hok b _ q
        obtain ⟨k2, _⟩ := hok' b _ z2
        rw [e] at k1
        cases k1
        exact k2

theorem walk_at_law {l : PySem.W.OpenLaw} {n : Nat} {q : Program} {loose : List Str} {XP : (Str → Option Value) → Heap → Prop} {YP : World → Heap → Prop} {d : DefRec} {K : Params → PySem.W.Frag} {CX : CXT} {sp : PySem.W.Frag → Sp} {x : Str}
    (hn : l.most = some n) (hn2 : n ≤ sizeLine) (hdf : d.params.defaults = []) (hY : ∀ (w : World) (h : Heap), YP w h → (K w.params).In h)
    (F : ∀ (w : World) (mg : Str → Option Value) (fa : Addr) (h : Heap), (K w.params).In h → h.Ns mainGlobals mg → mg d.name = some (.ref fa) →
      ∃ fd : FuncData, (∀ (s : Shared) (u : Value), BindsTo s fd ⟨[u], []⟩ [(x, u)]) ∧ ∀ base : Heap, (K w.params).In base → base.Ns mainGlobals mg → AtC l.prog w (K w.params) mg base CX fa fd x (sp (K w.params)))
    (hsp : ∀ (K : PySem.W.Frag) (H : Hp) (a : Addr) (ns : List Int), ns.length ≤ n → Only H → SqL K H a (ns.map V.int) → sp K [.ref a] H (fun v _ => v = .bl true) fun _ _ _ => False)
    (hCX : ∀ (H : Hp) (s : Shared) (e : Value) (s' : Shared), CX [] H s (fun _ _ _ => False) e s' → False) :
    PySem.W.WalkO q loose XP YP l.row.toRowW d [] (fun f vs => PySem.call f vs) := by
  refine Att.attach_call hn hdf fun w s0 s1 mg mb fa o pm cd doc a vs ns G Y ho hd hcd hmg hobj hints hlen hgen => ?_
  have KX := hY w _ Y
  obtain ⟨fd, hb, hF⟩ := F w mg fa _ KX G.T.g hmg
  exact law_at KX G.T.g G.T.b G.T.builtins G.T.nolimit hgen hobj hints (Nat.le_trans hlen hn2) hF hb (fun H hO hS => hsp _ H a ns hlen hO hS) fun H e s' => hCX H s1 e s'
end Tp

set_option Elab.async false
set_option linter.all false
set_option maxRecDepth 100000
set_option maxHeartbeats 2000000
namespace Tp
open PySem PySem.Spec PyProof.Rows L2

/-! ### heaps that only grow -/
theorem Same.up {H H1 : Hp} {p : Addr} {o : HO} (e : Same H H1) (h : H1 p = none) : Same H (upd H1 p o) := fun b u q => by
  have q1 := e b u q
  rw [upd_ne (ne_of_none q1 h)]
  exact q1
theorem Same.up0 {H : Hp} {p : Addr} {o : HO} (h : H p = none) : Same H (upd H p o) := Same.up (Same.refl H) h
theorem Same.sqt {K : PySem.W.Frag} {H H' : Hp} {a : Addr} {xs : List V} (e : Same H H') (h : SqT K H a xs) : SqT K H' a xs := by
  rcases h with (h | ⟨o, h⟩) | h
  · exact .inl (.inl (e _ _ h))
  · exact .inl (.inr ⟨o, e _ _ h⟩)
  · exact .inr h
mutual
theorem dp_same {K : PySem.W.Frag} {H H' : Hp} (e : Same H H') : ∀ (d : PyData) (v : V), Dp K H v d → Dp K H' v d
  | .none, _, h => by
    cases h
    exact .non
  | .bool _, _, h => by
    cases h
    exact .bl _
  | .int _, _, h => by
    cases h
    exact .int _
  | .str _, _, h => by
    cases h
    exact .str _
  | .list ds, _, h => by
    cases h with
    | lst q a => exact .lst (e.seq q) (dpa_same e ds _ a)
  | .tuple ds, _, h => by
    cases h with
    | tup q a => exact .tup (Same.sqt e q) (dpa_same e ds _ a)
  | .dict _, _, h => by cases h
theorem dpa_same {K : PySem.W.Frag} {H H' : Hp} (e : Same H H') : ∀ (ds : List PyData) (vs : List V), DpAll K H vs ds → DpAll K H' vs ds
  | [], _, h => by
    cases h
    exact .nil
  | d :: ds, _, h => by
    cases h with
    | cons a b => exact .cons (dp_same e d _ a) (dpa_same e ds _ b)
end

/-! ### defs of the module that may be called by their names -/
structure Cal (P : Program) (w : World) (K : PySem.W.Frag) (mg : Str → Option Value) (base : Heap) (k : Nat) (x : Str) (sp : Sp) : Prop where
  ex : ∃ (f : Addr) (fd : FuncData) (ps : List Str), FnOk P w K mg base L2.CX0 k f fd ps sp ∧ mg x = some (.ref f) ∧ PySem.W.keepIn K (.ref f) = true ∧ Binds K fd ps []
theorem pe_f {X : Cx} {k j : Nat} {x : Str} {sp : Sp} {p pos : Pos} {e : Expr} {es : List Expr} {t : TA} (c : Cal X.prog X.w X.K X.mg X.base k x sp) (hr : Room j X.A) (hg : Gl X x) (ha : PA X (e :: es) t) (hk : k ≤ j := by decide)
    (hdb : (x == ("__debug__" : Str)) = false := by decide) (he : starEach (e :: es) X.env = (false, eval e X.env) :: starEach es X.env := by rfl) (hpl : (backTo pos (starEach es X.env)).any (·.1) = false := by rfl) :
    PE X (.Call (.Name x p) (e :: es) [] pos) (tCall sp [] E0 t) := by
  obtain ⟨f, fd, ps, F, hm, kp, b⟩ := c.ex
  exact pe_call F (hr.mono hk) hg hm kp b .nil pass0 ha hdb he hpl
/-- a def of the text as it stands behind the top, under its name -/
structure DefIn (K : PySem.W.Frag) (mg : Str → Option Value) (x : Str) (st : Stmt) : Prop where
  ex : ∃ (f : Addr) (fd : FuncData), Fun K x x st f fd ∧ mg x = some (.ref f)
theorem cal_of {P : Program} {w : World} {K : PySem.W.Frag} {mg : Str → Option Value} {base : Heap} {x : Str} {st : Stmt} {k : Nat} {ps : List Str} {sp : Sp} (D : DefIn K mg x st)
    (h : ∀ f fd, Fun K x x st f fd → FnOk P w K mg base L2.CX0 k f fd ps sp)
    (hb : ∀ (kV doc pm : Value) (an : Option Addr) (cdv ct : Value) (us : List Value), us.length = ps.length → bindArgs (PySem.W.fnOf x x (defArgs st) (defBody st) (defScope st) .none kV doc pm an cdv ct) ⟨us, []⟩ = pure (ps.zip us)) :
    Cal P w K mg base k x sp := by
  obtain ⟨f, fd, F, hm⟩ := D.ex
  exact ⟨f, fd, ps, h f fd F, hm, F.kp, F.binds hb⟩

/-! ### a for over enumerate(list) -/
theorem for_enum {K : PySem.W.Frag} {a : Addr} {xs : List V} {g : TG} {tb : TS} {D : Ends} {σ : L2.St} {H : Hp} (Pv : Nat → L2.St → Hp → Prop) (h0 : Pv 0 σ H) (hl : ∀ i σ H, i ≤ xs.length → Pv i σ H → SqL K H a xs)
    (hs : ∀ i x T σ H, xs[i]? = some x → Pv i σ H → H T = none → g (.ref T) σ (upd H T (.tup [.int ((i : Nat) : Int), x])) fun σ2 H2 => tb { D with nx := Pv (i + 1), ct := Pv (i + 1), bk := D.nx } σ2 H2)
    (hd : ∀ σ H, Pv xs.length σ H → D.nx σ H) :
    ∃ W : Nat → Nat → L2.St → Hp → Prop, (∃ m, W 0 m σ H) ∧ ∀ i m σ H, W i m σ H →
      ((Ite K a).stop i H ∧ D.nx σ H) ∨ ((Ite K a).go i H ∧ ∃ N : L2.St → Hp → Prop, (∀ σ' H', N σ' H' → ∃ m', m' < m ∧ W (i + 1) m' σ' H') ∧ ∀ x H', (Ite K a).yld i H x H' → g x σ H' fun σ2 H2 => tb { D with nx := N, ct := N, bk := D.nx } σ2 H2) := by
  refine ⟨fun i m σ H => m + i = xs.length ∧ Pv i σ H, ⟨xs.length, by omega, h0⟩, ?_⟩
  rintro i m σ H ⟨e, p⟩
  have q := hl i σ H (by omega) p
  by_cases hlt : i < xs.length
  · have hx : xs[i]? = some xs[i] := List.getElem?_eq_getElem hlt
    refine .inr ⟨⟨xs, _, q, hx⟩, Pv (i + 1), fun σ' H' p' => ⟨m - 1, by omega, by omega, p'⟩, fun x H' y => ?_⟩
    obtain ⟨T, z, rfl, nT, rfl, fz⟩ := y
    exact hs i z T σ H (fz xs q) p nT
  · have ei : i = xs.length := by omega
    subst ei
    exact .inl ⟨⟨xs, q, Nat.le_refl _⟩, hd σ H p⟩
end Tp

set_option Elab.async false
set_option linter.all false
set_option maxRecDepth 100000
set_option maxHeartbeats 2000000
namespace Tp
open PySem PySem.Spec PyProof.Rows L2

/-! ### short answers -/
theorem ixl {K : PySem.W.Frag} {H : Hp} {p : Addr} {xs : List V} {j : Nat} {v : V} {R : VK} (h : H p = some (.lst xs)) (e : xs[j]? = some v) (r : R v H) : rIx K (.ref p) (.int (j : Int)) H R := .inl ⟨p, xs, _, v, rfl, rfl, SqL.of h, atI_nat e, r⟩
theorem ixlS {K : PySem.W.Frag} {H : Hp} {p : Addr} {xs : List V} {z : Int} {j : Nat} {v : V} {R : VK} (h : SqL K H p xs) (ez : z = (j : Int)) (e : xs[j]? = some v) (r : R v H) : rIx K (.ref p) (.int z) H R := by
  subst ez
  exact .inl ⟨p, xs, _, v, rfl, rfl, h, atI_nat e, r⟩
theorem ixt {K : PySem.W.Frag} {H : Hp} {p : Addr} {xs : List V} {j : Nat} {v : V} {R : VK} (h : H p = some (.tup xs)) (e : xs[j]? = some v) (r : R v H) : rIx K (.ref p) (.int (j : Int)) H R := .inr (.inl ⟨p, xs, _, v, rfl, rfl, SqT.of h, atI_nat e, r⟩)
theorem lens (n : Nat) (h : n ≤ 1000) : n ≤ sizeLine := Nat.le_of_lt (small1000 h)

/-! ### a word in the middle: what follows is shown once -/
theorem pe_cut {X : Cx} {e : Expr} {te : TE} (h : PE X e te) : PE X e (fun σ H Q => ∃ M : VK, te σ H M ∧ ∀ v H', M v H' → Q v H') := by
  refine ⟨fun pins s σ H Q I hq => ?_⟩
  obtain ⟨M, hm, k⟩ := hq
  exact thn (h.run pins s σ H M I hm) fun u s1 ⟨v, H1, I1, r1, q1⟩ => ⟨v, H1, I1, r1, k v H1 q1⟩
theorem pss_mid {X : Cx} {st : Stmt} {sts : List Stmt} {t u : TS} (h1 : PS X st t) (h2 : PSs X sts u) : PSs X (st :: sts) (fun D σ H => ∃ M : L2.St → Hp → Prop, t { D with nx := M } σ H ∧ ∀ σ' H', M σ' H' → u D σ' H') := by
  refine ⟨fun pins s σ H D I hq => ?_⟩
  obtain ⟨M, hm, k⟩ := hq
  refine wpAny_execs_cons (thn (h1.run pins s σ H { D with nx := M } I hm) fun f s1 q => ?_)
  cases f with
  | next =>
    obtain ⟨σ', H', I', q⟩ := q
    exact h2.run pins s1 σ' H' D I' (k σ' H' q)
  | ret v => exact q
  | brk => exact q
  | cont => exact q

/-! ### the law's numbers: a bag is a list of two ints, none below nought -/
def BagAt (H : Hp) (p : Addr) : Prop := ∃ a b : Int, H p = some (.lst [.int a, .int b]) ∧ 0 ≤ a ∧ 0 ≤ b ∧ b < 2147483563
/-- all but p is as it was -/
def But (p : Addr) (H H' : Hp) : Prop := ∀ q, q ≠ p → H' q = H q
theorem But.refl (p : Addr) (H : Hp) : But p H H := fun _ _ => rfl
theorem But.trans {p : Addr} {H H1 H2 : Hp} (a : But p H H1) (b : But p H1 H2) : But p H H2 := fun q h => (b q h).trans (a q h)
/-- what was there stays, but for the bag at p -/
def Grow (p : Addr) (H H' : Hp) : Prop := ∀ q o, q ≠ p → H q = some o → H' q = some o
theorem Grow.refl (p : Addr) (H : Hp) : Grow p H H := fun _ _ _ h => h
theorem Grow.trans {p : Addr} {H H1 H2 : Hp} (a : Grow p H H1) (b : Grow p H1 H2) : Grow p H H2 := fun q o n h => b q o n (a q o n h)
theorem But.grow {p : Addr} {H H' : Hp} (b : But p H H') : Grow p H H' := fun q _ n h => (b q n).trans h
theorem Same.grow {p : Addr} {H H' : Hp} (b : Same H H') : Grow p H H' := fun q o _ h => b q o h
theorem Grow.same {p : Addr} {H H1 H2 : Hp} (e : Same H H1) (n : H p = none) (g : Grow p H1 H2) : Same H H2 := fun q o h => g q o (ne_of_none h n) (e q o h)
theorem BagAt.keep {H H' : Hp} {p : Addr} (h : BagAt H p) (e : Same H H') : BagAt H' p := by
  obtain ⟨a, b, hp, r⟩ := h
  exact ⟨a, b, e _ _ hp, r⟩
theorem BagAt.there {H : Hp} {p : Addr} (h : BagAt H p) : H p ≠ none := by
  obtain ⟨a, b, hp, _⟩ := h
  rw [hp]
  intro z
  cases z
theorem BagAt.new {H : Hp} {p q : Addr} (h : BagAt H p) (n : H q = none) : q ≠ p := fun e => h.there (e ▸ n)

def spBag (K : PySem.W.Frag) : Sp := fun vs H Q _ => ∃ (a : Addr) (ns : List Int) (k : Int), vs = [.ref a, .int k] ∧ SqL K H a (ns.map V.int) ∧ ns.length ≤ 100 ∧ 0 ≤ k ∧ k ≤ 100 ∧
  ∀ H' p, Same H H' → H p = none → BagAt H' p → Q (.ref p) H'
def spTake : Sp := fun vs H Q _ => ∃ (p : Addr) (m : Int), vs = [.ref p, .int m] ∧ BagAt H p ∧ 0 < m ∧ m.natAbs < 2 ^ 250 ∧
  ∀ H' r, But p H H' → BagAt H' p → 0 ≤ r → r < m → Q (.int r) H'

/-! ### what a part is -/
def kinds : List String := ["NoneType", "bool", "int", "str", "list", "tuple", "dict"]
def partB (x y : Int) : Bool := decide (1 ≤ y) && (decide (Builtin.bitAnd y (y - 1) = 0) && (decide (0 ≤ x) && (decide (x ≤ y) && (decide (y = 1) || decide (Builtin.bitAnd x 1 = 1)))))
def tupPart : List V → Bool
  | [.int x, .int y] => partB x y
  | _ => false
/-- a value of one of the plain kinds -/
def Known (K : PySem.W.Frag) (H : Hp) (y : V) : Prop := ∃ n, TyX K H y (.type n) ∧ n ∈ kinds
theorem Known.int {K : PySem.W.Frag} {H : Hp} (i : Int) : Known K H (.int i) := ⟨"int", .base (.int i), by decide⟩
theorem tyx_int {K : PySem.W.Frag} {H : Hp} {y : V} (h : TyX K H y (.type "int")) : ∃ i, y = .int i := by
  generalize e : Value.type "int" = t at h
  cases h with
  | base b =>
    cases b with
    | int i => exact ⟨i, rfl⟩
    | _ => first | (exact absurd (Value.type.inj e) (by decide)) | cases e
  | _ => first | (exact absurd (Value.type.inj e) (by decide)) | cases e
theorem tyx_is {K : PySem.W.Frag} {H : Hp} {i : Int} {n : String} (h : TyX K H (.int i) (.type n)) : n = "int" := by
  generalize ex : V.int i = x at h
  generalize e : Value.type n = t at h
  cases h with
  | base b =>
    cases b with
    | int i =>
      cases e
      rfl
    | _ => cases ex
  | _ => cases ex
def spPlain (K : PySem.W.Frag) : Sp := fun vs H Q _ => ∃ (x : V) (n : String), vs = [x] ∧ TyX K H x (.type n) ∧ n ∈ kinds ∧ Q (.bl (decide (n = "int"))) H
def spPow2 : Sp := fun vs H Q _ => ∃ b : Int, vs = [.int b] ∧ Q (.bl (decide (Builtin.bitAnd b (b - 1) = 0))) H
def spIsPart (K : PySem.W.Frag) : Sp := fun vs H Q _ => (∃ (x : V) (n : String), vs = [x] ∧ TyX K H x (.type n) ∧ n ∈ kinds ∧ n ≠ "tuple" ∧ Q (.bl false) H) ∨
  ∃ (a : Addr) (xs : List V), vs = [.ref a] ∧ H a = some (.tup xs) ∧ (∀ y ∈ xs, Known K H y) ∧ Q (.bl (tupPart xs)) H
/-- the half of a part that is not nothing -/
def spHalf : Sp := fun vs H Q _ => ∃ (a : Addr) (x y : Int), vs = [.ref a] ∧ H a = some (.tup [.int x, .int y]) ∧ partB x y = true ∧ x ≠ 0 ∧
  ∀ p, H p = none → Q (.ref p) (upd H p (.tup [.int x, .int (y * 2)]))
/-- the text's own half -/
def spLHalf : Sp := fun vs H Q _ => ∃ (a : Addr) (x y : Int), vs = [.ref a] ∧ H a = some (.tup [.int x, .int y]) ∧ ∀ p, H p = none → Q (.ref p) (upd H p (.tup [.int x, .int (2 * y)]))
/-- a drawn part: x / 2 ^ n in lowest terms, not nothing -/
structure Drawn (x y : Int) (most : Nat) : Prop where
  ex : ∃ n : Nat, n ≤ most ∧ y = 2 ^ n
  lo : 1 ≤ x
  hi : x ≤ y
  odd : y = 1 ∨ x % 2 = 1
def spPart : Sp := fun vs H Q _ => ∃ (p : Addr) (most : Nat), vs = [.ref p, .int (most : Int)] ∧ BagAt H p ∧ most ≤ 200 ∧
  ∀ H' t x y, Grow p H H' → BagAt H' p → H t = none → H' t = some (.tup [.int x, .int y]) → Drawn x y most → Q (.ref t) H'
/-! ### arithmetic of parts -/
theorem pow2_pos (n : Nat) : (1 : Int) ≤ 2 ^ n := by
  have h : (0 : Nat) < 2 ^ n := Nat.two_pow_pos n
  have e : ((2 ^ n : Nat) : Int) = (2 : Int) ^ n := by simp
  omega
theorem pow2_and (n : Nat) : Builtin.bitAnd ((2 : Int) ^ n) ((2 : Int) ^ n - 1) = 0 := by
  rw [PySem.W.kbt_mask]
  exact Int.emod_self
theorem pow2_half {n : Nat} (h : n ≠ 0) : ∃ m, n = m + 1 ∧ (2 : Int) ^ n = 2 * 2 ^ m := by
  cases n with
  | zero => exact absurd rfl h
  | succ m => exact ⟨m, rfl, by rw [Int.pow_succ]; omega⟩
theorem Drawn.part {x y : Int} {most : Nat} (h : Drawn x y most) : partB x y = true := by
  obtain ⟨⟨n, _, rfl⟩, h1, h2, h3⟩ := h
  have := pow2_pos n
  unfold partB
  rw [decide_eq_true (show (1 : Int) ≤ 2 ^ n by omega), pow2_and, decide_eq_true rfl, decide_eq_true (show (0 : Int) ≤ x by omega), decide_eq_true h2, bitAnd_m1]
  rcases h3 with e | e
  · rw [decide_eq_true e]
    rfl
  · rw [decide_eq_true e, Bool.or_true]
    rfl
theorem Drawn.mono {x y : Int} {m k : Nat} (h : Drawn x y m) (le : m ≤ k) : Drawn x y k := by
  obtain ⟨⟨n, hn, e⟩, h1, h2, h3⟩ := h
  exact ⟨⟨n, by omega, e⟩, h1, h2, h3⟩
theorem Drawn.size {x y : Int} {most : Nat} (h : Drawn x y most) : x.natAbs ≤ 2 ^ most ∧ y.natAbs ≤ 2 ^ most := by
  obtain ⟨⟨n, hn, rfl⟩, h1, h2, h3⟩ := h
  have le : (2 : Nat) ^ n ≤ 2 ^ most := Nat.pow_le_pow_right (by decide) hn
  have e : ((2 ^ n : Nat) : Int) = (2 : Int) ^ n := by simp
  have := pow2_pos n
  omega
/-! ### data that repr shows in few signs -/
theorem leaf_short {i : Int} (h : i.natAbs < 10 ^ 60) : (PyData.shown (.int i)).length ≤ 64 := by
  have e := int_text_length_le10 (k := 60) (by decide) h
  show (Str.ofString (toString i)).length ≤ 64
  rw [PySem.ofString_length]
  omega
theorem leaf_show {i : Int} (h : i.natAbs < 10 ^ 60) : i.natAbs.log2 < 1920 := by
  have h2 : i.natAbs < 2 ^ 200 := Nat.lt_of_lt_of_le h (by decide)
  exact Nat.lt_of_lt_of_le (PySem.Flt.log2_lt_of (by decide) h2) (by decide)
theorem shown_fits {d : PyData} (h : d.leavesShort 64 = true) (hb : d.bulk ≤ 10000) : d.shown.length ≤ sizeLine := by
  have e := PyData.shown_le_bulk 64 (by decide) d h
  have z : sizeLine = 16777216 := sizeLine_eq
  omega
/-- the law's own promise -/
def spLaw (K : PySem.W.Frag) : Sp := fun vs H Q _ => ∃ (a : Addr) (ns : List Int), vs = [.ref a] ∧ SqL K H a (ns.map V.int) ∧ ns.length ≤ 63 ∧ ∀ H', Q (.bl true) H'
/-- the law's def by its body, the guards known -/
theorem law_ok {P : Program} {w : World} {K : PySem.W.Frag} {mg : Str → Option Value} {base : Heap} {x y : Str} {st : Stmt} {f : Addr} {fd : FuncData} {N : List Str} {sp : Sp} (F : Fun K x x st f fd) (S : FnScope N [y] (defScope st)) (len : ∀ vs H Q E, sp vs H Q E → vs.length = 1)
    (hbody : ∀ (cdv : Value) (A : Around) (outer : List Env) (s : Shared) (H : Hp) (vs : List V) (Q : VK) (E : XK), (A.deeper (envOfC x (defScope st) s.heap.objs.size f cdv)).guards = some [] → Room 30 (A.deeper (envOfC x (defScope st) s.heap.objs.size f cdv)) → sp vs H Q E →
      ∃ t, PSs (cxOf L2.CX0 P w K mg base N x (defScope st) f cdv A outer s H E).nox (defBody st) t ∧ t { nx := fun _ H' => Q .non H', rt := Q } (start N vs) H) : AtC P w K mg base L2.CX0 f fd y sp := by
  obtain ⟨oc, od, kV, doc, pm, an, cdv, ct, osl, rfl, lk, hcd⟩ := F.ex
  refine atC_of (k := 30) lk hcd S (by decide) len fun A outer s H vs Q E hA hr hsp => ?_
  obtain ⟨t, h, q⟩ := hbody cdv A outer s H vs Q E hA hr hsp
  exact ⟨t, h.nox, q⟩
/-- how many cells are played -/
theorem cells_of (n lo : Nat) (hi : Nat) (h : lo ≤ hi) : ∃ m : Nat, (if (if ((n : Nat) : Int) < (hi : Int) then (n : Int) else (hi : Int)) > (lo : Int) then (if ((n : Nat) : Int) < (hi : Int) then (n : Int) else (hi : Int)) else (lo : Int)) = (m : Int) ∧ m ≤ hi := by
  by_cases h1 : ((n : Nat) : Int) < (hi : Int)
  · by_cases h2 : ((n : Nat) : Int) > (lo : Int)
    · exact ⟨n, by rw [if_pos h1, if_pos h2], by omega⟩
    · exact ⟨lo, by rw [if_pos h1, if_neg h2], h⟩
  · by_cases h2 : ((hi : Nat) : Int) > (lo : Int)
    · exact ⟨hi, by rw [if_neg h1, if_pos h2], Nat.le_refl _⟩
    · exact ⟨lo, by rw [if_neg h1, if_neg h2], h⟩
end Tp

set_option Elab.async false
set_option linter.all false
set_option maxRecDepth 100000
set_option maxHeartbeats 2000000
namespace Tp
open PySem PySem.Spec PyProof.Rows L2

/-! ### lowest terms over a power of two -/
/-- how often both t and 2 ^ m can be halved -/
def low : Nat → Nat → Nat
  | 0, _ => 0
  | m + 1, t => if t % 2 = 1 then 0 else low m (t / 2) + 1
theorem low_le : ∀ m t, low m t ≤ m
  | 0, _ => Nat.le_refl _
  | m + 1, t => by
    have := low_le m (t / 2)
    unfold low
    split <;> omega
/-- the lowest bit -/
def lowb (b : Nat) : Nat := b - (b &&& (b - 1))
theorem and_parts (a b : Nat) : a &&& b = 2 * (a / 2 &&& b / 2) + (a &&& b) % 2 := by
  have h := Nat.and_div_two (a := a) (b := b)
  omega
theorem lowb_odd {b : Nat} (h : b % 2 = 1) : lowb b = 1 := by
  have e := and_parts b (b - 1)
  have e1 : (b - 1) / 2 = b / 2 := by omega
  rw [e1, Nat.and_self] at e
  have e2 : ¬ ((b &&& (b - 1)) % 2 = 1) := by
    rw [Nat.and_mod_two_eq_one]
    omega
  unfold lowb
  omega
theorem lowb_even {b : Nat} (h : 0 < b) : lowb (2 * b) = 2 * lowb b := by
  have e := and_parts (2 * b) (2 * b - 1)
  have e1 : (2 * b - 1) / 2 = b - 1 := by omega
  have e0 : 2 * b / 2 = b := by omega
  rw [e1, e0] at e
  have e2 : ¬ ((2 * b &&& (2 * b - 1)) % 2 = 1) := by
    rw [Nat.and_mod_two_eq_one]
    omega
  have e3 : b &&& (b - 1) ≤ b := Nat.and_le_left
  unfold lowb
  omega
theorem or_half {t m : Nat} (h : ¬ t % 2 = 1) : t ||| 2 ^ (m + 1) = 2 * (t / 2 ||| 2 ^ m) := by
  have e := Nat.or_div_two (a := t) (b := 2 ^ (m + 1))
  have e1 : 2 ^ (m + 1) / 2 = 2 ^ m := by
    rw [Nat.pow_succ]
    omega
  rw [e1] at e
  have e2 : ¬ ((t ||| 2 ^ (m + 1)) % 2 = 1) := by
    rw [Nat.or_mod_two_eq_one]
    have : (2 : Nat) ^ (m + 1) % 2 = 0 := by
      rw [Nat.pow_succ]
      omega
    omega
  omega
theorem or_pos (t m : Nat) : 0 < (t ||| 2 ^ m) := Nat.lt_of_lt_of_le (Nat.two_pow_pos m) Nat.right_le_or
theorem or_lowb : ∀ m t : Nat, lowb (t ||| 2 ^ m) = 2 ^ low m t
  | 0, t => by
    have e : (t ||| 2 ^ 0) % 2 = 1 := by
      rw [Nat.or_mod_two_eq_one]
      exact .inr rfl
    rw [lowb_odd e]
    rfl
  | m + 1, t => by
    by_cases h : t % 2 = 1
    · have e : (t ||| 2 ^ (m + 1)) % 2 = 1 := by
        rw [Nat.or_mod_two_eq_one]
        exact .inl h
      rw [lowb_odd e]
      rw [show low (m + 1) t = 0 by
        show (if t % 2 = 1 then 0 else low m (t / 2) + 1) = _
        rw [if_pos h]]
    · rw [or_half h, lowb_even (or_pos _ _), or_lowb m (t / 2)]
      rw [show low (m + 1) t = low m (t / 2) + 1 by
        show (if t % 2 = 1 then 0 else low m (t / 2) + 1) = _
        rw [if_neg h]]
      rw [Nat.pow_succ, Nat.mul_comm]
theorem and_neg {b : Nat} (h : 0 < b) : Builtin.bitAnd (b : Int) (-(b : Int)) = ((lowb b : Nat) : Int) := by
  rw [bitAnd_pn (by omega) (by omega)]
  have e : (Builtin.bitNot (-(b : Int))).toNat = b - 1 := by
    show (-(-(b : Int)) - 1).toNat = b - 1
    omega
  rw [e, Int.toNat_natCast]
  have e3 : b &&& (b - 1) ≤ b := Nat.and_le_left
  unfold lowb
  omega
theorem bits_pow (s : Nat) : Builtin.Int.intBits ((2 : Int) ^ s) = s + 1 := by
  have e : ((2 ^ s : Nat) : Int) = (2 : Int) ^ s := by simp
  unfold Builtin.Int.intBits
  have h := Nat.two_pow_pos s
  have z : ((2 : Int) ^ s == 0) = false := beq_eq_false_iff_ne.mpr (by omega)
  rw [z]
  have e2 : ((2 : Int) ^ s).natAbs = 2 ^ s := by omega
  rw [e2, Nat.log2_two_pow]
  rfl
theorem cast_pow (s : Nat) : ((2 ^ s : Nat) : Int) = (2 : Int) ^ s := by simp
/-- in lowest terms: top, bottom's exponent -/
def redT (m t : Nat) : Nat := t / 2 ^ low m t
def redM (m t : Nat) : Nat := m - low m t
theorem red_step {m t : Nat} (h : ¬ t % 2 = 1) : redT (m + 1) t = redT m (t / 2) ∧ redM (m + 1) t = redM m (t / 2) := by
  unfold redT redM
  rw [show low (m + 1) t = low m (t / 2) + 1 by
    show (if t % 2 = 1 then 0 else low m (t / 2) + 1) = _
    rw [if_neg h]]
  refine ⟨?_, by omega⟩
  rw [Nat.pow_succ, Nat.mul_comm, ← Nat.div_div_eq_div_mul]
theorem red_end {m t : Nat} (h : m = 0 ∨ t % 2 = 1) : redT m t = t ∧ redM m t = m := by
  unfold redT redM
  have e : low m t = 0 := by
    cases m with
    | zero => rfl
    | succ m =>
      show (if t % 2 = 1 then 0 else low m (t / 2) + 1) = 0
      rw [if_pos (by omega)]
  rw [e]
  exact ⟨Nat.div_one t, rfl⟩
theorem pow_div {m k : Nat} (h : k ≤ m) : (2 : Int) ^ m / 2 ^ k = 2 ^ (m - k) := by
  have e : (2 : Nat) ^ m / 2 ^ k = 2 ^ (m - k) := Nat.pow_div h (by decide)
  rw [← cast_pow, ← cast_pow, ← cast_pow, ← e]
  simp
/-- the sum of x / 2 ^ m and y / 2 ^ n, over the greater bottom -/
def sumT (x m y n : Nat) : Nat := x * 2 ^ (max m n - m) + y * 2 ^ (max m n - n)
theorem max_pow (m n : Nat) : (if ((2 : Int) ^ n) > 2 ^ m then (2 : Int) ^ n else 2 ^ m) = 2 ^ (max m n) := by
  by_cases h : m < n
  · have l : (2 : Nat) ^ m < 2 ^ n := Nat.pow_lt_pow_right (by decide) h
    have e1 := cast_pow m
    have e2 := cast_pow n
    rw [if_pos (by omega), Nat.max_eq_right (Nat.le_of_lt h)]
  · have l : (2 : Nat) ^ n ≤ 2 ^ m := Nat.pow_le_pow_right (by decide) (by omega)
    have e1 := cast_pow m
    have e2 := cast_pow n
    rw [if_neg (by omega), Nat.max_eq_left (by omega)]
theorem pow_big {n k : Nat} (h : n < k) : ((2 : Int) ^ n).natAbs < 2 ^ k := by
  have l : (2 : Nat) ^ n < 2 ^ k := Nat.pow_lt_pow_right (by decide) h
  rw [← cast_pow, Int.natAbs_natCast]
  exact l
/-- a part that is not nothing: x / 2 ^ m in lowest terms -/
structure Pt (x m : Nat) : Prop where
  lo : 1 ≤ x
  hi : x ≤ 2 ^ m
  odd : m = 0 ∨ x % 2 = 1
theorem Drawn.pt {x y : Int} {most : Nat} (h : Drawn x y most) : ∃ a m : Nat, x = (a : Int) ∧ y = 2 ^ m ∧ m ≤ most ∧ Pt a m := by
  obtain ⟨⟨m, hm, rfl⟩, h1, h2, h3⟩ := h
  obtain ⟨a, rfl⟩ := Int.eq_ofNat_of_zero_le (show (0 : Int) ≤ x by omega)
  have e := cast_pow m
  refine ⟨a, m, rfl, rfl, hm, by omega, by omega, ?_⟩
  rcases h3 with h3 | h3
  · left
    cases m with
    | zero => rfl
    | succ m =>
      obtain ⟨m', e1, e2⟩ := pow2_half (n := m + 1) (by omega)
      have := pow2_pos m'
      omega
  · right
    omega
theorem Pt.part {x m : Nat} (h : Pt x m) : partB (x : Int) (2 ^ m) = true := by
  have e := cast_pow m
  refine Drawn.part (most := m) ⟨⟨m, Nat.le_refl _, rfl⟩, by have := h.lo; omega, by have := h.hi; omega, ?_⟩
  rcases h.odd with rfl | z
  · exact .inl rfl
  · exact .inr (by omega)
theorem Pt.half {x m : Nat} (h : Pt x m) : Pt x (m + 1) ∧ 2 * x ≤ 2 ^ (m + 1) := by
  have h1 := h.hi
  have h2 := h.lo
  rw [Nat.pow_succ]
  refine ⟨⟨h2, by rw [Nat.pow_succ]; omega, .inr ?_⟩, by omega⟩
  rcases h.odd with rfl | z
  · have : x ≤ 1 := h1
    omega
  · exact z
theorem sum_fits {x m y n : Nat} (hx : 2 * x ≤ 2 ^ m) (hy : 2 * y ≤ 2 ^ n) : sumT x m y n ≤ 2 ^ max m n := by
  have a1 : 2 * x * 2 ^ (max m n - m) ≤ 2 ^ m * 2 ^ (max m n - m) := Nat.mul_le_mul_right _ hx
  have a2 : 2 * y * 2 ^ (max m n - n) ≤ 2 ^ n * 2 ^ (max m n - n) := Nat.mul_le_mul_right _ hy
  rw [← Nat.pow_add, show m + (max m n - m) = max m n by omega, Nat.mul_assoc] at a1
  rw [← Nat.pow_add, show n + (max m n - n) = max m n by omega, Nat.mul_assoc] at a2
  unfold sumT
  omega
theorem red_le {m t : Nat} (h : t ≤ 2 ^ m) : redT m t ≤ 2 ^ m := by
  unfold redT
  exact Nat.le_trans (Nat.div_le_self _ _) h
/-! ### promises of the sums -/
def isTup (H : Hp) (a : Addr) (x m : Nat) : Prop := H a = some (.tup [.int (x : Int), .int (2 ^ m)])
def spTopOver : Sp := fun vs H Q _ => ∃ (a : Addr) (x m M : Nat), vs = [.int (2 ^ M), .ref a] ∧ isTup H a x m ∧ m ≤ M ∧ M ≤ 1000 ∧ x ≤ 2 ^ m ∧ Q (.int ((x * 2 ^ (M - m) : Nat) : Int)) H
def spLowest : Sp := fun vs H Q _ => ∃ (t M : Nat), vs = [.int (t : Int), .int (2 ^ M)] ∧ ∀ p, H p = none → Q (.ref p) (upd H p (.tup [.int (redT M t : Nat), .int (2 ^ redM M t)]))
/-- two parts whose sum is at most the whole -/
def spPlus : Sp := fun vs H Q _ => ∃ (a b : Addr) (x m y n : Nat), vs = [.ref a, .ref b] ∧ isTup H a x m ∧ isTup H b y n ∧ partB (x : Int) (2 ^ m) = true ∧ partB (y : Int) (2 ^ n) = true ∧ x ≤ 2 ^ m ∧ y ≤ 2 ^ n ∧ m ≤ 1000 ∧ n ≤ 1000 ∧ sumT x m y n ≤ 2 ^ max m n ∧
  ∀ p, H p = none → Q (.ref p) (upd H p (.tup [.int (redT (max m n) (sumT x m y n) : Nat), .int (2 ^ redM (max m n) (sumT x m y n))]))
/-- the law's own sum, of any two -/
def spLPlus : Sp := fun vs H Q _ => ∃ (a b : Addr) (x m y n : Nat), vs = [.ref a, .ref b] ∧ isTup H a x m ∧ isTup H b y n ∧ x ≤ 2 ^ m ∧ y ≤ 2 ^ n ∧ m ≤ 1000 ∧ n ≤ 1000 ∧
  ∀ p, H p = none → Q (.ref p) (upd H p (.tup [.int (redT (max m n) (sumT x m y n) : Nat), .int (2 ^ redM (max m n) (sumT x m y n))]))
end Tp

set_option Elab.async false
set_option linter.all false
set_option maxRecDepth 100000
set_option maxHeartbeats 2000000
namespace Tp
open PySem PySem.Spec PyProof.Rows L2

/-! ### any values: as data that stand apart from the bag at p -/
def keyD : Key → PyData
  | .inl i => .int i
  | .inr x => .str x
mutual
/-- no list, no dict in it -/
def flatD : PyData → Bool
  | .none => true
  | .bool _ => true
  | .int _ => true
  | .str _ => true
  | .tuple ds => flatAll ds
  | .list _ => false
  | .dict _ => false
def flatAll : List PyData → Bool
  | [] => true
  | d :: ds => flatD d && flatAll ds
end
mutual
inductive Dz (H : Hp) (p : Addr) : V → PyData → Prop
  | non : Dz H p .non .none
  | bl (b : Bool) : Dz H p (.bl b) (.bool b)
  | int (i : Int) : Dz H p (.int i) (.int i)
  | str (x : Str) : Dz H p (.str x) (.str x)
  | lst {a : Addr} {xs : List V} {ds : List PyData} : H a = some (.lst xs) → a ≠ p → DzAll H p xs ds → Dz H p (.ref a) (.list ds)
  | tup {a : Addr} {xs : List V} {ds : List PyData} : H a = some (.tup xs) → DzAll H p xs ds → Dz H p (.ref a) (.tuple ds)
  | dict {a : Addr} {kvs : List (Key × V)} {ds : List PyData} : H a = some (.dK kvs) → DzAll H p (kvs.map (·.2)) ds → flatAll ds = true → Dz H p (.ref a) (.dict ((kvs.map fun kv => keyD kv.1).zip ds))
inductive DzAll (H : Hp) (p : Addr) : List V → List PyData → Prop
  | nil : DzAll H p [] []
  | cons {v : V} {vs : List V} {d : PyData} {ds : List PyData} : Dz H p v d → DzAll H p vs ds → DzAll H p (v :: vs) (d :: ds)
end
theorem DzAll.len {H : Hp} {p : Addr} : ∀ {vs : List V} {ds : List PyData}, DzAll H p vs ds → vs.length = ds.length
  | _, _, .nil => rfl
  | _, _, .cons _ t => by rw [List.length_cons, List.length_cons, DzAll.len t]
mutual
theorem reads_flat {h : Heap} : ∀ {u : Value} {d : PyData} {as : List Addr}, Reads h u d as → flatD d = true → as = []
  | _, _, _, .none, _ => rfl
  | _, _, _, .bool _, _ => rfl
  | _, _, _, .int _ _, _ => rfl
  | _, _, _, .str _ _, _ => rfl
  | _, _, _, .list _ _ _ _, f => by cases f
  | _, _, _, .tuple _ _ _ r, f => reads_flatAll r f
  | _, _, _, .dict _ _ _ _ _, f => by cases f
theorem reads_flatAll {h : Heap} : ∀ {us : List Value} {ds : List PyData} {as : List Addr}, ReadsAll h us ds as → flatAll ds = true → as = []
  | _, _, _, .nil, _ => rfl
  | _, _, _, .cons r t, f => by
    unfold flatAll at f
    rw [Bool.and_eq_true] at f
    rw [reads_flat r f.1, reads_flatAll t f.2]
    rfl
end
theorem tup_keep {H H' : Hp} {p a : Addr} {xs : List V} (hB : BagAt H p) (g : Grow p H H') (h : H a = some (.tup xs)) : H' a = some (.tup xs) := by
  obtain ⟨u, v, hp, _⟩ := hB
  exact g a _ (ne_of h hp (by intro z; cases z)) h
theorem dK_keep {H H' : Hp} {p a : Addr} {kvs : List (Key × V)} (hB : BagAt H p) (g : Grow p H H') (h : H a = some (.dK kvs)) : H' a = some (.dK kvs) := by
  obtain ⟨u, v, hp, _⟩ := hB
  exact g a _ (ne_of h hp (by intro z; cases z)) h
mutual
theorem dz_grow {H H' : Hp} {p : Addr} (hB : BagAt H p) (g : Grow p H H') : ∀ {v : V} {d : PyData}, Dz H p v d → Dz H' p v d
  | _, _, .non => .non
  | _, _, .bl b => .bl b
  | _, _, .int i => .int i
  | _, _, .str x => .str x
  | _, _, .lst q n a => .lst (g _ _ n q) n (dza_grow hB g a)
  | _, _, .tup q a => .tup (tup_keep hB g q) (dza_grow hB g a)
  | _, _, .dict q a f => .dict (dK_keep hB g q) (dza_grow hB g a) f
theorem dza_grow {H H' : Hp} {p : Addr} (hB : BagAt H p) (g : Grow p H H') : ∀ {vs : List V} {ds : List PyData}, DzAll H p vs ds → DzAll H' p vs ds
  | _, _, .nil => .nil
  | _, _, .cons a b => .cons (dz_grow hB g a) (dza_grow hB g b)
end
section
variable {X : Cx} {pins : List (Addr × Obj)} {σ : L2.St} {H : Hp} {s : Shared} {p : Addr}
theorem pairs_keys : ∀ {kvs : List (Key × V)} {ps : List (Key × Value)} {es : List DictEntry}, KV kvs ps → Pairs (mixKind X.prog X.w) es ps → ReadsAll s.heap (es.map (·.key)) (kvs.map fun kv => keyD kv.1) [] ∧ Vals (kvs.map (·.2)) (es.map (·.val)) := by
  intro kvs ps es r q
  unfold KV at r
  induction r generalizing es with
  | nil =>
    cases q
    exact ⟨.nil, .nil⟩
  | @cons kv kp kvs ps h t ih =>
    cases q with
    | @cons e _ es2 _ h1 h2 h3 =>
      obtain ⟨i1, i2⟩ := ih h3
      obtain ⟨e1, e2⟩ := h
      refine ⟨?_, .cons (show L2.RelV kv.2 e.val by rw [h2]; exact e2) i2⟩
      have k : keyIs kp.1 _ = true := h1
      rcases keyIs_shape k with ⟨i, t, z1, z2⟩ | ⟨x, t, z1, z2⟩
      · have z3 : keyD kv.1 = .int i := by
          rw [e1, z1]
          rfl
        show ReadsAll s.heap (e.key :: es2.map (·.key)) (keyD kv.1 :: kvs.map fun kv => keyD kv.1) []
        rw [z2, z3]
        exact ReadsAll.cons (as := []) (bs := []) (.int i t) i1
      · have z3 : keyD kv.1 = .str x := by
          rw [e1, z1]
          rfl
        show ReadsAll s.heap (e.key :: es2.map (·.key)) (keyD kv.1 :: kvs.map fun kv => keyD kv.1) []
        rw [z2, z3]
        exact ReadsAll.cons (as := []) (bs := []) (.str x t) i1
mutual
theorem dz_reads (I : Inv X pins σ H s) : ∀ {v : V} {d : PyData}, Dz H p v d → ∀ {u : Value}, RelV v u → ∃ as, Reads s.heap u d as
  | _, _, .non, _, r => by
    cases r
    exact ⟨_, Reads.none⟩
  | _, _, .bl b, _, r => by
    cases r
    exact ⟨_, Reads.bool b⟩
  | _, _, .int i, _, r => by
    obtain ⟨t, rfl⟩ := r
    exact ⟨_, Reads.int i t⟩
  | _, _, .str x, _, r => by
    obtain ⟨t, rfl⟩ := r
    exact ⟨_, Reads.str x t⟩
  | _, _, .lst q _ a, _, r => by
    cases r
    obtain ⟨its, rv, ⟨o, n, ho, hc, _, hd⟩, _⟩ := I.list (SqL.of (K := X.K) q)
    obtain ⟨as, hr⟩ := dz_readsAll I a rv
    exact ⟨_, Reads.list ho hc hd hr⟩
  | _, _, .tup q a, _, r => by
    cases r
    obtain ⟨its, rv, ⟨o, ho, hc, n, hd⟩, _⟩ := I.tuple (SqT.of (K := X.K) q)
    obtain ⟨as, hr⟩ := dz_readsAll I a rv
    exact ⟨_, Reads.tuple ho hc hd hr⟩
  | _, _, .dict q a f, _, r => by
    cases r
    obtain ⟨_, _, ps, rk, o, es, ep, ho, hx, hd, _, hp, _⟩ := I.hok _ _ q
    obtain ⟨k1, k2⟩ := pairs_keys (X := X) (s := s) rk hp
    obtain ⟨as, hr⟩ := dz_readsAll I a k2
    have z := a.len
    have e1 : ∀ (ks ds : List PyData), ks.length = ds.length → (ks.zip ds).map (·.1) = ks := fun ks ds h => List.map_fst_zip (by omega)
    have e2 : ∀ (ks ds : List PyData), ks.length = ds.length → (ks.zip ds).map (·.2) = ds := fun ks ds h => List.map_snd_zip (by omega)
    rw [List.length_map] at z
    exact ⟨_, Reads.dict ho hx.1 hd (by rw [e1 _ _ (by rw [List.length_map]; exact z)]; exact k1) (by rw [e2 _ _ (by rw [List.length_map]; exact z)]; exact hr)⟩
theorem dz_readsAll (I : Inv X pins σ H s) : ∀ {vs : List V} {ds : List PyData}, DzAll H p vs ds → ∀ {us : List Value}, Vals vs us → ∃ as, ReadsAll s.heap us ds as
  | _, _, .nil, _, r => by
    cases r
    exact ⟨_, ReadsAll.nil⟩
  | _, _, .cons a b, _, r => by
    cases r with
    | cons r1 r2 =>
      obtain ⟨as, q1⟩ := dz_reads I a r1
      obtain ⟨bs, q2⟩ := dz_readsAll I b r2
      exact ⟨_, ReadsAll.cons q1 q2⟩
end
end
/-- shown in few signs; a dict only at the top -/
structure FineZ (d : PyData) : Prop where
  show_ : d.showable = true
  short : d.leavesShort 64 = true
  deep : d.depth ≤ 40
  bulk : d.bulk ≤ 10000
  dict : d.hasDict = true → ∃ kvs, d = .dict kvs ∧ flatAll (kvs.map (·.1)) = true ∧ flatAll (kvs.map (·.2)) = true
theorem reprZ {X : Cx} (hg : X.A.guards = some []) (hu : X.A.units + 64 < cLine) :
    CallR X (.builtin "repr") (fun xs H Q => ∃ p v d, xs = [v] ∧ Dz H p v d ∧ FineZ d ∧ Q (.str d.shown) H) := by
  intro pins s σ H xs us Q I r h
  obtain ⟨p, v, d, rfl, hd, fz, q⟩ := h
  obtain ⟨u, rfl, ru⟩ := vals1 r
  obtain ⟨as, rd⟩ := dz_reads I hd ru
  have hs := fz.show_
  have hdep := fz.deep
  have hsz := shown_fits fz.short fz.bulk
  cases hd with
  | non =>
    cases (show u = Value.none from ru)
    exact PySem.P.repr_of_none ⟨.str _, H, I.tok _, ⟨_, rfl⟩, q⟩
  | bl b =>
    cases (show u = Value.bool b from ru)
    exact PySem.P.repr_of_bool ⟨.str _, H, I.tok _, ⟨_, rfl⟩, q⟩
  | int i =>
    obtain ⟨t, rfl⟩ := (show ∃ t, u = Value.int i t from ru)
    exact PySem.P.repr_of_int (by simpa [PyData.showable] using hs) ⟨.str _, H, I.tok _, ⟨_, rfl⟩, q⟩
  | str x =>
    obtain ⟨t, rfl⟩ := (show ∃ t, u = Value.str x t from ru)
    exact PySem.P.repr_of_str ⟨.str _, H, I.tok _, ⟨_, rfl⟩, q⟩ hsz
  | lst hq _ ha =>
    cases (show u = Value.ref _ from ru)
    exact repr_of_reads' rd hs (fun z => by obtain ⟨_, e, _⟩ := fz.dict z; cases e) hg (by omega) (fun _ _ e => e) (fun h' u tk hk => ⟨.str _, H, I.kept hk, ⟨_, rfl⟩, q⟩) hsz
  | tup hq ha =>
    cases (show u = Value.ref _ from ru)
    exact repr_of_reads' rd hs (fun z => by obtain ⟨_, e, _⟩ := fz.dict z; cases e) hg (by omega) (fun _ _ e => e) (fun h' u tk hk => ⟨.str _, H, I.kept hk, ⟨_, rfl⟩, q⟩) hsz
  | dict hq ha hf =>
    cases (show u = Value.ref _ from ru)
    have ns := (I.hok _ _ hq).2.1
    refine repr_of_reads' rd hs (fun z => ?_) hg (by omega) (fun _ _ e => e) (fun h' u tk hk => ⟨.str _, H, I.kept hk, ⟨_, rfl⟩, q⟩) hsz
    obtain ⟨kvs, e, f1, f2⟩ := fz.dict z
    cases e
    cases rd with
    | dict _ _ _ r1 r2 =>
      rw [reads_flatAll r1 f1, reads_flatAll r2 f2]
      intro m
      simp only [List.append_nil, List.mem_singleton] at m
      rw [← m] at ns
      simp at ns
/-- each value is of a plain kind -/
theorem dz_known {K : PySem.W.Frag} {H : Hp} {p : Addr} {v : V} {d : PyData} (h : Dz H p v d) : Known K H v := by
  cases h with
  | non => exact ⟨"NoneType", .base .non, by decide⟩
  | bl b => exact ⟨"bool", .base (.bl b), by decide⟩
  | int i => exact ⟨"int", .base (.int i), by decide⟩
  | str x => exact ⟨"str", .base (.str x), by decide⟩
  | lst q _ _ => exact ⟨"list", .base (.lst q), by decide⟩
  | tup q _ => exact ⟨"tuple", .base (.tup q), by decide⟩
  | dict q _ _ => exact ⟨"dict", .base (.dK q), by decide⟩
theorem dza_known {K : PySem.W.Frag} {H : Hp} {p : Addr} : ∀ {vs : List V} {ds : List PyData}, DzAll H p vs ds → ∀ y ∈ vs, Known K H y
  | _, _, .nil, _, m => absurd m (by simp)
  | _, _, .cons a b, y, m => by
    rcases List.mem_cons.mp m with rfl | m
    · exact dz_known a
    · exact dza_known b y m
/-- a tuple of plain things, or a thing of another kind -/
theorem dz_cases {K : PySem.W.Frag} {H : Hp} {p : Addr} {v : V} {d : PyData} (h : Dz H p v d) :
    (∃ n, TyX K H v (.type n) ∧ n ∈ kinds ∧ n ≠ "tuple") ∨ ∃ (a : Addr) (xs : List V), v = .ref a ∧ H a = some (.tup xs) ∧ ∀ y ∈ xs, Known K H y := by
  cases h with
  | non => exact .inl ⟨"NoneType", .base .non, by decide, by decide⟩
  | bl b => exact .inl ⟨"bool", .base (.bl b), by decide, by decide⟩
  | int i => exact .inl ⟨"int", .base (.int i), by decide, by decide⟩
  | str x => exact .inl ⟨"str", .base (.str x), by decide, by decide⟩
  | lst q _ _ => exact .inl ⟨"list", .base (.lst q), by decide, by decide⟩
  | tup q a => exact .inr ⟨_, _, rfl, q, dza_known a⟩
  | dict q _ _ => exact .inl ⟨"dict", .base (.dK q), by decide, by decide⟩
/-! ### small data -/
theorem ble {a b : Nat} (h : Nat.ble a b = true) : a ≤ b := Nat.le_of_ble_eq_true h
def Sm (d : PyData) : Prop := d.showable = true ∧ d.leavesShort 64 = true
def SmAll (ds : List PyData) : Prop := PyData.showableAll ds = true ∧ PyData.leavesShortAll 64 ds = true
theorem sm_int {i : Int} (h : i.natAbs < 10 ^ 60) : Sm (.int i) := ⟨by show decide _ = true; exact decide_eq_true (leaf_show h), by show decide _ = true; exact decide_eq_true (leaf_short h)⟩
theorem sm_none : Sm .none := ⟨rfl, rfl⟩
theorem sm_bool (b : Bool) : Sm (.bool b) := ⟨rfl, rfl⟩
theorem sm_str {x : Str} (h : x.cps.toList.all (fun c => decide (c < 16 ^ 8)) = true) : Sm (.str x) := ⟨rfl, h⟩
theorem sm_nil : SmAll [] := ⟨rfl, rfl⟩
theorem sm_cons {d : PyData} {ds : List PyData} (h : Sm d) (t : SmAll ds) : SmAll (d :: ds) := ⟨by show (_ && _) = true; rw [h.1, t.1]; rfl, by show (_ && _) = true; rw [h.2, t.2]; rfl⟩
theorem sm_list {ds : List PyData} (h : SmAll ds) : Sm (.list ds) := h
theorem sm_tuple {ds : List PyData} (h : SmAll ds) : Sm (.tuple ds) := h
theorem sm_dict1 {k v : PyData} (hk : Sm k) (hv : Sm v) : Sm (.dict [(k, v)]) := ⟨by show (_ && _ && _) = true; rw [hk.1, hv.1]; rfl, by show (_ && _ && _) = true; rw [hk.2, hv.2]; rfl⟩
/-- without a dict -/
theorem fz_plain {d : PyData} (s : Sm d) (h1 : Nat.ble d.depth 40 = true) (h2 : Nat.ble d.bulk 10000 = true) (h3 : d.hasDict = false) : FineZ d := ⟨s.1, s.2, ble h1, ble h2, fun z => by rw [h3] at z; cases z⟩
theorem fz_dict {kvs : List (PyData × PyData)} (s : Sm (.dict kvs)) (h1 : Nat.ble (PyData.dict kvs).depth 40 = true) (h2 : Nat.ble (PyData.dict kvs).bulk 10000 = true) (h3 : flatAll (kvs.map (·.1)) = true) (h4 : flatAll (kvs.map (·.2)) = true) : FineZ (.dict kvs) :=
  ⟨s.1, s.2, ble h1, ble h2, fun _ => ⟨kvs, rfl, h3, h4⟩⟩
theorem Same.mut {H H1 : Hp} {p : Addr} {o : HO} (e : Same H H1) (h : H p = none) : Same H (upd H1 p o) := fun b u q => by
  rw [upd_ne (ne_of_none q h)]
  exact e b u q
/-- a thing: some data in few signs -/
def Thing (H : Hp) (p : Addr) (v : V) : Prop := ∃ d, Dz H p v d ∧ FineZ d
def spThing : Sp := fun vs H Q _ => ∃ p : Addr, vs = [.ref p] ∧ BagAt H p ∧ ∀ H' v, Grow p H H' → BagAt H' p → Thing H' p v → Q v H'
/-- the law's own look at parts: it makes a list on its way -/
def spLIsPart (K : PySem.W.Frag) : Sp := fun vs H Q _ => (∃ (x : V) (n : String), vs = [x] ∧ TyX K H x (.type n) ∧ n ∈ kinds ∧ n ≠ "tuple" ∧ ∀ H', Same H H' → Q (.bl false) H') ∨
  ∃ (a : Addr) (xs : List V), vs = [.ref a] ∧ H a = some (.tup xs) ∧ (∀ y ∈ xs, Known K H y) ∧ ∀ H', Same H H' → Q (.bl (tupPart xs)) H'
/-! ### a dict of one written pair -/
theorem pe_d1 {X : Cx} {pos : Pos} {ke ve : Expr} {key : Key} {v : V} (hk : PE X ke (tC (kV key))) (hv : PE X ve (tC v)) : PE X (.Dict [some ke] [ve] pos) (fun _ H Q => ∀ p, H p = none → Q (.ref p) (upd H p (.dK [(key, v)]))) := by
  refine ⟨fun pins s σ H Q I h => (pe_disp (pps_cons hk hv pps_nil) rfl rfl (by simp) (ble rfl)).run pins s σ H Q I fun p np => ?_⟩
  refine ⟨upd_same, [(key, v)], rfl, ble rfl, ?_⟩
  rw [upd_upd]
  exact h p np
theorem pe_d1t {X : Cx} {pos tpos : Pos} {kx : Nat} {ke : Expr} {es : List Expr} {key : Key} {xs : List V} {t : TA} (hk : PE X ke (tC (kV key))) (hv : PA X es t) (ht : ∀ σ H (Q : List V → Hp → Prop), Q xs H → t σ H Q) (hl : xs.length ≤ sizeLine) :
    PE X (.Dict [some ke] [.Tuple es kx tpos] pos) (fun _ H Q => ∀ q, H q = none → ∀ p, upd H q (.tup xs) p = none → Q (.ref p) (upd (upd H q (.tup xs)) p (.dK [(key, .ref q)]))) := by
  refine ⟨fun pins s σ H Q I h => (pe_disp (pps_cons hk (pe_tup hv) pps_nil) rfl rfl (by simp) (ble rfl)).run pins s σ H Q I fun p np => ?_⟩
  refine ht _ _ _ ⟨hl, fun q nq => ?_⟩
  have nqp : q ≠ p := fun e => by
    subst e
    rw [upd_same] at nq
    cases nq
  rw [upd_ne nqp] at nq
  refine ⟨by rw [upd_ne nqp.symm]; exact upd_same, [(key, .ref q)], rfl, ble rfl, ?_⟩
  have k := h q nq p (by rw [upd_ne nqp.symm]; exact np)
  have e : upd (upd (upd H p (.dK [])) q (.tup xs)) p (.dK (mergeK [] [(key, V.ref q)])) = upd (upd H q (.tup xs)) p (.dK [(key, .ref q)]) := by
    funext b
    by_cases h1 : b = p
    · subst h1
      rw [upd_same, upd_same]
      rfl
    · rw [upd_ne h1, upd_ne h1]
      by_cases h2 : b = q
      · subst h2
        rw [upd_same, upd_same]
      · rw [upd_ne h2, upd_ne h2, upd_ne h1]
  rw [e]
  exact k
theorem BagAt.new_of {H : Hp} {p a : Addr} {o : HO} (_ : BagAt H p) (_ : H a = some o) (h : a ≠ p) : a ≠ p := h
theorem tyx_same {K : PySem.W.Frag} {H H' : Hp} (s : Same H H') {y : V} {t : Value} (h : TyX K H y t) : TyX K H' y t := by
  cases h with
  | base b =>
    cases b with
    | non => exact .base .non
    | bl b => exact .base (.bl b)
    | int i => exact .base (.int i)
    | str x => exact .base (.str x)
    | flt x => exact .base (.flt x)
    | lst e => exact .base (.lst (s _ _ e))
    | frz e => exact .base (.frz (s _ _ e))
    | tup e => exact .base (.tup (s _ _ e))
    | dK e => exact .base (.dK (s _ _ e))
    | dT e => exact .base (.dT (s _ _ e))
    | ins e c h1 h2 h3 h4 => exact .base (.ins (s _ _ e) c h1 h2 h3 h4)
  | byt b => exact .byt b
  | set e => exact .set (s _ _ e)
  | kList e c => exact .kList e c
  | kTuple e c => exact .kTuple e c
  | kDict e c => exact .kDict e c
  | fTuple e => exact .fTuple (s _ _ e)
  | fDict e => exact .fDict (s _ _ e)
theorem tupPart_no {xs : List V} (h : xs.length ≠ 2) : tupPart xs = false := by
  match xs, h with
  | [], _ => rfl
  | [x], _ => cases x <;> rfl
  | x :: y :: z :: r, _ => cases x <;> cases y <;> rfl
  | [x, y], h => exact absurd rfl h
theorem tupPart_l {K : PySem.W.Frag} {H : Hp} {x y : V} {n : String} (t : TyX K H x (.type n)) (h : n ≠ "int") : tupPart [x, y] = false := by
  match x, t with
  | .int j, t => exact absurd (tyx_is t) h
  | .non, _ => rfl
  | .bl _, _ => rfl
  | .str _, _ => rfl
  | .byt _, _ => rfl
  | .flt _, _ => rfl
  | .ref _, _ => rfl
  | .ty _, _ => rfl
theorem tupPart_r {K : PySem.W.Frag} {H : Hp} {x y : V} {n : String} (t : TyX K H y (.type n)) (h : n ≠ "int") : tupPart [x, y] = false := by
  match y, t with
  | .int j, t => exact absurd (tyx_is t) h
  | .non, _ => cases x <;> rfl
  | .bl _, _ => cases x <;> rfl
  | .str _, _ => cases x <;> rfl
  | .byt _, _ => cases x <;> rfl
  | .flt _, _ => cases x <;> rfl
  | .ref _, _ => cases x <;> rfl
  | .ty _, _ => cases x <;> rfl
theorem kit_tuple {n : String} (hn : n ∈ kinds) (h : n ≠ "tuple") : kitB n "tuple" = some false := by
  simp only [kinds, List.mem_cons, List.not_mem_nil, or_false] at hn
  rcases hn with rfl | rfl | rfl | rfl | rfl | rfl | rfl
  · decide +kernel
  · decide +kernel
  · decide +kernel
  · decide +kernel
  · decide +kernel
  · exact absurd rfl h
  · decide +kernel
/-- a number's text -/
theorem sm_num {x : Int} : Sm (.str (Str.ofString (toString x))) := by
  refine sm_str (List.all_eq_true.mpr fun c hc => decide_eq_true ?_)
  rw [Str.ofString_eq_toList] at hc
  simp only [List.toList_toArray, List.mem_map] at hc
  obtain ⟨k, _, rfl⟩ := hc
  exact UInt32.toNat_lt k.val
theorem fz_num {x y : Int} (s : Sm (.tuple [.str (Str.ofString (toString x)), .int y])) (h : x.natAbs < 10 ^ 60) : FineZ (.tuple [.str (Str.ofString (toString x)), .int y]) := by
  refine ⟨s.1, s.2, ble rfl, ?_, fun z => by cases z⟩
  have e := int_text_length_le10 (k := 60) (by decide) h
  have e2 : (Str.ofString (toString x)).length = (toString x).length := PySem.ofString_length _
  show (Str.ofString (toString x)).cps.size + 1 + (0 + 1 + 0) ≤ 10000
  have e3 : (Str.ofString (toString x)).cps.size = (Str.ofString (toString x)).length := rfl
  omega
end Tp

set_option Elab.async false
set_option linter.all false
set_option maxRecDepth 100000
set_option maxHeartbeats 4000000
namespace Tp
open PySem PySem.Spec PyProof.Rows L2
/-! ### the text by places -/
def top (i : Nat) : Stmt := PySem.Challenge.pw_trailparts_k01_parts_known.main.body.getD i (.Pass ⟨0, 0, 0, 0⟩)
abbrev s_is_plain_int : Stmt := top 1
abbrev s_is_part : Stmt := top 3
abbrev s_is_power_of_two : Stmt := top 4
abbrev s_l_bag : Stmt := top 6
abbrev s_l_take : Stmt := top 7
abbrev s_l_whole : Stmt := top 8
abbrev s_l_is_part : Stmt := top 9
abbrev s_l_odd : Stmt := top 10
abbrev s_l_near : Stmt := top 11
abbrev s_law : Stmt := top 12
theorem sc_is_plain_int : FnScope ["thing"] ["thing"] (defScope s_is_plain_int) := ⟨rfl, rfl, rfl, by decide +kernel, rfl, by decide +kernel, by decide +kernel⟩
theorem sc_is_part : FnScope ["thing", "top", "bottom"] ["thing"] (defScope s_is_part) := ⟨rfl, rfl, rfl, by decide +kernel, rfl, by decide +kernel, by decide +kernel⟩
theorem sc_is_power_of_two : FnScope ["number"] ["number"] (defScope s_is_power_of_two) := ⟨rfl, rfl, rfl, by decide +kernel, rfl, by decide +kernel, by decide +kernel⟩
theorem sc_l_bag : FnScope ["_law_script", "_law_at", "_law_cell", "_law_mixed", "_law_spot", "_law_other"] ["_law_script", "_law_at"] (defScope s_l_bag) := ⟨rfl, rfl, rfl, by decide +kernel, rfl, by decide +kernel, by decide +kernel⟩
theorem sc_l_take : FnScope ["_law_bag_here", "_law_many", "_law_digit"] ["_law_bag_here", "_law_many"] (defScope s_l_take) := ⟨rfl, rfl, rfl, by decide +kernel, rfl, by decide +kernel, by decide +kernel⟩
theorem sc_l_whole : FnScope ["_law_thing"] ["_law_thing"] (defScope s_l_whole) := ⟨rfl, rfl, rfl, by decide +kernel, rfl, by decide +kernel, by decide +kernel⟩
theorem sc_l_is_part : FnScope ["_law_thing", "_law_number", "_law_top", "_law_bottom"] ["_law_thing"] (defScope s_l_is_part) := ⟨rfl, rfl, rfl, by decide +kernel, rfl, by decide +kernel, by decide +kernel⟩
theorem sc_l_odd : FnScope ["_law_bag_here", "_law_some"] ["_law_bag_here"] (defScope s_l_odd) := ⟨rfl, rfl, rfl, by decide +kernel, rfl, by decide +kernel, by decide +kernel⟩
theorem sc_l_near : FnScope ["_law_bag_here", "_law_bottom", "_law_top", "_law_some"] ["_law_bag_here"] (defScope s_l_near) := ⟨rfl, rfl, rfl, by decide +kernel, rfl, by decide +kernel, by decide +kernel⟩
theorem sc_law : FnScope ["_law_script", "_law_k", "_law_bag_here", "_law_turn", "_law_thing", "_law_kept", "_law_again", "_law_told"] ["_law_script"] (defScope s_law) := ⟨rfl, rfl, rfl, by decide +kernel, rfl, by decide +kernel, by decide +kernel⟩
/-- the builtins that the text calls by their names -/
structure Bl (mg : Str → Option Value) : Prop where
  b_abs : mg "abs" = none
  b_all : mg "all" = none
  b_bool : mg "bool" = none
  b_enumerate : mg "enumerate" = none
  b_int : mg "int" = none
  b_isinstance : mg "isinstance" = none
  b_len : mg "len" = none
  b_max : mg "max" = none
  b_min : mg "min" = none
  b_range : mg "range" = none
  b_repr : mg "repr" = none
  b_str : mg "str" = none
  b_tuple : mg "tuple" = none
/-! ### the law's numbers -/
section
variable {P : Program} {w : World} {K : PySem.W.Frag} {mg : Str → Option Value} {base : Heap}
theorem ok_take {f : Addr} {fd : FuncData} (F : Fun K "_law_take" "_law_take" s_l_take f fd) : FnOk P w K mg base L2.CX0 1 f fd ["_law_bag_here", "_law_many"] spTake := by
  refine F.ok sc_l_take (fun vs H Q E h => ?_) (fun cdv A outer s H vs Q E hr h => ?_)
  · obtain ⟨p, m, rfl, _⟩ := h
    rfl
  · obtain ⟨p, m, rfl, ⟨a, b, hp, a0, b0, b1⟩, m0, m1, q⟩ := h
    have nd := sc_l_take.nd
    refine ⟨_, (pss_cons (ps_if (pt_cmpR op_gt (pe_ix ix_seq (pv 0) pe_int (fun _ _ => rfl)) pe_int (nomark _))
        (pss_cons (ps_set (i := 2) nd rfl (.inl rfl) (pe_op op_mod (pe_ix ix_seq (pv 0) pe_int (fun _ _ => rfl)) (pv 1)))
        (pss_cons (ps_asg (pe_op op_fdivW (pe_ix ix_seq (pv 0) pe_int (fun _ _ => rfl)) (pv 1)) (pg_sub (pv 0) pe_int set_list))
        (pss_one (ps_ret (pv 2)))))
        pss_nil)
      (pss_cons (ps_asg (pe_op op_mod (pe_op op_add (pe_op op_mulX (pe_ix ix_seq (pv 0) pe_int (fun _ _ => rfl)) pe_int) pe_int) pe_int) (pg_sub (pv 0) pe_int set_list))
      (pss_one (ps_ret (pe_op op_mod (pe_op op_fdivW (pe_op op_mod (pe_op op_mulX (pe_op op_fdivW (pe_ix ix_seq (pv 0) pe_int (fun _ _ => rfl)) pe_int) pe_int) pe_int) pe_int) (pv 1)))))), ?_⟩
    refine ⟨_, rfl, ixl (j := 0) hp rfl ⟨_, _, rfl, rfl, _, rfl, ite2 (fun e => ?_) (fun e => ?_)⟩⟩
    · -- the cell's own digits
      refine ⟨_, rfl, ixl (j := 0) hp rfl ⟨_, rfl, _, _, rfl, rfl, m0, ?_⟩⟩
      refine ⟨_, rfl, ixl (j := 0) hp rfl ⟨_, rfl, _, _, rfl, rfl, wide_div m0 m1 (by decide) (by decide), ?_⟩⟩
      refine ⟨_, rfl, p, _, _, 0, rfl, rfl, hp, rfl, ?_⟩
      refine ⟨_, rfl, ?_⟩
      exact q _ _ (fun z hz => upd_ne hz) ⟨_, _, upd_same, Int.ediv_nonneg a0 (Int.le_of_lt m0), b0, b1⟩ (Int.emod_nonneg _ (by omega)) (Int.emod_lt_of_pos _ m0)
    · -- the mixed number
      refine ⟨_, rfl, ixl (j := 1) hp rfl ⟨_, _, rfl, rfl, mulx_ok (a := 64) (b := 64) (by omega) (by decide) (by decide), _, _, rfl, rfl, _, _, rfl, rfl, (by show (0 : Int) < 2147483399; decide), ?_⟩⟩
      refine ⟨_, rfl, p, _, _, 1, rfl, rfl, hp, rfl, ?_⟩
      have c0 : 0 ≤ (b * 40692 + 3791) % 2147483399 := Int.emod_nonneg _ (by decide)
      have c1 : (b * 40692 + 3791) % 2147483399 < 2147483399 := Int.emod_lt_of_pos _ (by decide)
      refine ⟨_, rfl, ixl (j := 1) upd_same rfl ⟨_, _, rfl, rfl, wide_div (by decide) (b := 64) (by decide) (by decide) (by decide), _, _, rfl, rfl, mulx_ok (a := 64) (b := 64) (by omega) (by decide) (by decide), ?_⟩⟩
      refine ⟨_, _, rfl, rfl, (by show (0 : Int) < 2147483249; decide), _, _, rfl, rfl, wide_div (by decide) (b := 64) (by decide) (by decide) (by decide), _, rfl, _, _, rfl, rfl, m0, ?_⟩
      exact q _ _ (fun z hz => upd_ne hz) ⟨_, _, upd_same, a0, c0, by omega⟩ (Int.emod_nonneg _ (by omega)) (Int.emod_lt_of_pos _ m0)
theorem cut_ints (ns : List Int) (lo hi : Option Int) : ∃ ms : List Int, cutV (ns.map V.int) lo hi = ms.map V.int ∧ ms.length ≤ ns.length := by
  refine ⟨(ns.drop (HT.sIx (ns.map V.int).length 0 lo)).take (HT.sIx (ns.map V.int).length (ns.map V.int).length hi - HT.sIx (ns.map V.int).length 0 lo), ?_, ?_⟩
  · unfold cutV
    rw [List.map_take, List.map_drop]
  · rw [List.length_take, List.length_drop]
    omega
theorem ok_bag {f : Addr} {fd : FuncData} (F : Fun K "_law_bag" "_law_bag" s_l_bag f fd) (T : Bl mg) : FnOk P w K mg base L2.CX0 1 f fd ["_law_script", "_law_at"] (spBag K) := by
  refine F.ok sc_l_bag (fun vs H Q E h => ?_) (fun cdv A outer s H vs Q E hr h => ?_)
  · obtain ⟨a, ns, k, rfl, _⟩ := h
    rfl
  · obtain ⟨a, ns, k, rfl, hS, hlen, k0, k1, q⟩ := h
    have nd := sc_l_bag.nd
    refine ⟨_, (pss_cons (ps_set (i := 2) nd rfl (.inl rfl) (pe_cut (pe_ifExp (pt_cmpR op_lt (pv 1) (pe_callB call_len (by rfl) T.b_len (by decide +kernel) (pa_cons (pv 0) pa_nil)) (nomark _)) (pe_ix ix_seq (pv 0) (pv 1) (fun _ _ => rfl)) pe_int)))
      (pss_cons (ps_set (i := 3) nd rfl (.inl rfl) (pe_op op_add (pe_op op_mulX pe_int (pv 1)) pe_int))
      (pss_cons (ps_for PassesOwn.never rfl (pi_enum (by rfl) T.b_enumerate (pa_cons (pe_slice sl_list (pv 0) po_none (po_some pe_int)) pa_nil)) (pg_tup rfl (pgs_cons (pg_name (i := 4) nd rfl (.inl rfl)) (pgs_cons (pg_name (i := 5) nd rfl (.inl rfl)) pgs_nil)))
        (pss_one (ps_set (i := 3) nd rfl (.inl rfl) (pe_op op_mod (pe_op op_add (pe_op op_add (pe_op op_mulX (pv 3) pe_int) (pe_op op_mod (pv 5) pe_int)) (pe_op op_mulX pe_int (pv 4))) pe_int))))
      (pss_one (ps_ret (pe_lst (pa_cons (pe_cut (pe_ifExp (pt_cmpR op_ge (pe_callB call_abs (by rfl) T.b_abs (by decide +kernel) (pa_cons (pv 2) pa_nil)) (pe_op op_pow pe_int pe_int) (nomark _)) (pe_callB call_abs (by rfl) T.b_abs (by decide +kernel) (pa_cons (pv 2) pa_nil)) pe_int)) (pa_cons (pv 3) pa_nil)))))))), ?_⟩
    -- the cell
    refine ⟨fun v H' => (∃ c : Int, v = .int c) ∧ H' = H, ?_, ?_⟩
    · refine ⟨_, rfl, _, rfl, .ref a, _, rfl, .inl ⟨_, hS, rfl⟩, _, _, rfl, rfl, _, rfl, ite2 (fun e => ?_) (fun _ => ⟨⟨0, rfl⟩, rfl⟩)⟩
      have hk : k.toNat < ns.length := by
        have e1 := of_decide_eq_true e
        rw [List.length_map] at e1
        omega
      exact ⟨_, rfl, _, rfl, ixlS (j := k.toNat) (v := .int ns[k.toNat]) hS (by omega) (by rw [List.getElem?_map, List.getElem?_eq_getElem hk]; rfl) ⟨⟨_, rfl⟩, rfl⟩⟩
    rintro _ H0 ⟨⟨cell, rfl⟩, rfl⟩
    refine ⟨_, rfl, _, _, rfl, rfl, mulx_ok (a := 64) (b := 64) (by decide) (by omega) (by decide), _, _, rfl, rfl, ?_⟩
    -- the first thirty cells
    refine ⟨_, rfl, 30, rfl, a, _, rfl, hS, fun c nc => ?_⟩
    obtain ⟨ms, ems, hms⟩ := cut_ints ns none (some 30)
    have sc : Same H0 (upd H0 c (.lst (cutV (ns.map V.int) none (some 30)))) := Same.up0 nc
    refine ⟨c, _, rfl, SqL.of upd_same, ?_⟩
    refine for_enum (xs := ms.map V.int) (fun i σ H2 => ∃ (m : Int) (y4 y5 : Option V), σ = [some (.ref a), some (.int k), some (.int cell), some (.int m), y4, y5] ∧ 0 ≤ m ∧ m < 2147483563 ∧ Same H0 H2 ∧ H2 c = some (.lst (ms.map V.int))) ⟨_, none, none, rfl, by omega, by omega, sc, by rw [upd_same, ems]⟩
      (fun i σ H2 _ ⟨_, _, _, _, _, _, _, hc⟩ => SqL.of hc) ?_ ?_
    · rintro i x tp σ H2 hx ⟨m, y4, y5, rfl, m0, m1, s2, hc⟩ nt
      have hi : i < ms.length := by
        have q1 := (List.getElem?_eq_some_iff.mp hx).1
        rw [List.length_map] at q1
        exact q1
      rw [List.getElem?_map, List.getElem?_eq_getElem hi] at hx
      obtain rfl := (Option.some.inj hx).symm
      refine ⟨tp, _, rfl, SqT.of upd_same, rfl, _, _, rfl, _, _, rfl, rfl, ?_⟩
      refine ⟨_, rfl, _, _, rfl, rfl, mulx_ok (a := 64) (b := 64) (by omega) (by decide) (by decide), _, rfl, _, _, rfl, rfl, (by show (0 : Int) < 2147483563; decide), _, _, rfl, rfl, _, rfl, _, _, rfl, rfl, mulx_ok (a := 64) (b := 64) (by decide) (by omega) (by decide), _, _, rfl, rfl, _, _, rfl, rfl, (by show (0 : Int) < 2147483563; decide), ?_⟩
      refine ⟨_, _, _, rfl, Int.emod_nonneg _ (by decide), Int.emod_lt_of_pos _ (by decide), Same.up s2 nt, ?_⟩
      rw [upd_ne (ne_of_none hc nt)]
      exact hc
    · rintro σ H2 ⟨m, y4, y5, rfl, m0, m1, s2, hc⟩
      -- the bag
      have last : ∀ d : Int, 0 ≤ d → ∀ p, H2 p = none → Q (.ref p) (upd H2 p (.lst [.int d, .int m])) := fun d d0 p np =>
        q _ p (Same.up s2 np) (s2.free np) ⟨d, m, upd_same, d0, m0, m1⟩
      refine ⟨fun v H3 => (∃ d : Int, v = .int d ∧ 0 ≤ d) ∧ H3 = H2, ?_, ?_⟩
      · have ha : ∀ z : Int, 0 ≤ (if z < 0 then -z else z) := fun z => by
          split <;> omega
        refine ⟨_, rfl, _, rfl, _, _, rfl, rfl, ⟨by decide, by decide, by decide⟩, _, _, rfl, rfl, _, rfl, ite2 (fun _ => ?_) (fun _ => ⟨⟨0, rfl, by decide⟩, rfl⟩)⟩
        exact ⟨_, rfl, _, rfl, ⟨_, rfl, ha _⟩, rfl⟩
      rintro _ _ ⟨⟨d, rfl, d0⟩, rfl⟩
      exact ⟨_, rfl, lens 2 (by decide), last d d0⟩
end
/-! ### parts -/
section
variable {P : Program} {w : World} {K : PySem.W.Frag} {mg : Str → Option Value} {base : Heap}
theorem ok_plain {f : Addr} {fd : FuncData} (F : Fun K "is_plain_int" "is_plain_int" s_is_plain_int f fd) (T : Bl mg) : FnOk P w K mg base L2.CX0 1 f fd ["thing"] (spPlain K) := by
  refine F.ok sc_is_plain_int (fun vs H Q E h => ?_) (fun cdv A outer s H vs Q E hr h => ?_)
  · obtain ⟨x, n, rfl, _⟩ := h
    rfl
  · obtain ⟨x, n, rfl, ty, hn, q⟩ := h
    have nd := sc_is_plain_int.nd
    refine ⟨_, (pss_one (ps_ret (pe_and (pe_callB call_isi (by rfl) T.b_isinstance (by decide +kernel) (pa_cons (pv 0) (pa_cons (pe_bltn (v := .ty "int") (by rfl) T.b_int (by decide +kernel) rfl) pa_nil))) (pe_one (pe_not (pe_callB call_isi (by rfl) T.b_isinstance (by decide +kernel) (pa_cons (pv 0) (pa_cons (pe_bltn (v := .ty "bool") (by rfl) T.b_bool (by decide +kernel) rfl) pa_nil)))))))), ?_⟩
    by_cases h1 : n = "int"
    · subst h1
      rw [decide_eq_true rfl] at q
      exact ⟨_, rfl, x, .ty "int", _, _, true, rfl, .ty _, ty, kit_ty (by decide +kernel), true, rfl, iteT ⟨_, rfl, x, .ty "bool", _, _, false, rfl, .ty _, ty, kit_ty (by decide +kernel), false, rfl, q⟩⟩
    · rw [decide_eq_false h1] at q
      by_cases h2 : n = "bool"
      · subst h2
        exact ⟨_, rfl, x, .ty "int", _, _, true, rfl, .ty _, ty, kit_ty (by decide +kernel), true, rfl, iteT ⟨_, rfl, x, .ty "bool", _, _, true, rfl, .ty _, ty, kit_ty (by decide +kernel), true, rfl, q⟩⟩
      · have h3 : kitB n "int" = some false := by
          simp only [kinds, List.mem_cons, List.not_mem_nil, or_false] at hn
          rcases hn with rfl | rfl | rfl | rfl | rfl | rfl | rfl
          · decide +kernel
          · exact absurd rfl h2
          · exact absurd rfl h1
          · decide +kernel
          · decide +kernel
          · decide +kernel
          · decide +kernel
        exact ⟨_, rfl, x, .ty "int", _, _, false, rfl, .ty _, ty, kit_ty h3, false, rfl, iteF q⟩
theorem ok_pow2 {f : Addr} {fd : FuncData} (F : Fun K "is_power_of_two" "is_power_of_two" s_is_power_of_two f fd) : FnOk P w K mg base L2.CX0 1 f fd ["number"] spPow2 := by
  refine F.ok sc_is_power_of_two (fun vs H Q E h => ?_) (fun cdv A outer s H vs Q E hr h => ?_)
  · obtain ⟨b, rfl, _⟩ := h
    rfl
  · obtain ⟨b, rfl, q⟩ := h
    have nd := sc_is_power_of_two.nd
    refine ⟨_, (pss_one (ps_ret (pe_cmpR op_eq (pe_op op_and (pv 0) (pe_op op_sub (pv 0) pe_int)) pe_int (nomark _)))), ?_⟩
    refine ⟨_, rfl, _, rfl, _, _, rfl, rfl, _, _, rfl, rfl, rfl, ?_⟩
    have e : decide (V.int (Builtin.bitAnd b (b - 1)) = V.int 0) = decide (Builtin.bitAnd b (b - 1) = 0) := by
      rw [dec_int, Bool.beq_eq_decide_eq]
    show Q (.bl (decide (V.int (Builtin.bitAnd b (b - 1)) = V.int 0))) H
    rw [e]
    exact q
theorem ok_isPart {f : Addr} {fd : FuncData} (F : Fun K "is_part" "is_part" s_is_part f fd) (T : Bl mg) (c_is_plain_int : Cal P w K mg base 1 "is_plain_int" (spPlain K)) (c_is_power_of_two : Cal P w K mg base 1 "is_power_of_two" spPow2) :
    FnOk P w K mg base L2.CX0 2 f fd ["thing"] (spIsPart K) := by
  refine F.ok sc_is_part (fun vs H Q E h => ?_) (fun cdv A outer s H vs Q E hr h => ?_)
  · rcases h with ⟨x, n, rfl, _⟩ | ⟨a, xs, rfl, _⟩
    · rfl
    · rfl
  · have nd := sc_is_part.nd
    refine ⟨_, (pss_cons (ps_if (PW.pt (pw_or (pt_not (pt_val (pe_callB call_isi (by rfl) T.b_isinstance (by decide +kernel) (pa_cons (pv 0) (pa_cons (pe_bltn (v := .ty "tuple") (by rfl) T.b_tuple (by decide +kernel) rfl) pa_nil))))) (pw_or1 (pt_cmpR op_ne (pe_callB call_len (by rfl) T.b_len (by decide +kernel) (pa_cons (pv 0) pa_nil)) pe_int (nomark _)))))
        (pss_one (ps_ret pe_bl))
        pss_nil)
      (pss_cons (ps_asg (pv 0) (pg_tup rfl (pgs_cons (pg_name (i := 1) nd rfl (.inl rfl)) (pgs_cons (pg_name (i := 2) nd rfl (.inl rfl)) pgs_nil))))
      (pss_cons (ps_if (PW.pt (pw_or (pt_not (pt_val (pe_f c_is_plain_int hr rfl (pa_cons (pv 1) pa_nil)))) (pw_or1 (pt_not (pt_val (pe_f c_is_plain_int hr rfl (pa_cons (pv 2) pa_nil)))))))
        (pss_one (ps_ret pe_bl))
        pss_nil)
      (pss_cons (ps_if (PW.pt (pw_or (pt_cmpR op_lt (pv 2) pe_int (nomark _)) (pw_or1 (pt_not (pt_val (pe_f c_is_power_of_two hr rfl (pa_cons (pv 2) pa_nil)))))))
        (pss_one (ps_ret pe_bl))
        pss_nil)
      (pss_one (ps_ret (pe_and (pe_chain op_le op_le pe_int (pv 1) (pv 2)) (pe_one (pe_or (pe_cmpR op_eq (pv 2) pe_int (nomark _)) (pe_one (pe_cmpR op_eq (pe_op op_and (pv 1) pe_int) pe_int (nomark _)))))))))))), ?_⟩
    rcases h with ⟨x, n, rfl, ty, hn, h1, q⟩ | ⟨a, xs, rfl, ha, hk, q⟩
    · have h3 : kitB n "tuple" = some false := by
        simp only [kinds, List.mem_cons, List.not_mem_nil, or_false] at hn
        rcases hn with rfl | rfl | rfl | rfl | rfl | rfl | rfl
        · decide +kernel
        · decide +kernel
        · decide +kernel
        · decide +kernel
        · decide +kernel
        · exact absurd rfl h1
        · decide +kernel
      exact ⟨_, rfl, ⟨x, .ty "tuple", _, _, false, rfl, .ty _, ty, kit_ty h3, false, rfl, iteT (iteT q)⟩⟩
    · refine ⟨_, rfl, ⟨.ref a, .ty "tuple", _, _, true, rfl, .ty _, .base (.tup ha), kit_ty (by decide +kernel), true, rfl, iteF ?_⟩⟩
      refine ⟨_, rfl, .ref a, _, rfl, .inr ⟨_, SqT.of ha, rfl⟩, rfl, _, rfl, ?_⟩
      match xs, ha, hk, q with
      | [x, y], ha, hk, q =>
        refine iteF ?_
        refine ⟨_, rfl, a, _, rfl, SqT.of ha, rfl, _, _, rfl, _, _, rfl, rfl, ?_⟩
        obtain ⟨nx, tx, hx⟩ := hk x (by simp)
        obtain ⟨ny, ty, hy⟩ := hk y (by simp)
        refine ⟨_, rfl, x, nx, rfl, tx, hx, _, rfl, ?_⟩
        by_cases ex : nx = "int"
        · rw [decide_eq_true ex]
          refine iteF ?_
          refine ⟨_, rfl, y, ny, rfl, ty, hy, _, rfl, ?_⟩
          by_cases ey : ny = "int"
          · rw [decide_eq_true ey]
            refine iteF ?_
            subst ex ey
            obtain ⟨i, rfl⟩ := tyx_int tx
            obtain ⟨j, rfl⟩ := tyx_int ty
            refine ⟨_, rfl, _, _, rfl, rfl, _, rfl, ite2 (fun e => ?_) (fun e => ?_)⟩
            · have e1 : ¬ (1 ≤ j) := by
                have := of_decide_eq_true e
                omega
              refine iteT ?_
              have e2 : tupPart [.int i, .int j] = false := by
                show partB i j = false
                unfold partB
                rw [decide_eq_false e1]
                rfl
              rw [e2] at q
              exact q
            · have e1 : 1 ≤ j := by
                have : ¬ (j < 1) := fun z => e (decide_eq_true z)
                omega
              refine ⟨_, rfl, j, rfl, _, rfl, ?_⟩
              have eP : tupPart [.int i, .int j] = (decide (Builtin.bitAnd j (j - 1) = 0) && (decide (0 ≤ i) && (decide (i ≤ j) && (decide (j = 1) || decide (Builtin.bitAnd i 1 = 1))))) := by
                show partB i j = _
                unfold partB
                rw [decide_eq_true e1, Bool.true_and]
              rw [eP] at q
              by_cases e3 : Builtin.bitAnd j (j - 1) = 0
              · rw [decide_eq_true e3] at q ⊢
                rw [Bool.true_and] at q
                refine iteF ?_
                refine ⟨_, rfl, _, _, rfl, rfl, _, rfl, ite2 (fun e => ?_) (fun e => ?_)⟩
                · have e4 : (0 : Int) ≤ i := of_decide_eq_true e
                  rw [decide_eq_true e4, Bool.true_and] at q
                  refine ⟨_, rfl, _, _, rfl, rfl, _, rfl, ?_⟩
                  by_cases e5 : i ≤ j
                  · rw [decide_eq_true e5] at q ⊢
                    rw [Bool.true_and] at q
                    refine iteT ⟨_, rfl, rfl, _, rfl, ?_⟩
                    by_cases e6 : j = 1
                    · subst e6
                      rw [decide_eq_true rfl, Bool.true_or] at q
                      rw [decide_eq_true rfl]
                      exact iteT q
                    · rw [decide_eq_false e6, Bool.false_or] at q
                      rw [decide_eq_false (fun z => e6 (V.int.inj z))]
                      refine iteF ⟨_, rfl, _, _, rfl, rfl, rfl, ?_⟩
                      show Q (.bl (decide (V.int (Builtin.bitAnd i 1) = V.int 1))) H
                      rw [dec_int, Bool.beq_eq_decide_eq]
                      exact q
                  · rw [decide_eq_false e5] at q ⊢
                    exact iteF q
                · have e4 : ¬ (0 : Int) ≤ i := fun z => e (decide_eq_true z)
                  rw [decide_eq_false e4] at q
                  exact ⟨_, rfl, iteF q⟩
              · rw [decide_eq_false e3] at q ⊢
                exact iteT q
          · rw [decide_eq_false ey]
            refine iteT ?_
            have e2 : tupPart [x, y] = false := by
              match y, ty with
              | .int j, ty => exact absurd (tyx_is ty) ey
              | .non, _ => cases x <;> rfl
              | .bl _, _ => cases x <;> rfl
              | .str _, _ => cases x <;> rfl
              | .byt _, _ => cases x <;> rfl
              | .flt _, _ => cases x <;> rfl
              | .ref _, _ => cases x <;> rfl
              | .ty _, _ => cases x <;> rfl
            rw [e2] at q
            exact q
        · rw [decide_eq_false ex]
          refine iteT ?_
          have e2 : tupPart [x, y] = false := by
            match x, tx with
            | .int j, tx => exact absurd (tyx_is tx) ex
            | .non, _ => rfl
            | .bl _, _ => rfl
            | .str _, _ => rfl
            | .byt _, _ => rfl
            | .flt _, _ => rfl
            | .ref _, _ => rfl
            | .ty _, _ => rfl
          rw [e2] at q
          exact q
      | [], ha, hk, q => exact iteT q
      | [x], ha, hk, q =>
        have e2 : tupPart [x] = false := by cases x <;> rfl
        rw [e2] at q
        exact iteT q
      | x :: y :: z :: r, ha, hk, q =>
        have e2 : tupPart (x :: y :: z :: r) = false := by cases x <;> cases y <;> rfl
        rw [e2] at q
        have e3 : (!decide (V.int ((((x :: y :: z :: r).length : Nat) : Int)) = V.int 2)) = true := by
          rw [dec_int]
          have : ((((x :: y :: z :: r).length : Nat) : Int) == 2) = false := beq_eq_false_iff_ne.mpr (by simp only [List.length_cons]; omega)
          rw [this]
          rfl
        show (if (!decide (V.int ((((x :: y :: z :: r).length : Nat) : Int)) = V.int 2)) = true then _ else _)
        rw [e3]
        exact iteT q
end
/-! ### the law's own look at parts -/
section
variable {P : Program} {w : World} {K : PySem.W.Frag} {mg : Str → Option Value} {base : Heap}
theorem ok_whole {f : Addr} {fd : FuncData} (F : Fun K "_law_whole" "_law_whole" s_l_whole f fd) (T : Bl mg) : FnOk P w K mg base L2.CX0 1 f fd ["_law_thing"] (spPlain K) := by
  refine F.ok sc_l_whole (fun vs H Q E h => ?_) (fun cdv A outer s H vs Q E hr h => ?_)
  · obtain ⟨x, n, rfl, _⟩ := h
    rfl
  · obtain ⟨x, n, rfl, ty, hn, q⟩ := h
    have nd := sc_l_whole.nd
    refine ⟨_, (pss_one (ps_ret (pe_and (pe_callB call_isi (by rfl) T.b_isinstance (by decide +kernel) (pa_cons (pv 0) (pa_cons (pe_bltn (v := .ty "int") (by rfl) T.b_int (by decide +kernel) rfl) pa_nil))) (pe_one (pe_not (pe_callB call_isi (by rfl) T.b_isinstance (by decide +kernel) (pa_cons (pv 0) (pa_cons (pe_bltn (v := .ty "bool") (by rfl) T.b_bool (by decide +kernel) rfl) pa_nil)))))))), ?_⟩
    by_cases h1 : n = "int"
    · subst h1
      rw [decide_eq_true rfl] at q
      exact ⟨_, rfl, x, .ty "int", _, _, true, rfl, .ty _, ty, kit_ty (by decide +kernel), true, rfl, iteT ⟨_, rfl, x, .ty "bool", _, _, false, rfl, .ty _, ty, kit_ty (by decide +kernel), false, rfl, q⟩⟩
    · rw [decide_eq_false h1] at q
      by_cases h2 : n = "bool"
      · subst h2
        exact ⟨_, rfl, x, .ty "int", _, _, true, rfl, .ty _, ty, kit_ty (by decide +kernel), true, rfl, iteT ⟨_, rfl, x, .ty "bool", _, _, true, rfl, .ty _, ty, kit_ty (by decide +kernel), true, rfl, q⟩⟩
      · have h3 : kitB n "int" = some false := by
          simp only [kinds, List.mem_cons, List.not_mem_nil, or_false] at hn
          rcases hn with rfl | rfl | rfl | rfl | rfl | rfl | rfl
          · decide +kernel
          · exact absurd rfl h2
          · exact absurd rfl h1
          · decide +kernel
          · decide +kernel
          · decide +kernel
          · decide +kernel
        exact ⟨_, rfl, x, .ty "int", _, _, false, rfl, .ty _, ty, kit_ty h3, false, rfl, iteF q⟩
theorem ok_lisPart {f : Addr} {fd : FuncData} (F : Fun K "_law_is_part" "_law_is_part" s_l_is_part f fd) (T : Bl mg) (c_law_whole : Cal P w K mg base 1 "_law_whole" (spPlain K)) : FnOk P w K mg base L2.CX0 2 f fd ["_law_thing"] (spLIsPart K) := by
  refine F.ok sc_l_is_part (fun vs H Q E h => ?_) (fun cdv A outer s H vs Q E hr h => ?_)
  · rcases h with ⟨x, n, rfl, _⟩ | ⟨a, xs, rfl, _⟩
    · rfl
    · rfl
  · have nd := sc_l_is_part.nd
    refine ⟨_, (pss_cons (ps_if (PW.pt (pw_or (pt_not (pt_val (pe_callB call_isi (by rfl) T.b_isinstance (by decide +kernel) (pa_cons (pv 0) (pa_cons (pe_bltn (v := .ty "tuple") (by rfl) T.b_tuple (by decide +kernel) rfl) pa_nil))))) (pw_or (pt_cmpR op_ne (pe_callB call_len (by rfl) T.b_len (by decide +kernel) (pa_cons (pv 0) pa_nil)) pe_int (nomark _)) (pw_or1 (pt_not (pt_val (pe_callB (cr_all rfl) (by rfl) T.b_all (by decide +kernel) (pa_cons (pe_lc (own := [("_law_number", 1)]) (g := gName 1) (tt := tYes) rfl nd (pi_tup (pv 0)) (blkOk_by (N := ["_law_thing", "_law_number", "_law_top", "_law_bottom"]) (sc := defScope s_l_is_part) (by decide +kernel)) (fun _ _ _ _ _ => pg_name (i := 1) nd rfl (.inl rfl)) (fun _ _ _ _ _ => pts_nil) (fun _ _ _ _ _ => (pe_f c_law_whole hr rfl (pa_cons (pv 1) pa_nil)))) pa_nil))))))))
        (pss_one (ps_ret pe_bl))
        pss_nil)
      (pss_cons (ps_asg (pv 0) (pg_tup rfl (pgs_cons (pg_name (i := 2) nd rfl (.inl rfl)) (pgs_cons (pg_name (i := 3) nd rfl (.inl rfl)) pgs_nil))))
      (pss_cons (ps_if (PW.pt (pw_or (pt_cmpR op_lt (pv 3) pe_int (nomark _)) (pw_or (pt_cmpR op_ne (pe_op op_and (pv 3) (pe_op op_sub (pv 3) pe_int)) pe_int (nomark _)) (pw_or1 (pt_not (pt_chain op_le op_le pe_int (pv 2) (pv 3)))))))
        (pss_one (ps_ret pe_bl))
        pss_nil)
      (pss_one (ps_ret (pe_or (pe_cmpR op_eq (pv 3) pe_int (nomark _)) (pe_one (pe_cmpR op_eq (pe_op op_mod (pv 2) pe_int) pe_int (nomark _))))))))), ?_⟩
    rcases h with ⟨x, n, rfl, ty, hn, h1, q⟩ | ⟨a, xs, rfl, ha, hk, q⟩
    · exact ⟨_, rfl, ⟨x, .ty "tuple", _, _, false, rfl, .ty _, ty, kit_ty (kit_tuple hn h1), false, rfl, iteT (iteT (q H (Same.refl H)))⟩⟩
    · refine ⟨_, rfl, ⟨.ref a, .ty "tuple", _, _, true, rfl, .ty _, .base (.tup ha), kit_ty (by decide +kernel), true, rfl, iteF ?_⟩⟩
      refine ⟨_, rfl, .ref a, _, rfl, .inr ⟨_, SqT.of ha, rfl⟩, rfl, _, rfl, ?_⟩
      by_cases hl : xs.length = 2
      · match xs, hl, ha, hk, q with
        | [x, y], _, ha, hk, q =>
        refine iteF ?_
        obtain ⟨nx, tx, hx⟩ := hk x (by simp)
        obtain ⟨ny, ty, hy⟩ := hk y (by simp)
        -- each of both
        refine ⟨_, rfl, a, rfl, ⟨_, SqT.of ha⟩, fun D hD => ?_⟩
        refine lc_tup (xs := [x, y]) (fun i H' => H' D = some (.lst ((([decide (nx = "int"), decide (ny = "int")] : List Bool).take i).map V.bl)) ∧ Same H H') ⟨upd_same, Same.up0 hD⟩ (fun i H' _ ⟨_, s⟩ => SqT.of (s _ _ ha)) ?_ ?_
        · rintro i v H1 hv ⟨h1, s1⟩
          match i, hv with
          | 0, hv =>
            obtain rfl := Option.some.inj hv
            refine ⟨rfl, ?_⟩
            exact ⟨_, rfl, x, nx, rfl, tyx_same s1 tx, hx, [], h1, by decide, upd_same, Same.mut s1 hD⟩
          | 1, hv =>
            obtain rfl := Option.some.inj hv
            refine ⟨rfl, ?_⟩
            exact ⟨_, rfl, y, ny, rfl, tyx_same s1 ty, hy, [.bl (decide (nx = "int"))], h1, (by show (1 : Nat) < sizeLine; decide), upd_same, Same.mut s1 hD⟩
          | i + 2, hv => exact absurd hv (by simp)
        · rintro H1 ⟨h1, s1⟩
          refine ⟨D, [decide (nx = "int"), decide (ny = "int")], rfl, SqL.of h1, _, rfl, ?_⟩
          by_cases ex : nx = "int"
          · by_cases ey : ny = "int"
            · rw [decide_eq_true ex, decide_eq_true ey]
              refine iteF ?_
              subst ex ey
              obtain ⟨i, rfl⟩ := tyx_int tx
              obtain ⟨j, rfl⟩ := tyx_int ty
              have q1 := q H1 s1
              have eP : tupPart [.int i, .int j] = partB i j := rfl
              rw [eP] at q1
              unfold partB at q1
              refine ⟨_, rfl, a, _, rfl, SqT.of (s1 _ _ ha), rfl, _, _, rfl, _, _, rfl, rfl, ?_⟩
              refine ⟨_, rfl, _, _, rfl, rfl, _, rfl, ite2 (fun e => ?_) (fun e => ?_)⟩
              · have e1 := of_decide_eq_true e
                rw [decide_eq_false (show ¬ (1 : Int) ≤ j by omega)] at q1
                exact iteT q1
              · have e1 : (1 : Int) ≤ j := by
                  have : ¬ (j < 1) := fun z => e (decide_eq_true z)
                  omega
                rw [decide_eq_true e1, Bool.true_and] at q1
                refine ⟨_, rfl, _, rfl, _, _, rfl, rfl, _, _, rfl, rfl, rfl, _, rfl, ?_⟩
                show if (!decide (V.int (Builtin.bitAnd j (j - 1)) = V.int 0)) = true then _ else _
                rw [dec_int]
                by_cases e2 : Builtin.bitAnd j (j - 1) = 0
                · rw [decide_eq_true e2, Bool.true_and] at q1
                  rw [beq_iff_eq.mpr e2]
                  refine iteF ⟨_, rfl, _, _, rfl, rfl, _, rfl, ite2 (fun e => ?_) (fun e => ?_)⟩
                  · have e3 : (0 : Int) ≤ i := of_decide_eq_true e
                    rw [decide_eq_true e3, Bool.true_and] at q1
                    refine ⟨_, rfl, _, _, rfl, rfl, _, rfl, ?_⟩
                    by_cases e4 : i ≤ j
                    · rw [decide_eq_true e4] at q1 ⊢
                      rw [Bool.true_and] at q1
                      refine iteF ⟨_, rfl, rfl, _, rfl, ?_⟩
                      by_cases e6 : j = 1
                      · subst e6
                        rw [decide_eq_true rfl, Bool.true_or] at q1
                        rw [decide_eq_true rfl]
                        exact iteT q1
                      · rw [decide_eq_false e6, Bool.false_or, bitAnd_m1] at q1
                        rw [decide_eq_false (fun z => e6 (V.int.inj z))]
                        refine iteF ⟨_, rfl, _, _, rfl, rfl, (by show (0 : Int) < 2; decide), rfl, ?_⟩
                        show Q (.bl (decide (V.int (i % 2) = V.int 1))) H1
                        rw [dec_int, Bool.beq_eq_decide_eq]
                        exact q1
                    · rw [decide_eq_false e4] at q1 ⊢
                      exact iteT q1
                  · have e3 : ¬ (0 : Int) ≤ i := fun z => e (decide_eq_true z)
                    rw [decide_eq_false e3] at q1
                    exact ⟨_, rfl, iteT q1⟩
                · rw [decide_eq_false e2] at q1
                  rw [beq_eq_false_iff_ne.mpr e2]
                  exact iteT q1
            · rw [decide_eq_false ey]
              have q1 := q H1 s1
              rw [tupPart_r ty ey] at q1
              rw [show ([decide (nx = "int"), false] : List Bool).all id = false by cases decide (nx = "int") <;> rfl]
              exact iteT q1
          · rw [decide_eq_false ex]
            have q1 := q H1 s1
            rw [tupPart_l tx ex] at q1
            exact iteT q1
      · have q1 := q H (Same.refl H)
        rw [tupPart_no hl] at q1
        have e3 : (!decide (V.int ((xs.length : Nat) : Int) = V.int 2)) = true := by
          rw [dec_int, beq_eq_false_iff_ne.mpr (by omega)]
          rfl
        show (if (!decide (V.int ((xs.length : Nat) : Int) = V.int 2)) = true then _ else _)
        rw [e3]
        exact iteT q1
end
/-! ### things of any kind -/
section
variable {P : Program} {w : World} {K : PySem.W.Frag} {mg : Str → Option Value} {base : Heap}
theorem ok_odd {f : Addr} {fd : FuncData} (F : Fun K "_law_odd" "_law_odd" s_l_odd f fd) (c_law_take : Cal P w K mg base 1 "_law_take" spTake) : FnOk P w K mg base L2.CX0 2 f fd ["_law_bag_here"] spThing := by
  refine F.ok sc_l_odd (fun vs H Q E h => ?_) (fun cdv A outer s H vs Q E hr h => ?_)
  · obtain ⟨p, rfl, _⟩ := h
    rfl
  · obtain ⟨p, rfl, hB, q⟩ := h
    have nd := sc_l_odd.nd
    obtain ⟨hb1, hb2, hb0, _⟩ := id hB
    refine ⟨_, (pss_cons (ps_set (i := 1) nd rfl (.inl rfl) (pe_lst (pa_cons pe_non (pa_cons pe_bl (pa_cons pe_bl (pa_cons pe_int (pa_cons pe_int (pa_cons (pe_un un_neg pe_int) (pa_cons (pe_op op_pow pe_int pe_int) (pa_cons pe_str (pa_cons pe_str (pa_cons pe_str (pa_cons (pe_tup pa_nil) (pa_cons (pe_lst pa_nil) (pa_cons (pe_tup (pa_cons pe_int pa_nil)) (pa_cons (pe_lst (pa_cons pe_int (pa_cons pe_int pa_nil))) (pa_cons pe_dnewK (pa_cons (pe_d1 (key := Sum.inr "a") pe_str pe_int) (pa_cons (pe_tup (pa_cons pe_int (pa_cons pe_int (pa_cons pe_int pa_nil)))) pa_nil)))))))))))))))))))
      (pss_cons (ps_set (i := 1) nd rfl (.inl rfl) (pe_op op_cat (pv 1) (pe_lst (pa_cons (pe_tup (pa_cons pe_non (pa_cons pe_int pa_nil))) (pa_cons (pe_tup (pa_cons pe_str (pa_cons pe_str pa_nil))) (pa_cons (pe_tup (pa_cons (pe_tup (pa_cons pe_int (pa_cons pe_int pa_nil))) pa_nil)) (pa_cons (pe_lst (pa_cons (pe_tup (pa_cons pe_int (pa_cons pe_int pa_nil))) pa_nil)) (pa_cons (pe_tup (pa_cons pe_int (pa_cons (pe_lst (pa_cons pe_int pa_nil)) pa_nil))) (pa_cons (pe_tup (pa_cons pe_str pa_nil)) (pa_cons (pe_d1t (key := Sum.inl 1) (xs := [.int 1, .int 2]) pe_int (pa_cons pe_int (pa_cons pe_int pa_nil)) (fun _ _ _ q => q) (lens 2 (by decide))) pa_nil))))))))))
      (pss_one (ps_ret (pe_ix ix_seq (pv 1) (pe_f c_law_take hr rfl (pa_cons (pv 0) (pa_cons pe_int pa_nil))) (fun _ _ => rfl)))))), ?_⟩
    refine ⟨_, rfl, _, _, rfl, rfl, ⟨by decide, by decide, by decide⟩, lens 0 (by decide), fun a1 n1 => ?_⟩
    have s1 := Same.up0 (o := .tup []) n1
    have f1 : upd H a1 (.tup []) a1 = some (.tup []) := upd_same
    generalize upd H a1 (.tup []) = H1 at s1 f1 ⊢
    refine ⟨lens 0 (by decide), fun a2 n2 => ?_⟩
    have s2 := Same.up0 (o := .lst []) n2
    have f2 : upd H1 a2 (.lst []) a2 = some (.lst []) := upd_same
    generalize upd H1 a2 (.lst []) = H2 at s2 f2 ⊢
    refine ⟨lens 1 (by decide), fun a3 n3 => ?_⟩
    have s3 := Same.up0 (o := .tup [.int 1]) n3
    have f3 : upd H2 a3 (.tup [.int 1]) a3 = some (.tup [.int 1]) := upd_same
    generalize upd H2 a3 (.tup [.int 1]) = H3 at s3 f3 ⊢
    refine ⟨lens 2 (by decide), fun a4 n4 => ?_⟩
    have s4 := Same.up0 (o := .lst [.int 1, .int 2]) n4
    have f4 : upd H3 a4 (.lst [.int 1, .int 2]) a4 = some (.lst [.int 1, .int 2]) := upd_same
    generalize upd H3 a4 (.lst [.int 1, .int 2]) = H4 at s4 f4 ⊢
    refine fun a5 n5 => ?_
    have s5 := Same.up0 (o := .dK []) n5
    have f5 : upd H4 a5 (.dK []) a5 = some (.dK []) := upd_same
    generalize upd H4 a5 (.dK []) = H5 at s5 f5 ⊢
    refine fun a6 n6 => ?_
    have s6 := Same.up0 (o := .dK [((Sum.inr "a" : Key), (.int 1 : V))]) n6
    have f6 : upd H5 a6 (.dK [((Sum.inr "a" : Key), (.int 1 : V))]) a6 = some (.dK [((Sum.inr "a" : Key), (.int 1 : V))]) := upd_same
    generalize upd H5 a6 (.dK [((Sum.inr "a" : Key), (.int 1 : V))]) = H6 at s6 f6 ⊢
    refine ⟨lens 3 (by decide), fun a7 n7 => ?_⟩
    have s7 := Same.up0 (o := .tup [.int 1, .int 2, .int 3]) n7
    have f7 : upd H6 a7 (.tup [.int 1, .int 2, .int 3]) a7 = some (.tup [.int 1, .int 2, .int 3]) := upd_same
    generalize upd H6 a7 (.tup [.int 1, .int 2, .int 3]) = H7 at s7 f7 ⊢
    refine ⟨lens 17 (by decide), fun a8 n8 => ?_⟩
    have s8 := Same.up0 (o := .lst [.non, .bl true, .bl false, .int 0, .int 1, .int (-1), .int (10 ^ (39 : Int).toNat), .str "", .str "1/2", .str "x", .ref a1, .ref a2, .ref a3, .ref a4, .ref a5, .ref a6, .ref a7]) n8
    have f8 : upd H7 a8 (.lst [.non, .bl true, .bl false, .int 0, .int 1, .int (-1), .int (10 ^ (39 : Int).toNat), .str "", .str "1/2", .str "x", .ref a1, .ref a2, .ref a3, .ref a4, .ref a5, .ref a6, .ref a7]) a8 = some (.lst [.non, .bl true, .bl false, .int 0, .int 1, .int (-1), .int (10 ^ (39 : Int).toNat), .str "", .str "1/2", .str "x", .ref a1, .ref a2, .ref a3, .ref a4, .ref a5, .ref a6, .ref a7]) := upd_same
    generalize upd H7 a8 (.lst [.non, .bl true, .bl false, .int 0, .int 1, .int (-1), .int (10 ^ (39 : Int).toNat), .str "", .str "1/2", .str "x", .ref a1, .ref a2, .ref a3, .ref a4, .ref a5, .ref a6, .ref a7]) = H8 at s8 f8 ⊢
    refine ⟨_, rfl, lens 2 (by decide), fun a9 n9 => ?_⟩
    have s9 := Same.up0 (o := .tup [.non, .int 1]) n9
    have f9 : upd H8 a9 (.tup [.non, .int 1]) a9 = some (.tup [.non, .int 1]) := upd_same
    generalize upd H8 a9 (.tup [.non, .int 1]) = H9 at s9 f9 ⊢
    refine ⟨lens 2 (by decide), fun a10 n10 => ?_⟩
    have s10 := Same.up0 (o := .tup [.str "1", .str "2"]) n10
    have f10 : upd H9 a10 (.tup [.str "1", .str "2"]) a10 = some (.tup [.str "1", .str "2"]) := upd_same
    generalize upd H9 a10 (.tup [.str "1", .str "2"]) = H10 at s10 f10 ⊢
    refine ⟨lens 2 (by decide), fun a11 n11 => ?_⟩
    have s11 := Same.up0 (o := .tup [.int 1, .int 2]) n11
    have f11 : upd H10 a11 (.tup [.int 1, .int 2]) a11 = some (.tup [.int 1, .int 2]) := upd_same
    generalize upd H10 a11 (.tup [.int 1, .int 2]) = H11 at s11 f11 ⊢
    refine ⟨lens 1 (by decide), fun a12 n12 => ?_⟩
    have s12 := Same.up0 (o := .tup [.ref a11]) n12
    have f12 : upd H11 a12 (.tup [.ref a11]) a12 = some (.tup [.ref a11]) := upd_same
    generalize upd H11 a12 (.tup [.ref a11]) = H12 at s12 f12 ⊢
    refine ⟨lens 2 (by decide), fun a13 n13 => ?_⟩
    have s13 := Same.up0 (o := .tup [.int 1, .int 2]) n13
    have f13 : upd H12 a13 (.tup [.int 1, .int 2]) a13 = some (.tup [.int 1, .int 2]) := upd_same
    generalize upd H12 a13 (.tup [.int 1, .int 2]) = H13 at s13 f13 ⊢
    refine ⟨lens 1 (by decide), fun a14 n14 => ?_⟩
    have s14 := Same.up0 (o := .lst [.ref a13]) n14
    have f14 : upd H13 a14 (.lst [.ref a13]) a14 = some (.lst [.ref a13]) := upd_same
    generalize upd H13 a14 (.lst [.ref a13]) = H14 at s14 f14 ⊢
    refine ⟨lens 1 (by decide), fun a15 n15 => ?_⟩
    have s15 := Same.up0 (o := .lst [.int 2]) n15
    have f15 : upd H14 a15 (.lst [.int 2]) a15 = some (.lst [.int 2]) := upd_same
    generalize upd H14 a15 (.lst [.int 2]) = H15 at s15 f15 ⊢
    refine ⟨lens 2 (by decide), fun a16 n16 => ?_⟩
    have s16 := Same.up0 (o := .tup [.int 1, .ref a15]) n16
    have f16 : upd H15 a16 (.tup [.int 1, .ref a15]) a16 = some (.tup [.int 1, .ref a15]) := upd_same
    generalize upd H15 a16 (.tup [.int 1, .ref a15]) = H16 at s16 f16 ⊢
    refine ⟨lens 1 (by decide), fun a17 n17 => ?_⟩
    have s17 := Same.up0 (o := .tup [.str "get"]) n17
    have f17 : upd H16 a17 (.tup [.str "get"]) a17 = some (.tup [.str "get"]) := upd_same
    generalize upd H16 a17 (.tup [.str "get"]) = H17 at s17 f17 ⊢
    refine fun a18 n18 => ?_
    have s18 := Same.up0 (o := .tup [.int 1, .int 2]) n18
    have f18 : upd H17 a18 (.tup [.int 1, .int 2]) a18 = some (.tup [.int 1, .int 2]) := upd_same
    generalize upd H17 a18 (.tup [.int 1, .int 2]) = H18 at s18 f18 ⊢
    refine fun a19 n19 => ?_
    have s19 := Same.up0 (o := .dK [((Sum.inl 1 : Key), (.ref a18 : V))]) n19
    have f19 : upd H18 a19 (.dK [((Sum.inl 1 : Key), (.ref a18 : V))]) a19 = some (.dK [((Sum.inl 1 : Key), (.ref a18 : V))]) := upd_same
    generalize upd H18 a19 (.dK [((Sum.inl 1 : Key), (.ref a18 : V))]) = H19 at s19 f19 ⊢
    refine ⟨lens 7 (by decide), fun a20 n20 => ?_⟩
    have s20 := Same.up0 (o := .lst [.ref a9, .ref a10, .ref a12, .ref a14, .ref a16, .ref a17, .ref a19]) n20
    have f20 : upd H19 a20 (.lst [.ref a9, .ref a10, .ref a12, .ref a14, .ref a16, .ref a17, .ref a19]) a20 = some (.lst [.ref a9, .ref a10, .ref a12, .ref a14, .ref a16, .ref a17, .ref a19]) := upd_same
    generalize upd H19 a20 (.lst [.ref a9, .ref a10, .ref a12, .ref a14, .ref a16, .ref a17, .ref a19]) = H20 at s20 f20 ⊢
    refine ⟨a8, a20, _, _, rfl, rfl, (s20 _ _ (s19 _ _ (s18 _ _ (s17 _ _ (s16 _ _ (s15 _ _ (s14 _ _ (s13 _ _ (s12 _ _ (s11 _ _ (s10 _ _ (s9 _ _ f8)))))))))))), f20, lens 24 (by decide), fun a21 n21 => ?_⟩
    have s21 := Same.up0 (o := .lst ([.non, .bl true, .bl false, .int 0, .int 1, .int (-1), .int (10 ^ (39 : Int).toNat), .str "", .str "1/2", .str "x", .ref a1, .ref a2, .ref a3, .ref a4, .ref a5, .ref a6, .ref a7] ++ [.ref a9, .ref a10, .ref a12, .ref a14, .ref a16, .ref a17, .ref a19])) n21
    have f21 : upd H20 a21 (.lst ([.non, .bl true, .bl false, .int 0, .int 1, .int (-1), .int (10 ^ (39 : Int).toNat), .str "", .str "1/2", .str "x", .ref a1, .ref a2, .ref a3, .ref a4, .ref a5, .ref a6, .ref a7] ++ [.ref a9, .ref a10, .ref a12, .ref a14, .ref a16, .ref a17, .ref a19])) a21 = some (.lst ([.non, .bl true, .bl false, .int 0, .int 1, .int (-1), .int (10 ^ (39 : Int).toNat), .str "", .str "1/2", .str "x", .ref a1, .ref a2, .ref a3, .ref a4, .ref a5, .ref a6, .ref a7] ++ [.ref a9, .ref a10, .ref a12, .ref a14, .ref a16, .ref a17, .ref a19])) := upd_same
    generalize upd H20 a21 (.lst ([.non, .bl true, .bl false, .int 0, .int 1, .int (-1), .int (10 ^ (39 : Int).toNat), .str "", .str "1/2", .str "x", .ref a1, .ref a2, .ref a3, .ref a4, .ref a5, .ref a6, .ref a7] ++ [.ref a9, .ref a10, .ref a12, .ref a14, .ref a16, .ref a17, .ref a19])) = H21 at s21 f21 ⊢
    have f21 : H21 a21 = some (.lst [.non, .bl true, .bl false, .int 0, .int 1, .int (-1), .int (10 ^ (39 : Int).toNat), .str "", .str "1/2", .str "x", .ref a1, .ref a2, .ref a3, .ref a4, .ref a5, .ref a6, .ref a7, .ref a9, .ref a10, .ref a12, .ref a14, .ref a16, .ref a17, .ref a19]) := f21
    have S21 : Same H21 H21 := Same.refl _
    have S20 : Same H20 H21 := s21.trans S21
    have S19 : Same H19 H21 := s20.trans S20
    have S18 : Same H18 H21 := s19.trans S19
    have S17 : Same H17 H21 := s18.trans S18
    have S16 : Same H16 H21 := s17.trans S17
    have S15 : Same H15 H21 := s16.trans S16
    have S14 : Same H14 H21 := s15.trans S15
    have S13 : Same H13 H21 := s14.trans S14
    have S12 : Same H12 H21 := s13.trans S13
    have S11 : Same H11 H21 := s12.trans S12
    have S10 : Same H10 H21 := s11.trans S11
    have S9 : Same H9 H21 := s10.trans S10
    have S8 : Same H8 H21 := s9.trans S9
    have S7 : Same H7 H21 := s8.trans S8
    have S6 : Same H6 H21 := s7.trans S7
    have S5 : Same H5 H21 := s6.trans S6
    have S4 : Same H4 H21 := s5.trans S5
    have S3 : Same H3 H21 := s4.trans S4
    have S2 : Same H2 H21 := s3.trans S3
    have S1 : Same H1 H21 := s2.trans S2
    have S0 : Same H H21 := s1.trans S1
    have g1 := S1 _ _ f1
    have q1 : a1 ≠ p := fun z => by rw [z, hb0] at n1; cases n1
    have g2 := S2 _ _ f2
    have q2 : a2 ≠ p := fun z => by rw [z, (s1 _ _ hb0)] at n2; cases n2
    have g3 := S3 _ _ f3
    have q3 : a3 ≠ p := fun z => by rw [z, (s2 _ _ (s1 _ _ hb0))] at n3; cases n3
    have g4 := S4 _ _ f4
    have q4 : a4 ≠ p := fun z => by rw [z, (s3 _ _ (s2 _ _ (s1 _ _ hb0)))] at n4; cases n4
    have g5 := S5 _ _ f5
    have q5 : a5 ≠ p := fun z => by rw [z, (s4 _ _ (s3 _ _ (s2 _ _ (s1 _ _ hb0))))] at n5; cases n5
    have g6 := S6 _ _ f6
    have q6 : a6 ≠ p := fun z => by rw [z, (s5 _ _ (s4 _ _ (s3 _ _ (s2 _ _ (s1 _ _ hb0)))))] at n6; cases n6
    have g7 := S7 _ _ f7
    have q7 : a7 ≠ p := fun z => by rw [z, (s6 _ _ (s5 _ _ (s4 _ _ (s3 _ _ (s2 _ _ (s1 _ _ hb0))))))] at n7; cases n7
    have g8 := S8 _ _ f8
    have q8 : a8 ≠ p := fun z => by rw [z, (s7 _ _ (s6 _ _ (s5 _ _ (s4 _ _ (s3 _ _ (s2 _ _ (s1 _ _ hb0)))))))] at n8; cases n8
    have g9 := S9 _ _ f9
    have q9 : a9 ≠ p := fun z => by rw [z, (s8 _ _ (s7 _ _ (s6 _ _ (s5 _ _ (s4 _ _ (s3 _ _ (s2 _ _ (s1 _ _ hb0))))))))] at n9; cases n9
    have g10 := S10 _ _ f10
    have q10 : a10 ≠ p := fun z => by rw [z, (s9 _ _ (s8 _ _ (s7 _ _ (s6 _ _ (s5 _ _ (s4 _ _ (s3 _ _ (s2 _ _ (s1 _ _ hb0)))))))))] at n10; cases n10
    have g11 := S11 _ _ f11
    have q11 : a11 ≠ p := fun z => by rw [z, (s10 _ _ (s9 _ _ (s8 _ _ (s7 _ _ (s6 _ _ (s5 _ _ (s4 _ _ (s3 _ _ (s2 _ _ (s1 _ _ hb0))))))))))] at n11; cases n11
    have g12 := S12 _ _ f12
    have q12 : a12 ≠ p := fun z => by rw [z, (s11 _ _ (s10 _ _ (s9 _ _ (s8 _ _ (s7 _ _ (s6 _ _ (s5 _ _ (s4 _ _ (s3 _ _ (s2 _ _ (s1 _ _ hb0)))))))))))] at n12; cases n12
    have g13 := S13 _ _ f13
    have q13 : a13 ≠ p := fun z => by rw [z, (s12 _ _ (s11 _ _ (s10 _ _ (s9 _ _ (s8 _ _ (s7 _ _ (s6 _ _ (s5 _ _ (s4 _ _ (s3 _ _ (s2 _ _ (s1 _ _ hb0))))))))))))] at n13; cases n13
    have g14 := S14 _ _ f14
    have q14 : a14 ≠ p := fun z => by rw [z, (s13 _ _ (s12 _ _ (s11 _ _ (s10 _ _ (s9 _ _ (s8 _ _ (s7 _ _ (s6 _ _ (s5 _ _ (s4 _ _ (s3 _ _ (s2 _ _ (s1 _ _ hb0)))))))))))))] at n14; cases n14
    have g15 := S15 _ _ f15
    have q15 : a15 ≠ p := fun z => by rw [z, (s14 _ _ (s13 _ _ (s12 _ _ (s11 _ _ (s10 _ _ (s9 _ _ (s8 _ _ (s7 _ _ (s6 _ _ (s5 _ _ (s4 _ _ (s3 _ _ (s2 _ _ (s1 _ _ hb0))))))))))))))] at n15; cases n15
    have g16 := S16 _ _ f16
    have q16 : a16 ≠ p := fun z => by rw [z, (s15 _ _ (s14 _ _ (s13 _ _ (s12 _ _ (s11 _ _ (s10 _ _ (s9 _ _ (s8 _ _ (s7 _ _ (s6 _ _ (s5 _ _ (s4 _ _ (s3 _ _ (s2 _ _ (s1 _ _ hb0)))))))))))))))] at n16; cases n16
    have g17 := S17 _ _ f17
    have q17 : a17 ≠ p := fun z => by rw [z, (s16 _ _ (s15 _ _ (s14 _ _ (s13 _ _ (s12 _ _ (s11 _ _ (s10 _ _ (s9 _ _ (s8 _ _ (s7 _ _ (s6 _ _ (s5 _ _ (s4 _ _ (s3 _ _ (s2 _ _ (s1 _ _ hb0))))))))))))))))] at n17; cases n17
    have g18 := S18 _ _ f18
    have q18 : a18 ≠ p := fun z => by rw [z, (s17 _ _ (s16 _ _ (s15 _ _ (s14 _ _ (s13 _ _ (s12 _ _ (s11 _ _ (s10 _ _ (s9 _ _ (s8 _ _ (s7 _ _ (s6 _ _ (s5 _ _ (s4 _ _ (s3 _ _ (s2 _ _ (s1 _ _ hb0)))))))))))))))))] at n18; cases n18
    have g19 := S19 _ _ f19
    have q19 : a19 ≠ p := fun z => by rw [z, (s18 _ _ (s17 _ _ (s16 _ _ (s15 _ _ (s14 _ _ (s13 _ _ (s12 _ _ (s11 _ _ (s10 _ _ (s9 _ _ (s8 _ _ (s7 _ _ (s6 _ _ (s5 _ _ (s4 _ _ (s3 _ _ (s2 _ _ (s1 _ _ hb0))))))))))))))))))] at n19; cases n19
    have g20 := S20 _ _ f20
    have q20 : a20 ≠ p := fun z => by rw [z, (s19 _ _ (s18 _ _ (s17 _ _ (s16 _ _ (s15 _ _ (s14 _ _ (s13 _ _ (s12 _ _ (s11 _ _ (s10 _ _ (s9 _ _ (s8 _ _ (s7 _ _ (s6 _ _ (s5 _ _ (s4 _ _ (s3 _ _ (s2 _ _ (s1 _ _ hb0)))))))))))))))))))] at n20; cases n20
    have g21 := S21 _ _ f21
    have q21 : a21 ≠ p := fun z => by rw [z, (s20 _ _ (s19 _ _ (s18 _ _ (s17 _ _ (s16 _ _ (s15 _ _ (s14 _ _ (s13 _ _ (s12 _ _ (s11 _ _ (s10 _ _ (s9 _ _ (s8 _ _ (s7 _ _ (s6 _ _ (s5 _ _ (s4 _ _ (s3 _ _ (s2 _ _ (s1 _ _ hb0))))))))))))))))))))] at n21; cases n21
    have all := (List.forall_mem_cons.mpr ⟨⟨.none, .non, (fz_plain sm_none rfl rfl rfl)⟩, (List.forall_mem_cons.mpr ⟨⟨.bool true, (.bl _), (fz_plain (sm_bool _) rfl rfl rfl)⟩, (List.forall_mem_cons.mpr ⟨⟨.bool false, (.bl _), (fz_plain (sm_bool _) rfl rfl rfl)⟩, (List.forall_mem_cons.mpr ⟨⟨.int 0, (.int _), (fz_plain (sm_int (by decide)) rfl rfl rfl)⟩, (List.forall_mem_cons.mpr ⟨⟨.int 1, (.int _), (fz_plain (sm_int (by decide)) rfl rfl rfl)⟩, (List.forall_mem_cons.mpr ⟨⟨.int (-1), (.int _), (fz_plain (sm_int (by decide)) rfl rfl rfl)⟩, (List.forall_mem_cons.mpr ⟨⟨.int (10 ^ (39 : Int).toNat), (.int _), (fz_plain (sm_int (by decide +kernel)) rfl rfl rfl)⟩, (List.forall_mem_cons.mpr ⟨⟨.str "", (.str _), (fz_plain (sm_str (by decide +kernel)) rfl rfl rfl)⟩, (List.forall_mem_cons.mpr ⟨⟨.str "1/2", (.str _), (fz_plain (sm_str (by decide +kernel)) rfl rfl rfl)⟩, (List.forall_mem_cons.mpr ⟨⟨.str "x", (.str _), (fz_plain (sm_str (by decide +kernel)) rfl rfl rfl)⟩, (List.forall_mem_cons.mpr ⟨⟨.tuple [], (.tup g1 .nil), (fz_plain (sm_tuple sm_nil) rfl rfl rfl)⟩, (List.forall_mem_cons.mpr ⟨⟨.list [], (.lst g2 q2 .nil), (fz_plain (sm_list sm_nil) rfl rfl rfl)⟩, (List.forall_mem_cons.mpr ⟨⟨.tuple [.int 1], (.tup g3 (.cons (.int _) .nil)), (fz_plain (sm_tuple (sm_cons (sm_int (by decide)) sm_nil)) rfl rfl rfl)⟩, (List.forall_mem_cons.mpr ⟨⟨.list [.int 1, .int 2], (.lst g4 q4 (.cons (.int _) (.cons (.int _) .nil))), (fz_plain (sm_list (sm_cons (sm_int (by decide)) (sm_cons (sm_int (by decide)) sm_nil))) rfl rfl rfl)⟩, (List.forall_mem_cons.mpr ⟨⟨.dict [], (.dict (kvs := []) g5 .nil rfl), (fz_dict ⟨rfl, rfl⟩ rfl rfl rfl rfl)⟩, (List.forall_mem_cons.mpr ⟨⟨.dict [(.str "a", .int 1)], (.dict (kvs := [((Sum.inr "a" : Key), (.int 1 : V))]) g6 (.cons (.int _) .nil) rfl), (fz_dict (sm_dict1 (sm_str (by decide +kernel)) (sm_int (by decide))) rfl rfl rfl rfl)⟩, (List.forall_mem_cons.mpr ⟨⟨.tuple [.int 1, .int 2, .int 3], (.tup g7 (.cons (.int _) (.cons (.int _) (.cons (.int _) .nil)))), (fz_plain (sm_tuple (sm_cons (sm_int (by decide)) (sm_cons (sm_int (by decide)) (sm_cons (sm_int (by decide)) sm_nil)))) rfl rfl rfl)⟩, (List.forall_mem_cons.mpr ⟨⟨.tuple [.none, .int 1], (.tup g9 (.cons .non (.cons (.int _) .nil))), (fz_plain (sm_tuple (sm_cons sm_none (sm_cons (sm_int (by decide)) sm_nil))) rfl rfl rfl)⟩, (List.forall_mem_cons.mpr ⟨⟨.tuple [.str "1", .str "2"], (.tup g10 (.cons (.str _) (.cons (.str _) .nil))), (fz_plain (sm_tuple (sm_cons (sm_str (by decide +kernel)) (sm_cons (sm_str (by decide +kernel)) sm_nil))) rfl rfl rfl)⟩, (List.forall_mem_cons.mpr ⟨⟨.tuple [.tuple [.int 1, .int 2]], (.tup g12 (.cons (.tup g11 (.cons (.int _) (.cons (.int _) .nil))) .nil)), (fz_plain (sm_tuple (sm_cons (sm_tuple (sm_cons (sm_int (by decide)) (sm_cons (sm_int (by decide)) sm_nil))) sm_nil)) rfl rfl rfl)⟩, (List.forall_mem_cons.mpr ⟨⟨.list [.tuple [.int 1, .int 2]], (.lst g14 q14 (.cons (.tup g13 (.cons (.int _) (.cons (.int _) .nil))) .nil)), (fz_plain (sm_list (sm_cons (sm_tuple (sm_cons (sm_int (by decide)) (sm_cons (sm_int (by decide)) sm_nil))) sm_nil)) rfl rfl rfl)⟩, (List.forall_mem_cons.mpr ⟨⟨.tuple [.int 1, .list [.int 2]], (.tup g16 (.cons (.int _) (.cons (.lst g15 q15 (.cons (.int _) .nil)) .nil))), (fz_plain (sm_tuple (sm_cons (sm_int (by decide)) (sm_cons (sm_list (sm_cons (sm_int (by decide)) sm_nil)) sm_nil))) rfl rfl rfl)⟩, (List.forall_mem_cons.mpr ⟨⟨.tuple [.str "get"], (.tup g17 (.cons (.str _) .nil)), (fz_plain (sm_tuple (sm_cons (sm_str (by decide +kernel)) sm_nil)) rfl rfl rfl)⟩, (List.forall_mem_cons.mpr ⟨⟨.dict [(.int 1, .tuple [.int 1, .int 2])], (.dict (kvs := [((Sum.inl 1 : Key), (.ref a18 : V))]) g19 (.cons (.tup g18 (.cons (.int _) (.cons (.int _) .nil))) .nil) rfl), (fz_dict (sm_dict1 (sm_int (by decide)) (sm_tuple (sm_cons (sm_int (by decide)) (sm_cons (sm_int (by decide)) sm_nil)))) rfl rfl rfl rfl)⟩, (List.forall_mem_nil (fun v => Thing H21 p v))⟩)⟩)⟩)⟩)⟩)⟩)⟩)⟩)⟩)⟩)⟩)⟩)⟩)⟩)⟩)⟩)⟩)⟩)⟩)⟩)⟩)⟩)⟩)⟩)
    refine ⟨_, rfl, _, rfl, p, _, rfl, hB.keep S0, by decide, by decide, fun H' r b hB' r0 r1 => ?_⟩
    have hl := (b a21 ((hB.keep S0).new_of g21 q21)).trans g21
    obtain ⟨j, rfl⟩ := Int.eq_ofNat_of_zero_le r0
    have hj : j < 24 := by omega
    refine ixl (j := j) hl (List.getElem?_eq_getElem hj) ?_
    have th := all _ (List.getElem_mem hj)
    obtain ⟨d, dz, fz⟩ := th
    exact q _ _ ((Same.grow S0).trans b.grow) hB' ⟨d, dz_grow (hB.keep S0) b.grow dz, fz⟩
end
section
variable {P : Program} {w : World} {K : PySem.W.Frag} {mg : Str → Option Value} {base : Heap}
theorem ok_near {f : Addr} {fd : FuncData} (F : Fun K "_law_near" "_law_near" s_l_near f fd) (T : Bl mg) (c_law_take : Cal P w K mg base 1 "_law_take" spTake) : FnOk P w K mg base L2.CX0 2 f fd ["_law_bag_here"] spThing := by
  refine F.ok sc_l_near (fun vs H Q E h => ?_) (fun cdv A outer s H vs Q E hr h => ?_)
  · obtain ⟨p, rfl, _⟩ := h
    rfl
  · obtain ⟨p, rfl, hBa, q⟩ := h
    have nd := sc_l_near.nd
    refine ⟨_, (pss_cons (ps_set (i := 1) nd rfl (.inl rfl) (pe_cut (pe_op op_shlW pe_int (pe_f c_law_take hr rfl (pa_cons (pv 0) (pa_cons pe_int pa_nil))))))
      (pss_cons (ps_set (i := 2) nd rfl (.inl rfl) (pe_cut (pe_ix ix_seq (pe_lst (pa_cons pe_int (pa_cons pe_int (pa_cons (pv 1) (pa_cons (pe_op op_sub (pv 1) pe_int) (pa_cons (pe_op op_add (pv 1) pe_int) (pa_cons (pe_un un_neg pe_int) (pa_cons (pe_f c_law_take hr rfl (pa_cons (pv 0) (pa_cons (pe_op op_add (pv 1) pe_int) pa_nil))) (pa_cons pe_int pa_nil))))))))) (pe_f c_law_take hr rfl (pa_cons (pv 0) (pa_cons pe_int pa_nil))) (fun _ _ => rfl))))
      (pss_cons (ps_set (i := 3) nd rfl (.inl rfl) (pe_lst (pa_cons (pe_tup (pa_cons (pv 2) (pa_cons (pv 1) pa_nil))) (pa_cons (pe_tup (pa_cons (pv 2) (pa_cons (pv 1) pa_nil))) (pa_cons (pe_tup (pa_cons (pv 2) (pa_cons (pv 1) pa_nil))) (pa_cons (pe_lst (pa_cons (pv 2) (pa_cons (pv 1) pa_nil))) (pa_cons (pe_tup (pa_cons (pv 2) (pa_cons (pv 1) (pa_cons pe_int pa_nil)))) (pa_cons (pe_tup (pa_cons (pv 2) pa_nil)) (pa_cons (pe_tup (pa_cons (pv 1) (pa_cons (pv 2) pa_nil))) pa_nil)))))))))
      (pss_cons (ps_set (i := 3) nd rfl (.inl rfl) (pe_op op_cat (pv 3) (pe_lst (pa_cons (pe_tup (pa_cons pe_bl (pa_cons (pv 1) pa_nil))) (pa_cons (pe_tup (pa_cons pe_bl (pa_cons pe_int pa_nil))) (pa_cons (pe_tup (pa_cons (pv 2) (pa_cons pe_bl pa_nil))) (pa_cons (pe_tup (pa_cons pe_int (pa_cons pe_bl pa_nil))) (pa_cons (pe_tup (pa_cons (pv 2) (pa_cons (pe_op op_mulX pe_int (pv 1)) pa_nil))) (pa_cons (pe_tup (pa_cons (pv 2) (pa_cons (pe_op op_sub pe_int (pv 1)) pa_nil))) pa_nil)))))))))
      (pss_cons (ps_set (i := 3) nd rfl (.inl rfl) (pe_op op_cat (pv 3) (pe_lst (pa_cons (pe_tup (pa_cons (pv 2) (pa_cons (pe_op op_add (pv 1) pe_int) pa_nil))) (pa_cons (pe_tup (pa_cons (pe_callTy call_str_int (by rfl) T.b_str (by decide +kernel) (pa_cons (pv 2) pa_nil)) (pa_cons (pv 1) pa_nil))) (pa_cons (pe_tup (pa_cons (pv 2) (pa_cons pe_int pa_nil))) (pa_cons (pe_tup (pa_cons (pe_tup (pa_cons (pv 2) (pa_cons (pv 1) pa_nil))) pa_nil)) (pa_cons (pe_tup (pa_cons pe_int (pa_cons pe_int pa_nil))) (pa_cons (pe_tup (pa_cons pe_int (pa_cons pe_int pa_nil))) pa_nil)))))))))
      (pss_one (ps_ret (pe_ix ix_seq (pv 3) (pe_f c_law_take hr rfl (pa_cons (pv 0) (pa_cons pe_int pa_nil))) (fun _ _ => rfl))))))))), ?_⟩
    -- the bottom
    refine ⟨fun v H1 => ∃ n : Nat, n ≤ 60 ∧ v = .int (2 ^ n) ∧ But p H H1 ∧ BagAt H1 p, ?_, ?_⟩
    · refine ⟨_, rfl, p, _, rfl, hBa, by decide, by decide, ?_⟩
      intro H1 r b1 hB1 r0 r1
      obtain ⟨n, rfl⟩ := Int.eq_ofNat_of_zero_le r0
      refine ⟨_, _, rfl, rfl, shl_ok (i := 1) (n := 2) (j := n) (by decide) (by omega), n, by omega, ?_, b1, hB1⟩
      show V.int (1 * 2 ^ ((n : Nat) : Int).toNat) = .int (2 ^ n)
      rw [Int.toNat_natCast, Int.one_mul]
    rintro _ H1 ⟨n, hn, rfl, b1, hB1⟩
    have n0 := pow2_pos n
    have nb : ((2 : Int) ^ n).natAbs ≤ 2 ^ 60 := by
      rw [← cast_pow, Int.natAbs_natCast]
      exact Nat.pow_le_pow_right (by decide) hn
    -- the top
    refine ⟨fun v H2 => (∃ x : Int, v = .int x ∧ x.natAbs ≤ 2 ^ 61) ∧ Grow p H H2 ∧ BagAt H2 p, ?_, ?_⟩
    · refine ⟨_, rfl, _, rfl, _, _, rfl, rfl, _, rfl, _, _, rfl, rfl, _, rfl, _, rfl, _, rfl, _, _, rfl, rfl, p, _, rfl, hB1, by omega, Nat.lt_of_le_of_lt (show ((2 : Int) ^ n + 1).natAbs ≤ 2 ^ 61 by omega) (Nat.pow_lt_pow_right (by decide) (by decide)), ?_⟩
      intro H2 r b2 hB2 r0 r1
      refine ⟨lens 8 (by decide), fun l nl => ?_⟩
      refine ⟨_, rfl, p, _, rfl, hB2.keep (Same.up0 nl), by decide, by decide, ?_⟩
      intro H3 k b3 hB3 k0 k1
      have hl : H3 l = some (.lst [.int 0, .int 1, .int (2 ^ n), .int (2 ^ n - 1), .int (2 ^ n + 1), .int (-1), .int r, .int 2]) := by
        rw [b3 l (hB2.new nl)]
        exact upd_same
      have g3 : Grow p H H3 := ((b1.trans b2).grow.trans (Same.grow (Same.up0 nl))).trans b3.grow
      obtain ⟨j, rfl⟩ := Int.eq_ofNat_of_zero_le k0
      have fin : ∀ x : Int, x.natAbs ≤ 2 ^ 61 → (∃ y : Int, V.int x = .int y ∧ y.natAbs ≤ 2 ^ 61) ∧ Grow p H H3 ∧ BagAt H3 p := fun x hx => ⟨⟨x, rfl, hx⟩, g3, hB3⟩
      have hj : j = 0 ∨ j = 1 ∨ j = 2 ∨ j = 3 ∨ j = 4 ∨ j = 5 ∨ j = 6 ∨ j = 7 := by omega
      rcases hj with rfl | rfl | rfl | rfl | rfl | rfl | rfl | rfl
      · exact ixl (j := 0) hl rfl (fin _ (by decide))
      · exact ixl (j := 1) hl rfl (fin _ (by decide))
      · exact ixl (j := 2) hl rfl (fin _ (by omega))
      · exact ixl (j := 3) hl rfl (fin _ (by omega))
      · exact ixl (j := 4) hl rfl (fin _ (by omega))
      · exact ixl (j := 5) hl rfl (fin _ (by decide))
      · exact ixl (j := 6) hl rfl (fin _ (by omega))
      · exact ixl (j := 7) hl rfl (fin _ (by decide))
    rintro _ H ⟨⟨x, rfl, hx⟩, g0, hB⟩
    obtain ⟨hb1, hb2, hb0, _⟩ := id hB
    have x0 : x.natAbs < 10 ^ 60 := Nat.lt_of_le_of_lt hx (by decide)
    have y0 : ((2 : Int) ^ n).natAbs < 10 ^ 60 := Nat.lt_of_le_of_lt nb (by decide)
    have y1 : ((2 : Int) ^ n + 1).natAbs < 10 ^ 60 := Nat.lt_of_le_of_lt (show _ ≤ 2 ^ 61 by omega) (by decide)
    have y3 : (3 * (2 : Int) ^ n).natAbs < 10 ^ 60 := Nat.lt_of_le_of_lt (show _ ≤ 2 ^ 63 by omega) (by decide)
    have ym : (0 - (2 : Int) ^ n).natAbs < 10 ^ 60 := Nat.lt_of_le_of_lt (show _ ≤ 2 ^ 61 by omega) (by decide)
    have m3 : CMulX 3 ((2 : Int) ^ n) := mulx_ok (a := 64) (b := 64) (by decide) (Nat.lt_of_le_of_lt nb (by decide)) (by decide)
    have xs := leaf_show x0
    refine ⟨_, rfl, _, rfl, lens 2 (by decide), fun a1 n1 => ?_⟩
    have s1 := Same.up0 (o := .tup [.int x, .int (2 ^ n)]) n1
    have f1 : upd H a1 (.tup [.int x, .int (2 ^ n)]) a1 = some (.tup [.int x, .int (2 ^ n)]) := upd_same
    generalize upd H a1 (.tup [.int x, .int (2 ^ n)]) = H1 at s1 f1 ⊢
    refine ⟨_, rfl, _, rfl, lens 2 (by decide), fun a2 n2 => ?_⟩
    have s2 := Same.up0 (o := .tup [.int x, .int (2 ^ n)]) n2
    have f2 : upd H1 a2 (.tup [.int x, .int (2 ^ n)]) a2 = some (.tup [.int x, .int (2 ^ n)]) := upd_same
    generalize upd H1 a2 (.tup [.int x, .int (2 ^ n)]) = H2 at s2 f2 ⊢
    refine ⟨_, rfl, _, rfl, lens 2 (by decide), fun a3 n3 => ?_⟩
    have s3 := Same.up0 (o := .tup [.int x, .int (2 ^ n)]) n3
    have f3 : upd H2 a3 (.tup [.int x, .int (2 ^ n)]) a3 = some (.tup [.int x, .int (2 ^ n)]) := upd_same
    generalize upd H2 a3 (.tup [.int x, .int (2 ^ n)]) = H3 at s3 f3 ⊢
    refine ⟨_, rfl, _, rfl, lens 2 (by decide), fun a4 n4 => ?_⟩
    have s4 := Same.up0 (o := .lst [.int x, .int (2 ^ n)]) n4
    have f4 : upd H3 a4 (.lst [.int x, .int (2 ^ n)]) a4 = some (.lst [.int x, .int (2 ^ n)]) := upd_same
    generalize upd H3 a4 (.lst [.int x, .int (2 ^ n)]) = H4 at s4 f4 ⊢
    refine ⟨_, rfl, _, rfl, lens 3 (by decide), fun a5 n5 => ?_⟩
    have s5 := Same.up0 (o := .tup [.int x, .int (2 ^ n), .int 1]) n5
    have f5 : upd H4 a5 (.tup [.int x, .int (2 ^ n), .int 1]) a5 = some (.tup [.int x, .int (2 ^ n), .int 1]) := upd_same
    generalize upd H4 a5 (.tup [.int x, .int (2 ^ n), .int 1]) = H5 at s5 f5 ⊢
    refine ⟨_, rfl, lens 1 (by decide), fun a6 n6 => ?_⟩
    have s6 := Same.up0 (o := .tup [.int x]) n6
    have f6 : upd H5 a6 (.tup [.int x]) a6 = some (.tup [.int x]) := upd_same
    generalize upd H5 a6 (.tup [.int x]) = H6 at s6 f6 ⊢
    refine ⟨_, rfl, _, rfl, lens 2 (by decide), fun a7 n7 => ?_⟩
    have s7 := Same.up0 (o := .tup [.int (2 ^ n), .int x]) n7
    have f7 : upd H6 a7 (.tup [.int (2 ^ n), .int x]) a7 = some (.tup [.int (2 ^ n), .int x]) := upd_same
    generalize upd H6 a7 (.tup [.int (2 ^ n), .int x]) = H7 at s7 f7 ⊢
    refine ⟨lens 7 (by decide), fun a8 n8 => ?_⟩
    have s8 := Same.up0 (o := .lst [.ref a1, .ref a2, .ref a3, .ref a4, .ref a5, .ref a6, .ref a7]) n8
    have f8 : upd H7 a8 (.lst [.ref a1, .ref a2, .ref a3, .ref a4, .ref a5, .ref a6, .ref a7]) a8 = some (.lst [.ref a1, .ref a2, .ref a3, .ref a4, .ref a5, .ref a6, .ref a7]) := upd_same
    generalize upd H7 a8 (.lst [.ref a1, .ref a2, .ref a3, .ref a4, .ref a5, .ref a6, .ref a7]) = H8 at s8 f8 ⊢
    refine ⟨_, rfl, _, rfl, lens 2 (by decide), fun a9 n9 => ?_⟩
    have s9 := Same.up0 (o := .tup [.bl true, .int (2 ^ n)]) n9
    have f9 : upd H8 a9 (.tup [.bl true, .int (2 ^ n)]) a9 = some (.tup [.bl true, .int (2 ^ n)]) := upd_same
    generalize upd H8 a9 (.tup [.bl true, .int (2 ^ n)]) = H9 at s9 f9 ⊢
    refine ⟨lens 2 (by decide), fun a10 n10 => ?_⟩
    have s10 := Same.up0 (o := .tup [.bl false, .int 1]) n10
    have f10 : upd H9 a10 (.tup [.bl false, .int 1]) a10 = some (.tup [.bl false, .int 1]) := upd_same
    generalize upd H9 a10 (.tup [.bl false, .int 1]) = H10 at s10 f10 ⊢
    refine ⟨_, rfl, lens 2 (by decide), fun a11 n11 => ?_⟩
    have s11 := Same.up0 (o := .tup [.int x, .bl true]) n11
    have f11 : upd H10 a11 (.tup [.int x, .bl true]) a11 = some (.tup [.int x, .bl true]) := upd_same
    generalize upd H10 a11 (.tup [.int x, .bl true]) = H11 at s11 f11 ⊢
    refine ⟨lens 2 (by decide), fun a12 n12 => ?_⟩
    have s12 := Same.up0 (o := .tup [.int 1, .bl true]) n12
    have f12 : upd H11 a12 (.tup [.int 1, .bl true]) a12 = some (.tup [.int 1, .bl true]) := upd_same
    generalize upd H11 a12 (.tup [.int 1, .bl true]) = H12 at s12 f12 ⊢
    refine ⟨_, rfl, _, rfl, _, _, rfl, rfl, m3, lens 2 (by decide), fun a13 n13 => ?_⟩
    have s13 := Same.up0 (o := .tup [.int x, .int (3 * 2 ^ n)]) n13
    have f13 : upd H12 a13 (.tup [.int x, .int (3 * 2 ^ n)]) a13 = some (.tup [.int x, .int (3 * 2 ^ n)]) := upd_same
    generalize upd H12 a13 (.tup [.int x, .int (3 * 2 ^ n)]) = H13 at s13 f13 ⊢
    refine ⟨_, rfl, _, rfl, _, _, rfl, rfl, lens 2 (by decide), fun a14 n14 => ?_⟩
    have s14 := Same.up0 (o := .tup [.int x, .int (0 - 2 ^ n)]) n14
    have f14 : upd H13 a14 (.tup [.int x, .int (0 - 2 ^ n)]) a14 = some (.tup [.int x, .int (0 - 2 ^ n)]) := upd_same
    generalize upd H13 a14 (.tup [.int x, .int (0 - 2 ^ n)]) = H14 at s14 f14 ⊢
    refine ⟨lens 6 (by decide), fun a15 n15 => ?_⟩
    have s15 := Same.up0 (o := .lst [.ref a9, .ref a10, .ref a11, .ref a12, .ref a13, .ref a14]) n15
    have f15 : upd H14 a15 (.lst [.ref a9, .ref a10, .ref a11, .ref a12, .ref a13, .ref a14]) a15 = some (.lst [.ref a9, .ref a10, .ref a11, .ref a12, .ref a13, .ref a14]) := upd_same
    generalize upd H14 a15 (.lst [.ref a9, .ref a10, .ref a11, .ref a12, .ref a13, .ref a14]) = H15 at s15 f15 ⊢
    refine ⟨a8, a15, _, _, rfl, rfl, (s15 _ _ (s14 _ _ (s13 _ _ (s12 _ _ (s11 _ _ (s10 _ _ (s9 _ _ f8))))))), f15, lens 13 (by decide), fun a16 n16 => ?_⟩
    have s16 := Same.up0 (o := .lst ([.ref a1, .ref a2, .ref a3, .ref a4, .ref a5, .ref a6, .ref a7] ++ [.ref a9, .ref a10, .ref a11, .ref a12, .ref a13, .ref a14])) n16
    have f16 : upd H15 a16 (.lst ([.ref a1, .ref a2, .ref a3, .ref a4, .ref a5, .ref a6, .ref a7] ++ [.ref a9, .ref a10, .ref a11, .ref a12, .ref a13, .ref a14])) a16 = some (.lst ([.ref a1, .ref a2, .ref a3, .ref a4, .ref a5, .ref a6, .ref a7] ++ [.ref a9, .ref a10, .ref a11, .ref a12, .ref a13, .ref a14])) := upd_same
    generalize upd H15 a16 (.lst ([.ref a1, .ref a2, .ref a3, .ref a4, .ref a5, .ref a6, .ref a7] ++ [.ref a9, .ref a10, .ref a11, .ref a12, .ref a13, .ref a14])) = H16 at s16 f16 ⊢
    have f16 : H16 a16 = some (.lst [.ref a1, .ref a2, .ref a3, .ref a4, .ref a5, .ref a6, .ref a7, .ref a9, .ref a10, .ref a11, .ref a12, .ref a13, .ref a14]) := f16
    refine ⟨_, rfl, _, rfl, _, rfl, _, _, rfl, rfl, lens 2 (by decide), fun a17 n17 => ?_⟩
    have s17 := Same.up0 (o := .tup [.int x, .int (2 ^ n + 1)]) n17
    have f17 : upd H16 a17 (.tup [.int x, .int (2 ^ n + 1)]) a17 = some (.tup [.int x, .int (2 ^ n + 1)]) := upd_same
    generalize upd H16 a17 (.tup [.int x, .int (2 ^ n + 1)]) = H17 at s17 f17 ⊢
    refine ⟨_, rfl, _, rfl, xs, _, rfl, lens 2 (by decide), fun a18 n18 => ?_⟩
    have s18 := Same.up0 (o := .tup [.str (Str.ofString (toString x)), .int (2 ^ n)]) n18
    have f18 : upd H17 a18 (.tup [.str (Str.ofString (toString x)), .int (2 ^ n)]) a18 = some (.tup [.str (Str.ofString (toString x)), .int (2 ^ n)]) := upd_same
    generalize upd H17 a18 (.tup [.str (Str.ofString (toString x)), .int (2 ^ n)]) = H18 at s18 f18 ⊢
    refine ⟨_, rfl, lens 2 (by decide), fun a19 n19 => ?_⟩
    have s19 := Same.up0 (o := .tup [.int x, .int 0]) n19
    have f19 : upd H18 a19 (.tup [.int x, .int 0]) a19 = some (.tup [.int x, .int 0]) := upd_same
    generalize upd H18 a19 (.tup [.int x, .int 0]) = H19 at s19 f19 ⊢
    refine ⟨_, rfl, _, rfl, lens 2 (by decide), fun a20 n20 => ?_⟩
    have s20 := Same.up0 (o := .tup [.int x, .int (2 ^ n)]) n20
    have f20 : upd H19 a20 (.tup [.int x, .int (2 ^ n)]) a20 = some (.tup [.int x, .int (2 ^ n)]) := upd_same
    generalize upd H19 a20 (.tup [.int x, .int (2 ^ n)]) = H20 at s20 f20 ⊢
    refine ⟨lens 1 (by decide), fun a21 n21 => ?_⟩
    have s21 := Same.up0 (o := .tup [.ref a20]) n21
    have f21 : upd H20 a21 (.tup [.ref a20]) a21 = some (.tup [.ref a20]) := upd_same
    generalize upd H20 a21 (.tup [.ref a20]) = H21 at s21 f21 ⊢
    refine ⟨lens 2 (by decide), fun a22 n22 => ?_⟩
    have s22 := Same.up0 (o := .tup [.int 0, .int 2]) n22
    have f22 : upd H21 a22 (.tup [.int 0, .int 2]) a22 = some (.tup [.int 0, .int 2]) := upd_same
    generalize upd H21 a22 (.tup [.int 0, .int 2]) = H22 at s22 f22 ⊢
    refine ⟨lens 2 (by decide), fun a23 n23 => ?_⟩
    have s23 := Same.up0 (o := .tup [.int 2, .int 2]) n23
    have f23 : upd H22 a23 (.tup [.int 2, .int 2]) a23 = some (.tup [.int 2, .int 2]) := upd_same
    generalize upd H22 a23 (.tup [.int 2, .int 2]) = H23 at s23 f23 ⊢
    refine ⟨lens 6 (by decide), fun a24 n24 => ?_⟩
    have s24 := Same.up0 (o := .lst [.ref a17, .ref a18, .ref a19, .ref a21, .ref a22, .ref a23]) n24
    have f24 : upd H23 a24 (.lst [.ref a17, .ref a18, .ref a19, .ref a21, .ref a22, .ref a23]) a24 = some (.lst [.ref a17, .ref a18, .ref a19, .ref a21, .ref a22, .ref a23]) := upd_same
    generalize upd H23 a24 (.lst [.ref a17, .ref a18, .ref a19, .ref a21, .ref a22, .ref a23]) = H24 at s24 f24 ⊢
    refine ⟨a16, a24, _, _, rfl, rfl, (s24 _ _ (s23 _ _ (s22 _ _ (s21 _ _ (s20 _ _ (s19 _ _ (s18 _ _ (s17 _ _ f16)))))))), f24, lens 19 (by decide), fun a25 n25 => ?_⟩
    have s25 := Same.up0 (o := .lst ([.ref a1, .ref a2, .ref a3, .ref a4, .ref a5, .ref a6, .ref a7, .ref a9, .ref a10, .ref a11, .ref a12, .ref a13, .ref a14] ++ [.ref a17, .ref a18, .ref a19, .ref a21, .ref a22, .ref a23])) n25
    have f25 : upd H24 a25 (.lst ([.ref a1, .ref a2, .ref a3, .ref a4, .ref a5, .ref a6, .ref a7, .ref a9, .ref a10, .ref a11, .ref a12, .ref a13, .ref a14] ++ [.ref a17, .ref a18, .ref a19, .ref a21, .ref a22, .ref a23])) a25 = some (.lst ([.ref a1, .ref a2, .ref a3, .ref a4, .ref a5, .ref a6, .ref a7, .ref a9, .ref a10, .ref a11, .ref a12, .ref a13, .ref a14] ++ [.ref a17, .ref a18, .ref a19, .ref a21, .ref a22, .ref a23])) := upd_same
    generalize upd H24 a25 (.lst ([.ref a1, .ref a2, .ref a3, .ref a4, .ref a5, .ref a6, .ref a7, .ref a9, .ref a10, .ref a11, .ref a12, .ref a13, .ref a14] ++ [.ref a17, .ref a18, .ref a19, .ref a21, .ref a22, .ref a23])) = H25 at s25 f25 ⊢
    have f25 : H25 a25 = some (.lst [.ref a1, .ref a2, .ref a3, .ref a4, .ref a5, .ref a6, .ref a7, .ref a9, .ref a10, .ref a11, .ref a12, .ref a13, .ref a14, .ref a17, .ref a18, .ref a19, .ref a21, .ref a22, .ref a23]) := f25
    have S25 : Same H25 H25 := Same.refl _
    have S24 : Same H24 H25 := s25.trans S25
    have S23 : Same H23 H25 := s24.trans S24
    have S22 : Same H22 H25 := s23.trans S23
    have S21 : Same H21 H25 := s22.trans S22
    have S20 : Same H20 H25 := s21.trans S21
    have S19 : Same H19 H25 := s20.trans S20
    have S18 : Same H18 H25 := s19.trans S19
    have S17 : Same H17 H25 := s18.trans S18
    have S16 : Same H16 H25 := s17.trans S17
    have S15 : Same H15 H25 := s16.trans S16
    have S14 : Same H14 H25 := s15.trans S15
    have S13 : Same H13 H25 := s14.trans S14
    have S12 : Same H12 H25 := s13.trans S13
    have S11 : Same H11 H25 := s12.trans S12
    have S10 : Same H10 H25 := s11.trans S11
    have S9 : Same H9 H25 := s10.trans S10
    have S8 : Same H8 H25 := s9.trans S9
    have S7 : Same H7 H25 := s8.trans S8
    have S6 : Same H6 H25 := s7.trans S7
    have S5 : Same H5 H25 := s6.trans S6
    have S4 : Same H4 H25 := s5.trans S5
    have S3 : Same H3 H25 := s4.trans S4
    have S2 : Same H2 H25 := s3.trans S3
    have S1 : Same H1 H25 := s2.trans S2
    have S0 : Same H H25 := s1.trans S1
    have g1 := S1 _ _ f1
    have q1 : a1 ≠ p := fun z => by rw [z, hb0] at n1; cases n1
    have g2 := S2 _ _ f2
    have q2 : a2 ≠ p := fun z => by rw [z, (s1 _ _ hb0)] at n2; cases n2
    have g3 := S3 _ _ f3
    have q3 : a3 ≠ p := fun z => by rw [z, (s2 _ _ (s1 _ _ hb0))] at n3; cases n3
    have g4 := S4 _ _ f4
    have q4 : a4 ≠ p := fun z => by rw [z, (s3 _ _ (s2 _ _ (s1 _ _ hb0)))] at n4; cases n4
    have g5 := S5 _ _ f5
    have q5 : a5 ≠ p := fun z => by rw [z, (s4 _ _ (s3 _ _ (s2 _ _ (s1 _ _ hb0))))] at n5; cases n5
    have g6 := S6 _ _ f6
    have q6 : a6 ≠ p := fun z => by rw [z, (s5 _ _ (s4 _ _ (s3 _ _ (s2 _ _ (s1 _ _ hb0)))))] at n6; cases n6
    have g7 := S7 _ _ f7
    have q7 : a7 ≠ p := fun z => by rw [z, (s6 _ _ (s5 _ _ (s4 _ _ (s3 _ _ (s2 _ _ (s1 _ _ hb0))))))] at n7; cases n7
    have g8 := S8 _ _ f8
    have q8 : a8 ≠ p := fun z => by rw [z, (s7 _ _ (s6 _ _ (s5 _ _ (s4 _ _ (s3 _ _ (s2 _ _ (s1 _ _ hb0)))))))] at n8; cases n8
    have g9 := S9 _ _ f9
    have q9 : a9 ≠ p := fun z => by rw [z, (s8 _ _ (s7 _ _ (s6 _ _ (s5 _ _ (s4 _ _ (s3 _ _ (s2 _ _ (s1 _ _ hb0))))))))] at n9; cases n9
    have g10 := S10 _ _ f10
    have q10 : a10 ≠ p := fun z => by rw [z, (s9 _ _ (s8 _ _ (s7 _ _ (s6 _ _ (s5 _ _ (s4 _ _ (s3 _ _ (s2 _ _ (s1 _ _ hb0)))))))))] at n10; cases n10
    have g11 := S11 _ _ f11
    have q11 : a11 ≠ p := fun z => by rw [z, (s10 _ _ (s9 _ _ (s8 _ _ (s7 _ _ (s6 _ _ (s5 _ _ (s4 _ _ (s3 _ _ (s2 _ _ (s1 _ _ hb0))))))))))] at n11; cases n11
    have g12 := S12 _ _ f12
    have q12 : a12 ≠ p := fun z => by rw [z, (s11 _ _ (s10 _ _ (s9 _ _ (s8 _ _ (s7 _ _ (s6 _ _ (s5 _ _ (s4 _ _ (s3 _ _ (s2 _ _ (s1 _ _ hb0)))))))))))] at n12; cases n12
    have g13 := S13 _ _ f13
    have q13 : a13 ≠ p := fun z => by rw [z, (s12 _ _ (s11 _ _ (s10 _ _ (s9 _ _ (s8 _ _ (s7 _ _ (s6 _ _ (s5 _ _ (s4 _ _ (s3 _ _ (s2 _ _ (s1 _ _ hb0))))))))))))] at n13; cases n13
    have g14 := S14 _ _ f14
    have q14 : a14 ≠ p := fun z => by rw [z, (s13 _ _ (s12 _ _ (s11 _ _ (s10 _ _ (s9 _ _ (s8 _ _ (s7 _ _ (s6 _ _ (s5 _ _ (s4 _ _ (s3 _ _ (s2 _ _ (s1 _ _ hb0)))))))))))))] at n14; cases n14
    have g15 := S15 _ _ f15
    have q15 : a15 ≠ p := fun z => by rw [z, (s14 _ _ (s13 _ _ (s12 _ _ (s11 _ _ (s10 _ _ (s9 _ _ (s8 _ _ (s7 _ _ (s6 _ _ (s5 _ _ (s4 _ _ (s3 _ _ (s2 _ _ (s1 _ _ hb0))))))))))))))] at n15; cases n15
    have g16 := S16 _ _ f16
    have q16 : a16 ≠ p := fun z => by rw [z, (s15 _ _ (s14 _ _ (s13 _ _ (s12 _ _ (s11 _ _ (s10 _ _ (s9 _ _ (s8 _ _ (s7 _ _ (s6 _ _ (s5 _ _ (s4 _ _ (s3 _ _ (s2 _ _ (s1 _ _ hb0)))))))))))))))] at n16; cases n16
    have g17 := S17 _ _ f17
    have q17 : a17 ≠ p := fun z => by rw [z, (s16 _ _ (s15 _ _ (s14 _ _ (s13 _ _ (s12 _ _ (s11 _ _ (s10 _ _ (s9 _ _ (s8 _ _ (s7 _ _ (s6 _ _ (s5 _ _ (s4 _ _ (s3 _ _ (s2 _ _ (s1 _ _ hb0))))))))))))))))] at n17; cases n17
    have g18 := S18 _ _ f18
    have q18 : a18 ≠ p := fun z => by rw [z, (s17 _ _ (s16 _ _ (s15 _ _ (s14 _ _ (s13 _ _ (s12 _ _ (s11 _ _ (s10 _ _ (s9 _ _ (s8 _ _ (s7 _ _ (s6 _ _ (s5 _ _ (s4 _ _ (s3 _ _ (s2 _ _ (s1 _ _ hb0)))))))))))))))))] at n18; cases n18
    have g19 := S19 _ _ f19
    have q19 : a19 ≠ p := fun z => by rw [z, (s18 _ _ (s17 _ _ (s16 _ _ (s15 _ _ (s14 _ _ (s13 _ _ (s12 _ _ (s11 _ _ (s10 _ _ (s9 _ _ (s8 _ _ (s7 _ _ (s6 _ _ (s5 _ _ (s4 _ _ (s3 _ _ (s2 _ _ (s1 _ _ hb0))))))))))))))))))] at n19; cases n19
    have g20 := S20 _ _ f20
    have q20 : a20 ≠ p := fun z => by rw [z, (s19 _ _ (s18 _ _ (s17 _ _ (s16 _ _ (s15 _ _ (s14 _ _ (s13 _ _ (s12 _ _ (s11 _ _ (s10 _ _ (s9 _ _ (s8 _ _ (s7 _ _ (s6 _ _ (s5 _ _ (s4 _ _ (s3 _ _ (s2 _ _ (s1 _ _ hb0)))))))))))))))))))] at n20; cases n20
    have g21 := S21 _ _ f21
    have q21 : a21 ≠ p := fun z => by rw [z, (s20 _ _ (s19 _ _ (s18 _ _ (s17 _ _ (s16 _ _ (s15 _ _ (s14 _ _ (s13 _ _ (s12 _ _ (s11 _ _ (s10 _ _ (s9 _ _ (s8 _ _ (s7 _ _ (s6 _ _ (s5 _ _ (s4 _ _ (s3 _ _ (s2 _ _ (s1 _ _ hb0))))))))))))))))))))] at n21; cases n21
    have g22 := S22 _ _ f22
    have q22 : a22 ≠ p := fun z => by rw [z, (s21 _ _ (s20 _ _ (s19 _ _ (s18 _ _ (s17 _ _ (s16 _ _ (s15 _ _ (s14 _ _ (s13 _ _ (s12 _ _ (s11 _ _ (s10 _ _ (s9 _ _ (s8 _ _ (s7 _ _ (s6 _ _ (s5 _ _ (s4 _ _ (s3 _ _ (s2 _ _ (s1 _ _ hb0)))))))))))))))))))))] at n22; cases n22
    have g23 := S23 _ _ f23
    have q23 : a23 ≠ p := fun z => by rw [z, (s22 _ _ (s21 _ _ (s20 _ _ (s19 _ _ (s18 _ _ (s17 _ _ (s16 _ _ (s15 _ _ (s14 _ _ (s13 _ _ (s12 _ _ (s11 _ _ (s10 _ _ (s9 _ _ (s8 _ _ (s7 _ _ (s6 _ _ (s5 _ _ (s4 _ _ (s3 _ _ (s2 _ _ (s1 _ _ hb0))))))))))))))))))))))] at n23; cases n23
    have g24 := S24 _ _ f24
    have q24 : a24 ≠ p := fun z => by rw [z, (s23 _ _ (s22 _ _ (s21 _ _ (s20 _ _ (s19 _ _ (s18 _ _ (s17 _ _ (s16 _ _ (s15 _ _ (s14 _ _ (s13 _ _ (s12 _ _ (s11 _ _ (s10 _ _ (s9 _ _ (s8 _ _ (s7 _ _ (s6 _ _ (s5 _ _ (s4 _ _ (s3 _ _ (s2 _ _ (s1 _ _ hb0)))))))))))))))))))))))] at n24; cases n24
    have g25 := S25 _ _ f25
    have q25 : a25 ≠ p := fun z => by rw [z, (s24 _ _ (s23 _ _ (s22 _ _ (s21 _ _ (s20 _ _ (s19 _ _ (s18 _ _ (s17 _ _ (s16 _ _ (s15 _ _ (s14 _ _ (s13 _ _ (s12 _ _ (s11 _ _ (s10 _ _ (s9 _ _ (s8 _ _ (s7 _ _ (s6 _ _ (s5 _ _ (s4 _ _ (s3 _ _ (s2 _ _ (s1 _ _ hb0))))))))))))))))))))))))] at n25; cases n25
    have all := (List.forall_mem_cons.mpr ⟨⟨.tuple [.int x, .int (2 ^ n)], (.tup g1 (.cons (.int _) (.cons (.int _) .nil))), (fz_plain (sm_tuple (sm_cons (sm_int x0) (sm_cons (sm_int y0) sm_nil))) rfl rfl rfl)⟩, (List.forall_mem_cons.mpr ⟨⟨.tuple [.int x, .int (2 ^ n)], (.tup g2 (.cons (.int _) (.cons (.int _) .nil))), (fz_plain (sm_tuple (sm_cons (sm_int x0) (sm_cons (sm_int y0) sm_nil))) rfl rfl rfl)⟩, (List.forall_mem_cons.mpr ⟨⟨.tuple [.int x, .int (2 ^ n)], (.tup g3 (.cons (.int _) (.cons (.int _) .nil))), (fz_plain (sm_tuple (sm_cons (sm_int x0) (sm_cons (sm_int y0) sm_nil))) rfl rfl rfl)⟩, (List.forall_mem_cons.mpr ⟨⟨.list [.int x, .int (2 ^ n)], (.lst g4 q4 (.cons (.int _) (.cons (.int _) .nil))), (fz_plain (sm_list (sm_cons (sm_int x0) (sm_cons (sm_int y0) sm_nil))) rfl rfl rfl)⟩, (List.forall_mem_cons.mpr ⟨⟨.tuple [.int x, .int (2 ^ n), .int 1], (.tup g5 (.cons (.int _) (.cons (.int _) (.cons (.int _) .nil)))), (fz_plain (sm_tuple (sm_cons (sm_int x0) (sm_cons (sm_int y0) (sm_cons (sm_int (by decide)) sm_nil)))) rfl rfl rfl)⟩, (List.forall_mem_cons.mpr ⟨⟨.tuple [.int x], (.tup g6 (.cons (.int _) .nil)), (fz_plain (sm_tuple (sm_cons (sm_int x0) sm_nil)) rfl rfl rfl)⟩, (List.forall_mem_cons.mpr ⟨⟨.tuple [.int (2 ^ n), .int x], (.tup g7 (.cons (.int _) (.cons (.int _) .nil))), (fz_plain (sm_tuple (sm_cons (sm_int y0) (sm_cons (sm_int x0) sm_nil))) rfl rfl rfl)⟩, (List.forall_mem_cons.mpr ⟨⟨.tuple [.bool true, .int (2 ^ n)], (.tup g9 (.cons (.bl _) (.cons (.int _) .nil))), (fz_plain (sm_tuple (sm_cons (sm_bool _) (sm_cons (sm_int y0) sm_nil))) rfl rfl rfl)⟩, (List.forall_mem_cons.mpr ⟨⟨.tuple [.bool false, .int 1], (.tup g10 (.cons (.bl _) (.cons (.int _) .nil))), (fz_plain (sm_tuple (sm_cons (sm_bool _) (sm_cons (sm_int (by decide)) sm_nil))) rfl rfl rfl)⟩, (List.forall_mem_cons.mpr ⟨⟨.tuple [.int x, .bool true], (.tup g11 (.cons (.int _) (.cons (.bl _) .nil))), (fz_plain (sm_tuple (sm_cons (sm_int x0) (sm_cons (sm_bool _) sm_nil))) rfl rfl rfl)⟩, (List.forall_mem_cons.mpr ⟨⟨.tuple [.int 1, .bool true], (.tup g12 (.cons (.int _) (.cons (.bl _) .nil))), (fz_plain (sm_tuple (sm_cons (sm_int (by decide)) (sm_cons (sm_bool _) sm_nil))) rfl rfl rfl)⟩, (List.forall_mem_cons.mpr ⟨⟨.tuple [.int x, .int (3 * 2 ^ n)], (.tup g13 (.cons (.int _) (.cons (.int _) .nil))), (fz_plain (sm_tuple (sm_cons (sm_int x0) (sm_cons (sm_int y3) sm_nil))) rfl rfl rfl)⟩, (List.forall_mem_cons.mpr ⟨⟨.tuple [.int x, .int (0 - 2 ^ n)], (.tup g14 (.cons (.int _) (.cons (.int _) .nil))), (fz_plain (sm_tuple (sm_cons (sm_int x0) (sm_cons (sm_int ym) sm_nil))) rfl rfl rfl)⟩, (List.forall_mem_cons.mpr ⟨⟨.tuple [.int x, .int (2 ^ n + 1)], (.tup g17 (.cons (.int _) (.cons (.int _) .nil))), (fz_plain (sm_tuple (sm_cons (sm_int x0) (sm_cons (sm_int y1) sm_nil))) rfl rfl rfl)⟩, (List.forall_mem_cons.mpr ⟨⟨.tuple [.str (Str.ofString (toString x)), .int (2 ^ n)], (.tup g18 (.cons (.str _) (.cons (.int _) .nil))), (fz_num (sm_tuple (sm_cons sm_num (sm_cons (sm_int y0) sm_nil))) x0)⟩, (List.forall_mem_cons.mpr ⟨⟨.tuple [.int x, .int 0], (.tup g19 (.cons (.int _) (.cons (.int _) .nil))), (fz_plain (sm_tuple (sm_cons (sm_int x0) (sm_cons (sm_int (by decide)) sm_nil))) rfl rfl rfl)⟩, (List.forall_mem_cons.mpr ⟨⟨.tuple [.tuple [.int x, .int (2 ^ n)]], (.tup g21 (.cons (.tup g20 (.cons (.int _) (.cons (.int _) .nil))) .nil)), (fz_plain (sm_tuple (sm_cons (sm_tuple (sm_cons (sm_int x0) (sm_cons (sm_int y0) sm_nil))) sm_nil)) rfl rfl rfl)⟩, (List.forall_mem_cons.mpr ⟨⟨.tuple [.int 0, .int 2], (.tup g22 (.cons (.int _) (.cons (.int _) .nil))), (fz_plain (sm_tuple (sm_cons (sm_int (by decide)) (sm_cons (sm_int (by decide)) sm_nil))) rfl rfl rfl)⟩, (List.forall_mem_cons.mpr ⟨⟨.tuple [.int 2, .int 2], (.tup g23 (.cons (.int _) (.cons (.int _) .nil))), (fz_plain (sm_tuple (sm_cons (sm_int (by decide)) (sm_cons (sm_int (by decide)) sm_nil))) rfl rfl rfl)⟩, (List.forall_mem_nil (fun v => Thing H25 p v))⟩)⟩)⟩)⟩)⟩)⟩)⟩)⟩)⟩)⟩)⟩)⟩)⟩)⟩)⟩)⟩)⟩)⟩)⟩)
    refine ⟨_, rfl, _, rfl, p, _, rfl, hB.keep S0, by decide, by decide, fun H' r b hB' r0 r1 => ?_⟩
    have hl := (b a25 ((hB.keep S0).new_of g25 q25)).trans g25
    obtain ⟨j, rfl⟩ := Int.eq_ofNat_of_zero_le r0
    have hj : j < 19 := by omega
    refine ixl (j := j) hl (List.getElem?_eq_getElem hj) ?_
    have th := all _ (List.getElem_mem hj)
    obtain ⟨d, dz, fz⟩ := th
    exact q _ _ (g0.trans ((Same.grow S0).trans b.grow)) hB' ⟨d, dz_grow (hB.keep S0) b.grow dz, fz⟩
end
/-! ### the law -/
section
variable {P : Program} {w : World} {K : PySem.W.Frag} {mg : Str → Option Value} {base : Heap}
theorem ok_law {f : Addr} {fd : FuncData} (F : Fun K "law" "law" s_law f fd) (T : Bl mg) (c_law_bag : Cal P w K mg base 1 "_law_bag" (spBag K)) (c_law_take : Cal P w K mg base 1 "_law_take" spTake) (c_law_near : Cal P w K mg base 2 "_law_near" spThing)
    (c_law_odd : Cal P w K mg base 2 "_law_odd" spThing) (c_is_part : Cal P w K mg base 2 "is_part" (spIsPart K)) (c_law_is_part : Cal P w K mg base 2 "_law_is_part" (spLIsPart K)) : AtC P w K mg base L2.CX0 f fd "_law_script" (spLaw K) := by
  refine law_ok F sc_law (fun vs H Q E h => ?_) (fun cdv A outer s H vs Q E hgd hr h => ?_)
  · obtain ⟨a, ns, rfl, _⟩ := h
    rfl
  · obtain ⟨a, ns, rfl, hS, hlen, q⟩ := h
    have nd := sc_law.nd
    have hu64 := hr.units
    refine ⟨_, (pss_cons (ps_for PassesOwn.never rfl (pi_range1 rfl T.b_range (pa_cons (pe_callB (call_max2 rfl) (by rfl) T.b_max (by decide +kernel) (pa_cons pe_int (pa_cons (pe_callB (call_min2 rfl) (by rfl) T.b_min (by decide +kernel) (pa_cons pe_int (pa_cons (pe_callB call_len (by rfl) T.b_len (by decide +kernel) (pa_cons (pv 0) pa_nil)) pa_nil))) pa_nil))) pa_nil)) (pg_name (i := 1) nd rfl (.inl rfl))
        (pss_cons (ps_set (i := 2) nd rfl (.inl rfl) (pe_f c_law_bag hr rfl (pa_cons (pv 0) (pa_cons (pv 1) pa_nil))))
        (pss_one (ps_for PassesOwn.never rfl (pi_range1 rfl T.b_range (pa_cons pe_int pa_nil)) (pg_name (i := 3) nd rfl (.inl rfl))
          (pss_cons (ps_set (i := 4) nd rfl (.inl rfl) (pe_cut (pe_ifExp (pt_cmpR op_gt (pe_f c_law_take hr rfl (pa_cons (pv 2) (pa_cons pe_int pa_nil))) pe_int (nomark _)) (pe_f c_law_near hr rfl (pa_cons (pv 2) pa_nil)) (pe_f c_law_odd hr rfl (pa_cons (pv 2) pa_nil)))))
          (pss_cons (ps_set (i := 5) nd rfl (.inl rfl) (pe_callB (reprZ hgd hu64) (by rfl) T.b_repr (by decide +kernel) (pa_cons (pv 4) pa_nil)))
          (pss_one (ps_for PassesOwn.never rfl (pi_range1 rfl T.b_range (pa_cons pe_int pa_nil)) (pg_name (i := 6) nd rfl (.inl rfl))
            (pss_cons (ps_set (i := 7) nd rfl (.inl rfl) (pe_cut (pe_f c_is_part hr rfl (pa_cons (pv 4) pa_nil))))
            (pss_one (ps_if (PW.pt (pw_or (pt_not (pt_val (pe_callB call_isi (by rfl) T.b_isinstance (by decide +kernel) (pa_cons (pv 7) (pa_cons (pe_bltn (v := .ty "bool") (by rfl) T.b_bool (by decide +kernel) rfl) pa_nil))))) (pw_or (pt_cmpR op_ne (pv 7) (pe_cut (pe_f c_law_is_part hr rfl (pa_cons (pv 4) pa_nil))) (nomark _)) (pw_or1 (pt_cmpR op_ne (pe_callB (reprZ hgd hu64) (by rfl) T.b_repr (by decide +kernel) (pa_cons (pv 4) pa_nil)) (pv 5) (nomark _))))))
              (pss_one (ps_ret pe_bl))
              pss_nil)))))))))))
      (pss_one (ps_ret pe_bl))), ?_⟩
    obtain ⟨m, em, hm⟩ := cells_of ns.length 2 6 (by decide)
    refine ⟨_, rfl, .ref a, _, rfl, .inl ⟨_, hS, rfl⟩, _, _, rfl, _, _, rfl, (m : Int), ?_, by omega, by omega, ?_⟩
    · rw [List.length_map]
      exact congrArg (fun z => [V.int z]) em
    refine for_range (lo := 0) (n := m) (fun i σ H' => ∃ y1 y2 y3 y4 y5 y6 y7 : Option V, σ = [some (.ref a), y1, y2, y3, y4, y5, y6, y7] ∧ Same H H') ⟨_, _, _, _, _, _, _, rfl, Same.refl H⟩ ?_ ?_
    · rintro i σ H1 hi ⟨y1, y2, y3, y4, y5, y6, y7, rfl, s1⟩
      refine ⟨_, rfl, _, rfl, a, ns, _, rfl, s1.seq hS, by omega, by omega, by omega, fun H2 p s2 np hB => ?_⟩
      have np0 : H p = none := s1.free np
      refine ⟨10, rfl, by decide, by decide, ?_⟩
      refine for_range (lo := 0) (n := 10) (fun _ σ H' => ∃ y3 y4 y5 y6 y7 : Option V, σ = [some (.ref a), some (.int (0 + (i : Nat))), some (.ref p), y3, y4, y5, y6, y7] ∧ Grow p H2 H' ∧ BagAt H' p) ⟨_, _, _, _, _, rfl, Grow.refl p H2, hB⟩ ?_ ?_
      · rintro i' σ H3 hi' ⟨y3, y4, y5, y6, y7, rfl, g3, hB3⟩
        -- the thing
        refine ⟨fun v H' => Grow p H3 H' ∧ BagAt H' p ∧ Thing H' p v, ?_, ?_⟩
        · refine ⟨_, rfl, p, _, rfl, hB3, by decide, by decide, fun H4 r b4 hB4 r0 r1 => ?_⟩
          refine ⟨_, _, rfl, rfl, _, rfl, ite2 (fun _ => ?_) (fun _ => ?_)⟩
          · exact ⟨_, rfl, p, rfl, hB4, fun H5 v g5 hB5 th => ⟨b4.grow.trans g5, hB5, th⟩⟩
          · exact ⟨_, rfl, p, rfl, hB4, fun H5 v g5 hB5 th => ⟨b4.grow.trans g5, hB5, th⟩⟩
        rintro v H4 ⟨g4, hB4, d, dz, fz⟩
        refine ⟨_, rfl, p, v, d, rfl, dz, fz, ?_⟩
        refine ⟨2, rfl, by decide, by decide, ?_⟩
        refine for_range (lo := 0) (n := 2) (fun _ σ H' => ∃ y6 y7 : Option V, σ = [some (.ref a), some (.int (0 + (i : Nat))), some (.ref p), some (.int (0 + (i' : Nat))), some v, some (.str d.shown), y6, y7] ∧ Same H4 H') ⟨_, _, rfl, Same.refl H4⟩ ?_ ?_
        · rintro i2 σ H5 hi2 ⟨y6, y7, rfl, s5⟩
          have dz5 := dz_grow hB4 (Same.grow s5) dz
          -- both say the same
          have both : ∃ b : Bool, (∀ R : VK, R (.bl b) H5 → spIsPart K [v] H5 R E0) ∧ (∀ R : VK, (∀ H', Same H5 H' → R (.bl b) H') → spLIsPart K [v] H5 R E0) := by
            rcases dz_cases (K := K) dz5 with ⟨n, ty, hn, h1⟩ | ⟨t, xs, rfl, ht, hk⟩
            · exact ⟨false, fun R r => .inl ⟨v, n, rfl, ty, hn, h1, r⟩, fun R r => .inl ⟨v, n, rfl, ty, hn, h1, r⟩⟩
            · exact ⟨tupPart xs, fun R r => .inr ⟨t, xs, rfl, ht, hk, r⟩, fun R r => .inr ⟨t, xs, rfl, ht, hk, r⟩⟩
          obtain ⟨b, k1, k2⟩ := both
          refine ⟨fun r H' => r = .bl b ∧ H' = H5, ⟨_, rfl, k1 (fun r H' => r = .bl b ∧ H' = H5) ⟨rfl, rfl⟩⟩, ?_⟩
          rintro _ H5' ⟨rfl, e5⟩
          cases e5
          refine ⟨_, rfl, .bl b, .ty "bool", _, _, true, rfl, .ty _, .base (.bl b), kit_ty (by decide +kernel), true, rfl, iteF ?_⟩
          refine ⟨_, rfl, fun r H' => r = .bl b ∧ Same H5 H', ⟨_, rfl, k2 (fun r H' => r = .bl b ∧ Same H5 H') fun H6 s6 => ⟨rfl, s6⟩⟩, ?_⟩
          rintro _ H6 ⟨rfl, s6⟩
          refine ⟨rfl, _, rfl, ?_⟩
          rw [decide_eq_true rfl]
          refine iteF ⟨_, rfl, p, v, d, rfl, dz_grow (hB4.keep s5) (Same.grow s6) dz5, fz, _, rfl, rfl, _, rfl, ?_⟩
          rw [decide_eq_true rfl]
          exact iteF ⟨_, _, rfl, s5.trans s6⟩
        · rintro σ H5 ⟨y6, y7, rfl, s5⟩
          exact ⟨_, _, _, _, _, rfl, g3.trans (g4.trans (Same.grow s5)), hB4.keep s5⟩
      · rintro σ H3 ⟨y3, y4, y5, y6, y7, rfl, g3, hB3⟩
        exact ⟨_, _, _, _, _, _, _, rfl, Grow.same s1 np0 ((Same.grow s2).trans g3)⟩
    · rintro σ H1 ⟨y1, y2, y3, y4, y5, y6, y7, rfl, s1⟩
      exact q H1
theorem at_law {f : Addr} {fd : FuncData} (F : Fun K "law" "law" s_law f fd) (T : Bl mg) (D_is_plain_int : DefIn K mg "is_plain_int" s_is_plain_int) (D_is_part : DefIn K mg "is_part" s_is_part) (D_is_power_of_two : DefIn K mg "is_power_of_two" s_is_power_of_two)
    (D_bag : DefIn K mg "_law_bag" s_l_bag) (D_take : DefIn K mg "_law_take" s_l_take) (D_whole : DefIn K mg "_law_whole" s_l_whole) (D_lis : DefIn K mg "_law_is_part" s_l_is_part) (D_odd : DefIn K mg "_law_odd" s_l_odd) (D_near : DefIn K mg "_law_near" s_l_near) : AtC P w K mg base L2.CX0 f fd "_law_script" (spLaw K) := by
  have c_take : Cal P w K mg base 1 "_law_take" spTake := cal_of D_take (fun _ _ F => ok_take F) fun _ _ _ _ _ _ us hl => match us, hl with | [_, _], _ => rfl
  have c_bag : Cal P w K mg base 1 "_law_bag" (spBag K) := cal_of D_bag (fun _ _ F => ok_bag F T) fun _ _ _ _ _ _ us hl => match us, hl with | [_, _], _ => rfl
  have c_plain : Cal P w K mg base 1 "is_plain_int" (spPlain K) := cal_of D_is_plain_int (fun _ _ F => ok_plain F T) fun _ _ _ _ _ _ us hl => match us, hl with | [_], _ => rfl
  have c_pow2 : Cal P w K mg base 1 "is_power_of_two" spPow2 := cal_of D_is_power_of_two (fun _ _ F => ok_pow2 F) fun _ _ _ _ _ _ us hl => match us, hl with | [_], _ => rfl
  have c_isPart : Cal P w K mg base 2 "is_part" (spIsPart K) := cal_of D_is_part (fun _ _ F => ok_isPart F T c_plain c_pow2) fun _ _ _ _ _ _ us hl => match us, hl with | [_], _ => rfl
  have c_whole : Cal P w K mg base 1 "_law_whole" (spPlain K) := cal_of D_whole (fun _ _ F => ok_whole F T) fun _ _ _ _ _ _ us hl => match us, hl with | [_], _ => rfl
  have c_lis : Cal P w K mg base 2 "_law_is_part" (spLIsPart K) := cal_of D_lis (fun _ _ F => ok_lisPart F T c_whole) fun _ _ _ _ _ _ us hl => match us, hl with | [_], _ => rfl
  have c_odd : Cal P w K mg base 2 "_law_odd" spThing := cal_of D_odd (fun _ _ F => ok_odd F c_take) fun _ _ _ _ _ _ us hl => match us, hl with | [_], _ => rfl
  have c_near : Cal P w K mg base 2 "_law_near" spThing := cal_of D_near (fun _ _ F => ok_near F T c_take) fun _ _ _ _ _ _ us hl => match us, hl with | [_], _ => rfl
  exact ok_law F T c_bag c_take c_near c_odd c_isPart c_lis
end
/-! ### what the top has written -/
theorem all_mk {l : PySem.W.OpenLaw} {w : World} {K : PySem.W.Frag} {h : Heap} {mg : Str → Option Value} {fa f0 f1 f2 f3 f4 f5 f6 f7 f8 f9 : Addr} (X : K.In h) (G : h.Ns mainGlobals mg) (hfa : mg "law" = some (.ref fa))
    {od0 an0 od1 an1 od2 an2 od3 an3 od4 an4 od5 an5 od6 an6 od7 an7 od8 an8 od9 an9 : Option Addr} {sl0 sl1 sl2 sl3 sl4 sl5 sl6 sl7 sl8 sl9 : Array (Option Value)} {oc0 kV0 dc0 pm0 cd0 ct0 oc1 kV1 dc1 pm1 cd1 ct1 oc2 kV2 dc2 pm2 cd2 ct2 oc3 kV3 dc3 pm3 cd3 ct3 oc4 kV4 dc4 pm4 cd4 ct4 oc5 kV5 dc5 pm5 cd5 ct5 oc6 kV6 dc6 pm6 cd6 ct6 oc7 kV7 dc7 pm7 cd7 ct7 oc8 kV8 dc8 pm8 cd8 ct8 oc9 kV9 dc9 pm9 cd9 ct9 : Value}
    (a0 : PySem.W.nsIn K mainGlobals "is_plain_int" = some (some (.ref f0))) (l0 : K.lookup f0 = some ⟨oc0, od0, .func (PySem.W.fnOf "is_plain_int" "is_plain_int" (defArgs s_is_plain_int) (defBody s_is_plain_int) (defScope s_is_plain_int) .none kV0 dc0 pm0 an0 cd0 ct0), sl0⟩)
    (c0 : PySem.W.codeIn K cd0 "is_plain_int" = true) (k0 : PySem.W.keepIn K (.ref f0) = true)
    (a1 : PySem.W.nsIn K mainGlobals "is_part" = some (some (.ref f1))) (l1 : K.lookup f1 = some ⟨oc1, od1, .func (PySem.W.fnOf "is_part" "is_part" (defArgs s_is_part) (defBody s_is_part) (defScope s_is_part) .none kV1 dc1 pm1 an1 cd1 ct1), sl1⟩)
    (c1 : PySem.W.codeIn K cd1 "is_part" = true) (k1 : PySem.W.keepIn K (.ref f1) = true)
    (a2 : PySem.W.nsIn K mainGlobals "is_power_of_two" = some (some (.ref f2))) (l2 : K.lookup f2 = some ⟨oc2, od2, .func (PySem.W.fnOf "is_power_of_two" "is_power_of_two" (defArgs s_is_power_of_two) (defBody s_is_power_of_two) (defScope s_is_power_of_two) .none kV2 dc2 pm2 an2 cd2 ct2), sl2⟩)
    (c2 : PySem.W.codeIn K cd2 "is_power_of_two" = true) (k2 : PySem.W.keepIn K (.ref f2) = true)
    (a3 : PySem.W.nsIn K mainGlobals "_law_bag" = some (some (.ref f3))) (l3 : K.lookup f3 = some ⟨oc3, od3, .func (PySem.W.fnOf "_law_bag" "_law_bag" (defArgs s_l_bag) (defBody s_l_bag) (defScope s_l_bag) .none kV3 dc3 pm3 an3 cd3 ct3), sl3⟩)
    (c3 : PySem.W.codeIn K cd3 "_law_bag" = true) (k3 : PySem.W.keepIn K (.ref f3) = true)
    (a4 : PySem.W.nsIn K mainGlobals "_law_take" = some (some (.ref f4))) (l4 : K.lookup f4 = some ⟨oc4, od4, .func (PySem.W.fnOf "_law_take" "_law_take" (defArgs s_l_take) (defBody s_l_take) (defScope s_l_take) .none kV4 dc4 pm4 an4 cd4 ct4), sl4⟩)
    (c4 : PySem.W.codeIn K cd4 "_law_take" = true) (k4 : PySem.W.keepIn K (.ref f4) = true)
    (a5 : PySem.W.nsIn K mainGlobals "_law_whole" = some (some (.ref f5))) (l5 : K.lookup f5 = some ⟨oc5, od5, .func (PySem.W.fnOf "_law_whole" "_law_whole" (defArgs s_l_whole) (defBody s_l_whole) (defScope s_l_whole) .none kV5 dc5 pm5 an5 cd5 ct5), sl5⟩)
    (c5 : PySem.W.codeIn K cd5 "_law_whole" = true) (k5 : PySem.W.keepIn K (.ref f5) = true)
    (a6 : PySem.W.nsIn K mainGlobals "_law_is_part" = some (some (.ref f6))) (l6 : K.lookup f6 = some ⟨oc6, od6, .func (PySem.W.fnOf "_law_is_part" "_law_is_part" (defArgs s_l_is_part) (defBody s_l_is_part) (defScope s_l_is_part) .none kV6 dc6 pm6 an6 cd6 ct6), sl6⟩)
    (c6 : PySem.W.codeIn K cd6 "_law_is_part" = true) (k6 : PySem.W.keepIn K (.ref f6) = true)
    (a7 : PySem.W.nsIn K mainGlobals "_law_odd" = some (some (.ref f7))) (l7 : K.lookup f7 = some ⟨oc7, od7, .func (PySem.W.fnOf "_law_odd" "_law_odd" (defArgs s_l_odd) (defBody s_l_odd) (defScope s_l_odd) .none kV7 dc7 pm7 an7 cd7 ct7), sl7⟩)
    (c7 : PySem.W.codeIn K cd7 "_law_odd" = true) (k7 : PySem.W.keepIn K (.ref f7) = true)
    (a8 : PySem.W.nsIn K mainGlobals "_law_near" = some (some (.ref f8))) (l8 : K.lookup f8 = some ⟨oc8, od8, .func (PySem.W.fnOf "_law_near" "_law_near" (defArgs s_l_near) (defBody s_l_near) (defScope s_l_near) .none kV8 dc8 pm8 an8 cd8 ct8), sl8⟩)
    (c8 : PySem.W.codeIn K cd8 "_law_near" = true) (k8 : PySem.W.keepIn K (.ref f8) = true)
    (a9 : PySem.W.nsIn K mainGlobals "law" = some (some (.ref f9))) (l9 : K.lookup f9 = some ⟨oc9, od9, .func (PySem.W.fnOf "law" "law" (defArgs s_law) (defBody s_law) (defScope s_law) .none kV9 dc9 pm9 an9 cd9 ct9), sl9⟩)
    (c9 : PySem.W.codeIn K cd9 "law" = true) (k9 : PySem.W.keepIn K (.ref f9) = true)
    (z_abs : PySem.W.nsIn K mainGlobals "abs" = some none)
    (z_all : PySem.W.nsIn K mainGlobals "all" = some none)
    (z_bool : PySem.W.nsIn K mainGlobals "bool" = some none)
    (z_enumerate : PySem.W.nsIn K mainGlobals "enumerate" = some none)
    (z_int : PySem.W.nsIn K mainGlobals "int" = some none)
    (z_isinstance : PySem.W.nsIn K mainGlobals "isinstance" = some none)
    (z_len : PySem.W.nsIn K mainGlobals "len" = some none)
    (z_max : PySem.W.nsIn K mainGlobals "max" = some none)
    (z_min : PySem.W.nsIn K mainGlobals "min" = some none)
    (z_range : PySem.W.nsIn K mainGlobals "range" = some none)
    (z_repr : PySem.W.nsIn K mainGlobals "repr" = some none)
    (z_str : PySem.W.nsIn K mainGlobals "str" = some none)
    (z_tuple : PySem.W.nsIn K mainGlobals "tuple" = some none)
    : ∃ fd : FuncData, (∀ (s : Shared) (v : Value), BindsTo s fd ⟨[v], []⟩ [("_law_script", v)]) ∧ ∀ base : Heap, K.In base → base.Ns mainGlobals mg → AtC l.prog w K mg base L2.CX0 fa fd "_law_script" (spLaw K) := by
  have e := hfa.symm.trans (PySem.W.mg_of X G a9)
  cases e
  have T : Bl mg := ⟨PySem.W.mg_none_of X G z_abs, PySem.W.mg_none_of X G z_all, PySem.W.mg_none_of X G z_bool, PySem.W.mg_none_of X G z_enumerate, PySem.W.mg_none_of X G z_int, PySem.W.mg_none_of X G z_isinstance, PySem.W.mg_none_of X G z_len, PySem.W.mg_none_of X G z_max, PySem.W.mg_none_of X G z_min, PySem.W.mg_none_of X G z_range, PySem.W.mg_none_of X G z_repr, PySem.W.mg_none_of X G z_str, PySem.W.mg_none_of X G z_tuple⟩
  have D_is_plain_int : DefIn K mg "is_plain_int" s_is_plain_int := ⟨f0, _, fun_mk (st := s_is_plain_int) l0 c0 k0, PySem.W.mg_of X G a0⟩
  have D_is_part : DefIn K mg "is_part" s_is_part := ⟨f1, _, fun_mk (st := s_is_part) l1 c1 k1, PySem.W.mg_of X G a1⟩
  have D_is_power_of_two : DefIn K mg "is_power_of_two" s_is_power_of_two := ⟨f2, _, fun_mk (st := s_is_power_of_two) l2 c2 k2, PySem.W.mg_of X G a2⟩
  have D_l_bag : DefIn K mg "_law_bag" s_l_bag := ⟨f3, _, fun_mk (st := s_l_bag) l3 c3 k3, PySem.W.mg_of X G a3⟩
  have D_l_take : DefIn K mg "_law_take" s_l_take := ⟨f4, _, fun_mk (st := s_l_take) l4 c4 k4, PySem.W.mg_of X G a4⟩
  have D_l_whole : DefIn K mg "_law_whole" s_l_whole := ⟨f5, _, fun_mk (st := s_l_whole) l5 c5 k5, PySem.W.mg_of X G a5⟩
  have D_l_is_part : DefIn K mg "_law_is_part" s_l_is_part := ⟨f6, _, fun_mk (st := s_l_is_part) l6 c6 k6, PySem.W.mg_of X G a6⟩
  have D_l_odd : DefIn K mg "_law_odd" s_l_odd := ⟨f7, _, fun_mk (st := s_l_odd) l7 c7 k7, PySem.W.mg_of X G a7⟩
  have D_l_near : DefIn K mg "_law_near" s_l_near := ⟨f8, _, fun_mk (st := s_l_near) l8 c8 k8, PySem.W.mg_of X G a8⟩
  exact ⟨PySem.W.fnOf "law" "law" (defArgs s_law) (defBody s_law) (defScope s_law) .none kV9 dc9 pm9 an9 cd9 ct9, fun s v => .of_eq rfl, fun base _ _ => at_law (fun_mk (st := s_law) l9 c9 k9) T D_is_plain_int D_is_part D_is_power_of_two D_l_bag D_l_take D_l_whole D_l_is_part D_l_odd D_l_near⟩
end Tp
open PySem PySem.W PyProof.Rows in
set_option maxRecDepth 100000 in
set_option maxHeartbeats 0 in
theorem PySem.Challenge.cw_trailparts_k01_parts_known_holds : PySem.Challenge.rw_trailparts_k01_parts_known.Holds := by
  w_on; o_law; k_head; (case hw => w_witness2)
  k_fill
  refine Tp.walk_at_law (l := PySem.Challenge.rw_trailparts_k01_parts_known) (n := 63) (CX := L2.CX0) (sp := Tp.spLaw) (x := "_law_script") rfl (by decide) rfl (fun w h Y => PySem.W.kIn_of Y) ?F (fun _ _ a ns hl _ hS => ⟨a, ns, rfl, hS, hl, fun _ => rfl⟩) (fun _ _ _ _ z => z)
  case F =>
    intro w mg fa h KX G hmg
    refine' Tp.all_mk KX G hmg ?a0 ?l0 ?c0 ?k0 ?a1 ?l1 ?c1 ?k1 ?a2 ?l2 ?c2 ?k2 ?a3 ?l3 ?c3 ?k3 ?a4 ?l4 ?c4 ?k4 ?a5 ?l5 ?c5 ?k5 ?a6 ?l6 ?c6 ?k6 ?a7 ?l7 ?c7 ?k7 ?a8 ?l8 ?c8 ?k8 ?a9 ?l9 ?c9 ?k9 ?z_abs ?z_all ?z_bool ?z_enumerate ?z_int ?z_isinstance ?z_len ?z_max ?z_min ?z_range ?z_repr ?z_str ?z_tuple
    (case a0 => k_is)
    (case l0 => k_is)
    (case c0 => k_is)
    (case k0 => k_is)
    (case a1 => k_is)
    (case l1 => k_is)
    (case c1 => k_is)
    (case k1 => k_is)
    (case a2 => k_is)
    (case l2 => k_is)
    (case c2 => k_is)
    (case k2 => k_is)
    (case a3 => k_is)
    (case l3 => k_is)
    (case c3 => k_is)
    (case k3 => k_is)
    (case a4 => k_is)
    (case l4 => k_is)
    (case c4 => k_is)
    (case k4 => k_is)
    (case a5 => k_is)
    (case l5 => k_is)
    (case c5 => k_is)
    (case k5 => k_is)
    (case a6 => k_is)
    (case l6 => k_is)
    (case c6 => k_is)
    (case k6 => k_is)
    (case a7 => k_is)
    (case l7 => k_is)
    (case c7 => k_is)
    (case k7 => k_is)
    (case a8 => k_is)
    (case l8 => k_is)
    (case c8 => k_is)
    (case k8 => k_is)
    (case a9 => k_is)
    (case l9 => k_is)
    (case c9 => k_is)
    (case k9 => k_is)
    (case z_abs => k_is)
    (case z_all => k_is)
    (case z_bool => k_is)
    (case z_enumerate => k_is)
    (case z_int => k_is)
    (case z_isinstance => k_is)
    (case z_len => k_is)
    (case z_max => k_is)
    (case z_min => k_is)
    (case z_range => k_is)
    (case z_repr => k_is)
    (case z_str => k_is)
    (case z_tuple => k_is)
#print axioms PySem.Challenge.cw_trailparts_k01_parts_known_holds
