import PyProof.Rows.All
import Wide.All
import OpenK.AllK
import Wide.FinOn
import HandS.Base
import HandS.Call
import HandS.List
import HandS.Ends
import HandS.Iter
import HandS.Words
import HandS.Wide
import HandS.WideBits
import HandS.IsInst
import HandS.Style
import HandS.TupAny
import PySem.Challenge.RW_trailparts_k06_addresses_updated
set_option Elab.async false
set_option linter.all false
set_option maxRecDepth 100000
set_option maxHeartbeats 2000000
namespace Tp
open PySem PySem.Spec PyProof.Rows L2

/-! ### repr of data -/
theorem reprD {X : Cx} (hg : X.A.guards = some []) (hu : X.A.units + 64 < cLine) :
    CallR X (.builtin "repr") (fun xs H Q => ∃ v d, xs = [v] ∧ Dp X.K H v d ∧ d.showable = true ∧ d.hasDict = false ∧ d.depth ≤ 40 ∧ d.shown.length ≤ sizeLine ∧ Q (.str d.shown) H) := by
  intro pins s σ H xs us Q I r h
  obtain ⟨v, d, rfl, hd, hs, hnd, hdep, hsz, q⟩ := h
  obtain ⟨u, rfl, ru⟩ := vals1 r
  obtain ⟨as, rd⟩ := Dp.reads I d v u hd ru
  cases hd with
  | non =>
    cases (show u = Value.none from ru)
    exact PySem.P.repr_of_none ⟨.str _, H, I.tok _, ⟨_, rfl⟩, q⟩
  | bl b =>
    cases (show u = Value.bool b from ru)
    exact PySem.P.repr_of_bool ⟨.str _, H, I.tok _, ⟨_, rfl⟩, q⟩
  | int i =>
    obtain ⟨t, rfl⟩ := (show ∃ t, u = Value.int i t from ru)
    exact PySem.P.repr_of_int (by simpa [PyData.showable] using hs) ⟨.str _, H, I.tok _, ⟨_, rfl⟩, q⟩
  | str x =>
    obtain ⟨t, rfl⟩ := (show ∃ t, u = Value.str x t from ru)
    exact PySem.P.repr_of_str ⟨.str _, H, I.tok _, ⟨_, rfl⟩, q⟩ hsz
  | lst hq ha =>
    cases (show u = Value.ref _ from ru)
    exact repr_of_reads' rd hs (fun z => by rw [hnd] at z; cases z) hg (by omega) (fun _ _ e => e) (fun h' u tk hk => ⟨.str _, H, I.kept hk, ⟨_, rfl⟩, q⟩) hsz
  | tup hq ha =>
    cases (show u = Value.ref _ from ru)
    exact repr_of_reads' rd hs (fun z => by rw [hnd] at z; cases z) hg (by omega) (fun _ _ e => e) (fun h' u tk hk => ⟨.str _, H, I.kept hk, ⟨_, rfl⟩, q⟩) hsz

/-! ### the law itself: its call is at a known place, so the guards are known -/
/-- the law's promise at the caller's place alone -/
def AtC (P : Program) (w : World) (K : PySem.W.Frag) (mg : Str → Option Value) (base : Heap) (CX : CXT) (f : Addr) (fd : FuncData) (x : Str) (sp : Sp) : Prop :=
  ∀ (s : Shared) (H : Hp) (args : Args) (u : Value) (v : V) (Q : VK) (E : XK), Env0 P w K mg base callerA [] s H → BindsTo s fd args [(x, u)] → RelV v u → sp [v] H Q E →
    codeAny (model P w) callerA (.call (.ref f) args) (CR CX [] P w H s Q E) s
theorem room_caller {k : Nat} (h : k ≤ 40) : Room k callerA := by
  have h2 : Room 40 callerA := ⟨rfl, by decide, by decide⟩
  exact h2.mono h

/-- a def at the caller's place, from its body; the guards there are none -/
theorem atC_of {CX : CXT} {P : Program} {w : World} {K : PySem.W.Frag} {mg : Str → Option Value} {base : Heap} {k : Nat} {f : Addr} {name qual : Str} {params : Arguments} {body : List Stmt} {scope : Scope}
    {dV kV doc pm cdv ct oc : Value} {an od : Option Addr} {osl : Array (Option Value)} {N : List Str} {x : Str} {sp : Sp}
    (lk : K.lookup f = some ⟨oc, od, .func (PySem.W.fnOf name qual params body scope dV kV doc pm an cdv ct), osl⟩) (hcd : PySem.W.codeIn K cdv qual = true) (S : FnScope N [x] scope) (hk : k ≤ 30)
    (len : ∀ vs H Q E, sp vs H Q E → vs.length = 1)
    (hbody : ∀ (A : Around) (outer : List Env) (s : Shared) (H : Hp) (vs : List V) (Q : VK) (E : XK), A.guards = some [] → Room k (A.deeper (envOfC qual scope s.heap.objs.size f cdv)) → sp vs H Q E →
      ∃ t, PSs (cxOf CX P w K mg base N qual scope f cdv A outer s H E) body t ∧ t { nx := fun _ H' => Q .non H', rt := Q } (start N vs) H) :
    AtC P w K mg base CX f (PySem.W.fnOf name qual params body scope dV kV doc pm an cdv ct) x sp := by
  intro s H args u v Q E e0 hb rv hsp
  have hr : Room (k + 1) callerA := room_caller (by omega)
  have KX : K.In s.heap := e0.mod.kin.keeps fun b o e => (e0.bs b o e).1
  have lim : s.heap.NoLimit := e0.mod.nolimit.keeps fun b o e => (e0.bs b o e).1
  have hkind : ∀ y ∈ [(x, u)], scope.names.lookup y.1 = some .local ∨ (scope.names.lookup y.1 = some .cell ∧ ((cellsFrom (s.heap.objs.size + 1) scope.names []).lookup y.1).isSome = true) := by
    intro y hy
    obtain rfl : y = (x, u) := List.mem_singleton.mp hy
    exact (S.par x (by simp)).imp id fun q => ⟨q, PySem.W.cellsFrom_some _ _ _ (.inl q)⟩
  refine codeAny_call_function hr.depth (KX _ _ lk) rfl S.co S.gen rfl (PySem.W.codeRec_of KX hcd) (hb _ _ _ _ ?_)
  refine wpAny_newFunctionEnv_cells S.kind hkind fun env he s1 xn => ?_
  subst he
  refine ⟨lim.keeps xn.toInCall.keep, codeAny_func ?_⟩
  obtain ⟨t, ht, hq⟩ := hbody callerA [] s H [v] Q E rfl (hr.deeper _) hsp
  have I : Inv (cxOf CX P w K mg base N qual scope f cdv callerA [] s H E) [] (start N [v]) H s1 :=
    inv_start (ps := [x]) (us := [u]) S hr.hd e0 rfl (.cons rv .nil) xn
  refine wpAny_mono (ht.run [] s1 (start N [v]) H _ I hq) (fun fl s' hs => ?_) fun _ _ hs => hs
  cases fl with
  | brk =>
    obtain ⟨_, _, _, q⟩ := hs
    exact q.elim
  | cont =>
    obtain ⟨_, _, _, q⟩ := hs
    exact q.elim
  | next =>
    obtain ⟨σ', H', J, q⟩ := hs
    exact ⟨.non, H', J.os, J.bare, J.base, J.hok, rfl, q⟩
  | ret z =>
    obtain ⟨v', σ', H', J, rv', q⟩ := hs
    exact ⟨v', H', J.os, J.bare, J.base, J.hok, rv', q⟩

/-- the abstract heap at the entry: the script alone, if it is not one of the module's own objects -/
noncomputable def scriptHp (K : PySem.W.Frag) (a : Addr) (ob : Obj) (xs : List V) : Hp := fun b => if b = a ∧ K.lookup a = none then some (.frz ob (.lst xs)) else none
theorem scriptHp_some {K : PySem.W.Frag} {a b : Addr} {ob : Obj} {xs : List V} {o : HO} (h : scriptHp K a ob xs b = some o) : b = a ∧ K.lookup a = none ∧ o = .frz ob (.lst xs) := by
  unfold scriptHp at h
  split at h
  · rename_i c
    exact ⟨c.1, c.2, (Option.some.inj h).symm⟩
  · cases h
theorem script_only {K : PySem.W.Frag} {a : Addr} {ob : Obj} {xs : List V} : Only (scriptHp K a ob xs) := by
  intro b
  cases e : scriptHp K a ob xs b with
  | none => exact .inl rfl
  | some o =>
    obtain ⟨_, _, rfl⟩ := scriptHp_some e
    exact .inr ⟨_, _, rfl⟩

theorem law_at {P : Program} {w : World} {K : PySem.W.Frag} {mg mb : Str → Option Value} {CX : CXT} {fa a : Addr} {fd : FuncData} {x : Str} {sp : Sp} {s1 : Shared} {vs : List Value} {ns : List Int}
    (KX : K.In s1.heap) (hns : s1.heap.Ns mainGlobals mg) (hb : s1.heap.Ns builtinsNs mb) (hbb : ∀ y : Str, y ≠ "__name__" → mb y = bootBuiltins y) (hlim : s1.heap.NoLimit) (hg : s1.gens = #[])
    (ha : s1.heap.get? a = some { cls := .type "list", data := .seq vs.toArray }) (hi : IntsAre vs ns) (hl : ns.length ≤ sizeLine)
    (F : ∀ base : Heap, K.In base → base.Ns mainGlobals mg → AtC P w K mg base CX fa fd x sp) (hbind : ∀ (s : Shared) (u : Value), BindsTo s fd ⟨[u], []⟩ [(x, u)])
    (hsp : ∀ H : Hp, Only H → SqL K H a (ns.map V.int) → sp [.ref a] H (fun v _ => v = .bl true) fun _ _ _ => False)
    (hCX : ∀ H e s', CX [] H s1 (fun _ _ _ => False) e s' → False) :
    codeAny (model P w) callerA (.call (.ref fa) ⟨[.ref a], []⟩) (fun r s' => r = .ok (.ret (.bool true)) ∧ OldK s1.heap s'.heap ∧ s'.os = s1.os ∧ AllBare s'.gens) s1 := by
  have rv := vals_ints hi
  have lenV := hi.length
  generalize eH : scriptHp K a { cls := .type "list", data := .seq vs.toArray } (ns.map V.int) = H
  have hO : Only H := by
    rw [← eH]
    exact script_only
  have hat : ∀ {b : Addr} {o : HO}, H b = some o → b = a ∧ K.lookup a = none ∧ o = .frz { cls := .type "list", data := .seq vs.toArray } (.lst (ns.map V.int)) := fun {b o} q => by
    rw [← eH] at q
    exact scriptHp_some q
  have hS : SqL K H a (ns.map V.int) := by
    cases hk : K.lookup a with
    | none =>
      refine .inl (.inr ⟨{ cls := .type "list", data := .seq vs.toArray }, ?_⟩)
      rw [← eH]
      exact if_pos ⟨rfl, hk⟩
    | some o =>
      have e := KX a o hk
      rw [ha] at e
      cases e
      exact .inr ⟨_, vs.toArray, _, hk, rfl, rfl, rfl, by rw [List.size_toArray, lenV]; exact hl, by simpa using rv⟩
  have hok : HOk P w H s1.heap := fun b o q => by
    obtain ⟨rfl, _, rfl⟩ := hat q
    exact ⟨ha, by rw [List.length_map]; exact hl, vs, _, rv, ha⟩
  have none_of : ∀ {b : Addr} {o : Obj}, s1.heap.get? b = some o → (b = a → K.lookup a = none → False) → H b = none := fun {b o} _ z => by
    cases q : H b with
    | none => rfl
    | some u =>
      obtain ⟨e1, e2, _⟩ := hat q
      exact (z e1 e2).elim
  have dictFree : ∀ {b : Addr} {o : Obj} {es : Array DictEntry} {ep : Nat}, s1.heap.get? b = some o → o.data = .dict es ep → H b = none := fun {b o es ep} e d => none_of e fun e1 _ => by
    subst e1
    rw [ha] at e
    cases e
    cases (show Data.seq vs.toArray _ = Data.dict es ep from d)
  have nsK : ∀ {b : Addr} {m : Str → Option Value}, s1.heap.Ns b m → (hidT s1.heap H).Ns b m := by
    rintro b m ⟨o, es, ep, e, d, r⟩
    exact ⟨o, es, ep, hidT_get e (dictFree e d), d, r⟩
  have hKb : K.In (hidT s1.heap H) := fun b o e => hidT_get (KX b o e) (none_of (KX b o e) fun e1 e2 => by
    subst e1
    rw [e2] at e
    cases e)
  obtain ⟨mc, lim1, lim2⟩ := hlim
  have hM : Mod K mg (hidT s1.heap H) := ⟨hKb, nsK hns, ⟨mb, nsK hb, hbb⟩, mc, nsK lim1, lim2⟩
  have e0 : Env0 P w K mg (hidT s1.heap H) callerA [] s1 H :=
    ⟨rfl, hM, fun b o e => of_hidT e, Nat.le_of_eq (hidT_size _ _), trivial, fun b hb => absurd (show b ∈ ([] : List Addr) from hb) (by simp), hok, .of_eq hg⟩
  refine codeAny_mono (F _ hKb (nsK hns) s1 H ⟨[.ref a], []⟩ (.ref a) (.ref a) _ _ e0 (hbind s1 (.ref a)) rfl (hsp H hO hS)) fun r s' h => ?_
  cases r with
  | error e => exact (hCX H e s' h).elim
  | ok fl =>
    cases fl with
    | next => exact h.elim
    | brk => exact h.elim
    | cont => exact h.elim
    | ret u =>
      obtain ⟨v, H', os, bare, un, hok', r', q⟩ := h
      obtain rfl : v = .bl true := q
      obtain rfl : u = Value.bool true := r'
      refine ⟨rfl, OldK.of_keep fun b o e => ?_, os, bare⟩
      cases q : H b with
      | none => exact un.keep b o e q (fun z => absurd (show b ∈ ([] : List Addr) from z) (by simp)) (by simp)
      | some u =>
        obtain ⟨e1, e2, e3⟩ := hat q
        subst e3
        have z2 := un.frzs b _ _ q
        obtain ⟨k1, _⟩ := hok b _ q
        obtain ⟨k2, _⟩ := hok' b _ z2
        rw [e] at k1
        cases k1
        exact k2

theorem walk_at_law {l : PySem.W.OpenLaw} {n : Nat} {q : Program} {loose : List Str} {XP : (Str → Option Value) → Heap → Prop} {YP : World → Heap → Prop} {d : DefRec} {K : Params → PySem.W.Frag} {CX : CXT} {sp : PySem.W.Frag → Sp} {x : Str}
    (hn : l.most = some n) (hn2 : n ≤ sizeLine) (hdf : d.params.defaults = []) (hY : ∀ (w : World) (h : Heap), YP w h → (K w.params).In h)
    (F : ∀ (w : World) (mg : Str → Option Value) (fa : Addr) (h : Heap), (K w.params).In h → h.Ns mainGlobals mg → mg d.name = some (.ref fa) →
      ∃ fd : FuncData, (∀ (s : Shared) (u : Value), BindsTo s fd ⟨[u], []⟩ [(x, u)]) ∧ ∀ base : Heap, (K w.params).In base → base.Ns mainGlobals mg → AtC l.prog w (K w.params) mg base CX fa fd x (sp (K w.params)))
    (hsp : ∀ (K : PySem.W.Frag) (H : Hp) (a : Addr) (ns : List Int), ns.length ≤ n → Only H → SqL K H a (ns.map V.int) → sp K [.ref a] H (fun v _ => v = .bl true) fun _ _ _ => False)
    (hCX : ∀ (H : Hp) (s : Shared) (e : Value) (s' : Shared), CX [] H s (fun _ _ _ => False) e s' → False) :
    PySem.W.WalkO q loose XP YP l.row.toRowW d [] (fun f vs => PySem.call f vs) := by
  refine Att.attach_call hn hdf fun w s0 s1 mg mb fa o pm cd doc a vs ns G Y ho hd hcd hmg hobj hints hlen hgen => ?_
  have KX := hY w _ Y
  obtain ⟨fd, hb, hF⟩ := F w mg fa _ KX G.T.g hmg
  exact law_at KX G.T.g G.T.b G.T.builtins G.T.nolimit hgen hobj hints (Nat.le_trans hlen hn2) hF hb (fun H hO hS => hsp _ H a ns hlen hO hS) fun H e s' => hCX H s1 e s'
end Tp

set_option Elab.async false
set_option linter.all false
set_option maxRecDepth 100000
set_option maxHeartbeats 2000000
namespace Tp
open PySem PySem.Spec PyProof.Rows L2

/-! ### heaps that only grow -/
theorem Same.up {H H1 : Hp} {p : Addr} {o : HO} (e : Same H H1) (h : H1 p = none) : Same H (upd H1 p o) := fun b u q => by
  have q1 := e b u q
  rw [upd_ne (ne_of_none q1 h)]
  exact q1
theorem Same.up0 {H : Hp} {p : Addr} {o : HO} (h : H p = none) : Same H (upd H p o) := Same.up (Same.refl H) h
theorem Same.sqt {K : PySem.W.Frag} {H H' : Hp} {a : Addr} {xs : List V} (e : Same H H') (h : SqT K H a xs) : SqT K H' a xs := by
  rcases h with (h | ⟨o, h⟩) | h
  · exact .inl (.inl (e _ _ h))
  · exact .inl (.inr ⟨o, e _ _ h⟩)
  · exact .inr h
mutual
theorem dp_same {K : PySem.W.Frag} {H H' : Hp} (e : Same H H') : ∀ (d : PyData) (v : V), Dp K H v d → Dp K H' v d
  | .none, _, h => by
    cases h
    exact .non
  | .bool _, _, h => by
    cases h
    exact .bl _
  | .int _, _, h => by
    cases h
    exact .int _
  | .str _, _, h => by
    cases h
    exact .str _
  | .list ds, _, h => by
    cases h with
    | lst q a => exact .lst (e.seq q) (dpa_same e ds _ a)
  | .tuple ds, _, h => by
    cases h with
    | tup q a => exact .tup (Same.sqt e q) (dpa_same e ds _ a)
  | .dict _, _, h => by cases h
theorem dpa_same {K : PySem.W.Frag} {H H' : Hp} (e : Same H H') : ∀ (ds : List PyData) (vs : List V), DpAll K H vs ds → DpAll K H' vs ds
  | [], _, h => by
    cases h
    exact .nil
  | d :: ds, _, h => by
    cases h with
    | cons a b => exact .cons (dp_same e d _ a) (dpa_same e ds _ b)
end

/-! ### defs of the module that may be called by their names -/
structure Cal (P : Program) (w : World) (K : PySem.W.Frag) (mg : Str → Option Value) (base : Heap) (k : Nat) (x : Str) (sp : Sp) : Prop where
  ex : ∃ (f : Addr) (fd : FuncData) (ps : List Str), FnOk P w K mg base L2.CX0 k f fd ps sp ∧ mg x = some (.ref f) ∧ PySem.W.keepIn K (.ref f) = true ∧ Binds K fd ps []
theorem pe_f {X : Cx} {k j : Nat} {x : Str} {sp : Sp} {p pos : Pos} {e : Expr} {es : List Expr} {t : TA} (c : Cal X.prog X.w X.K X.mg X.base k x sp) (hr : Room j X.A) (hg : Gl X x) (ha : PA X (e :: es) t) (hk : k ≤ j := by decide)
    (hdb : (x == ("__debug__" : Str)) = false := by decide) (he : starEach (e :: es) X.env = (false, eval e X.env) :: starEach es X.env := by rfl) (hpl : (backTo pos (starEach es X.env)).any (·.1) = false := by rfl) :
    PE X (.Call (.Name x p) (e :: es) [] pos) (tCall sp [] E0 t) := by
  obtain ⟨f, fd, ps, F, hm, kp, b⟩ := c.ex
  exact pe_call F (hr.mono hk) hg hm kp b .nil pass0 ha hdb he hpl
/-- a def of the text as it stands behind the top, under its name -/
structure DefIn (K : PySem.W.Frag) (mg : Str → Option Value) (x : Str) (st : Stmt) : Prop where
  ex : ∃ (f : Addr) (fd : FuncData), Fun K x x st f fd ∧ mg x = some (.ref f)
theorem cal_of {P : Program} {w : World} {K : PySem.W.Frag} {mg : Str → Option Value} {base : Heap} {x : Str} {st : Stmt} {k : Nat} {ps : List Str} {sp : Sp} (D : DefIn K mg x st)
    (h : ∀ f fd, Fun K x x st f fd → FnOk P w K mg base L2.CX0 k f fd ps sp)
    (hb : ∀ (kV doc pm : Value) (an : Option Addr) (cdv ct : Value) (us : List Value), us.length = ps.length → bindArgs (PySem.W.fnOf x x (defArgs st) (defBody st) (defScope st) .none kV doc pm an cdv ct) ⟨us, []⟩ = pure (ps.zip us)) :
    Cal P w K mg base k x sp := by
  obtain ⟨f, fd, F, hm⟩ := D.ex
  exact ⟨f, fd, ps, h f fd F, hm, F.kp, F.binds hb⟩

/-! ### a for over enumerate(list) -/
theorem for_enum {K : PySem.W.Frag} {a : Addr} {xs : List V} {g : TG} {tb : TS} {D : Ends} {σ : L2.St} {H : Hp} (Pv : Nat → L2.St → Hp → Prop) (h0 : Pv 0 σ H) (hl : ∀ i σ H, i ≤ xs.length → Pv i σ H → SqL K H a xs)
    (hs : ∀ i x T σ H, xs[i]? = some x → Pv i σ H → H T = none → g (.ref T) σ (upd H T (.tup [.int ((i : Nat) : Int), x])) fun σ2 H2 => tb { D with nx := Pv (i + 1), ct := Pv (i + 1), bk := D.nx } σ2 H2)
    (hd : ∀ σ H, Pv xs.length σ H → D.nx σ H) :
    ∃ W : Nat → Nat → L2.St → Hp → Prop, (∃ m, W 0 m σ H) ∧ ∀ i m σ H, W i m σ H →
      ((Ite K a).stop i H ∧ D.nx σ H) ∨ ((Ite K a).go i H ∧ ∃ N : L2.St → Hp → Prop, (∀ σ' H', N σ' H' → ∃ m', m' < m ∧ W (i + 1) m' σ' H') ∧ ∀ x H', (Ite K a).yld i H x H' → g x σ H' fun σ2 H2 => tb { D with nx := N, ct := N, bk := D.nx } σ2 H2) := by
  refine ⟨fun i m σ H => m + i = xs.length ∧ Pv i σ H, ⟨xs.length, by omega, h0⟩, ?_⟩
  rintro i m σ H ⟨e, p⟩
  have q := hl i σ H (by omega) p
  by_cases hlt : i < xs.length
  · have hx : xs[i]? = some xs[i] := List.getElem?_eq_getElem hlt
    refine .inr ⟨⟨xs, _, q, hx⟩, Pv (i + 1), fun σ' H' p' => ⟨m - 1, by omega, by omega, p'⟩, fun x H' y => ?_⟩
    obtain ⟨T, z, rfl, nT, rfl, fz⟩ := y
    exact hs i z T σ H (fz xs q) p nT
  · have ei : i = xs.length := by omega
    subst ei
    exact .inl ⟨⟨xs, q, Nat.le_refl _⟩, hd σ H p⟩
end Tp

set_option Elab.async false
set_option linter.all false
set_option maxRecDepth 100000
set_option maxHeartbeats 2000000
namespace Tp
open PySem PySem.Spec PyProof.Rows L2

/-! ### short answers -/
theorem ixl {K : PySem.W.Frag} {H : Hp} {p : Addr} {xs : List V} {j : Nat} {v : V} {R : VK} (h : H p = some (.lst xs)) (e : xs[j]? = some v) (r : R v H) : rIx K (.ref p) (.int (j : Int)) H R := .inl ⟨p, xs, _, v, rfl, rfl, SqL.of h, atI_nat e, r⟩
theorem ixlS {K : PySem.W.Frag} {H : Hp} {p : Addr} {xs : List V} {z : Int} {j : Nat} {v : V} {R : VK} (h : SqL K H p xs) (ez : z = (j : Int)) (e : xs[j]? = some v) (r : R v H) : rIx K (.ref p) (.int z) H R := by
  subst ez
  exact .inl ⟨p, xs, _, v, rfl, rfl, h, atI_nat e, r⟩
theorem ixt {K : PySem.W.Frag} {H : Hp} {p : Addr} {xs : List V} {j : Nat} {v : V} {R : VK} (h : H p = some (.tup xs)) (e : xs[j]? = some v) (r : R v H) : rIx K (.ref p) (.int (j : Int)) H R := .inr (.inl ⟨p, xs, _, v, rfl, rfl, SqT.of h, atI_nat e, r⟩)
theorem lens (n : Nat) (h : n ≤ 1000) : n ≤ sizeLine := Nat.le_of_lt (small1000 h)

/-! ### a word in the middle: what follows is shown once -/
theorem pe_cut {X : Cx} {e : Expr} {te : TE} (h : PE X e te) : PE X e (fun σ H Q => ∃ M : VK, te σ H M ∧ ∀ v H', M v H' → Q v H') := by
  refine ⟨fun pins s σ H Q I hq => ?_⟩
  obtain ⟨M, hm, k⟩ := hq
  exact thn (h.run pins s σ H M I hm) fun u s1 ⟨v, H1, I1, r1, q1⟩ => ⟨v, H1, I1, r1, k v H1 q1⟩
theorem pss_mid {X : Cx} {st : Stmt} {sts : List Stmt} {t u : TS} (h1 : PS X st t) (h2 : PSs X sts u) : PSs X (st :: sts) (fun D σ H => ∃ M : L2.St → Hp → Prop, t { D with nx := M } σ H ∧ ∀ σ' H', M σ' H' → u D σ' H') := by
  refine ⟨fun pins s σ H D I hq => ?_⟩
  obtain ⟨M, hm, k⟩ := hq
  refine wpAny_execs_cons (thn (h1.run pins s σ H { D with nx := M } I hm) fun f s1 q => ?_)
  cases f with
  | next =>
    obtain ⟨σ', H', I', q⟩ := q
    exact h2.run pins s1 σ' H' D I' (k σ' H' q)
  | ret v => exact q
  | brk => exact q
  | cont => exact q

/-! ### the law's numbers: a bag is a list of two ints, none below nought -/
def BagAt (H : Hp) (p : Addr) : Prop := ∃ a b : Int, H p = some (.lst [.int a, .int b]) ∧ 0 ≤ a ∧ 0 ≤ b ∧ b < 2147483563
/-- all but p is as it was -/
def But (p : Addr) (H H' : Hp) : Prop := ∀ q, q ≠ p → H' q = H q
theorem But.refl (p : Addr) (H : Hp) : But p H H := fun _ _ => rfl
theorem But.trans {p : Addr} {H H1 H2 : Hp} (a : But p H H1) (b : But p H1 H2) : But p H H2 := fun q h => (b q h).trans (a q h)
/-- what was there stays, but for the bag at p -/
def Grow (p : Addr) (H H' : Hp) : Prop := ∀ q o, q ≠ p → H q = some o → H' q = some o
theorem Grow.refl (p : Addr) (H : Hp) : Grow p H H := fun _ _ _ h => h
theorem Grow.trans {p : Addr} {H H1 H2 : Hp} (a : Grow p H H1) (b : Grow p H1 H2) : Grow p H H2 := fun q o n h => b q o n (a q o n h)
theorem But.grow {p : Addr} {H H' : Hp} (b : But p H H') : Grow p H H' := fun q _ n h => (b q n).trans h
theorem Same.grow {p : Addr} {H H' : Hp} (b : Same H H') : Grow p H H' := fun q o _ h => b q o h
theorem Grow.same {p : Addr} {H H1 H2 : Hp} (e : Same H H1) (n : H p = none) (g : Grow p H1 H2) : Same H H2 := fun q o h => g q o (ne_of_none h n) (e q o h)
theorem BagAt.keep {H H' : Hp} {p : Addr} (h : BagAt H p) (e : Same H H') : BagAt H' p := by
  obtain ⟨a, b, hp, r⟩ := h
  exact ⟨a, b, e _ _ hp, r⟩
theorem BagAt.there {H : Hp} {p : Addr} (h : BagAt H p) : H p ≠ none := by
  obtain ⟨a, b, hp, _⟩ := h
  rw [hp]
  intro z
  cases z
theorem BagAt.new {H : Hp} {p q : Addr} (h : BagAt H p) (n : H q = none) : q ≠ p := fun e => h.there (e ▸ n)

def spBag (K : PySem.W.Frag) : Sp := fun vs H Q _ => ∃ (a : Addr) (ns : List Int) (k : Int), vs = [.ref a, .int k] ∧ SqL K H a (ns.map V.int) ∧ ns.length ≤ 100 ∧ 0 ≤ k ∧ k ≤ 100 ∧
  ∀ H' p, Same H H' → H p = none → BagAt H' p → Q (.ref p) H'
def spTake : Sp := fun vs H Q _ => ∃ (p : Addr) (m : Int), vs = [.ref p, .int m] ∧ BagAt H p ∧ 0 < m ∧ m.natAbs < 2 ^ 250 ∧
  ∀ H' r, But p H H' → BagAt H' p → 0 ≤ r → r < m → Q (.int r) H'

/-! ### what a part is -/
def kinds : List String := ["NoneType", "bool", "int", "str", "list", "tuple", "dict"]
def partB (x y : Int) : Bool := decide (1 ≤ y) && (decide (Builtin.bitAnd y (y - 1) = 0) && (decide (0 ≤ x) && (decide (x ≤ y) && (decide (y = 1) || decide (Builtin.bitAnd x 1 = 1)))))
def tupPart : List V → Bool
  | [.int x, .int y] => partB x y
  | _ => false
/-- a value of one of the plain kinds -/
def Known (K : PySem.W.Frag) (H : Hp) (y : V) : Prop := ∃ n, TyX K H y (.type n) ∧ n ∈ kinds
theorem Known.int {K : PySem.W.Frag} {H : Hp} (i : Int) : Known K H (.int i) := ⟨"int", .base (.int i), by decide⟩
theorem tyx_int {K : PySem.W.Frag} {H : Hp} {y : V} (h : TyX K H y (.type "int")) : ∃ i, y = .int i := by
  generalize e : Value.type "int" = t at h
  cases h with
  | base b =>
    cases b with
    | int i => exact ⟨i, rfl⟩
    | _ => first | (exact absurd (Value.type.inj e) (by decide)) | cases e
  | _ => first | (exact absurd (Value.type.inj e) (by decide)) | cases e
theorem tyx_is {K : PySem.W.Frag} {H : Hp} {i : Int} {n : String} (h : TyX K H (.int i) (.type n)) : n = "int" := by
  generalize ex : V.int i = x at h
  generalize e : Value.type n = t at h
  cases h with
  | base b =>
    cases b with
    | int i =>
      cases e
      rfl
    | _ => cases ex
  | _ => cases ex
def spPlain (K : PySem.W.Frag) : Sp := fun vs H Q _ => ∃ (x : V) (n : String), vs = [x] ∧ TyX K H x (.type n) ∧ n ∈ kinds ∧ Q (.bl (decide (n = "int"))) H
def spPow2 : Sp := fun vs H Q _ => ∃ b : Int, vs = [.int b] ∧ Q (.bl (decide (Builtin.bitAnd b (b - 1) = 0))) H
def spIsPart (K : PySem.W.Frag) : Sp := fun vs H Q _ => (∃ (x : V) (n : String), vs = [x] ∧ TyX K H x (.type n) ∧ n ∈ kinds ∧ n ≠ "tuple" ∧ Q (.bl false) H) ∨
  ∃ (a : Addr) (xs : List V), vs = [.ref a] ∧ H a = some (.tup xs) ∧ (∀ y ∈ xs, Known K H y) ∧ Q (.bl (tupPart xs)) H
/-- the half of a part that is not nothing -/
def spHalf : Sp := fun vs H Q _ => ∃ (a : Addr) (x y : Int), vs = [.ref a] ∧ H a = some (.tup [.int x, .int y]) ∧ partB x y = true ∧ x ≠ 0 ∧
  ∀ p, H p = none → Q (.ref p) (upd H p (.tup [.int x, .int (y * 2)]))
/-- the text's own half -/
def spLHalf : Sp := fun vs H Q _ => ∃ (a : Addr) (x y : Int), vs = [.ref a] ∧ H a = some (.tup [.int x, .int y]) ∧ ∀ p, H p = none → Q (.ref p) (upd H p (.tup [.int x, .int (2 * y)]))
/-- a drawn part: x / 2 ^ n in lowest terms, not nothing -/
structure Drawn (x y : Int) (most : Nat) : Prop where
  ex : ∃ n : Nat, n ≤ most ∧ y = 2 ^ n
  lo : 1 ≤ x
  hi : x ≤ y
  odd : y = 1 ∨ x % 2 = 1
def spPart : Sp := fun vs H Q _ => ∃ (p : Addr) (most : Nat), vs = [.ref p, .int (most : Int)] ∧ BagAt H p ∧ most ≤ 200 ∧
  ∀ H' t x y, Grow p H H' → BagAt H' p → H t = none → H' t = some (.tup [.int x, .int y]) → Drawn x y most → Q (.ref t) H'
/-! ### arithmetic of parts -/
theorem pow2_pos (n : Nat) : (1 : Int) ≤ 2 ^ n := by
  have h : (0 : Nat) < 2 ^ n := Nat.two_pow_pos n
  have e : ((2 ^ n : Nat) : Int) = (2 : Int) ^ n := by simp
  omega
theorem pow2_and (n : Nat) : Builtin.bitAnd ((2 : Int) ^ n) ((2 : Int) ^ n - 1) = 0 := by
  rw [PySem.W.kbt_mask]
  exact Int.emod_self
theorem pow2_half {n : Nat} (h : n ≠ 0) : ∃ m, n = m + 1 ∧ (2 : Int) ^ n = 2 * 2 ^ m := by
  cases n with
  | zero => exact absurd rfl h
  | succ m => exact ⟨m, rfl, by rw [Int.pow_succ]; omega⟩
theorem Drawn.part {x y : Int} {most : Nat} (h : Drawn x y most) : partB x y = true := by
  obtain ⟨⟨n, _, rfl⟩, h1, h2, h3⟩ := h
  have := pow2_pos n
  unfold partB
  rw [decide_eq_true (show (1 : Int) ≤ 2 ^ n by omega), pow2_and, decide_eq_true rfl, decide_eq_true (show (0 : Int) ≤ x by omega), decide_eq_true h2, bitAnd_m1]
  rcases h3 with e | e
  · rw [decide_eq_true e]
    rfl
  · rw [decide_eq_true e, Bool.or_true]
    rfl
theorem Drawn.mono {x y : Int} {m k : Nat} (h : Drawn x y m) (le : m ≤ k) : Drawn x y k := by
  obtain ⟨⟨n, hn, e⟩, h1, h2, h3⟩ := h
  exact ⟨⟨n, by omega, e⟩, h1, h2, h3⟩
theorem Drawn.size {x y : Int} {most : Nat} (h : Drawn x y most) : x.natAbs ≤ 2 ^ most ∧ y.natAbs ≤ 2 ^ most := by
  obtain ⟨⟨n, hn, rfl⟩, h1, h2, h3⟩ := h
  have le : (2 : Nat) ^ n ≤ 2 ^ most := Nat.pow_le_pow_right (by decide) hn
  have e : ((2 ^ n : Nat) : Int) = (2 : Int) ^ n := by simp
  have := pow2_pos n
  omega
/-! ### data that repr shows in few signs -/
theorem leaf_short {i : Int} (h : i.natAbs < 10 ^ 60) : (PyData.shown (.int i)).length ≤ 64 := by
  have e := int_text_length_le10 (k := 60) (by decide) h
  show (Str.ofString (toString i)).length ≤ 64
  rw [PySem.ofString_length]
  omega
theorem leaf_show {i : Int} (h : i.natAbs < 10 ^ 60) : i.natAbs.log2 < 1920 := by
  have h2 : i.natAbs < 2 ^ 200 := Nat.lt_of_lt_of_le h (by decide)
  exact Nat.lt_of_lt_of_le (PySem.Flt.log2_lt_of (by decide) h2) (by decide)
theorem shown_fits {d : PyData} (h : d.leavesShort 64 = true) (hb : d.bulk ≤ 10000) : d.shown.length ≤ sizeLine := by
  have e := PyData.shown_le_bulk 64 (by decide) d h
  have z : sizeLine = 16777216 := sizeLine_eq
  omega
/-- the law's own promise -/
def spLaw (K : PySem.W.Frag) : Sp := fun vs H Q _ => ∃ (a : Addr) (ns : List Int), vs = [.ref a] ∧ SqL K H a (ns.map V.int) ∧ ns.length ≤ 63 ∧ ∀ H', Q (.bl true) H'
/-- the law's def by its body, the guards known -/
theorem law_ok {P : Program} {w : World} {K : PySem.W.Frag} {mg : Str → Option Value} {base : Heap} {x y : Str} {st : Stmt} {f : Addr} {fd : FuncData} {N : List Str} {sp : Sp} (F : Fun K x x st f fd) (S : FnScope N [y] (defScope st)) (len : ∀ vs H Q E, sp vs H Q E → vs.length = 1)
    (hbody : ∀ (cdv : Value) (A : Around) (outer : List Env) (s : Shared) (H : Hp) (vs : List V) (Q : VK) (E : XK), (A.deeper (envOfC x (defScope st) s.heap.objs.size f cdv)).guards = some [] → Room 30 (A.deeper (envOfC x (defScope st) s.heap.objs.size f cdv)) → sp vs H Q E →
      ∃ t, PSs (cxOf L2.CX0 P w K mg base N x (defScope st) f cdv A outer s H E).nox (defBody st) t ∧ t { nx := fun _ H' => Q .non H', rt := Q } (start N vs) H) : AtC P w K mg base L2.CX0 f fd y sp := by
  obtain ⟨oc, od, kV, doc, pm, an, cdv, ct, osl, rfl, lk, hcd⟩ := F.ex
  refine atC_of (k := 30) lk hcd S (by decide) len fun A outer s H vs Q E hA hr hsp => ?_
  obtain ⟨t, h, q⟩ := hbody cdv A outer s H vs Q E hA hr hsp
  exact ⟨t, h.nox, q⟩
/-- how many cells are played -/
theorem cells_of (n lo : Nat) (hi : Nat) (h : lo ≤ hi) : ∃ m : Nat, (if (if ((n : Nat) : Int) < (hi : Int) then (n : Int) else (hi : Int)) > (lo : Int) then (if ((n : Nat) : Int) < (hi : Int) then (n : Int) else (hi : Int)) else (lo : Int)) = (m : Int) ∧ m ≤ hi := by
  by_cases h1 : ((n : Nat) : Int) < (hi : Int)
  · by_cases h2 : ((n : Nat) : Int) > (lo : Int)
    · exact ⟨n, by rw [if_pos h1, if_pos h2], by omega⟩
    · exact ⟨lo, by rw [if_pos h1, if_neg h2], h⟩
  · by_cases h2 : ((hi : Nat) : Int) > (lo : Int)
    · exact ⟨hi, by rw [if_neg h1, if_pos h2], Nat.le_refl _⟩
    · exact ⟨lo, by rw [if_neg h1, if_neg h2], h⟩
end Tp

set_option Elab.async false
set_option linter.all false
set_option maxRecDepth 100000
set_option maxHeartbeats 2000000
namespace Tp
open PySem PySem.Spec PyProof.Rows L2

/-! ### lowest terms over a power of two -/
/-- how often both t and 2 ^ m can be halved -/
def low : Nat → Nat → Nat
  | 0, _ => 0
  | m + 1, t => if t % 2 = 1 then 0 else low m (t / 2) + 1
theorem low_le : ∀ m t, low m t ≤ m
  | 0, _ => Nat.le_refl _
  | m + 1, t => by
    have := low_le m (t / 2)
    unfold low
    split <;> omega
/-- the lowest bit -/
def lowb (b : Nat) : Nat := b - (b &&& (b - 1))
theorem and_parts (a b : Nat) : a &&& b = 2 * (a / 2 &&& b / 2) + (a &&& b) % 2 := by
  have h := Nat.and_div_two (a := a) (b := b)
  omega
theorem lowb_odd {b : Nat} (h : b % 2 = 1) : lowb b = 1 := by
  have e := and_parts b (b - 1)
  have e1 : (b - 1) / 2 = b / 2 := by omega
  rw [e1, Nat.and_self] at e
  have e2 : ¬ ((b &&& (b - 1)) % 2 = 1) := by
    rw [Nat.and_mod_two_eq_one]
    omega
  unfold lowb
  omega
theorem lowb_even {b : Nat} (h : 0 < b) : lowb (2 * b) = 2 * lowb b := by
  have e := and_parts (2 * b) (2 * b - 1)
  have e1 : (2 * b - 1) / 2 = b - 1 := by omega
  have e0 : 2 * b / 2 = b := by omega
  rw [e1, e0] at e
  have e2 : ¬ ((2 * b &&& (2 * b - 1)) % 2 = 1) := by
    rw [Nat.and_mod_two_eq_one]
    omega
  have e3 : b &&& (b - 1) ≤ b := Nat.and_le_left
  unfold lowb
  omega
theorem or_half {t m : Nat} (h : ¬ t % 2 = 1) : t ||| 2 ^ (m + 1) = 2 * (t / 2 ||| 2 ^ m) := by
  have e := Nat.or_div_two (a := t) (b := 2 ^ (m + 1))
  have e1 : 2 ^ (m + 1) / 2 = 2 ^ m := by
    rw [Nat.pow_succ]
    omega
  rw [e1] at e
  have e2 : ¬ ((t ||| 2 ^ (m + 1)) % 2 = 1) := by
    rw [Nat.or_mod_two_eq_one]
    have : (2 : Nat) ^ (m + 1) % 2 = 0 := by
      rw [Nat.pow_succ]
      omega
    omega
  omega
theorem or_pos (t m : Nat) : 0 < (t ||| 2 ^ m) := Nat.lt_of_lt_of_le (Nat.two_pow_pos m) Nat.right_le_or
theorem or_lowb : ∀ m t : Nat, lowb (t ||| 2 ^ m) = 2 ^ low m t
  | 0, t => by
    have e : (t ||| 2 ^ 0) % 2 = 1 := by
      rw [Nat.or_mod_two_eq_one]
      exact .inr rfl
    rw [lowb_odd e]
    rfl
  | m + 1, t => by
    by_cases h : t % 2 = 1
    · have e : (t ||| 2 ^ (m + 1)) % 2 = 1 := by
        rw [Nat.or_mod_two_eq_one]
        exact .inl h
      rw [lowb_odd e]
      rw [show low (m + 1) t = 0 by
        show (if t % 2 = 1 then 0 else low m (t / 2) + 1) = _
        rw [if_pos h]]
    · rw [or_half h, lowb_even (or_pos _ _), or_lowb m (t / 2)]
      rw [show low (m + 1) t = low m (t / 2) + 1 by
        show (if t % 2 = 1 then 0 else low m (t / 2) + 1) = _
        rw [if_neg h]]
      rw [Nat.pow_succ, Nat.mul_comm]
theorem and_neg {b : Nat} (h : 0 < b) : Builtin.bitAnd (b : Int) (-(b : Int)) = ((lowb b : Nat) : Int) := by
  rw [bitAnd_pn (by omega) (by omega)]
  have e : (Builtin.bitNot (-(b : Int))).toNat = b - 1 := by
    show (-(-(b : Int)) - 1).toNat = b - 1
    omega
  rw [e, Int.toNat_natCast]
  have e3 : b &&& (b - 1) ≤ b := Nat.and_le_left
  unfold lowb
  omega
theorem bits_pow (s : Nat) : Builtin.Int.intBits ((2 : Int) ^ s) = s + 1 := by
  have e : ((2 ^ s : Nat) : Int) = (2 : Int) ^ s := by simp
  unfold Builtin.Int.intBits
  have h := Nat.two_pow_pos s
  have z : ((2 : Int) ^ s == 0) = false := beq_eq_false_iff_ne.mpr (by omega)
  rw [z]
  have e2 : ((2 : Int) ^ s).natAbs = 2 ^ s := by omega
  rw [e2, Nat.log2_two_pow]
  rfl
theorem cast_pow (s : Nat) : ((2 ^ s : Nat) : Int) = (2 : Int) ^ s := by simp
/-- in lowest terms: top, bottom's exponent -/
def redT (m t : Nat) : Nat := t / 2 ^ low m t
def redM (m t : Nat) : Nat := m - low m t
theorem red_step {m t : Nat} (h : ¬ t % 2 = 1) : redT (m + 1) t = redT m (t / 2) ∧ redM (m + 1) t = redM m (t / 2) := by
  unfold redT redM
  rw [show low (m + 1) t = low m (t / 2) + 1 by
    show (if t % 2 = 1 then 0 else low m (t / 2) + 1) = _
    rw [if_neg h]]
  refine ⟨?_, by omega⟩
  rw [Nat.pow_succ, Nat.mul_comm, ← Nat.div_div_eq_div_mul]
theorem red_end {m t : Nat} (h : m = 0 ∨ t % 2 = 1) : redT m t = t ∧ redM m t = m := by
  unfold redT redM
  have e : low m t = 0 := by
    cases m with
    | zero => rfl
    | succ m =>
      show (if t % 2 = 1 then 0 else low m (t / 2) + 1) = 0
      rw [if_pos (by omega)]
  rw [e]
  exact ⟨Nat.div_one t, rfl⟩
theorem pow_div {m k : Nat} (h : k ≤ m) : (2 : Int) ^ m / 2 ^ k = 2 ^ (m - k) := by
  have e : (2 : Nat) ^ m / 2 ^ k = 2 ^ (m - k) := Nat.pow_div h (by decide)
  rw [← cast_pow, ← cast_pow, ← cast_pow, ← e]
  simp
/-- the sum of x / 2 ^ m and y / 2 ^ n, over the greater bottom -/
def sumT (x m y n : Nat) : Nat := x * 2 ^ (max m n - m) + y * 2 ^ (max m n - n)
theorem max_pow (m n : Nat) : (if ((2 : Int) ^ n) > 2 ^ m then (2 : Int) ^ n else 2 ^ m) = 2 ^ (max m n) := by
  by_cases h : m < n
  · have l : (2 : Nat) ^ m < 2 ^ n := Nat.pow_lt_pow_right (by decide) h
    have e1 := cast_pow m
    have e2 := cast_pow n
    rw [if_pos (by omega), Nat.max_eq_right (Nat.le_of_lt h)]
  · have l : (2 : Nat) ^ n ≤ 2 ^ m := Nat.pow_le_pow_right (by decide) (by omega)
    have e1 := cast_pow m
    have e2 := cast_pow n
    rw [if_neg (by omega), Nat.max_eq_left (by omega)]
theorem pow_big {n k : Nat} (h : n < k) : ((2 : Int) ^ n).natAbs < 2 ^ k := by
  have l : (2 : Nat) ^ n < 2 ^ k := Nat.pow_lt_pow_right (by decide) h
  rw [← cast_pow, Int.natAbs_natCast]
  exact l
/-- a part that is not nothing: x / 2 ^ m in lowest terms -/
structure Pt (x m : Nat) : Prop where
  lo : 1 ≤ x
  hi : x ≤ 2 ^ m
  odd : m = 0 ∨ x % 2 = 1
theorem Drawn.pt {x y : Int} {most : Nat} (h : Drawn x y most) : ∃ a m : Nat, x = (a : Int) ∧ y = 2 ^ m ∧ m ≤ most ∧ Pt a m := by
  obtain ⟨⟨m, hm, rfl⟩, h1, h2, h3⟩ := h
  obtain ⟨a, rfl⟩ := Int.eq_ofNat_of_zero_le (show (0 : Int) ≤ x by omega)
  have e := cast_pow m
  refine ⟨a, m, rfl, rfl, hm, by omega, by omega, ?_⟩
  rcases h3 with h3 | h3
  · left
    cases m with
    | zero => rfl
    | succ m =>
      obtain ⟨m', e1, e2⟩ := pow2_half (n := m + 1) (by omega)
      have := pow2_pos m'
      omega
  · right
    omega
theorem Pt.part {x m : Nat} (h : Pt x m) : partB (x : Int) (2 ^ m) = true := by
  have e := cast_pow m
  refine Drawn.part (most := m) ⟨⟨m, Nat.le_refl _, rfl⟩, by have := h.lo; omega, by have := h.hi; omega, ?_⟩
  rcases h.odd with rfl | z
  · exact .inl rfl
  · exact .inr (by omega)
theorem Pt.half {x m : Nat} (h : Pt x m) : Pt x (m + 1) ∧ 2 * x ≤ 2 ^ (m + 1) := by
  have h1 := h.hi
  have h2 := h.lo
  rw [Nat.pow_succ]
  refine ⟨⟨h2, by rw [Nat.pow_succ]; omega, .inr ?_⟩, by omega⟩
  rcases h.odd with rfl | z
  · have : x ≤ 1 := h1
    omega
  · exact z
theorem sum_fits {x m y n : Nat} (hx : 2 * x ≤ 2 ^ m) (hy : 2 * y ≤ 2 ^ n) : sumT x m y n ≤ 2 ^ max m n := by
  have a1 : 2 * x * 2 ^ (max m n - m) ≤ 2 ^ m * 2 ^ (max m n - m) := Nat.mul_le_mul_right _ hx
  have a2 : 2 * y * 2 ^ (max m n - n) ≤ 2 ^ n * 2 ^ (max m n - n) := Nat.mul_le_mul_right _ hy
  rw [← Nat.pow_add, show m + (max m n - m) = max m n by omega, Nat.mul_assoc] at a1
  rw [← Nat.pow_add, show n + (max m n - n) = max m n by omega, Nat.mul_assoc] at a2
  unfold sumT
  omega
theorem red_le {m t : Nat} (h : t ≤ 2 ^ m) : redT m t ≤ 2 ^ m := by
  unfold redT
  exact Nat.le_trans (Nat.div_le_self _ _) h
/-! ### promises of the sums -/
def isTup (H : Hp) (a : Addr) (x m : Nat) : Prop := H a = some (.tup [.int (x : Int), .int (2 ^ m)])
def spTopOver : Sp := fun vs H Q _ => ∃ (a : Addr) (x m M : Nat), vs = [.int (2 ^ M), .ref a] ∧ isTup H a x m ∧ m ≤ M ∧ M ≤ 1000 ∧ x ≤ 2 ^ m ∧ Q (.int ((x * 2 ^ (M - m) : Nat) : Int)) H
def spLowest : Sp := fun vs H Q _ => ∃ (t M : Nat), vs = [.int (t : Int), .int (2 ^ M)] ∧ ∀ p, H p = none → Q (.ref p) (upd H p (.tup [.int (redT M t : Nat), .int (2 ^ redM M t)]))
/-- two parts whose sum is at most the whole -/
def spPlus : Sp := fun vs H Q _ => ∃ (a b : Addr) (x m y n : Nat), vs = [.ref a, .ref b] ∧ isTup H a x m ∧ isTup H b y n ∧ partB (x : Int) (2 ^ m) = true ∧ partB (y : Int) (2 ^ n) = true ∧ x ≤ 2 ^ m ∧ y ≤ 2 ^ n ∧ m ≤ 1000 ∧ n ≤ 1000 ∧ sumT x m y n ≤ 2 ^ max m n ∧
  ∀ p, H p = none → Q (.ref p) (upd H p (.tup [.int (redT (max m n) (sumT x m y n) : Nat), .int (2 ^ redM (max m n) (sumT x m y n))]))
/-- the law's own sum, of any two -/
def spLPlus : Sp := fun vs H Q _ => ∃ (a b : Addr) (x m y n : Nat), vs = [.ref a, .ref b] ∧ isTup H a x m ∧ isTup H b y n ∧ x ≤ 2 ^ m ∧ y ≤ 2 ^ n ∧ m ≤ 1000 ∧ n ≤ 1000 ∧
  ∀ p, H p = none → Q (.ref p) (upd H p (.tup [.int (redT (max m n) (sumT x m y n) : Nat), .int (2 ^ redM (max m n) (sumT x m y n))]))
end Tp

set_option Elab.async false
set_option linter.all false
set_option maxRecDepth 100000
set_option maxHeartbeats 4000000
namespace Tp
open PySem PySem.Spec PyProof.Rows L2
/-! ### the text by places -/
def top (i : Nat) : Stmt := PySem.Challenge.pw_trailparts_k06_addresses_updated.main.body.getD i (.Pass ⟨0, 0, 0, 0⟩)
abbrev s_is_plain_int : Stmt := top 4
abbrev s_is_part : Stmt := top 6
abbrev s_plus : Stmt := top 7
abbrev s_is_power_of_two : Stmt := top 8
abbrev s_top_over : Stmt := top 9
abbrev s_in_lowest_terms : Stmt := top 10
abbrev s_updated : Stmt := top 12
abbrev s_l_bag : Stmt := top 14
abbrev s_l_take : Stmt := top 15
abbrev s_l_part : Stmt := top 16
abbrev s_l_plus : Stmt := top 17
abbrev s_l_half : Stmt := top 18
abbrev s_l_pair : Stmt := top 19
abbrev s_law : Stmt := top 20
theorem sc_is_plain_int : FnScope ["thing"] ["thing"] (defScope s_is_plain_int) := ⟨rfl, rfl, rfl, by decide +kernel, rfl, by decide +kernel, by decide +kernel⟩
theorem sc_is_part : FnScope ["thing", "top", "bottom"] ["thing"] (defScope s_is_part) := ⟨rfl, rfl, rfl, by decide +kernel, rfl, by decide +kernel, by decide +kernel⟩
theorem sc_plus : FnScope ["one", "other", "bottom", "top"] ["one", "other"] (defScope s_plus) := ⟨rfl, rfl, rfl, by decide +kernel, rfl, by decide +kernel, by decide +kernel⟩
theorem sc_is_power_of_two : FnScope ["number"] ["number"] (defScope s_is_power_of_two) := ⟨rfl, rfl, rfl, by decide +kernel, rfl, by decide +kernel, by decide +kernel⟩
theorem sc_top_over : FnScope ["bottom", "part"] ["bottom", "part"] (defScope s_top_over) := ⟨rfl, rfl, rfl, by decide +kernel, rfl, by decide +kernel, by decide +kernel⟩
theorem sc_in_lowest_terms : FnScope ["top", "bottom", "both", "shift"] ["top", "bottom"] (defScope s_in_lowest_terms) := ⟨rfl, rfl, rfl, by decide +kernel, rfl, by decide +kernel, by decide +kernel⟩
theorem sc_updated : FnScope ["old", "new", "house", "number", "age", "part"] ["old", "new"] (defScope s_updated) := ⟨rfl, rfl, rfl, by decide +kernel, rfl, by decide +kernel, by decide +kernel⟩
theorem sc_l_bag : FnScope ["_law_script", "_law_at", "_law_cell", "_law_mixed", "_law_spot", "_law_other"] ["_law_script", "_law_at"] (defScope s_l_bag) := ⟨rfl, rfl, rfl, by decide +kernel, rfl, by decide +kernel, by decide +kernel⟩
theorem sc_l_take : FnScope ["_law_bag_here", "_law_many", "_law_digit"] ["_law_bag_here", "_law_many"] (defScope s_l_take) := ⟨rfl, rfl, rfl, by decide +kernel, rfl, by decide +kernel, by decide +kernel⟩
theorem sc_l_part : FnScope ["_law_bag_here", "_law_most", "_law_bottom", "_law_top"] ["_law_bag_here", "_law_most"] (defScope s_l_part) := ⟨rfl, rfl, rfl, by decide +kernel, rfl, by decide +kernel, by decide +kernel⟩
theorem sc_l_plus : FnScope ["_law_one", "_law_other", "_law_bottom", "_law_top"] ["_law_one", "_law_other"] (defScope s_l_plus) := ⟨rfl, rfl, rfl, by decide +kernel, rfl, by decide +kernel, by decide +kernel⟩
theorem sc_l_half : FnScope ["_law_part_here"] ["_law_part_here"] (defScope s_l_half) := ⟨rfl, rfl, rfl, by decide +kernel, rfl, by decide +kernel, by decide +kernel⟩
theorem sc_l_pair : FnScope ["_law_bag_here", "_law_house", "_law_number", "_law_age", "_law_part_here", "_law_other", "_law_slot", "_law_later", "_law_both"] ["_law_bag_here"] (defScope s_l_pair) := ⟨rfl, rfl, rfl, by decide +kernel, rfl, by decide +kernel, by decide +kernel⟩
theorem sc_law : FnScope ["_law_script", "_law_k", "_law_bag_here", "_law_turn", "_law_old", "_law_new", "_law_due", "_law_again"] ["_law_script"] (defScope s_law) := ⟨rfl, rfl, rfl, by decide +kernel, rfl, by decide +kernel, by decide +kernel⟩
/-- the builtins that the text calls by their names -/
structure Bl (mg : Str → Option Value) : Prop where
  b_ArithmeticError : mg "ArithmeticError" = none
  b_OverflowError : mg "OverflowError" = none
  b_abs : mg "abs" = none
  b_bool : mg "bool" = none
  b_enumerate : mg "enumerate" = none
  b_int : mg "int" = none
  b_isinstance : mg "isinstance" = none
  b_len : mg "len" = none
  b_max : mg "max" = none
  b_min : mg "min" = none
  b_range : mg "range" = none
  b_repr : mg "repr" = none
  b_tuple : mg "tuple" = none
/-! ### the law's numbers -/
section
variable {P : Program} {w : World} {K : PySem.W.Frag} {mg : Str → Option Value} {base : Heap}
theorem ok_take {f : Addr} {fd : FuncData} (F : Fun K "_law_take" "_law_take" s_l_take f fd) : FnOk P w K mg base L2.CX0 1 f fd ["_law_bag_here", "_law_many"] spTake := by
  refine F.ok sc_l_take (fun vs H Q E h => ?_) (fun cdv A outer s H vs Q E hr h => ?_)
  · obtain ⟨p, m, rfl, _⟩ := h
    rfl
  · obtain ⟨p, m, rfl, ⟨a, b, hp, a0, b0, b1⟩, m0, m1, q⟩ := h
    have nd := sc_l_take.nd
    refine ⟨_, (pss_cons (ps_if (pt_cmpR op_gt (pe_ix ix_seq (pv 0) pe_int (fun _ _ => rfl)) pe_int (nomark _))
        (pss_cons (ps_set (i := 2) nd rfl (.inl rfl) (pe_op op_mod (pe_ix ix_seq (pv 0) pe_int (fun _ _ => rfl)) (pv 1)))
        (pss_cons (ps_asg (pe_op op_fdivW (pe_ix ix_seq (pv 0) pe_int (fun _ _ => rfl)) (pv 1)) (pg_sub (pv 0) pe_int set_list))
        (pss_one (ps_ret (pv 2)))))
        pss_nil)
      (pss_cons (ps_asg (pe_op op_mod (pe_op op_add (pe_op op_mulX (pe_ix ix_seq (pv 0) pe_int (fun _ _ => rfl)) pe_int) pe_int) pe_int) (pg_sub (pv 0) pe_int set_list))
      (pss_one (ps_ret (pe_op op_mod (pe_op op_fdivW (pe_op op_mod (pe_op op_mulX (pe_op op_fdivW (pe_ix ix_seq (pv 0) pe_int (fun _ _ => rfl)) pe_int) pe_int) pe_int) pe_int) (pv 1)))))), ?_⟩
    refine ⟨_, rfl, ixl (j := 0) hp rfl ⟨_, _, rfl, rfl, _, rfl, ite2 (fun e => ?_) (fun e => ?_)⟩⟩
    · -- the cell's own digits
      refine ⟨_, rfl, ixl (j := 0) hp rfl ⟨_, rfl, _, _, rfl, rfl, m0, ?_⟩⟩
      refine ⟨_, rfl, ixl (j := 0) hp rfl ⟨_, rfl, _, _, rfl, rfl, wide_div m0 m1 (by decide) (by decide), ?_⟩⟩
      refine ⟨_, rfl, p, _, _, 0, rfl, rfl, hp, rfl, ?_⟩
      refine ⟨_, rfl, ?_⟩
      exact q _ _ (fun z hz => upd_ne hz) ⟨_, _, upd_same, Int.ediv_nonneg a0 (Int.le_of_lt m0), b0, b1⟩ (Int.emod_nonneg _ (by omega)) (Int.emod_lt_of_pos _ m0)
    · -- the mixed number
      refine ⟨_, rfl, ixl (j := 1) hp rfl ⟨_, _, rfl, rfl, mulx_ok (a := 64) (b := 64) (by omega) (by decide) (by decide), _, _, rfl, rfl, _, _, rfl, rfl, (by show (0 : Int) < 2147483399; decide), ?_⟩⟩
      refine ⟨_, rfl, p, _, _, 1, rfl, rfl, hp, rfl, ?_⟩
      have c0 : 0 ≤ (b * 40692 + 3791) % 2147483399 := Int.emod_nonneg _ (by decide)
      have c1 : (b * 40692 + 3791) % 2147483399 < 2147483399 := Int.emod_lt_of_pos _ (by decide)
      refine ⟨_, rfl, ixl (j := 1) upd_same rfl ⟨_, _, rfl, rfl, wide_div (by decide) (b := 64) (by decide) (by decide) (by decide), _, _, rfl, rfl, mulx_ok (a := 64) (b := 64) (by omega) (by decide) (by decide), ?_⟩⟩
      refine ⟨_, _, rfl, rfl, (by show (0 : Int) < 2147483249; decide), _, _, rfl, rfl, wide_div (by decide) (b := 64) (by decide) (by decide) (by decide), _, rfl, _, _, rfl, rfl, m0, ?_⟩
      exact q _ _ (fun z hz => upd_ne hz) ⟨_, _, upd_same, a0, c0, by omega⟩ (Int.emod_nonneg _ (by omega)) (Int.emod_lt_of_pos _ m0)
theorem cut_ints (ns : List Int) (lo hi : Option Int) : ∃ ms : List Int, cutV (ns.map V.int) lo hi = ms.map V.int ∧ ms.length ≤ ns.length := by
  refine ⟨(ns.drop (HT.sIx (ns.map V.int).length 0 lo)).take (HT.sIx (ns.map V.int).length (ns.map V.int).length hi - HT.sIx (ns.map V.int).length 0 lo), ?_, ?_⟩
  · unfold cutV
    rw [List.map_take, List.map_drop]
  · rw [List.length_take, List.length_drop]
    omega
theorem ok_bag {f : Addr} {fd : FuncData} (F : Fun K "_law_bag" "_law_bag" s_l_bag f fd) (T : Bl mg) : FnOk P w K mg base L2.CX0 1 f fd ["_law_script", "_law_at"] (spBag K) := by
  refine F.ok sc_l_bag (fun vs H Q E h => ?_) (fun cdv A outer s H vs Q E hr h => ?_)
  · obtain ⟨a, ns, k, rfl, _⟩ := h
    rfl
  · obtain ⟨a, ns, k, rfl, hS, hlen, k0, k1, q⟩ := h
    have nd := sc_l_bag.nd
    refine ⟨_, (pss_cons (ps_set (i := 2) nd rfl (.inl rfl) (pe_cut (pe_ifExp (pt_cmpR op_lt (pv 1) (pe_callB call_len (by rfl) T.b_len (by decide +kernel) (pa_cons (pv 0) pa_nil)) (nomark _)) (pe_ix ix_seq (pv 0) (pv 1) (fun _ _ => rfl)) pe_int)))
      (pss_cons (ps_set (i := 3) nd rfl (.inl rfl) (pe_op op_add (pe_op op_mulX pe_int (pv 1)) pe_int))
      (pss_cons (ps_for PassesOwn.never rfl (pi_enum (by rfl) T.b_enumerate (pa_cons (pe_slice sl_list (pv 0) po_none (po_some pe_int)) pa_nil)) (pg_tup rfl (pgs_cons (pg_name (i := 4) nd rfl (.inl rfl)) (pgs_cons (pg_name (i := 5) nd rfl (.inl rfl)) pgs_nil)))
        (pss_one (ps_set (i := 3) nd rfl (.inl rfl) (pe_op op_mod (pe_op op_add (pe_op op_add (pe_op op_mulX (pv 3) pe_int) (pe_op op_mod (pv 5) pe_int)) (pe_op op_mulX pe_int (pv 4))) pe_int))))
      (pss_one (ps_ret (pe_lst (pa_cons (pe_cut (pe_ifExp (pt_cmpR op_ge (pe_callB call_abs (by rfl) T.b_abs (by decide +kernel) (pa_cons (pv 2) pa_nil)) (pe_op op_pow pe_int pe_int) (nomark _)) (pe_callB call_abs (by rfl) T.b_abs (by decide +kernel) (pa_cons (pv 2) pa_nil)) pe_int)) (pa_cons (pv 3) pa_nil)))))))), ?_⟩
    -- the cell
    refine ⟨fun v H' => (∃ c : Int, v = .int c) ∧ H' = H, ?_, ?_⟩
    · refine ⟨_, rfl, _, rfl, .ref a, _, rfl, .inl ⟨_, hS, rfl⟩, _, _, rfl, rfl, _, rfl, ite2 (fun e => ?_) (fun _ => ⟨⟨0, rfl⟩, rfl⟩)⟩
      have hk : k.toNat < ns.length := by
        have e1 := of_decide_eq_true e
        rw [List.length_map] at e1
        omega
      exact ⟨_, rfl, _, rfl, ixlS (j := k.toNat) (v := .int ns[k.toNat]) hS (by omega) (by rw [List.getElem?_map, List.getElem?_eq_getElem hk]; rfl) ⟨⟨_, rfl⟩, rfl⟩⟩
    rintro _ H0 ⟨⟨cell, rfl⟩, rfl⟩
    refine ⟨_, rfl, _, _, rfl, rfl, mulx_ok (a := 64) (b := 64) (by decide) (by omega) (by decide), _, _, rfl, rfl, ?_⟩
    -- the first thirty cells
    refine ⟨_, rfl, 30, rfl, a, _, rfl, hS, fun c nc => ?_⟩
    obtain ⟨ms, ems, hms⟩ := cut_ints ns none (some 30)
    have sc : Same H0 (upd H0 c (.lst (cutV (ns.map V.int) none (some 30)))) := Same.up0 nc
    refine ⟨c, _, rfl, SqL.of upd_same, ?_⟩
    refine for_enum (xs := ms.map V.int) (fun i σ H2 => ∃ (m : Int) (y4 y5 : Option V), σ = [some (.ref a), some (.int k), some (.int cell), some (.int m), y4, y5] ∧ 0 ≤ m ∧ m < 2147483563 ∧ Same H0 H2 ∧ H2 c = some (.lst (ms.map V.int))) ⟨_, none, none, rfl, by omega, by omega, sc, by rw [upd_same, ems]⟩
      (fun i σ H2 _ ⟨_, _, _, _, _, _, _, hc⟩ => SqL.of hc) ?_ ?_
    · rintro i x tp σ H2 hx ⟨m, y4, y5, rfl, m0, m1, s2, hc⟩ nt
      have hi : i < ms.length := by
        have q1 := (List.getElem?_eq_some_iff.mp hx).1
        rw [List.length_map] at q1
        exact q1
      rw [List.getElem?_map, List.getElem?_eq_getElem hi] at hx
      obtain rfl := (Option.some.inj hx).symm
      refine ⟨tp, _, rfl, SqT.of upd_same, rfl, _, _, rfl, _, _, rfl, rfl, ?_⟩
      refine ⟨_, rfl, _, _, rfl, rfl, mulx_ok (a := 64) (b := 64) (by omega) (by decide) (by decide), _, rfl, _, _, rfl, rfl, (by show (0 : Int) < 2147483563; decide), _, _, rfl, rfl, _, rfl, _, _, rfl, rfl, mulx_ok (a := 64) (b := 64) (by decide) (by omega) (by decide), _, _, rfl, rfl, _, _, rfl, rfl, (by show (0 : Int) < 2147483563; decide), ?_⟩
      refine ⟨_, _, _, rfl, Int.emod_nonneg _ (by decide), Int.emod_lt_of_pos _ (by decide), Same.up s2 nt, ?_⟩
      rw [upd_ne (ne_of_none hc nt)]
      exact hc
    · rintro σ H2 ⟨m, y4, y5, rfl, m0, m1, s2, hc⟩
      -- the bag
      have last : ∀ d : Int, 0 ≤ d → ∀ p, H2 p = none → Q (.ref p) (upd H2 p (.lst [.int d, .int m])) := fun d d0 p np =>
        q _ p (Same.up s2 np) (s2.free np) ⟨d, m, upd_same, d0, m0, m1⟩
      refine ⟨fun v H3 => (∃ d : Int, v = .int d ∧ 0 ≤ d) ∧ H3 = H2, ?_, ?_⟩
      · have ha : ∀ z : Int, 0 ≤ (if z < 0 then -z else z) := fun z => by
          split <;> omega
        refine ⟨_, rfl, _, rfl, _, _, rfl, rfl, ⟨by decide, by decide, by decide⟩, _, _, rfl, rfl, _, rfl, ite2 (fun _ => ?_) (fun _ => ⟨⟨0, rfl, by decide⟩, rfl⟩)⟩
        exact ⟨_, rfl, _, rfl, ⟨_, rfl, ha _⟩, rfl⟩
      rintro _ _ ⟨⟨d, rfl, d0⟩, rfl⟩
      exact ⟨_, rfl, lens 2 (by decide), last d d0⟩
end
/-! ### parts -/
section
variable {P : Program} {w : World} {K : PySem.W.Frag} {mg : Str → Option Value} {base : Heap}
theorem ok_plain {f : Addr} {fd : FuncData} (F : Fun K "is_plain_int" "is_plain_int" s_is_plain_int f fd) (T : Bl mg) : FnOk P w K mg base L2.CX0 1 f fd ["thing"] (spPlain K) := by
  refine F.ok sc_is_plain_int (fun vs H Q E h => ?_) (fun cdv A outer s H vs Q E hr h => ?_)
  · obtain ⟨x, n, rfl, _⟩ := h
    rfl
  · obtain ⟨x, n, rfl, ty, hn, q⟩ := h
    have nd := sc_is_plain_int.nd
    refine ⟨_, (pss_one (ps_ret (pe_and (pe_callB call_isi (by rfl) T.b_isinstance (by decide +kernel) (pa_cons (pv 0) (pa_cons (pe_bltn (v := .ty "int") (by rfl) T.b_int (by decide +kernel) rfl) pa_nil))) (pe_one (pe_not (pe_callB call_isi (by rfl) T.b_isinstance (by decide +kernel) (pa_cons (pv 0) (pa_cons (pe_bltn (v := .ty "bool") (by rfl) T.b_bool (by decide +kernel) rfl) pa_nil)))))))), ?_⟩
    by_cases h1 : n = "int"
    · subst h1
      rw [decide_eq_true rfl] at q
      exact ⟨_, rfl, x, .ty "int", _, _, true, rfl, .ty _, ty, kit_ty (by decide +kernel), true, rfl, iteT ⟨_, rfl, x, .ty "bool", _, _, false, rfl, .ty _, ty, kit_ty (by decide +kernel), false, rfl, q⟩⟩
    · rw [decide_eq_false h1] at q
      by_cases h2 : n = "bool"
      · subst h2
        exact ⟨_, rfl, x, .ty "int", _, _, true, rfl, .ty _, ty, kit_ty (by decide +kernel), true, rfl, iteT ⟨_, rfl, x, .ty "bool", _, _, true, rfl, .ty _, ty, kit_ty (by decide +kernel), true, rfl, q⟩⟩
      · have h3 : kitB n "int" = some false := by
          simp only [kinds, List.mem_cons, List.not_mem_nil, or_false] at hn
          rcases hn with rfl | rfl | rfl | rfl | rfl | rfl | rfl
          · decide +kernel
          · exact absurd rfl h2
          · exact absurd rfl h1
          · decide +kernel
          · decide +kernel
          · decide +kernel
          · decide +kernel
        exact ⟨_, rfl, x, .ty "int", _, _, false, rfl, .ty _, ty, kit_ty h3, false, rfl, iteF q⟩
theorem ok_pow2 {f : Addr} {fd : FuncData} (F : Fun K "is_power_of_two" "is_power_of_two" s_is_power_of_two f fd) : FnOk P w K mg base L2.CX0 1 f fd ["number"] spPow2 := by
  refine F.ok sc_is_power_of_two (fun vs H Q E h => ?_) (fun cdv A outer s H vs Q E hr h => ?_)
  · obtain ⟨b, rfl, _⟩ := h
    rfl
  · obtain ⟨b, rfl, q⟩ := h
    have nd := sc_is_power_of_two.nd
    refine ⟨_, (pss_one (ps_ret (pe_cmpR op_eq (pe_op op_and (pv 0) (pe_op op_sub (pv 0) pe_int)) pe_int (nomark _)))), ?_⟩
    refine ⟨_, rfl, _, rfl, _, _, rfl, rfl, _, _, rfl, rfl, rfl, ?_⟩
    have e : decide (V.int (Builtin.bitAnd b (b - 1)) = V.int 0) = decide (Builtin.bitAnd b (b - 1) = 0) := by
      rw [dec_int, Bool.beq_eq_decide_eq]
    show Q (.bl (decide (V.int (Builtin.bitAnd b (b - 1)) = V.int 0))) H
    rw [e]
    exact q
theorem ok_isPart {f : Addr} {fd : FuncData} (F : Fun K "is_part" "is_part" s_is_part f fd) (T : Bl mg) (c_is_plain_int : Cal P w K mg base 1 "is_plain_int" (spPlain K)) (c_is_power_of_two : Cal P w K mg base 1 "is_power_of_two" spPow2) :
    FnOk P w K mg base L2.CX0 2 f fd ["thing"] (spIsPart K) := by
  refine F.ok sc_is_part (fun vs H Q E h => ?_) (fun cdv A outer s H vs Q E hr h => ?_)
  · rcases h with ⟨x, n, rfl, _⟩ | ⟨a, xs, rfl, _⟩
    · rfl
    · rfl
  · have nd := sc_is_part.nd
    refine ⟨_, (pss_cons (ps_if (PW.pt (pw_or (pt_not (pt_val (pe_callB call_isi (by rfl) T.b_isinstance (by decide +kernel) (pa_cons (pv 0) (pa_cons (pe_bltn (v := .ty "tuple") (by rfl) T.b_tuple (by decide +kernel) rfl) pa_nil))))) (pw_or1 (pt_cmpR op_ne (pe_callB call_len (by rfl) T.b_len (by decide +kernel) (pa_cons (pv 0) pa_nil)) pe_int (nomark _)))))
        (pss_one (ps_ret pe_bl))
        pss_nil)
      (pss_cons (ps_asg (pv 0) (pg_tup rfl (pgs_cons (pg_name (i := 1) nd rfl (.inl rfl)) (pgs_cons (pg_name (i := 2) nd rfl (.inl rfl)) pgs_nil))))
      (pss_cons (ps_if (PW.pt (pw_or (pt_not (pt_val (pe_f c_is_plain_int hr rfl (pa_cons (pv 1) pa_nil)))) (pw_or1 (pt_not (pt_val (pe_f c_is_plain_int hr rfl (pa_cons (pv 2) pa_nil)))))))
        (pss_one (ps_ret pe_bl))
        pss_nil)
      (pss_cons (ps_if (PW.pt (pw_or (pt_cmpR op_lt (pv 2) pe_int (nomark _)) (pw_or1 (pt_not (pt_val (pe_f c_is_power_of_two hr rfl (pa_cons (pv 2) pa_nil)))))))
        (pss_one (ps_ret pe_bl))
        pss_nil)
      (pss_one (ps_ret (pe_and (pe_chain op_le op_le pe_int (pv 1) (pv 2)) (pe_one (pe_or (pe_cmpR op_eq (pv 2) pe_int (nomark _)) (pe_one (pe_cmpR op_eq (pe_op op_and (pv 1) pe_int) pe_int (nomark _)))))))))))), ?_⟩
    rcases h with ⟨x, n, rfl, ty, hn, h1, q⟩ | ⟨a, xs, rfl, ha, hk, q⟩
    · have h3 : kitB n "tuple" = some false := by
        simp only [kinds, List.mem_cons, List.not_mem_nil, or_false] at hn
        rcases hn with rfl | rfl | rfl | rfl | rfl | rfl | rfl
        · decide +kernel
        · decide +kernel
        · decide +kernel
        · decide +kernel
        · decide +kernel
        · exact absurd rfl h1
        · decide +kernel
      exact ⟨_, rfl, ⟨x, .ty "tuple", _, _, false, rfl, .ty _, ty, kit_ty h3, false, rfl, iteT (iteT q)⟩⟩
    · refine ⟨_, rfl, ⟨.ref a, .ty "tuple", _, _, true, rfl, .ty _, .base (.tup ha), kit_ty (by decide +kernel), true, rfl, iteF ?_⟩⟩
      refine ⟨_, rfl, .ref a, _, rfl, .inr ⟨_, SqT.of ha, rfl⟩, rfl, _, rfl, ?_⟩
      match xs, ha, hk, q with
      | [x, y], ha, hk, q =>
        refine iteF ?_
        refine ⟨_, rfl, a, _, rfl, SqT.of ha, rfl, _, _, rfl, _, _, rfl, rfl, ?_⟩
        obtain ⟨nx, tx, hx⟩ := hk x (by simp)
        obtain ⟨ny, ty, hy⟩ := hk y (by simp)
        refine ⟨_, rfl, x, nx, rfl, tx, hx, _, rfl, ?_⟩
        by_cases ex : nx = "int"
        · rw [decide_eq_true ex]
          refine iteF ?_
          refine ⟨_, rfl, y, ny, rfl, ty, hy, _, rfl, ?_⟩
          by_cases ey : ny = "int"
          · rw [decide_eq_true ey]
            refine iteF ?_
            subst ex ey
            obtain ⟨i, rfl⟩ := tyx_int tx
            obtain ⟨j, rfl⟩ := tyx_int ty
            refine ⟨_, rfl, _, _, rfl, rfl, _, rfl, ite2 (fun e => ?_) (fun e => ?_)⟩
            · have e1 : ¬ (1 ≤ j) := by
                have := of_decide_eq_true e
                omega
              refine iteT ?_
              have e2 : tupPart [.int i, .int j] = false := by
                show partB i j = false
                unfold partB
                rw [decide_eq_false e1]
                rfl
              rw [e2] at q
              exact q
            · have e1 : 1 ≤ j := by
                have : ¬ (j < 1) := fun z => e (decide_eq_true z)
                omega
              refine ⟨_, rfl, j, rfl, _, rfl, ?_⟩
              have eP : tupPart [.int i, .int j] = (decide (Builtin.bitAnd j (j - 1) = 0) && (decide (0 ≤ i) && (decide (i ≤ j) && (decide (j = 1) || decide (Builtin.bitAnd i 1 = 1))))) := by
                show partB i j = _
                unfold partB
                rw [decide_eq_true e1, Bool.true_and]
              rw [eP] at q
              by_cases e3 : Builtin.bitAnd j (j - 1) = 0
              · rw [decide_eq_true e3] at q ⊢
                rw [Bool.true_and] at q
                refine iteF ?_
                refine ⟨_, rfl, _, _, rfl, rfl, _, rfl, ite2 (fun e => ?_) (fun e => ?_)⟩
                · have e4 : (0 : Int) ≤ i := of_decide_eq_true e
                  rw [decide_eq_true e4, Bool.true_and] at q
                  refine ⟨_, rfl, _, _, rfl, rfl, _, rfl, ?_⟩
                  by_cases e5 : i ≤ j
                  · rw [decide_eq_true e5] at q ⊢
                    rw [Bool.true_and] at q
                    refine iteT ⟨_, rfl, rfl, _, rfl, ?_⟩
                    by_cases e6 : j = 1
                    · subst e6
                      rw [decide_eq_true rfl, Bool.true_or] at q
                      rw [decide_eq_true rfl]
                      exact iteT q
                    · rw [decide_eq_false e6, Bool.false_or] at q
                      rw [decide_eq_false (fun z => e6 (V.int.inj z))]
                      refine iteF ⟨_, rfl, _, _, rfl, rfl, rfl, ?_⟩
                      show Q (.bl (decide (V.int (Builtin.bitAnd i 1) = V.int 1))) H
                      rw [dec_int, Bool.beq_eq_decide_eq]
                      exact q
                  · rw [decide_eq_false e5] at q ⊢
                    exact iteF q
                · have e4 : ¬ (0 : Int) ≤ i := fun z => e (decide_eq_true z)
                  rw [decide_eq_false e4] at q
                  exact ⟨_, rfl, iteF q⟩
              · rw [decide_eq_false e3] at q ⊢
                exact iteT q
          · rw [decide_eq_false ey]
            refine iteT ?_
            have e2 : tupPart [x, y] = false := by
              match y, ty with
              | .int j, ty => exact absurd (tyx_is ty) ey
              | .non, _ => cases x <;> rfl
              | .bl _, _ => cases x <;> rfl
              | .str _, _ => cases x <;> rfl
              | .byt _, _ => cases x <;> rfl
              | .flt _, _ => cases x <;> rfl
              | .ref _, _ => cases x <;> rfl
              | .ty _, _ => cases x <;> rfl
            rw [e2] at q
            exact q
        · rw [decide_eq_false ex]
          refine iteT ?_
          have e2 : tupPart [x, y] = false := by
            match x, tx with
            | .int j, tx => exact absurd (tyx_is tx) ex
            | .non, _ => rfl
            | .bl _, _ => rfl
            | .str _, _ => rfl
            | .byt _, _ => rfl
            | .flt _, _ => rfl
            | .ref _, _ => rfl
            | .ty _, _ => rfl
          rw [e2] at q
          exact q
      | [], ha, hk, q => exact iteT q
      | [x], ha, hk, q =>
        have e2 : tupPart [x] = false := by cases x <;> rfl
        rw [e2] at q
        exact iteT q
      | x :: y :: z :: r, ha, hk, q =>
        have e2 : tupPart (x :: y :: z :: r) = false := by cases x <;> cases y <;> rfl
        rw [e2] at q
        have e3 : (!decide (V.int ((((x :: y :: z :: r).length : Nat) : Int)) = V.int 2)) = true := by
          rw [dec_int]
          have : ((((x :: y :: z :: r).length : Nat) : Int) == 2) = false := beq_eq_false_iff_ne.mpr (by simp only [List.length_cons]; omega)
          rw [this]
          rfl
        show (if (!decide (V.int ((((x :: y :: z :: r).length : Nat) : Int)) = V.int 2)) = true then _ else _)
        rw [e3]
        exact iteT q
end
/-! ### halves, drawn parts -/
section
variable {P : Program} {w : World} {K : PySem.W.Frag} {mg : Str → Option Value} {base : Heap}
theorem ok_lhalf {f : Addr} {fd : FuncData} (F : Fun K "_law_half" "_law_half" s_l_half f fd) : FnOk P w K mg base L2.CX0 1 f fd ["_law_part_here"] spLHalf := by
  refine F.ok sc_l_half (fun vs H Q E h => ?_) (fun cdv A outer s H vs Q E hr h => ?_)
  · obtain ⟨a, x, y, rfl, _⟩ := h
    rfl
  · obtain ⟨a, x, y, rfl, ha, q⟩ := h
    have nd := sc_l_half.nd
    refine ⟨_, (pss_one (ps_ret (pe_tup (pa_cons (pe_ix ix_seq (pv 0) pe_int (fun _ _ => rfl)) (pa_cons (pe_op op_mul pe_int (pe_ix ix_seq (pv 0) pe_int (fun _ _ => rfl))) pa_nil))))), ?_⟩
    exact ⟨_, rfl, ixt (j := 0) ha rfl ⟨_, rfl, ixt (j := 1) ha rfl ⟨_, _, rfl, rfl, .inl ⟨by decide, by decide⟩, lens 2 (by decide), q⟩⟩⟩
theorem ok_part {f : Addr} {fd : FuncData} (F : Fun K "_law_part" "_law_part" s_l_part f fd) (T : Bl mg) (c_law_take : Cal P w K mg base 1 "_law_take" spTake) : FnOk P w K mg base L2.CX0 2 f fd ["_law_bag_here", "_law_most"] spPart := by
  refine F.ok sc_l_part (fun vs H Q E h => ?_) (fun cdv A outer s H vs Q E hr h => ?_)
  · obtain ⟨p, most, rfl, _⟩ := h
    rfl
  · obtain ⟨p, most, rfl, hB, hm, q⟩ := h
    have nd := sc_l_part.nd
    refine ⟨_, (pss_cons (ps_set (i := 2) nd rfl (.inl rfl) (pe_cut (pe_op op_shlW pe_int (pe_f c_law_take hr rfl (pa_cons (pv 0) (pa_cons (pe_op op_add (pv 1) pe_int) pa_nil))))))
      (pss_cons (ps_set (i := 3) nd rfl (.inl rfl) (pe_cut (pe_ix ix_seq (pe_lst (pa_cons pe_int (pa_cons (pv 2) (pa_cons (pe_op op_sub (pv 2) pe_int) (pa_cons (pe_op op_add pe_int (pe_f c_law_take hr rfl (pa_cons (pv 0) (pa_cons (pv 2) pa_nil)))) pa_nil))))) (pe_f c_law_take hr rfl (pa_cons (pv 0) (pa_cons pe_int pa_nil))) (fun _ _ => rfl))))
      (pss_cons (ps_while PassesOwn.never (PW.pt (pw_and (pt_cmpR op_gt (pv 2) pe_int (nomark _)) (pw_and1 (pt_cmpR op_eq (pe_op op_mod (pv 3) pe_int) pe_int (nomark _)))))
        (pss_one (ps_par (i := 3) (j := 2) rfl nd rfl rfl (by decide) rfl rfl (pa_cons (pe_op op_fdivW (pv 3) pe_int) (pa_cons (pe_op op_fdivW (pv 2) pe_int) pa_nil)) rfl)))
      (pss_one (ps_ret (pe_tup (pa_cons (pe_callB (call_max2 rfl) (by rfl) T.b_max (by decide +kernel) (pa_cons pe_int (pa_cons (pv 3) pa_nil))) (pa_cons (pv 2) pa_nil)))))))), ?_⟩
    -- the bottom
    refine ⟨fun v H1 => ∃ n : Nat, n ≤ most ∧ v = .int (2 ^ n) ∧ But p H H1 ∧ BagAt H1 p, ?_, ?_⟩
    · refine ⟨_, rfl, _, rfl, _, _, rfl, rfl, p, _, rfl, hB, by omega, ?_, ?_⟩
      · exact Nat.lt_of_le_of_lt (show ((most : Int) + 1).natAbs ≤ 2 ^ 8 by omega) (Nat.pow_lt_pow_right (by decide) (by decide))
      intro H1 r b1 hB1 r0 r1
      obtain ⟨n, rfl⟩ := Int.eq_ofNat_of_zero_le r0
      refine ⟨_, _, rfl, rfl, shl_ok (i := 1) (n := 2) (j := n) (by decide) (by omega), n, by omega, ?_, b1, hB1⟩
      show V.int (1 * 2 ^ ((n : Nat) : Int).toNat) = .int (2 ^ n)
      rw [Int.toNat_natCast, Int.one_mul]
    rintro _ H1 ⟨n, hn, rfl, b1, hB1⟩
    have n0 := pow2_pos n
    have nbig : ((2 : Int) ^ n).natAbs < 2 ^ 250 := by
      have e : ((2 ^ n : Nat) : Int) = (2 : Int) ^ n := by simp
      have l : (2 : Nat) ^ n < 2 ^ 250 := Nat.pow_lt_pow_right (by decide) (by omega)
      omega
    -- the top
    refine ⟨fun v H2 => (∃ x : Int, v = .int x ∧ 0 ≤ x ∧ x ≤ 2 ^ n ∧ (1 ≤ x ∨ n = 0)) ∧ Grow p H H2 ∧ BagAt H2 p, ?_, ?_⟩
    · refine ⟨_, rfl, _, rfl, _, _, rfl, rfl, _, rfl, _, rfl, p, _, rfl, hB1, by omega, nbig, ?_⟩
      intro H2 r b2 hB2 r0 r1
      refine ⟨_, _, rfl, rfl, lens 4 (by decide), fun l nl => ?_⟩
      have g2 : Grow p H (upd H2 l (.lst [.int 1, .int (2 ^ n), .int (2 ^ n - 1), .int (1 + r)])) := (b1.trans b2).grow.trans (Same.grow (Same.up0 nl))
      refine ⟨_, rfl, p, _, rfl, hB2.keep (Same.up0 nl), by decide, by decide, ?_⟩
      intro H3 k b3 hB3 k0 k1
      have hl : H3 l = some (.lst [.int 1, .int (2 ^ n), .int (2 ^ n - 1), .int (1 + r)]) := by
        rw [b3 l (hB2.new nl)]
        exact upd_same
      have fin : ∀ x : Int, 0 ≤ x → x ≤ 2 ^ n → (1 ≤ x ∨ n = 0) → (∃ y : Int, V.int x = .int y ∧ 0 ≤ y ∧ y ≤ 2 ^ n ∧ (1 ≤ y ∨ n = 0)) ∧ Grow p H H3 ∧ BagAt H3 p := fun x a b c => ⟨⟨x, rfl, a, b, c⟩, g2.trans b3.grow, hB3⟩
      have hk : k = 0 ∨ k = 1 ∨ k = 2 ∨ k = 3 := by omega
      rcases hk with rfl | rfl | rfl | rfl
      · exact ixl (j := 0) hl rfl (fin _ (by decide) n0 (.inl (by decide)))
      · exact ixl (j := 1) hl rfl (fin _ (by omega) (by omega) (.inl n0))
      · refine ixl (j := 2) hl rfl (fin _ (by omega) (by omega) ?_)
        by_cases e : n = 0
        · exact .inr e
        · obtain ⟨m, _, e2⟩ := pow2_half e
          have := pow2_pos m
          exact .inl (by omega)
      · exact ixl (j := 3) hl rfl (fin _ (by omega) (by omega) (.inl (by omega)))
    rintro _ H2 ⟨⟨x, rfl, x0, x1, x2⟩, g2, hB2⟩
    -- in lowest terms
    refine ⟨fun m σ H3 => ∃ x : Int, σ = [some (.ref p), some (.int (most : Int)), some (.int (2 ^ m)), some (.int x)] ∧ m ≤ n ∧ 0 ≤ x ∧ x ≤ 2 ^ m ∧ (1 ≤ x ∨ m = 0) ∧ H3 = H2, ⟨n, x, rfl, Nat.le_refl _, x0, x1, x2, rfl⟩, ?_⟩
    rintro m _ H3 ⟨x, rfl, hm2, x0, x1, x2, rfl⟩
    have m0 := pow2_pos m
    have done : (m = 0 ∨ x % 2 = 1) → ∀ t, H3 t = none → Q (.ref t) (upd H3 t (.tup [.int (if x > 1 then x else 1), .int (2 ^ m)])) := by
      intro hd t nt
      refine q _ t _ _ (g2.trans (Same.grow (Same.up0 nt))) (hB2.keep (Same.up0 nt)) ?_ upd_same ⟨⟨m, by omega, rfl⟩, ?_, ?_, ?_⟩
      · cases e : H t with
        | none => rfl
        | some o =>
          have ne : t ≠ p := hB2.new nt
          rw [g2 t o ne e] at nt
          cases nt
      · split <;> omega
      · split <;> omega
      · rcases hd with rfl | hd
        · exact .inl rfl
        · by_cases e : m = 0
          · subst e
            exact .inl rfl
          · refine .inr ?_
            rw [show (if x > 1 then x else 1) = x by split <;> omega]
            exact hd
    refine ⟨_, rfl, _, _, rfl, rfl, _, rfl, ite2 (fun e => ?_) (fun e => ?_)⟩
    · have m1 : m ≠ 0 := fun z => by
        subst z
        exact absurd (of_decide_eq_true e) (by decide)
      obtain ⟨m', rfl, e2⟩ := pow2_half m1
      have m2 := pow2_pos m'
      refine ⟨_, rfl, _, _, rfl, rfl, (by show (0 : Int) < 2; decide), rfl, _, rfl, ?_⟩
      rw [dec_int]
      by_cases e3 : x % 2 = 0
      · rw [beq_iff_eq.mpr e3]
        refine iteT ⟨fun σ' H' => ∃ x : Int, σ' = [some (.ref p), some (.int (most : Int)), some (.int (2 ^ m')), some (.int x)] ∧ 0 ≤ x ∧ x ≤ 2 ^ m' ∧ (1 ≤ x ∨ m' = 0) ∧ H' = H3, ?_, ?_⟩
        · rintro σ' H' ⟨x', rfl, a, b, c, rfl⟩
          exact ⟨m', by omega, x', rfl, by omega, a, b, c, rfl⟩
        · refine ⟨_, rfl, _, _, rfl, rfl, wide_div (by decide) (b := 64) (by decide) (by decide) (by decide), _, rfl, _, _, rfl, rfl, wide_div (by decide) (b := 64) (by decide) (by decide) (by decide), _, _, rfl, x / 2, ?_, by omega, by omega, .inl (by omega), rfl⟩
          have e4 : (2 : Int) ^ (m' + 1) / 2 = 2 ^ m' := by omega
          show [some (V.ref p), some (V.int (most : Int)), some (V.int ((2 : Int) ^ (m' + 1) / 2)), some (V.int (x / 2))] = _
          rw [e4]
      · rw [beq_eq_false_iff_ne.mpr e3]
        exact iteF ⟨_, rfl, _, _, rfl, _, rfl, lens 2 (by decide), done (.inr (by omega))⟩
    · have m1 : m = 0 := by
        have e1 : ¬ ((1 : Int) < 2 ^ m) := fun z => e (decide_eq_true z)
        by_cases z : m = 0
        · exact z
        · obtain ⟨m', _, e2⟩ := pow2_half z
          have := pow2_pos m'
          omega
      exact ⟨_, rfl, _, _, rfl, _, rfl, lens 2 (by decide), done (.inl m1)⟩
end
/-! ### sums -/
section
variable {P : Program} {w : World} {K : PySem.W.Frag} {mg : Str → Option Value} {base : Heap}
theorem ok_topOver {f : Addr} {fd : FuncData} (F : Fun K "top_over" "top_over" s_top_over f fd) : FnOk P w K mg base L2.CX0 1 f fd ["bottom", "part"] spTopOver := by
  refine F.ok sc_top_over (fun vs H Q E h => ?_) (fun cdv A outer s H vs Q E hr h => ?_)
  · obtain ⟨a, x, m, M, rfl, _⟩ := h
    rfl
  · obtain ⟨a, x, m, M, rfl, ha, hm, hM, hx, q⟩ := h
    have nd := sc_top_over.nd
    refine ⟨_, (pss_one (ps_ret (pe_op op_shlW (pe_ix ix_seq (pv 1) pe_int (fun _ _ => rfl)) (pe_op op_sub (pe_bits (pv 0)) (pe_bits (pe_ix ix_seq (pv 1) pe_int (fun _ _ => rfl))))))), ?_⟩
    refine ⟨_, rfl, ixt (j := 0) ha rfl ⟨_, rfl, _, rfl, _, rfl, ixt (j := 1) ha rfl ⟨_, rfl, _, _, rfl, rfl, ?_⟩⟩⟩
    have e : ((Builtin.Int.intBits ((2 : Int) ^ M) : Nat) : Int) - ((Builtin.Int.intBits ((2 : Int) ^ m) : Nat) : Int) = ((M - m : Nat) : Int) := by
      rw [bits_pow, bits_pow]
      omega
    refine ⟨_, _, rfl, rfl, ?_, ?_⟩
    · rw [e]
      refine shl_ok (n := 1001) ?_ (by omega)
      have : x < 2 ^ 1001 := Nat.lt_of_le_of_lt hx (Nat.pow_lt_pow_right (by decide) (by omega))
      rw [Int.natAbs_natCast]
      exact this
    · show Q (.int ((x : Int) * 2 ^ (((Builtin.Int.intBits ((2 : Int) ^ M) : Nat) : Int) - ((Builtin.Int.intBits ((2 : Int) ^ m) : Nat) : Int)).toNat)) H
      rw [e, Int.toNat_natCast, ← cast_pow, ← Int.natCast_mul]
      exact q
theorem ok_lowest {f : Addr} {fd : FuncData} (F : Fun K "in_lowest_terms" "in_lowest_terms" s_in_lowest_terms f fd) : FnOk P w K mg base L2.CX0 1 f fd ["top", "bottom"] spLowest := by
  refine F.ok sc_in_lowest_terms (fun vs H Q E h => ?_) (fun cdv A outer s H vs Q E hr h => ?_)
  · obtain ⟨t, M, rfl, _⟩ := h
    rfl
  · obtain ⟨t, M, rfl, q⟩ := h
    have nd := sc_in_lowest_terms.nd
    refine ⟨_, (pss_cons (ps_set (i := 2) nd rfl (.inl rfl) (pe_cut (pe_op op_or (pv 0) (pv 1))))
      (pss_cons (ps_set (i := 3) nd rfl (.inl rfl) (pe_cut (pe_op op_sub (pe_bits (pe_op op_and (pv 2) (pe_un un_neg (pv 2)))) pe_int)))
      (pss_one (ps_ret (pe_tup (pa_cons (pe_op op_shr (pv 0) (pv 3)) (pa_cons (pe_op op_shr (pv 1) (pv 3)) pa_nil))))))), ?_⟩
    refine ⟨fun v H' => v = .int ((t ||| 2 ^ M : Nat) : Int) ∧ H' = H, ?_, ?_⟩
    · refine ⟨_, rfl, _, rfl, _, _, rfl, rfl, ?_, rfl⟩
      show V.int (Builtin.bitOr (t : Int) (2 ^ M)) = .int ((t ||| 2 ^ M : Nat) : Int)
      rw [bitOr_nn (by omega) (by have := pow2_pos M; omega), ← cast_pow, Int.toNat_natCast, Int.toNat_natCast]
    rintro _ H1 ⟨rfl, rfl⟩
    refine ⟨fun v H' => v = .int ((low M t : Nat) : Int) ∧ H' = H1, ?_, ?_⟩
    · refine ⟨_, rfl, _, rfl, _, rfl, _, _, rfl, rfl, _, rfl, _, _, rfl, rfl, ?_, rfl⟩
      show V.int (((Builtin.Int.intBits (Builtin.bitAnd ((t ||| 2 ^ M : Nat) : Int) (-((t ||| 2 ^ M : Nat) : Int))) : Nat) : Int) - 1) = .int ((low M t : Nat) : Int)
      rw [and_neg (or_pos t M), or_lowb, cast_pow, bits_pow]
      congr 1
      omega
    rintro _ H2 ⟨rfl, rfl⟩
    refine ⟨_, rfl, _, rfl, _, _, rfl, rfl, Int.natCast_nonneg _, _, rfl, _, rfl, _, _, rfl, rfl, Int.natCast_nonneg _, lens 2 (by decide), fun p np => ?_⟩
    have e1 : (t : Int) / 2 ^ ((low M t : Nat) : Int).toNat = ((redT M t : Nat) : Int) := by
      rw [Int.toNat_natCast, ← cast_pow]
      unfold redT
      simp
    have e2 : (2 : Int) ^ M / 2 ^ ((low M t : Nat) : Int).toNat = 2 ^ redM M t := by
      rw [Int.toNat_natCast]
      exact pow_div (low_le M t)
    have k := q p np
    rw [← e1, ← e2] at k
    exact k
theorem ok_plus {f : Addr} {fd : FuncData} (F : Fun K "plus" "plus" s_plus f fd) (T : Bl mg) (c_is_part : Cal P w K mg base 2 "is_part" (spIsPart K)) (c_top_over : Cal P w K mg base 1 "top_over" spTopOver) (c_in_lowest_terms : Cal P w K mg base 1 "in_lowest_terms" spLowest) :
    FnOk P w K mg base L2.CX0 3 f fd ["one", "other"] spPlus := by
  refine F.ok sc_plus (fun vs H Q E h => ?_) (fun cdv A outer s H vs Q E hr h => ?_)
  · obtain ⟨a, b, x, m, y, n, rfl, _⟩ := h
    rfl
  · obtain ⟨a, b, x, m, y, n, rfl, ha, hb, pa, pb, hx, hy, hm, hn, hs, q⟩ := h
    have nd := sc_plus.nd
    refine ⟨_, (pss_cons (ps_if (pt_not (pt_val (pe_f c_is_part hr rfl (pa_cons (pv 0) pa_nil))))
        (pss_one ps_never)
        pss_nil)
      (pss_cons (ps_if (pt_not (pt_val (pe_f c_is_part hr rfl (pa_cons (pv 1) pa_nil))))
        (pss_one ps_never)
        pss_nil)
      (pss_cons (ps_set (i := 2) nd rfl (.inl rfl) (pe_cut (pe_callB (call_max2 rfl) (by rfl) T.b_max (by decide +kernel) (pa_cons (pe_ix ix_seq (pv 0) pe_int (fun _ _ => rfl)) (pa_cons (pe_ix ix_seq (pv 1) pe_int (fun _ _ => rfl)) pa_nil)))))
      (pss_cons (ps_set (i := 3) nd rfl (.inl rfl) (pe_op op_add (pe_f c_top_over hr rfl (pa_cons (pv 2) (pa_cons (pv 0) pa_nil))) (pe_f c_top_over hr rfl (pa_cons (pv 2) (pa_cons (pv 1) pa_nil)))))
      (pss_cons (ps_if (pt_cmpR op_gt (pv 3) (pv 2) (nomark _))
        (pss_one ps_never)
        pss_nil)
      (pss_one (ps_ret (pe_f c_in_lowest_terms hr rfl (pa_cons (pv 3) (pa_cons (pv 2) pa_nil)))))))))), ?_⟩
    have known : ∀ (i j : Int), ∀ v ∈ ([.int i, .int j] : List V), Known K H v := by
      intro i j v hv
      simp only [List.mem_cons, List.not_mem_nil, or_false] at hv
      rcases hv with rfl | rfl
      · exact Known.int _
      · exact Known.int _
    refine ⟨_, rfl, .inr ⟨a, _, rfl, ha, known _ _, ?_⟩⟩
    rw [show tupPart [.int (x : Int), .int (2 ^ m)] = true from pa]
    refine ⟨_, rfl, iteF ?_⟩
    refine ⟨_, rfl, .inr ⟨b, _, rfl, hb, known _ _, ?_⟩⟩
    rw [show tupPart [.int (y : Int), .int (2 ^ n)] = true from pb]
    refine ⟨_, rfl, iteF ?_⟩
    refine ⟨fun v H' => v = .int (2 ^ max m n) ∧ H' = H, ?_, ?_⟩
    · refine ⟨_, rfl, ixt (j := 1) ha rfl ⟨_, rfl, ixt (j := 1) hb rfl ⟨_, _, rfl, ?_, rfl⟩⟩⟩
      exact congrArg V.int (max_pow m n)
    rintro _ H1 ⟨rfl, rfl⟩
    refine ⟨_, rfl, _, rfl, a, x, m, max m n, rfl, ha, by omega, by omega, hx, ?_⟩
    refine ⟨_, rfl, _, rfl, b, y, n, max m n, rfl, hb, by omega, by omega, hy, ?_⟩
    refine ⟨_, _, rfl, rfl, ?_⟩
    refine ⟨_, rfl, _, rfl, _, _, rfl, rfl, _, rfl, ite2 (fun e => ?_) (fun e => ?_)⟩
    · have e1 := of_decide_eq_true e
      have := cast_pow (max m n)
      unfold sumT at hs
      omega
    · refine ⟨_, rfl, _, rfl, sumT x m y n, max m n, ?_, q⟩
      rw [show ((sumT x m y n : Nat) : Int) = ((x * 2 ^ (max m n - m) : Nat) : Int) + ((y * 2 ^ (max m n - n) : Nat) : Int) by
        unfold sumT
        omega]
      rfl
theorem ok_lplus {f : Addr} {fd : FuncData} (F : Fun K "_law_plus" "_law_plus" s_l_plus f fd) (T : Bl mg) : FnOk P w K mg base L2.CX0 1 f fd ["_law_one", "_law_other"] spLPlus := by
  refine F.ok sc_l_plus (fun vs H Q E h => ?_) (fun cdv A outer s H vs Q E hr h => ?_)
  · obtain ⟨a, b, x, m, y, n, rfl, _⟩ := h
    rfl
  · obtain ⟨a, b, x, m, y, n, rfl, ha, hb, hx, hy, hm, hn, q⟩ := h
    have nd := sc_l_plus.nd
    refine ⟨_, (pss_cons (ps_set (i := 2) nd rfl (.inl rfl) (pe_cut (pe_callB (call_max2 rfl) (by rfl) T.b_max (by decide +kernel) (pa_cons (pe_ix ix_seq (pv 0) pe_int (fun _ _ => rfl)) (pa_cons (pe_ix ix_seq (pv 1) pe_int (fun _ _ => rfl)) pa_nil)))))
      (pss_cons (ps_set (i := 3) nd rfl (.inl rfl) (pe_cut (pe_op op_add (pe_op op_mulX (pe_ix ix_seq (pv 0) pe_int (fun _ _ => rfl)) (pe_op op_fdivW (pv 2) (pe_ix ix_seq (pv 0) pe_int (fun _ _ => rfl)))) (pe_op op_mulX (pe_ix ix_seq (pv 1) pe_int (fun _ _ => rfl)) (pe_op op_fdivW (pv 2) (pe_ix ix_seq (pv 1) pe_int (fun _ _ => rfl)))))))
      (pss_cons (ps_while PassesOwn.never (PW.pt (pw_and (pt_cmpR op_gt (pv 2) pe_int (nomark _)) (pw_and1 (pt_cmpR op_eq (pe_op op_mod (pv 3) pe_int) pe_int (nomark _)))))
        (pss_one (ps_par (i := 3) (j := 2) rfl nd rfl rfl (by decide) rfl rfl (pa_cons (pe_op op_fdivW (pv 3) pe_int) (pa_cons (pe_op op_fdivW (pv 2) pe_int) pa_nil)) rfl)))
      (pss_one (ps_ret (pe_tup (pa_cons (pv 3) (pa_cons (pv 2) pa_nil)))))))), ?_⟩
    refine ⟨fun v H' => v = .int (2 ^ max m n) ∧ H' = H, ?_, ?_⟩
    · refine ⟨_, rfl, ixt (j := 1) ha rfl ⟨_, rfl, ixt (j := 1) hb rfl ⟨_, _, rfl, ?_, rfl⟩⟩⟩
      exact congrArg V.int (max_pow m n)
    rintro _ H1 ⟨rfl, rfl⟩
    have big : ∀ {z k : Nat}, z ≤ 2 ^ k → k ≤ 1000 → ((z : Nat) : Int).natAbs < 2 ^ 1001 := fun {z k} h1 h2 => by
      rw [Int.natAbs_natCast]
      exact Nat.lt_of_le_of_lt h1 (Nat.pow_lt_pow_right (by decide) (by omega))
    refine ⟨fun v H' => v = .int ((sumT x m y n : Nat) : Int) ∧ H' = H1, ?_, ?_⟩
    · refine ⟨_, rfl, ixt (j := 0) ha rfl ⟨_, rfl, _, rfl, ixt (j := 1) ha rfl ⟨_, _, rfl, rfl, wide_div (by have := pow2_pos m; omega) (b := 1001) (pow_big (by omega)) (by decide) (by decide), _, _, rfl, rfl, ?_, ?_⟩⟩⟩
      · rw [pow_div (Nat.le_max_left m n)]
        exact mulx_ok (big hx hm) (pow_big (k := 1001) (by omega)) (by decide)
      refine ⟨_, rfl, ixt (j := 0) hb rfl ⟨_, rfl, _, rfl, ixt (j := 1) hb rfl ⟨_, _, rfl, rfl, wide_div (by have := pow2_pos n; omega) (b := 1001) (pow_big (by omega)) (by decide) (by decide), _, _, rfl, rfl, ?_, ?_⟩⟩⟩
      · rw [pow_div (Nat.le_max_right m n)]
        exact mulx_ok (big hy hn) (pow_big (k := 1001) (by omega)) (by decide)
      refine ⟨_, _, rfl, rfl, ?_, rfl⟩
      show V.int ((x : Int) * (2 ^ max m n / 2 ^ m) + (y : Int) * (2 ^ max m n / 2 ^ n)) = _
      rw [pow_div (Nat.le_max_left m n), pow_div (Nat.le_max_right m n), ← cast_pow, ← cast_pow, ← Int.natCast_mul, ← Int.natCast_mul, ← Int.natCast_add]
      rfl
    rintro _ H2 ⟨rfl, rfl⟩
    -- halved while both are even
    refine ⟨fun k σ H3 => ∃ t : Nat, σ = [some (.ref a), some (.ref b), some (.int (2 ^ k)), some (.int (t : Int))] ∧ redT k t = redT (max m n) (sumT x m y n) ∧ redM k t = redM (max m n) (sumT x m y n) ∧ H3 = H2, ⟨max m n, _, rfl, rfl, rfl, rfl⟩, ?_⟩
    rintro k _ H3 ⟨t, rfl, e1, e2, rfl⟩
    have done : (k = 0 ∨ t % 2 = 1) → ∀ p, H3 p = none → Q (.ref p) (upd H3 p (.tup [.int (t : Int), .int (2 ^ k)])) := by
      intro hd p np
      have r := red_end hd
      have z := q p np
      rw [← e1, ← e2, r.1, r.2] at z
      exact z
    refine ⟨_, rfl, _, _, rfl, rfl, _, rfl, ite2 (fun e => ?_) (fun e => ?_)⟩
    · have k1 : k ≠ 0 := fun z => by
        subst z
        exact absurd (of_decide_eq_true e) (by decide)
      obtain ⟨k', rfl, e3⟩ := pow2_half k1
      refine ⟨_, rfl, _, _, rfl, rfl, (by show (0 : Int) < 2; decide), rfl, _, rfl, ?_⟩
      rw [dec_int]
      by_cases e4 : (t : Int) % 2 = 0
      · rw [beq_iff_eq.mpr e4]
        have r := red_step (m := k') (t := t) (by omega)
        refine iteT ⟨fun σ' H' => σ' = [some (.ref a), some (.ref b), some (.int (2 ^ k')), some (.int ((t / 2 : Nat) : Int))] ∧ H' = H3, ?_, ?_⟩
        · rintro σ' H' ⟨rfl, rfl⟩
          exact ⟨k', by omega, t / 2, rfl, by rw [← e1, r.1], by rw [← e2, r.2], rfl⟩
        · refine ⟨_, rfl, _, _, rfl, rfl, wide_div (by decide) (b := 64) (by decide) (by decide) (by decide), _, rfl, _, _, rfl, rfl, wide_div (by decide) (b := 64) (by decide) (by decide) (by decide), _, _, rfl, ?_, rfl⟩
          have e5 : (2 : Int) ^ (k' + 1) / 2 = 2 ^ k' := by omega
          show [some (V.ref a), some (V.ref b), some (V.int ((2 : Int) ^ (k' + 1) / 2)), some (V.int ((t : Int) / 2))] = _
          rw [e5]
          rfl
      · rw [beq_eq_false_iff_ne.mpr e4]
        exact iteF ⟨_, rfl, _, rfl, lens 2 (by decide), done (.inr (by omega))⟩
    · have k1 : k = 0 := by
        have e1 : ¬ ((1 : Int) < 2 ^ k) := fun z => e (decide_eq_true z)
        by_cases z : k = 0
        · exact z
        · obtain ⟨k', _, e2⟩ := pow2_half z
          have := pow2_pos k'
          omega
      exact ⟨_, rfl, _, rfl, lens 2 (by decide), done (.inl k1)⟩
end
/-! ### pairs of addresses -/
theorem tup_keep {H H' : Hp} {p a : Addr} {xs : List V} (hB : BagAt H p) (g : Grow p H H') (h : H a = some (.tup xs)) : H' a = some (.tup xs) := by
  obtain ⟨u, v, hp, _⟩ := hB
  exact g a _ (ne_of h hp (by intro z; cases z)) h
structure AddrAt (H : Hp) (a : Addr) (h n g : Int) (x m : Nat) : Prop where
  ex : ∃ pa, H a = some (.tup [.int h, .int n, .int g, .ref pa]) ∧ isTup H pa x m
  pt : Pt x m
  small : m ≤ 50 ∧ h.natAbs < 1000 ∧ n.natAbs < 1000 ∧ g.natAbs < 1000
theorem AddrAt.same {H H' : Hp} {a : Addr} {h n g : Int} {x m : Nat} (A : AddrAt H a h n g x m) (e : Same H H') : AddrAt H' a h n g x m := by
  obtain ⟨pa, h1, h2⟩ := A.ex
  exact ⟨⟨pa, e _ _ h1, e _ _ h2⟩, A.pt, A.small⟩
theorem AddrAt.grow {H H' : Hp} {p a : Addr} {h n g : Int} {x m : Nat} (A : AddrAt H a h n g x m) (hB : BagAt H p) (e : Grow p H H') : AddrAt H' a h n g x m := by
  obtain ⟨pa, h1, h2⟩ := A.ex
  exact ⟨⟨pa, tup_keep hB e h1, tup_keep hB e h2⟩, A.pt, A.small⟩
def spPair : Sp := fun vs H Q _ => ∃ p : Addr, vs = [.ref p] ∧ BagAt H p ∧ ∀ H' r o n h1 n1 g1 x1 m1 h2 n2 g2 x2 m2, Grow p H H' → BagAt H' p → H' r = some (.tup [.ref o, .ref n]) → AddrAt H' o h1 n1 g1 x1 m1 → AddrAt H' n h2 n2 g2 x2 m2 →
  (g1 = g2 → sumT x1 m1 x2 m2 ≤ 2 ^ max m1 m2) → Q (.ref r) H'
section
variable {P : Program} {w : World} {K : PySem.W.Frag} {mg : Str → Option Value} {base : Heap}
theorem ok_pair {f : Addr} {fd : FuncData} (F : Fun K "_law_pair" "_law_pair" s_l_pair f fd) (T : Bl mg) (c_law_take : Cal P w K mg base 1 "_law_take" spTake) (c_law_part : Cal P w K mg base 2 "_law_part" spPart) (c_law_half : Cal P w K mg base 1 "_law_half" spLHalf) :
    FnOk P w K mg base L2.CX0 3 f fd ["_law_bag_here"] spPair := by
  refine F.ok sc_l_pair (fun vs H Q E h => ?_) (fun cdv A outer s H vs Q E hr h => ?_)
  · obtain ⟨p, rfl, _⟩ := h
    rfl
  · obtain ⟨p, rfl, hB, q⟩ := h
    have nd := sc_l_pair.nd
    refine ⟨_, (pss_cons (ps_par3 (i := 1) (j := 2) (l := 3) rfl nd rfl rfl rfl (by decide) (by decide) (by decide) rfl rfl rfl (pa_cons (pe_f c_law_take hr rfl (pa_cons (pv 0) (pa_cons pe_int pa_nil))) (pa_cons (pe_f c_law_take hr rfl (pa_cons (pv 0) (pa_cons pe_int pa_nil))) (pa_cons (pe_f c_law_take hr rfl (pa_cons (pv 0) (pa_cons pe_int pa_nil))) pa_nil))) rfl)
      (pss_cons (ps_par (i := 4) (j := 5) rfl nd rfl rfl (by decide) rfl rfl (pa_cons (pe_f c_law_part hr rfl (pa_cons (pv 0) (pa_cons pe_int pa_nil))) (pa_cons (pe_f c_law_part hr rfl (pa_cons (pv 0) (pa_cons pe_int pa_nil))) pa_nil)) rfl)
      (pss_cons (ps_if (pt_cmpR op_eq (pe_f c_law_take hr rfl (pa_cons (pv 0) (pa_cons pe_int pa_nil))) pe_int (nomark _))
        (pss_one (ps_ret (pe_tup (pa_cons (pe_tup (pa_cons (pv 1) (pa_cons (pv 2) (pa_cons (pv 3) (pa_cons (pe_f c_law_half hr rfl (pa_cons (pv 4) pa_nil)) pa_nil))))) (pa_cons (pe_tup (pa_cons (pv 1) (pa_cons (pv 2) (pa_cons (pv 3) (pa_cons (pe_f c_law_half hr rfl (pa_cons (pv 5) pa_nil)) pa_nil))))) pa_nil)))))
        pss_nil)
      (pss_cons (ps_set (i := 6) nd rfl (.inl rfl) (pe_cut (pe_ix ix_seq (pe_lst (pa_cons (pe_tup (pa_cons (pv 1) (pa_cons (pv 2) pa_nil))) (pa_cons (pe_tup (pa_cons (pe_f c_law_take hr rfl (pa_cons (pv 0) (pa_cons pe_int pa_nil))) (pa_cons (pe_f c_law_take hr rfl (pa_cons (pv 0) (pa_cons pe_int pa_nil))) pa_nil))) pa_nil))) (pe_f c_law_take hr rfl (pa_cons (pv 0) (pa_cons pe_int pa_nil))) (fun _ _ => rfl))))
      (pss_cons (ps_set (i := 7) nd rfl (.inl rfl) (pe_cut (pe_op op_add (pe_op op_add (pe_op op_add (pv 3) pe_int) (pe_callTy call_int1 (by rfl) T.b_int (by decide +kernel) (pa_cons (pe_cmpR op_eq (pe_ix ix_seq (pv 6) pe_int (fun _ _ => rfl)) (pv 1) (nomark _)) pa_nil))) (pe_f c_law_take hr rfl (pa_cons (pv 0) (pa_cons pe_int pa_nil))))))
      (pss_cons (ps_set (i := 8) nd rfl (.inl rfl) (pe_lst (pa_cons (pe_tup (pa_cons (pv 1) (pa_cons (pv 2) (pa_cons (pv 3) (pa_cons (pv 4) pa_nil))))) (pa_cons (pe_op op_catT (pv 6) (pe_tup (pa_cons (pv 7) (pa_cons (pv 5) pa_nil)))) pa_nil))))
      (pss_one (ps_ret (pe_ifExp (pt_cmpR op_eq (pe_f c_law_take hr rfl (pa_cons (pv 0) (pa_cons pe_int pa_nil))) pe_int (nomark _)) (pe_tup (pa_cons (pe_ix ix_seq (pv 8) pe_int (fun _ _ => rfl)) (pa_cons (pe_ix ix_seq (pv 8) pe_int (fun _ _ => rfl)) pa_nil))) (pe_tup (pa_cons (pe_ix ix_seq (pv 8) pe_int (fun _ _ => rfl)) (pa_cons (pe_ix ix_seq (pv 8) pe_int (fun _ _ => rfl)) pa_nil)))))))))))), ?_⟩
    refine ⟨_, rfl, p, _, rfl, hB, by decide, by decide, fun H1 h b1 hB1 h0 h1 => ?_⟩
    refine ⟨_, rfl, p, _, rfl, hB1, by decide, by decide, fun H2 n b2 hB2 n0 n1 => ?_⟩
    refine ⟨_, rfl, p, _, rfl, hB2, by decide, by decide, fun H3 g b3 hB3 g0 g1 => ?_⟩
    refine ⟨_, _, _, rfl, ?_⟩
    refine ⟨_, rfl, p, 40, rfl, hB3, by decide, fun H4 t x y g4 hB4 _ ht dr => ?_⟩
    refine ⟨_, rfl, p, 40, rfl, hB4, by decide, fun H5 u x' y' g5 hB5 _ hu dr' => ?_⟩
    refine ⟨_, _, rfl, ?_⟩
    have G5 : Grow p H H5 := ((b1.trans b2).trans b3).grow.trans (g4.trans g5)
    have ht5 := tup_keep hB4 g5 ht
    obtain ⟨a, m, rfl, rfl, hm, pt⟩ := dr.pt
    obtain ⟨a', m', rfl, rfl, hm', pt'⟩ := dr'.pt
    refine ⟨_, rfl, p, _, rfl, hB5, by decide, by decide, fun H6 k b6 hB6 k0 k1 => ?_⟩
    have G6 := G5.trans b6.grow
    have ht6 := tup_keep hB5 b6.grow ht5
    have hu6 := tup_keep hB5 b6.grow hu
    refine ⟨rfl, _, rfl, ?_⟩
    rw [dec_int]
    by_cases ek : k = 0
    · rw [beq_iff_eq.mpr ek]
      -- of one age, in halves
      refine iteT ⟨_, rfl, _, rfl, _, rfl, _, rfl, t, _, _, rfl, ht6, fun v nv => ?_⟩
      refine ⟨lens 4 (by decide), fun o no => ?_⟩
      refine ⟨_, rfl, _, rfl, _, rfl, _, rfl, u, (a' : Int), 2 ^ m', rfl, ?_, fun v' nv' => ?_⟩
      · exact Same.up0 no _ _ (Same.up0 nv _ _ hu6)
      refine ⟨lens 4 (by decide), fun c nc => ⟨lens 2 (by decide), fun r nr => ?_⟩⟩
      have s1 := Same.up0 (o := .tup [.int (a : Int), .int (2 * 2 ^ m)]) nv
      have s2 := Same.up0 (o := .tup [.int h, .int n, .int g, .ref v]) no
      have s3 := Same.up0 (o := .tup [.int (a' : Int), .int (2 * 2 ^ m')]) nv'
      have s4 := Same.up0 (o := .tup [.int h, .int n, .int g, .ref v']) nc
      have s5 := Same.up0 (o := .tup [.ref o, .ref c]) nr
      have e1 : (2 : Int) * 2 ^ m = 2 ^ (m + 1) := by
        rw [Int.pow_succ]
        omega
      have e2 : (2 : Int) * 2 ^ m' = 2 ^ (m' + 1) := by
        rw [Int.pow_succ]
        omega
      refine q _ r o c h n g a (m + 1) h n g a' (m' + 1) (G6.trans (Same.grow ((((s1.trans s2).trans s3).trans s4).trans s5))) (hB6.keep ((((s1.trans s2).trans s3).trans s4).trans s5)) upd_same ?_ ?_ (fun _ => sum_fits pt.half.2 pt'.half.2)
      · refine ⟨⟨v, s5 _ _ (s4 _ _ (s3 _ _ upd_same)), ?_⟩, pt.half.1, by omega, by omega, by omega, by omega⟩
        unfold isTup
        rw [← e1]
        exact s5 _ _ (s4 _ _ (s3 _ _ (s2 _ _ upd_same)))
      · refine ⟨⟨v', s5 _ _ upd_same, ?_⟩, pt'.half.1, by omega, by omega, by omega, by omega⟩
        unfold isTup
        rw [← e2]
        exact s5 _ _ (s4 _ _ upd_same)
    · rw [beq_eq_false_iff_ne.mpr ek]
      refine iteF ?_
      -- the slot
      refine ⟨fun z H' => ∃ (sl : Addr) (i j : Int), z = .ref sl ∧ H' sl = some (.tup [.int i, .int j]) ∧ i.natAbs < 1000 ∧ j.natAbs < 1000 ∧ Grow p H6 H' ∧ BagAt H' p, ?_, ?_⟩
      · refine ⟨_, rfl, _, rfl, lens 2 (by decide), fun s1 ns1 => ?_⟩
        have e1 := Same.up0 (o := .tup [.int h, .int n]) ns1
        refine ⟨_, rfl, p, _, rfl, hB6.keep e1, by decide, by decide, fun H7 i b7 hB7 i0 i1 => ?_⟩
        refine ⟨_, rfl, p, _, rfl, hB7, by decide, by decide, fun H8 j b8 hB8 j0 j1 => ?_⟩
        refine ⟨lens 2 (by decide), fun s2 ns2 => ⟨lens 2 (by decide), fun l nl => ?_⟩⟩
        have e2 := Same.up0 (o := .tup [.int i, .int j]) ns2
        have e3 := Same.up0 (o := .lst [.ref s1, .ref s2]) nl
        refine ⟨_, rfl, p, _, rfl, (hB8.keep e2).keep e3, by decide, by decide, fun H9 k' b9 hB9 k0' k1' => ?_⟩
        have g9 : Grow p H6 H9 := ((Same.grow e1).trans (b7.trans b8).grow).trans ((Same.grow e2).trans ((Same.grow e3).trans b9.grow))
        have hl : H9 l = some (.lst [.ref s1, .ref s2]) := by
          rw [b9 l ((hB8.keep e2).new nl)]
          exact upd_same
        have h1 : H9 s1 = some (.tup [.int h, .int n]) := tup_keep ((hB8.keep e2).keep e3) b9.grow (e3 _ _ (e2 _ _ (tup_keep (hB6.keep e1) (b7.trans b8).grow upd_same)))
        have h2 : H9 s2 = some (.tup [.int i, .int j]) := tup_keep ((hB8.keep e2).keep e3) b9.grow (e3 _ _ upd_same)
        have hk : k' = 0 ∨ k' = 1 := by omega
        rcases hk with rfl | rfl
        · exact ixl (j := 0) hl rfl ⟨s1, h, n, rfl, h1, by omega, by omega, g9, hB9⟩
        · exact ixl (j := 1) hl rfl ⟨s2, i, j, rfl, h2, by omega, by omega, g9, hB9⟩
      rintro _ H7 ⟨sl, i, j, rfl, hsl, hi, hj, g7, hB7⟩
      -- the later age
      refine ⟨fun z H' => ∃ la : Int, z = .int la ∧ g < la ∧ la ≤ g + 40 ∧ But p H7 H' ∧ BagAt H' p, ?_, ?_⟩
      · refine ⟨_, rfl, _, _, rfl, rfl, _, rfl, ixt (j := 0) hsl rfl ⟨_, rfl, rfl, .inr ⟨_, rfl, ?_⟩⟩⟩
        refine ⟨_, _, rfl, rfl, _, rfl, p, _, rfl, hB7, by decide, by decide, fun H8 d b8 hB8 d0 d1 => ?_⟩
        refine ⟨_, _, rfl, rfl, _, rfl, ?_, ?_, b8, hB8⟩
        · show g < g + 1 + (if decide (V.int i = V.int h) = true then 1 else 0) + d
          split <;> omega
        · show g + 1 + (if decide (V.int i = V.int h) = true then 1 else 0) + d ≤ g + 40
          split <;> omega
      rintro _ H8 ⟨la, rfl, l0, l1, b8, hB8⟩
      have hsl8 := tup_keep hB7 b8.grow hsl
      have ht8 := tup_keep hB7 b8.grow (tup_keep hB6 g7 ht6)
      have hu8 := tup_keep hB7 b8.grow (tup_keep hB6 g7 hu6)
      have G8 := G6.trans (g7.trans b8.grow)
      -- both
      refine ⟨_, rfl, _, rfl, _, rfl, _, rfl, lens 4 (by decide), fun o no => ?_⟩
      have e1 := Same.up0 (o := .tup [.int h, .int n, .int g, .ref t]) no
      refine ⟨_, rfl, _, rfl, _, rfl, lens 2 (by decide), fun c nc => ?_⟩
      have e2 := Same.up0 (o := .tup [.int la, .ref u]) nc
      refine ⟨sl, c, [.int i, .int j], [.int la, .ref u], rfl, rfl, SqT.of (e2 _ _ (e1 _ _ hsl8)), SqT.of upd_same, by simp, lens 4 (by decide), fun z => absurd z (by simp), fun _ d ndd => ?_⟩
      have e3 := Same.up0 (o := .tup ([.int i, .int j] ++ [.int la, .ref u])) ndd
      refine ⟨lens 2 (by decide), fun l nl => ?_⟩
      have e4 := Same.up0 (o := .lst [.ref o, .ref d]) nl
      have e14 : Same H8 _ := ((e1.trans e2).trans e3).trans e4
      generalize eH9 : upd _ l (.lst [.ref o, .ref d]) = H9 at e4 e14
      have hl9 : H9 l = some (.lst [.ref o, .ref d]) := by
        rw [← eH9]
        exact upd_same
      have A1 : AddrAt H9 o h n g a m := ⟨⟨t, e4 _ _ (e3 _ _ (e2 _ _ upd_same)), e14 _ _ ht8⟩, pt, by omega, by omega, by omega, by omega⟩
      have A2 : AddrAt H9 d i j la a' m' := ⟨⟨u, e4 _ _ upd_same, e14 _ _ hu8⟩, pt', by omega, by omega, by omega, by omega⟩
      have hB9 := hB8.keep e14
      have nlp : l ≠ p := hB8.new (Same.free (((e1.trans e2).trans e3)) nl)
      refine ⟨_, rfl, p, _, rfl, hB9, by decide, by decide, fun Ha k' ba hBa k0' k1' => ?_⟩
      have hla : Ha l = some (.lst [.ref o, .ref d]) := by
        rw [ba l nlp]
        exact hl9
      have Ga := G8.trans ((Same.grow e14).trans ba.grow)
      have B1 := A1.grow hB9 ba.grow
      have B2 := A2.grow hB9 ba.grow
      refine ⟨rfl, _, rfl, ?_⟩
      rw [dec_int]
      by_cases ek' : k' = 0
      · rw [beq_iff_eq.mpr ek']
        refine iteT ⟨_, rfl, ixl (j := 0) hla rfl ⟨_, rfl, ixl (j := 1) hla rfl ⟨lens 2 (by decide), fun r nr => ?_⟩⟩⟩
        have er := Same.up0 (o := .tup [.ref o, .ref d]) nr
        exact q _ r o d h n g a m i j la a' m' (Ga.trans (Same.grow er)) (hBa.keep er) upd_same (B1.same er) (B2.same er) (fun z => absurd z (by omega))
      · rw [beq_eq_false_iff_ne.mpr ek']
        refine iteF ⟨_, rfl, ixl (j := 1) hla rfl ⟨_, rfl, ixl (j := 0) hla rfl ⟨lens 2 (by decide), fun r nr => ?_⟩⟩⟩
        have er := Same.up0 (o := .tup [.ref d, .ref o]) nr
        exact q _ r d o i j la a' m' h n g a m (Ga.trans (Same.grow er)) (hBa.keep er) upd_same (B2.same er) (B1.same er) (fun z => absurd z (by omega))
end
/-! ### updates -/
def addrE (h n g : Int) (x m : Nat) : PyData := .tuple [.int h, .int n, .int g, .tuple [.int (x : Int), .int (2 ^ m)]]
theorem AddrAt.dp {K : PySem.W.Frag} {H : Hp} {a : Addr} {h n g : Int} {x m : Nat} (A : AddrAt H a h n g x m) : Dp K H (.ref a) (addrE h n g x m) := by
  obtain ⟨pa, h1, h2⟩ := A.ex
  exact .tup (SqT.of h1) (.cons (.int h) (.cons (.int n) (.cons (.int g) (.cons (.tup (SqT.of h2) (.cons (.int _) (.cons (.int _) .nil))) .nil))))
/-- what is due -/
def updD (h1 n1 g1 : Int) (x1 m1 : Nat) (h2 n2 g2 : Int) (x2 m2 : Nat) : PyData :=
  if g2 > g1 then .tuple [addrE h2 n2 g2 x2 m2, addrE h1 n1 g1 x1 m1] else if g2 < g1 then .tuple [addrE h1 n1 g1 x1 m1, addrE h2 n2 g2 x2 m2]
  else .tuple [addrE h1 n1 g1 (redT (max m1 m2) (sumT x1 m1 x2 m2)) (redM (max m1 m2) (sumT x1 m1 x2 m2)), .none]
structure Fine (d : PyData) : Prop where
  show_ : d.showable = true
  short : d.leavesShort 64 = true
  nodict : d.hasDict = false
  deep : d.depth ≤ 40
  bulk : d.bulk ≤ 10000
theorem addrE_fine {h n g : Int} {x m : Nat} (hx : x ≤ 2 ^ 60) (hm : m ≤ 60) (h1 : h.natAbs < 1000) (h2 : n.natAbs < 1000) (h3 : g.natAbs < 1000) : (addrE h n g x m).showable = true ∧ (addrE h n g x m).leavesShort 64 = true := by
  have a1 : h.natAbs < 10 ^ 60 := by omega
  have a2 : n.natAbs < 10 ^ 60 := by omega
  have a3 : g.natAbs < 10 ^ 60 := by omega
  have a4 : (x : Int).natAbs < 10 ^ 60 := by
    rw [Int.natAbs_natCast]
    exact Nat.lt_of_le_of_lt hx (by decide)
  have a5 : ((2 : Int) ^ m).natAbs < 10 ^ 60 := Nat.lt_trans (pow_big (k := 61) (by omega)) (by decide)
  constructor
  · simp only [addrE, PyData.showable, PyData.showableAll, Bool.and_eq_true, decide_eq_true_eq, and_true]
    exact ⟨leaf_show a1, leaf_show a2, leaf_show a3, leaf_show a4, leaf_show a5⟩
  · simp only [addrE, PyData.leavesShort, PyData.leavesShortAll, Bool.and_eq_true, decide_eq_true_eq, and_true]
    exact ⟨leaf_short a1, leaf_short a2, leaf_short a3, leaf_short a4, leaf_short a5⟩
theorem AddrAt.fine {H : Hp} {a : Addr} {h n g : Int} {x m : Nat} (A : AddrAt H a h n g x m) : (addrE h n g x m).showable = true ∧ (addrE h n g x m).leavesShort 64 = true :=
  addrE_fine (Nat.le_trans A.pt.hi (Nat.pow_le_pow_right (by decide) (by have := A.small; omega))) (by have := A.small; omega) A.small.2.1 A.small.2.2.1 A.small.2.2.2
theorem updD_fine {H H' : Hp} {a b : Addr} {h1 n1 g1 h2 n2 g2 : Int} {x1 m1 x2 m2 : Nat} (A : AddrAt H a h1 n1 g1 x1 m1) (B : AddrAt H' b h2 n2 g2 x2 m2) (s : g1 = g2 → sumT x1 m1 x2 m2 ≤ 2 ^ max m1 m2) : Fine (updD h1 n1 g1 x1 m1 h2 n2 g2 x2 m2) := by
  have fa := A.fine
  have fb := B.fine
  have two : ∀ {d e : PyData}, d.showable = true ∧ d.leavesShort 64 = true → e.showable = true ∧ e.leavesShort 64 = true → (PyData.tuple [d, e]).showable = true ∧ (PyData.tuple [d, e]).leavesShort 64 = true := fun {d e} h1 h2 => by
    constructor
    · simp only [PyData.showable, PyData.showableAll, h1.1, h2.1, Bool.and_self]
    · simp only [PyData.leavesShort, PyData.leavesShortAll, h1.2, h2.2, Bool.and_self]
  unfold updD
  by_cases e1 : g2 > g1
  · rw [if_pos e1]
    exact ⟨(two fb fa).1, (two fb fa).2, rfl, by show (3 : Nat) ≤ 40; decide, by show (14 : Nat) ≤ 10000; decide⟩
  · rw [if_neg e1]
    by_cases e2 : g2 < g1
    · rw [if_pos e2]
      exact ⟨(two fa fb).1, (two fa fb).2, rfl, by show (3 : Nat) ≤ 40; decide, by show (14 : Nat) ≤ 10000; decide⟩
    · rw [if_neg e2]
      have z := s (by omega)
      have ma := A.small
      have mb := B.small
      have fs := addrE_fine (h := h1) (n := n1) (g := g1) (x := redT (max m1 m2) (sumT x1 m1 x2 m2)) (m := redM (max m1 m2) (sumT x1 m1 x2 m2)) (Nat.le_trans (red_le z) (Nat.pow_le_pow_right (by decide) (by omega))) (by unfold redM; omega) ma.2.1 ma.2.2.1 ma.2.2.2
      exact ⟨(two fs ⟨rfl, rfl⟩).1, (two fs ⟨rfl, rfl⟩).2, rfl, by show (3 : Nat) ≤ 40; decide, by show (8 : Nat) ≤ 10000; decide⟩
def spUpd (K : PySem.W.Frag) : Sp := fun vs H Q _ => ∃ (a b : Addr) (h1 n1 g1 : Int) (x1 m1 : Nat) (h2 n2 g2 : Int) (x2 m2 : Nat), vs = [.ref a, .ref b] ∧ AddrAt H a h1 n1 g1 x1 m1 ∧ AddrAt H b h2 n2 g2 x2 m2 ∧ (g1 = g2 → sumT x1 m1 x2 m2 ≤ 2 ^ max m1 m2) ∧
  ∀ H' r, Same H H' → Dp K H' (.ref r) (updD h1 n1 g1 x1 m1 h2 n2 g2 x2 m2) → Q (.ref r) H'
section
variable {P : Program} {w : World} {K : PySem.W.Frag} {mg : Str → Option Value} {base : Heap}
theorem ok_updated {f : Addr} {fd : FuncData} (F : Fun K "updated" "updated" s_updated f fd) (c_plus : Cal P w K mg base 3 "plus" spPlus) : FnOk P w K mg base L2.CX0 4 f fd ["old", "new"] (spUpd K) := by
  refine F.ok sc_updated (fun vs H Q E h => ?_) (fun cdv A outer s H vs Q E hr h => ?_)
  · obtain ⟨a, b, _, _, _, _, _, _, _, _, _, _, rfl, _⟩ := h
    rfl
  · obtain ⟨a, b, h1, n1, g1, x1, m1, h2, n2, g2, x2, m2, rfl, A1, A2, sm, q⟩ := h
    have nd := sc_updated.nd
    refine ⟨_, (pss_cons (ps_asg (pv 0) (pg_tup rfl (pgs_cons (pg_name (i := 2) nd rfl (.inl rfl)) (pgs_cons (pg_name (i := 3) nd rfl (.inl rfl)) (pgs_cons (pg_name (i := 4) nd rfl (.inl rfl)) (pgs_cons (pg_name (i := 5) nd rfl (.inl rfl)) pgs_nil))))))
      (pss_cons (ps_if (pt_cmpR op_gt (pe_ix ix_seq (pv 1) pe_int (fun _ _ => rfl)) (pv 4) (nomark _))
        (pss_one (ps_ret (pe_tup (pa_cons (pv 1) (pa_cons (pv 0) pa_nil)))))
        pss_nil)
      (pss_cons (ps_if (pt_cmpR op_lt (pe_ix ix_seq (pv 1) pe_int (fun _ _ => rfl)) (pv 4) (nomark _))
        (pss_one (ps_ret (pe_tup (pa_cons (pv 0) (pa_cons (pv 1) pa_nil)))))
        pss_nil)
      (pss_one (ps_ret (pe_tup (pa_cons (pe_tup (pa_cons (pv 2) (pa_cons (pv 3) (pa_cons (pv 4) (pa_cons (pe_f c_plus hr rfl (pa_cons (pv 5) (pa_cons (pe_ix ix_seq (pv 1) pe_int (fun _ _ => rfl)) pa_nil))) pa_nil))))) (pa_cons pe_non pa_nil)))))))), ?_⟩
    obtain ⟨pa, ha, hpa⟩ := A1.ex
    obtain ⟨pb, hb, hpb⟩ := A2.ex
    refine ⟨_, rfl, a, _, rfl, SqT.of ha, rfl, _, _, rfl, _, _, rfl, _, _, rfl, _, _, rfl, rfl, ?_⟩
    refine ⟨_, rfl, ixt (j := 2) hb rfl ⟨_, rfl, _, _, rfl, rfl, _, rfl, ite2 (fun e => ?_) (fun e => ?_)⟩⟩
    · have e1 : g2 > g1 := of_decide_eq_true e
      refine ⟨_, rfl, _, rfl, lens 2 (by decide), fun r nr => ?_⟩
      have s1 := Same.up0 (o := .tup [.ref b, .ref a]) nr
      refine q _ r s1 ?_
      unfold updD
      rw [if_pos e1]
      exact .tup (SqT.of upd_same) (.cons (dp_same s1 _ _ A2.dp) (.cons (dp_same s1 _ _ A1.dp) .nil))
    · have e1 : ¬ g2 > g1 := fun z => e (decide_eq_true z)
      refine ⟨_, rfl, ixt (j := 2) hb rfl ⟨_, rfl, _, _, rfl, rfl, _, rfl, ite2 (fun e => ?_) (fun e => ?_)⟩⟩
      · have e2 : g2 < g1 := of_decide_eq_true e
        refine ⟨_, rfl, _, rfl, lens 2 (by decide), fun r nr => ?_⟩
        have s1 := Same.up0 (o := .tup [.ref a, .ref b]) nr
        refine q _ r s1 ?_
        unfold updD
        rw [if_neg e1, if_pos e2]
        exact .tup (SqT.of upd_same) (.cons (dp_same s1 _ _ A1.dp) (.cons (dp_same s1 _ _ A2.dp) .nil))
      · have e2 : ¬ g2 < g1 := fun z => e (decide_eq_true z)
        have ma := A1.small
        have mb := A2.small
        refine ⟨_, rfl, _, rfl, _, rfl, _, rfl, _, rfl, ixt (j := 3) hb rfl ⟨pa, pb, x1, m1, x2, m2, rfl, hpa, hpb, A1.pt.part, A2.pt.part, A1.pt.hi, A2.pt.hi, by omega, by omega, sm (by omega), fun v nv => ?_⟩⟩
        have s1 := Same.up0 (o := .tup [.int (redT (max m1 m2) (sumT x1 m1 x2 m2) : Nat), .int (2 ^ redM (max m1 m2) (sumT x1 m1 x2 m2))]) nv
        refine ⟨lens 4 (by decide), fun c nc => ?_⟩
        have s2 := Same.up0 (o := .tup [.int h1, .int n1, .int g1, .ref v]) nc
        refine ⟨lens 2 (by decide), fun r nr => ?_⟩
        have s3 := Same.up0 (o := .tup [.ref c, .non]) nr
        refine q _ r ((s1.trans s2).trans s3) ?_
        unfold updD
        rw [if_neg e1, if_neg e2]
        exact .tup (SqT.of upd_same) (.cons (.tup (SqT.of (s3 _ _ upd_same)) (.cons (.int _) (.cons (.int _) (.cons (.int _) (.cons (.tup (SqT.of (s3 _ _ (s2 _ _ upd_same))) (.cons (.int _) (.cons (.int _) .nil))) .nil))))) (.cons .non .nil))
/-! ### the law -/
theorem ok_law {f : Addr} {fd : FuncData} (F : Fun K "law" "law" s_law f fd) (T : Bl mg) (c_law_bag : Cal P w K mg base 1 "_law_bag" (spBag K)) (c_law_pair : Cal P w K mg base 3 "_law_pair" spPair) (c_law_plus : Cal P w K mg base 1 "_law_plus" spLPlus)
    (c_updated : Cal P w K mg base 4 "updated" (spUpd K)) : AtC P w K mg base L2.CX0 f fd "_law_script" (spLaw K) := by
  refine law_ok F sc_law (fun vs H Q E h => ?_) (fun cdv A outer s H vs Q E hgd hr h => ?_)
  · obtain ⟨a, ns, rfl, _⟩ := h
    rfl
  · obtain ⟨a, ns, rfl, hS, hlen, q⟩ := h
    have nd := sc_law.nd
    have hu64 := hr.units
    refine ⟨_, (pss_cons (ps_for PassesOwn.never rfl (pi_range1 rfl T.b_range (pa_cons (pe_callB (call_max2 rfl) (by rfl) T.b_max (by decide +kernel) (pa_cons pe_int (pa_cons (pe_callB (call_min2 rfl) (by rfl) T.b_min (by decide +kernel) (pa_cons pe_int (pa_cons (pe_callB call_len (by rfl) T.b_len (by decide +kernel) (pa_cons (pv 0) pa_nil)) pa_nil))) pa_nil))) pa_nil)) (pg_name (i := 1) nd rfl (.inl rfl))
        (pss_cons (ps_set (i := 2) nd rfl (.inl rfl) (pe_f c_law_bag hr rfl (pa_cons (pv 0) (pa_cons (pv 1) pa_nil))))
        (pss_one (ps_for PassesOwn.never rfl (pi_range1 rfl T.b_range (pa_cons pe_int pa_nil)) (pg_name (i := 3) nd rfl (.inl rfl))
          (pss_cons (ps_asg (pe_f c_law_pair hr rfl (pa_cons (pv 2) pa_nil)) (pg_tup rfl (pgs_cons (pg_name (i := 4) nd rfl (.inl rfl)) (pgs_cons (pg_name (i := 5) nd rfl (.inl rfl)) pgs_nil))))
          (pss_cons (ps_set (i := 6) nd rfl (.inl rfl) (pe_tup (pa_cons (pe_op op_catT (pe_slice sl_tup (pv 4) po_none (po_some pe_int)) (pe_tup (pa_cons (pe_f c_law_plus hr rfl (pa_cons (pe_ix ix_seq (pv 4) pe_int (fun _ _ => rfl)) (pa_cons (pe_ix ix_seq (pv 5) pe_int (fun _ _ => rfl)) pa_nil))) pa_nil))) (pa_cons pe_non pa_nil))))
          (pss_mid (ps_if (pt_cmpR op_ne (pe_ix ix_seq (pv 4) pe_int (fun _ _ => rfl)) (pe_ix ix_seq (pv 5) pe_int (fun _ _ => rfl)) (nomark _))
            (pss_one (ps_set (i := 6) nd rfl (.inl rfl) (pe_ifExp (pt_cmpR op_gt (pe_ix ix_seq (pv 5) pe_int (fun _ _ => rfl)) (pe_ix ix_seq (pv 4) pe_int (fun _ _ => rfl)) (nomark _)) (pe_tup (pa_cons (pv 5) (pa_cons (pv 4) pa_nil))) (pe_tup (pa_cons (pv 4) (pa_cons (pv 5) pa_nil))))))
            pss_nil)
          (pss_one (ps_for PassesOwn.never rfl (pi_range1 rfl T.b_range (pa_cons pe_int pa_nil)) (pg_name (i := 7) nd rfl (.inl rfl))
            (pss_one (ps_if (pt_cmpR op_ne (pe_callB (reprD hgd hu64) (by rfl) T.b_repr (by decide +kernel) (pa_cons (pe_f c_updated hr rfl (pa_cons (pv 4) (pa_cons (pv 5) pa_nil))) pa_nil)) (pe_callB (reprD hgd hu64) (by rfl) T.b_repr (by decide +kernel) (pa_cons (pv 6) pa_nil)) (nomark _))
              (pss_one (ps_ret pe_bl))
              pss_nil)))))))))))
      (pss_one (ps_ret pe_bl))), ?_⟩
    obtain ⟨m, em, hm⟩ := cells_of ns.length 2 6 (by decide)
    refine ⟨_, rfl, .ref a, _, rfl, .inl ⟨_, hS, rfl⟩, _, _, rfl, _, _, rfl, (m : Int), ?_, by omega, by omega, ?_⟩
    · rw [List.length_map]
      exact congrArg (fun z => [V.int z]) em
    refine for_range (lo := 0) (n := m) (fun i σ H' => ∃ y1 y2 y3 y4 y5 y6 y7 : Option V, σ = [some (.ref a), y1, y2, y3, y4, y5, y6, y7] ∧ Same H H') ⟨_, _, _, _, _, _, _, rfl, Same.refl H⟩ ?_ ?_
    · rintro i σ H1 hi ⟨y1, y2, y3, y4, y5, y6, y7, rfl, s1⟩
      refine ⟨_, rfl, _, rfl, a, ns, _, rfl, s1.seq hS, by omega, by omega, by omega, fun H2 p s2 np hB => ?_⟩
      have np0 : H p = none := s1.free np
      refine ⟨4, rfl, by decide, by decide, ?_⟩
      refine for_range (lo := 0) (n := 4) (fun _ σ H' => ∃ y3 y4 y5 y6 y7 : Option V, σ = [some (.ref a), some (.int (0 + (i : Nat))), some (.ref p), y3, y4, y5, y6, y7] ∧ Grow p H2 H' ∧ BagAt H' p) ⟨_, _, _, _, _, rfl, Grow.refl p H2, hB⟩ ?_ ?_
      · rintro i' σ H3 hi' ⟨y3, y4, y5, y6, y7, rfl, g3, hB3⟩
        refine ⟨_, rfl, p, rfl, hB3, fun H4 r o n h1 n1 g1 x1 m1 h2 n2 g2 x2 m2 g4 hB4 hr4 A1 A2 sm => ?_⟩
        refine ⟨r, _, rfl, SqT.of hr4, rfl, _, _, rfl, _, _, rfl, rfl, ?_⟩
        obtain ⟨pa, ha, hpa⟩ := A1.ex
        obtain ⟨pb, hb, hpb⟩ := A2.ex
        -- the sum
        refine ⟨_, rfl, _, rfl, o, _, rfl, SqT.of ha, ?_, fun c nc => ?_⟩
        · show ¬ ((0 : Nat) = 0 ∧ (3 : Nat) = 4)
          decide
        have sc := Same.up0 (o := .tup (cutV [.int h1, .int n1, .int g1, .ref pa] none (some 3))) nc
        have B1 := A1.same sc
        have B2 := A2.same sc
        obtain ⟨pa', ha', hpa'⟩ := B1.ex
        obtain ⟨pb', hb', hpb'⟩ := B2.ex
        have ma := A1.small
        have mb := A2.small
        refine ⟨_, rfl, ixt (j := 3) ha' rfl ⟨_, rfl, ixt (j := 3) hb' rfl ⟨pa', pb', x1, m1, x2, m2, rfl, hpa', hpb', A1.pt.hi, A2.pt.hi, by omega, by omega, fun v nv => ?_⟩⟩⟩
        have sv := Same.up0 (o := .tup [.int (redT (max m1 m2) (sumT x1 m1 x2 m2) : Nat), .int (2 ^ redM (max m1 m2) (sumT x1 m1 x2 m2))]) nv
        refine ⟨lens 1 (by decide), fun u nu => ?_⟩
        have su := Same.up0 (o := .tup [.ref v]) nu
        have ec : cutV [.int h1, .int n1, .int g1, .ref pa] none (some 3) = [.int h1, .int n1, .int g1] := rfl
        refine ⟨c, u, [.int h1, .int n1, .int g1], [.ref v], rfl, rfl, SqT.of (su _ _ (sv _ _ (by rw [← ec]; exact upd_same))), SqT.of upd_same, by simp, lens 4 (by decide), fun z => absurd z (by simp), fun _ le nle => ?_⟩
        have sle := Same.up0 (o := .tup ([.int h1, .int n1, .int g1] ++ [.ref v])) nle
        refine ⟨lens 2 (by decide), fun du ndu => ?_⟩
        have sdu := Same.up0 (o := .tup [.ref le, .non]) ndu
        have s4 : Same H4 _ := (((sc.trans sv).trans su).trans sle).trans sdu
        generalize eH5 : upd _ du (.tup [.ref le, .non]) = H5 at sdu s4
        have hdu : Dp K H5 (.ref du) (.tuple [addrE h1 n1 g1 (redT (max m1 m2) (sumT x1 m1 x2 m2)) (redM (max m1 m2) (sumT x1 m1 x2 m2)), .none]) := by
          have h5 : H5 du = some (.tup [.ref le, .non]) := by
            rw [← eH5]
            exact upd_same
          exact .tup (SqT.of h5) (.cons (.tup (SqT.of (sdu _ _ upd_same)) (.cons (.int _) (.cons (.int _) (.cons (.int _) (.cons (.tup (SqT.of (sdu _ _ (sle _ _ (su _ _ upd_same)))) (.cons (.int _) (.cons (.int _) .nil))) .nil))))) (.cons .non .nil))
        have C1 := A1.same s4
        have C2 := A2.same s4
        obtain ⟨qa, ka, _⟩ := C1.ex
        obtain ⟨qb, kb, _⟩ := C2.ex
        -- or one of both
        refine ⟨fun σ' H' => ∃ du' : Addr, σ' = [some (.ref a), some (.int (0 + (i : Nat))), some (.ref p), some (.int (0 + (i' : Nat))), some (.ref o), some (.ref n), some (.ref du'), y7] ∧ Same H5 H' ∧ Dp K H' (.ref du') (updD h1 n1 g1 x1 m1 h2 n2 g2 x2 m2), ?_, ?_⟩
        · refine ⟨_, rfl, ixt (j := 2) ka rfl ⟨_, rfl, ixt (j := 2) kb rfl ⟨rfl, _, rfl, ?_⟩⟩⟩
          rw [dec_int]
          by_cases eg : g1 = g2
          · rw [beq_iff_eq.mpr eg]
            refine iteF ⟨du, rfl, Same.refl H5, ?_⟩
            unfold updD
            rw [if_neg (by omega), if_neg (by omega)]
            exact hdu
          · rw [beq_eq_false_iff_ne.mpr eg]
            refine iteT ⟨_, rfl, ixt (j := 2) kb rfl ⟨_, rfl, ixt (j := 2) ka rfl ⟨_, _, rfl, rfl, _, rfl, ite2 (fun e => ?_) (fun e => ?_)⟩⟩⟩
            · have e1 : g2 > g1 := of_decide_eq_true e
              refine ⟨_, rfl, _, rfl, lens 2 (by decide), fun t nt => ?_⟩
              have st := Same.up0 (o := .tup [.ref n, .ref o]) nt
              refine ⟨t, rfl, st, ?_⟩
              unfold updD
              rw [if_pos e1]
              exact .tup (SqT.of upd_same) (.cons (dp_same st _ _ C2.dp) (.cons (dp_same st _ _ C1.dp) .nil))
            · have e1 : ¬ g2 > g1 := fun z => e (decide_eq_true z)
              refine ⟨_, rfl, _, rfl, lens 2 (by decide), fun t nt => ?_⟩
              have st := Same.up0 (o := .tup [.ref o, .ref n]) nt
              refine ⟨t, rfl, st, ?_⟩
              unfold updD
              rw [if_neg e1, if_pos (by omega)]
              exact .tup (SqT.of upd_same) (.cons (dp_same st _ _ C1.dp) (.cons (dp_same st _ _ C2.dp) .nil))
        rintro _ H6 ⟨du', rfl, s6, d6⟩
        have D1 := C1.same s6
        have D2 := C2.same s6
        have fine := updD_fine A1 A2 sm
        -- asked twice
        refine ⟨2, rfl, by decide, by decide, ?_⟩
        refine for_range (lo := 0) (n := 2) (fun _ σ H' => ∃ z : Option V, σ = [some (.ref a), some (.int (0 + (i : Nat))), some (.ref p), some (.int (0 + (i' : Nat))), some (.ref o), some (.ref n), some (.ref du'), z] ∧ Same H6 H') ⟨_, rfl, Same.refl H6⟩ ?_ ?_
        · rintro i2 σ H7 hi2 ⟨z, rfl, s7⟩
          refine ⟨_, rfl, _, rfl, o, n, h1, n1, g1, x1, m1, h2, n2, g2, x2, m2, rfl, D1.same s7, D2.same s7, sm, fun H8 r8 s8 d8 => ?_⟩
          refine ⟨_, _, rfl, d8, fine.show_, fine.nodict, fine.deep, shown_fits fine.short fine.bulk, ?_⟩
          refine ⟨_, rfl, _, _, rfl, dp_same s8 _ _ (dp_same s7 _ _ d6), fine.show_, fine.nodict, fine.deep, shown_fits fine.short fine.bulk, rfl, _, rfl, ?_⟩
          rw [decide_eq_true rfl]
          exact iteF ⟨_, rfl, s7.trans s8⟩
        · rintro σ H7 ⟨z, rfl, s7⟩
          exact ⟨_, _, _, _, _, rfl, g3.trans (g4.trans (Same.grow ((s4.trans s6).trans s7))), hB4.keep ((s4.trans s6).trans s7)⟩
      · rintro σ H3 ⟨y3, y4, y5, y6, y7, rfl, g3, hB3⟩
        exact ⟨_, _, _, _, _, _, _, rfl, Grow.same s1 np0 ((Same.grow s2).trans g3)⟩
    · rintro σ H1 ⟨y1, y2, y3, y4, y5, y6, y7, rfl, s1⟩
      exact q H1
theorem at_law {f : Addr} {fd : FuncData} (F : Fun K "law" "law" s_law f fd) (T : Bl mg) (D_is_plain_int : DefIn K mg "is_plain_int" s_is_plain_int) (D_is_part : DefIn K mg "is_part" s_is_part) (D_plus : DefIn K mg "plus" s_plus) (D_is_power_of_two : DefIn K mg "is_power_of_two" s_is_power_of_two)
    (D_top_over : DefIn K mg "top_over" s_top_over) (D_lowest : DefIn K mg "in_lowest_terms" s_in_lowest_terms) (D_updated : DefIn K mg "updated" s_updated) (D_bag : DefIn K mg "_law_bag" s_l_bag) (D_take : DefIn K mg "_law_take" s_l_take) (D_part : DefIn K mg "_law_part" s_l_part) (D_lplus : DefIn K mg "_law_plus" s_l_plus)
    (D_lhalf : DefIn K mg "_law_half" s_l_half) (D_pair : DefIn K mg "_law_pair" s_l_pair) : AtC P w K mg base L2.CX0 f fd "_law_script" (spLaw K) := by
  have c_take : Cal P w K mg base 1 "_law_take" spTake := cal_of D_take (fun _ _ F => ok_take F) fun _ _ _ _ _ _ us hl => match us, hl with | [_, _], _ => rfl
  have c_bag : Cal P w K mg base 1 "_law_bag" (spBag K) := cal_of D_bag (fun _ _ F => ok_bag F T) fun _ _ _ _ _ _ us hl => match us, hl with | [_, _], _ => rfl
  have c_plain : Cal P w K mg base 1 "is_plain_int" (spPlain K) := cal_of D_is_plain_int (fun _ _ F => ok_plain F T) fun _ _ _ _ _ _ us hl => match us, hl with | [_], _ => rfl
  have c_pow2 : Cal P w K mg base 1 "is_power_of_two" spPow2 := cal_of D_is_power_of_two (fun _ _ F => ok_pow2 F) fun _ _ _ _ _ _ us hl => match us, hl with | [_], _ => rfl
  have c_isPart : Cal P w K mg base 2 "is_part" (spIsPart K) := cal_of D_is_part (fun _ _ F => ok_isPart F T c_plain c_pow2) fun _ _ _ _ _ _ us hl => match us, hl with | [_], _ => rfl
  have c_topOver : Cal P w K mg base 1 "top_over" spTopOver := cal_of D_top_over (fun _ _ F => ok_topOver F) fun _ _ _ _ _ _ us hl => match us, hl with | [_, _], _ => rfl
  have c_lowest : Cal P w K mg base 1 "in_lowest_terms" spLowest := cal_of D_lowest (fun _ _ F => ok_lowest F) fun _ _ _ _ _ _ us hl => match us, hl with | [_, _], _ => rfl
  have c_plus : Cal P w K mg base 3 "plus" spPlus := cal_of D_plus (fun _ _ F => ok_plus F T c_isPart c_topOver c_lowest) fun _ _ _ _ _ _ us hl => match us, hl with | [_, _], _ => rfl
  have c_lplus : Cal P w K mg base 1 "_law_plus" spLPlus := cal_of D_lplus (fun _ _ F => ok_lplus F T) fun _ _ _ _ _ _ us hl => match us, hl with | [_, _], _ => rfl
  have c_updated : Cal P w K mg base 4 "updated" (spUpd K) := cal_of D_updated (fun _ _ F => ok_updated F c_plus) fun _ _ _ _ _ _ us hl => match us, hl with | [_, _], _ => rfl
  have c_part : Cal P w K mg base 2 "_law_part" spPart := cal_of D_part (fun _ _ F => ok_part F T c_take) fun _ _ _ _ _ _ us hl => match us, hl with | [_, _], _ => rfl
  have c_lhalf : Cal P w K mg base 1 "_law_half" spLHalf := cal_of D_lhalf (fun _ _ F => ok_lhalf F) fun _ _ _ _ _ _ us hl => match us, hl with | [_], _ => rfl
  have c_pair : Cal P w K mg base 3 "_law_pair" spPair := cal_of D_pair (fun _ _ F => ok_pair F T c_take c_part c_lhalf) fun _ _ _ _ _ _ us hl => match us, hl with | [_], _ => rfl
  exact ok_law F T c_bag c_pair c_lplus c_updated
end
/-! ### what the top has written -/
theorem all_mk {l : PySem.W.OpenLaw} {w : World} {K : PySem.W.Frag} {h : Heap} {mg : Str → Option Value} {fa f0 f1 f2 f3 f4 f5 f6 f7 f8 f9 f10 f11 f12 f13 : Addr} (X : K.In h) (G : h.Ns mainGlobals mg) (hfa : mg "law" = some (.ref fa))
    {od0 an0 od1 an1 od2 an2 od3 an3 od4 an4 od5 an5 od6 an6 od7 an7 od8 an8 od9 an9 od10 an10 od11 an11 od12 an12 od13 an13 : Option Addr} {sl0 sl1 sl2 sl3 sl4 sl5 sl6 sl7 sl8 sl9 sl10 sl11 sl12 sl13 : Array (Option Value)} {oc0 kV0 dc0 pm0 cd0 ct0 oc1 kV1 dc1 pm1 cd1 ct1 oc2 kV2 dc2 pm2 cd2 ct2 oc3 kV3 dc3 pm3 cd3 ct3 oc4 kV4 dc4 pm4 cd4 ct4 oc5 kV5 dc5 pm5 cd5 ct5 oc6 kV6 dc6 pm6 cd6 ct6 oc7 kV7 dc7 pm7 cd7 ct7 oc8 kV8 dc8 pm8 cd8 ct8 oc9 kV9 dc9 pm9 cd9 ct9 oc10 kV10 dc10 pm10 cd10 ct10 oc11 kV11 dc11 pm11 cd11 ct11 oc12 kV12 dc12 pm12 cd12 ct12 oc13 kV13 dc13 pm13 cd13 ct13 : Value}
    (a0 : PySem.W.nsIn K mainGlobals "is_plain_int" = some (some (.ref f0))) (l0 : K.lookup f0 = some ⟨oc0, od0, .func (PySem.W.fnOf "is_plain_int" "is_plain_int" (defArgs s_is_plain_int) (defBody s_is_plain_int) (defScope s_is_plain_int) .none kV0 dc0 pm0 an0 cd0 ct0), sl0⟩)
    (c0 : PySem.W.codeIn K cd0 "is_plain_int" = true) (k0 : PySem.W.keepIn K (.ref f0) = true)
    (a1 : PySem.W.nsIn K mainGlobals "is_part" = some (some (.ref f1))) (l1 : K.lookup f1 = some ⟨oc1, od1, .func (PySem.W.fnOf "is_part" "is_part" (defArgs s_is_part) (defBody s_is_part) (defScope s_is_part) .none kV1 dc1 pm1 an1 cd1 ct1), sl1⟩)
    (c1 : PySem.W.codeIn K cd1 "is_part" = true) (k1 : PySem.W.keepIn K (.ref f1) = true)
    (a2 : PySem.W.nsIn K mainGlobals "plus" = some (some (.ref f2))) (l2 : K.lookup f2 = some ⟨oc2, od2, .func (PySem.W.fnOf "plus" "plus" (defArgs s_plus) (defBody s_plus) (defScope s_plus) .none kV2 dc2 pm2 an2 cd2 ct2), sl2⟩)
    (c2 : PySem.W.codeIn K cd2 "plus" = true) (k2 : PySem.W.keepIn K (.ref f2) = true)
    (a3 : PySem.W.nsIn K mainGlobals "is_power_of_two" = some (some (.ref f3))) (l3 : K.lookup f3 = some ⟨oc3, od3, .func (PySem.W.fnOf "is_power_of_two" "is_power_of_two" (defArgs s_is_power_of_two) (defBody s_is_power_of_two) (defScope s_is_power_of_two) .none kV3 dc3 pm3 an3 cd3 ct3), sl3⟩)
    (c3 : PySem.W.codeIn K cd3 "is_power_of_two" = true) (k3 : PySem.W.keepIn K (.ref f3) = true)
    (a4 : PySem.W.nsIn K mainGlobals "top_over" = some (some (.ref f4))) (l4 : K.lookup f4 = some ⟨oc4, od4, .func (PySem.W.fnOf "top_over" "top_over" (defArgs s_top_over) (defBody s_top_over) (defScope s_top_over) .none kV4 dc4 pm4 an4 cd4 ct4), sl4⟩)
    (c4 : PySem.W.codeIn K cd4 "top_over" = true) (k4 : PySem.W.keepIn K (.ref f4) = true)
    (a5 : PySem.W.nsIn K mainGlobals "in_lowest_terms" = some (some (.ref f5))) (l5 : K.lookup f5 = some ⟨oc5, od5, .func (PySem.W.fnOf "in_lowest_terms" "in_lowest_terms" (defArgs s_in_lowest_terms) (defBody s_in_lowest_terms) (defScope s_in_lowest_terms) .none kV5 dc5 pm5 an5 cd5 ct5), sl5⟩)
    (c5 : PySem.W.codeIn K cd5 "in_lowest_terms" = true) (k5 : PySem.W.keepIn K (.ref f5) = true)
    (a6 : PySem.W.nsIn K mainGlobals "updated" = some (some (.ref f6))) (l6 : K.lookup f6 = some ⟨oc6, od6, .func (PySem.W.fnOf "updated" "updated" (defArgs s_updated) (defBody s_updated) (defScope s_updated) .none kV6 dc6 pm6 an6 cd6 ct6), sl6⟩)
    (c6 : PySem.W.codeIn K cd6 "updated" = true) (k6 : PySem.W.keepIn K (.ref f6) = true)
    (a7 : PySem.W.nsIn K mainGlobals "_law_bag" = some (some (.ref f7))) (l7 : K.lookup f7 = some ⟨oc7, od7, .func (PySem.W.fnOf "_law_bag" "_law_bag" (defArgs s_l_bag) (defBody s_l_bag) (defScope s_l_bag) .none kV7 dc7 pm7 an7 cd7 ct7), sl7⟩)
    (c7 : PySem.W.codeIn K cd7 "_law_bag" = true) (k7 : PySem.W.keepIn K (.ref f7) = true)
    (a8 : PySem.W.nsIn K mainGlobals "_law_take" = some (some (.ref f8))) (l8 : K.lookup f8 = some ⟨oc8, od8, .func (PySem.W.fnOf "_law_take" "_law_take" (defArgs s_l_take) (defBody s_l_take) (defScope s_l_take) .none kV8 dc8 pm8 an8 cd8 ct8), sl8⟩)
    (c8 : PySem.W.codeIn K cd8 "_law_take" = true) (k8 : PySem.W.keepIn K (.ref f8) = true)
    (a9 : PySem.W.nsIn K mainGlobals "_law_part" = some (some (.ref f9))) (l9 : K.lookup f9 = some ⟨oc9, od9, .func (PySem.W.fnOf "_law_part" "_law_part" (defArgs s_l_part) (defBody s_l_part) (defScope s_l_part) .none kV9 dc9 pm9 an9 cd9 ct9), sl9⟩)
    (c9 : PySem.W.codeIn K cd9 "_law_part" = true) (k9 : PySem.W.keepIn K (.ref f9) = true)
    (a10 : PySem.W.nsIn K mainGlobals "_law_plus" = some (some (.ref f10))) (l10 : K.lookup f10 = some ⟨oc10, od10, .func (PySem.W.fnOf "_law_plus" "_law_plus" (defArgs s_l_plus) (defBody s_l_plus) (defScope s_l_plus) .none kV10 dc10 pm10 an10 cd10 ct10), sl10⟩)
    (c10 : PySem.W.codeIn K cd10 "_law_plus" = true) (k10 : PySem.W.keepIn K (.ref f10) = true)
    (a11 : PySem.W.nsIn K mainGlobals "_law_half" = some (some (.ref f11))) (l11 : K.lookup f11 = some ⟨oc11, od11, .func (PySem.W.fnOf "_law_half" "_law_half" (defArgs s_l_half) (defBody s_l_half) (defScope s_l_half) .none kV11 dc11 pm11 an11 cd11 ct11), sl11⟩)
    (c11 : PySem.W.codeIn K cd11 "_law_half" = true) (k11 : PySem.W.keepIn K (.ref f11) = true)
    (a12 : PySem.W.nsIn K mainGlobals "_law_pair" = some (some (.ref f12))) (l12 : K.lookup f12 = some ⟨oc12, od12, .func (PySem.W.fnOf "_law_pair" "_law_pair" (defArgs s_l_pair) (defBody s_l_pair) (defScope s_l_pair) .none kV12 dc12 pm12 an12 cd12 ct12), sl12⟩)
    (c12 : PySem.W.codeIn K cd12 "_law_pair" = true) (k12 : PySem.W.keepIn K (.ref f12) = true)
    (a13 : PySem.W.nsIn K mainGlobals "law" = some (some (.ref f13))) (l13 : K.lookup f13 = some ⟨oc13, od13, .func (PySem.W.fnOf "law" "law" (defArgs s_law) (defBody s_law) (defScope s_law) .none kV13 dc13 pm13 an13 cd13 ct13), sl13⟩)
    (c13 : PySem.W.codeIn K cd13 "law" = true) (k13 : PySem.W.keepIn K (.ref f13) = true)
    (z_ArithmeticError : PySem.W.nsIn K mainGlobals "ArithmeticError" = some none)
    (z_OverflowError : PySem.W.nsIn K mainGlobals "OverflowError" = some none)
    (z_abs : PySem.W.nsIn K mainGlobals "abs" = some none)
    (z_bool : PySem.W.nsIn K mainGlobals "bool" = some none)
    (z_enumerate : PySem.W.nsIn K mainGlobals "enumerate" = some none)
    (z_int : PySem.W.nsIn K mainGlobals "int" = some none)
    (z_isinstance : PySem.W.nsIn K mainGlobals "isinstance" = some none)
    (z_len : PySem.W.nsIn K mainGlobals "len" = some none)
    (z_max : PySem.W.nsIn K mainGlobals "max" = some none)
    (z_min : PySem.W.nsIn K mainGlobals "min" = some none)
    (z_range : PySem.W.nsIn K mainGlobals "range" = some none)
    (z_repr : PySem.W.nsIn K mainGlobals "repr" = some none)
    (z_tuple : PySem.W.nsIn K mainGlobals "tuple" = some none)
    : ∃ fd : FuncData, (∀ (s : Shared) (v : Value), BindsTo s fd ⟨[v], []⟩ [("_law_script", v)]) ∧ ∀ base : Heap, K.In base → base.Ns mainGlobals mg → AtC l.prog w K mg base L2.CX0 fa fd "_law_script" (spLaw K) := by
  have e := hfa.symm.trans (PySem.W.mg_of X G a13)
  cases e
  have T : Bl mg := ⟨PySem.W.mg_none_of X G z_ArithmeticError, PySem.W.mg_none_of X G z_OverflowError, PySem.W.mg_none_of X G z_abs, PySem.W.mg_none_of X G z_bool, PySem.W.mg_none_of X G z_enumerate, PySem.W.mg_none_of X G z_int, PySem.W.mg_none_of X G z_isinstance, PySem.W.mg_none_of X G z_len, PySem.W.mg_none_of X G z_max, PySem.W.mg_none_of X G z_min, PySem.W.mg_none_of X G z_range, PySem.W.mg_none_of X G z_repr, PySem.W.mg_none_of X G z_tuple⟩
  have D_is_plain_int : DefIn K mg "is_plain_int" s_is_plain_int := ⟨f0, _, fun_mk (st := s_is_plain_int) l0 c0 k0, PySem.W.mg_of X G a0⟩
  have D_is_part : DefIn K mg "is_part" s_is_part := ⟨f1, _, fun_mk (st := s_is_part) l1 c1 k1, PySem.W.mg_of X G a1⟩
  have D_plus : DefIn K mg "plus" s_plus := ⟨f2, _, fun_mk (st := s_plus) l2 c2 k2, PySem.W.mg_of X G a2⟩
  have D_is_power_of_two : DefIn K mg "is_power_of_two" s_is_power_of_two := ⟨f3, _, fun_mk (st := s_is_power_of_two) l3 c3 k3, PySem.W.mg_of X G a3⟩
  have D_top_over : DefIn K mg "top_over" s_top_over := ⟨f4, _, fun_mk (st := s_top_over) l4 c4 k4, PySem.W.mg_of X G a4⟩
  have D_in_lowest_terms : DefIn K mg "in_lowest_terms" s_in_lowest_terms := ⟨f5, _, fun_mk (st := s_in_lowest_terms) l5 c5 k5, PySem.W.mg_of X G a5⟩
  have D_updated : DefIn K mg "updated" s_updated := ⟨f6, _, fun_mk (st := s_updated) l6 c6 k6, PySem.W.mg_of X G a6⟩
  have D_l_bag : DefIn K mg "_law_bag" s_l_bag := ⟨f7, _, fun_mk (st := s_l_bag) l7 c7 k7, PySem.W.mg_of X G a7⟩
  have D_l_take : DefIn K mg "_law_take" s_l_take := ⟨f8, _, fun_mk (st := s_l_take) l8 c8 k8, PySem.W.mg_of X G a8⟩
  have D_l_part : DefIn K mg "_law_part" s_l_part := ⟨f9, _, fun_mk (st := s_l_part) l9 c9 k9, PySem.W.mg_of X G a9⟩
  have D_l_plus : DefIn K mg "_law_plus" s_l_plus := ⟨f10, _, fun_mk (st := s_l_plus) l10 c10 k10, PySem.W.mg_of X G a10⟩
  have D_l_half : DefIn K mg "_law_half" s_l_half := ⟨f11, _, fun_mk (st := s_l_half) l11 c11 k11, PySem.W.mg_of X G a11⟩
  have D_l_pair : DefIn K mg "_law_pair" s_l_pair := ⟨f12, _, fun_mk (st := s_l_pair) l12 c12 k12, PySem.W.mg_of X G a12⟩
  exact ⟨PySem.W.fnOf "law" "law" (defArgs s_law) (defBody s_law) (defScope s_law) .none kV13 dc13 pm13 an13 cd13 ct13, fun s v => .of_eq rfl, fun base _ _ => at_law (fun_mk (st := s_law) l13 c13 k13) T D_is_plain_int D_is_part D_plus D_is_power_of_two D_top_over D_in_lowest_terms D_updated D_l_bag D_l_take D_l_part D_l_plus D_l_half D_l_pair⟩
end Tp
open PySem PySem.W PyProof.Rows in
set_option maxRecDepth 100000 in
set_option maxHeartbeats 0 in
theorem PySem.Challenge.cw_trailparts_k06_addresses_updated_holds : PySem.Challenge.rw_trailparts_k06_addresses_updated.Holds := by
  w_on; o_law; k_head; (case hw => w_witness2)
  k_fill
  refine Tp.walk_at_law (l := PySem.Challenge.rw_trailparts_k06_addresses_updated) (n := 63) (CX := L2.CX0) (sp := Tp.spLaw) (x := "_law_script") rfl (by decide) rfl (fun w h Y => PySem.W.kIn_of Y) ?F (fun _ _ a ns hl _ hS => ⟨a, ns, rfl, hS, hl, fun _ => rfl⟩) (fun _ _ _ _ z => z)
  case F =>
    intro w mg fa h KX G hmg
    refine' Tp.all_mk KX G hmg ?a0 ?l0 ?c0 ?k0 ?a1 ?l1 ?c1 ?k1 ?a2 ?l2 ?c2 ?k2 ?a3 ?l3 ?c3 ?k3 ?a4 ?l4 ?c4 ?k4 ?a5 ?l5 ?c5 ?k5 ?a6 ?l6 ?c6 ?k6 ?a7 ?l7 ?c7 ?k7 ?a8 ?l8 ?c8 ?k8 ?a9 ?l9 ?c9 ?k9 ?a10 ?l10 ?c10 ?k10 ?a11 ?l11 ?c11 ?k11 ?a12 ?l12 ?c12 ?k12 ?a13 ?l13 ?c13 ?k13 ?z_ArithmeticError ?z_OverflowError ?z_abs ?z_bool ?z_enumerate ?z_int ?z_isinstance ?z_len ?z_max ?z_min ?z_range ?z_repr ?z_tuple
    (case a0 => k_is)
    (case l0 => k_is)
    (case c0 => k_is)
    (case k0 => k_is)
    (case a1 => k_is)
    (case l1 => k_is)
    (case c1 => k_is)
    (case k1 => k_is)
    (case a2 => k_is)
    (case l2 => k_is)
    (case c2 => k_is)
    (case k2 => k_is)
    (case a3 => k_is)
    (case l3 => k_is)
    (case c3 => k_is)
    (case k3 => k_is)
    (case a4 => k_is)
    (case l4 => k_is)
    (case c4 => k_is)
    (case k4 => k_is)
    (case a5 => k_is)
    (case l5 => k_is)
    (case c5 => k_is)
    (case k5 => k_is)
    (case a6 => k_is)
    (case l6 => k_is)
    (case c6 => k_is)
    (case k6 => k_is)
    (case a7 => k_is)
    (case l7 => k_is)
    (case c7 => k_is)
    (case k7 => k_is)
    (case a8 => k_is)
    (case l8 => k_is)
    (case c8 => k_is)
    (case k8 => k_is)
    (case a9 => k_is)
    (case l9 => k_is)
    (case c9 => k_is)
    (case k9 => k_is)
    (case a10 => k_is)
    (case l10 => k_is)
    (case c10 => k_is)
    (case k10 => k_is)
    (case a11 => k_is)
    (case l11 => k_is)
    (case c11 => k_is)
    (case k11 => k_is)
    (case a12 => k_is)
    (case l12 => k_is)
    (case c12 => k_is)
    (case k12 => k_is)
    (case a13 => k_is)
    (case l13 => k_is)
    (case c13 => k_is)
    (case k13 => k_is)
    (case z_ArithmeticError => k_is)
    (case z_OverflowError => k_is)
    (case z_abs => k_is)
    (case z_bool => k_is)
    (case z_enumerate => k_is)
    (case z_int => k_is)
    (case z_isinstance => k_is)
    (case z_len => k_is)
    (case z_max => k_is)
    (case z_min => k_is)
    (case z_range => k_is)
    (case z_repr => k_is)
    (case z_tuple => k_is)
#print axioms PySem.Challenge.cw_trailparts_k06_addresses_updated_holds
