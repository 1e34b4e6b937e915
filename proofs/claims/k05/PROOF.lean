import PyProof.Rows.All
import Wide.All
import OpenK.AllK
import Wide.FinOn
import HandS.Base
import HandS.Call
import HandS.List
import HandS.Ends
import HandS.Iter
import HandS.Words
import HandS.Wide
import HandS.WideBits
import HandS.IsInst
import HandS.Style
import HandS.TupAny
import PySem.Challenge.RW_trailparts_k05_addresses_split
set_option Elab.async false
set_option linter.all false
set_option maxRecDepth 100000
set_option maxHeartbeats 2000000
namespace Tp
open PySem PySem.Spec PyProof.Rows L2

/-! ### repr of data -/
theorem reprD {X : Cx} (hg : X.A.guards = some []) (hu : X.A.units + 64 < cLine) :
    CallR X (.builtin "repr") (fun xs H Q => ∃ v d, xs = [v] ∧ Dp X.K H v d ∧ d.showable = true ∧ d.hasDict = false ∧ d.depth ≤ 40 ∧ d.shown.length ≤ sizeLine ∧ Q (.str d.shown) H) := by
  intro pins s σ H xs us Q I r h
  obtain ⟨v, d, rfl, hd, hs, hnd, hdep, hsz, q⟩ := h
  obtain ⟨u, rfl, ru⟩ := vals1 r
  obtain ⟨as, rd⟩ := Dp.reads I d v u hd ru
  cases hd with
  | non =>
    cases (show u = Value.none from ru)
    exact PySem.P.repr_of_none ⟨.str _, H, I.tok _, ⟨_, rfl⟩, q⟩
  | bl b =>
    cases (show u = Value.bool b from ru)
    exact PySem.P.repr_of_bool ⟨.str _, H, I.tok _, ⟨_, rfl⟩, q⟩
  | int i =>
    obtain ⟨t, rfl⟩ := (show ∃ t, u = Value.int i t from ru)
    exact PySem.P.repr_of_int (by simpa [PyData.showable] using hs) ⟨.str _, H, I.tok _, ⟨_, rfl⟩, q⟩
  | str x =>
    obtain ⟨t, rfl⟩ := (show ∃ t, u = Value.str x t from ru)
    exact PySem.P.repr_of_str ⟨.str _, H, I.tok _, ⟨_, rfl⟩, q⟩ hsz
  | lst hq ha =>
    cases (show u = Value.ref _ from ru)
    exact repr_of_reads' rd hs (fun z => by rw [hnd] at z; cases z) hg (by omega) (fun _ _ e => e) (fun h' u tk hk => ⟨.str _, H, I.kept hk, ⟨_, rfl⟩, q⟩) hsz
  | tup hq ha =>
    cases (show u = Value.ref _ from ru)
    exact repr_of_reads' rd hs (fun z => by rw [hnd] at z; cases z) hg (by omega) (fun _ _ e => e) (fun h' u tk hk => ⟨.str _, H, I.kept hk, ⟨_, rfl⟩, q⟩) hsz

/-! ### the law itself: its call is at a known place, so the guards are known -/
/-- the law's promise at the caller's place alone -/
def AtC (P : Program) (w : World) (K : PySem.W.Frag) (mg : Str → Option Value) (base : Heap) (CX : CXT) (f : Addr) (fd : FuncData) (x : Str) (sp : Sp) : Prop :=
  ∀ (s : Shared) (H : Hp) (args : Args) (u : Value) (v : V) (Q : VK) (E : XK), Env0 P w K mg base callerA [] s H → BindsTo s fd args [(x, u)] → RelV v u → sp [v] H Q E →
    codeAny (model P w) callerA (.call (.ref f) args) (CR CX [] P w H s Q E) s
theorem room_caller {k : Nat} (h : k ≤ 40) : Room k callerA := by
  have h2 : Room 40 callerA := ⟨rfl, by decide, by decide⟩
  exact h2.mono h

/-- a def at the caller's place, from its body; the guards there are none -/
theorem atC_of {CX : CXT} {P : Program} {w : World} {K : PySem.W.Frag} {mg : Str → Option Value} {base : Heap} {k : Nat} {f : Addr} {name qual : Str} {params : Arguments} {body : List Stmt} {scope : Scope}
    {dV kV doc pm cdv ct oc : Value} {an od : Option Addr} {osl : Array (Option Value)} {N : List Str} {x : Str} {sp : Sp}
    (lk : K.lookup f = some ⟨oc, od, .func (PySem.W.fnOf name qual params body scope dV kV doc pm an cdv ct), osl⟩) (hcd : PySem.W.codeIn K cdv qual = true) (S : FnScope N [x] scope) (hk : k ≤ 30)
    (len : ∀ vs H Q E, sp vs H Q E → vs.length = 1)
    (hbody : ∀ (A : Around) (outer : List Env) (s : Shared) (H : Hp) (vs : List V) (Q : VK) (E : XK), A.guards = some [] → Room k (A.deeper (envOfC qual scope s.heap.objs.size f cdv)) → sp vs H Q E →
      ∃ t, PSs (cxOf CX P w K mg base N qual scope f cdv A outer s H E) body t ∧ t { nx := fun _ H' => Q .non H', rt := Q } (start N vs) H) :
    AtC P w K mg base CX f (PySem.W.fnOf name qual params body scope dV kV doc pm an cdv ct) x sp := by
  intro s H args u v Q E e0 hb rv hsp
  have hr : Room (k + 1) callerA := room_caller (by omega)
  have KX : K.In s.heap := e0.mod.kin.keeps fun b o e => (e0.bs b o e).1
  have lim : s.heap.NoLimit := e0.mod.nolimit.keeps fun b o e => (e0.bs b o e).1
  have hkind : ∀ y ∈ [(x, u)], scope.names.lookup y.1 = some .local ∨ (scope.names.lookup y.1 = some .cell ∧ ((cellsFrom (s.heap.objs.size + 1) scope.names []).lookup y.1).isSome = true) := by
    intro y hy
    obtain rfl : y = (x, u) := List.mem_singleton.mp hy
    exact (S.par x (by simp)).imp id fun q => ⟨q, PySem.W.cellsFrom_some _ _ _ (.inl q)⟩
  refine codeAny_call_function hr.depth (KX _ _ lk) rfl S.co S.gen rfl (PySem.W.codeRec_of KX hcd) (hb _ _ _ _ ?_)
  refine wpAny_newFunctionEnv_cells S.kind hkind fun env he s1 xn => ?_
  subst he
  refine ⟨lim.keeps xn.toInCall.keep, codeAny_func ?_⟩
  obtain ⟨t, ht, hq⟩ := hbody callerA [] s H [v] Q E rfl (hr.deeper _) hsp
  have I : Inv (cxOf CX P w K mg base N qual scope f cdv callerA [] s H E) [] (start N [v]) H s1 :=
    inv_start (ps := [x]) (us := [u]) S hr.hd e0 rfl (.cons rv .nil) xn
  refine wpAny_mono (ht.run [] s1 (start N [v]) H _ I hq) (fun fl s' hs => ?_) fun _ _ hs => hs
  cases fl with
  | brk =>
    obtain ⟨_, _, _, q⟩ := hs
    exact q.elim
  | cont =>
    obtain ⟨_, _, _, q⟩ := hs
    exact q.elim
  | next =>
    obtain ⟨σ', H', J, q⟩ := hs
    exact ⟨.non, H', J.os, J.bare, J.base, J.hok, rfl, q⟩
  | ret z =>
    obtain ⟨v', σ', H', J, rv', q⟩ := hs
    exact ⟨v', H', J.os, J.bare, J.base, J.hok, rv', q⟩

/-- the abstract heap at the entry: the script alone, if it is not one of the module's own objects -/
noncomputable def scriptHp (K : PySem.W.Frag) (a : Addr) (ob : Obj) (xs : List V) : Hp := fun b => if b = a ∧ K.lookup a = none then some (.frz ob (.lst xs)) else none
theorem scriptHp_some {K : PySem.W.Frag} {a b : Addr} {ob : Obj} {xs : List V} {o : HO} (h : scriptHp K a ob xs b = some o) : b = a ∧ K.lookup a = none ∧ o = .frz ob (.lst xs) := by
  unfold scriptHp at h
  split at h
  · rename_i c
    exact ⟨c.1, c.2, (Option.some.inj h).symm⟩
  · cases h
theorem script_only {K : PySem.W.Frag} {a : Addr} {ob : Obj} {xs : List V} : Only (scriptHp K a ob xs) := by
  intro b
  cases e : scriptHp K a ob xs b with
  | none => exact .inl rfl
  | some o =>
    obtain ⟨_, _, rfl⟩ := scriptHp_some e
    exact .inr ⟨_, _, rfl⟩

theorem law_at {P : Program} {w : World} {K : PySem.W.Frag} {mg mb : Str → Option Value} {CX : CXT} {fa a : Addr} {fd : FuncData} {x : Str} {sp : Sp} {s1 : Shared} {vs : List Value} {ns : List Int}
    (KX : K.In s1.heap) (hns : s1.heap.Ns mainGlobals mg) (hb : s1.heap.Ns builtinsNs mb) (hbb : ∀ y : Str, y ≠ "__name__" → mb y = bootBuiltins y) (hlim : s1.heap.NoLimit) (hg : s1.gens = #[])
    (ha : s1.heap.get? a = some { cls := .type "list", data := .seq vs.toArray }) (hi : IntsAre vs ns) (hl : ns.length ≤ sizeLine)
    (F : ∀ base : Heap, K.In base → base.Ns mainGlobals mg → AtC P w K mg base CX fa fd x sp) (hbind : ∀ (s : Shared) (u : Value), BindsTo s fd ⟨[u], []⟩ [(x, u)])
    (hsp : ∀ H : Hp, Only H → SqL K H a (ns.map V.int) → sp [.ref a] H (fun v _ => v = .bl true) fun _ _ _ => False)
    (hCX : ∀ H e s', CX [] H s1 (fun _ _ _ => False) e s' → False) :
    codeAny (model P w) callerA (.call (.ref fa) ⟨[.ref a], []⟩) (fun r s' => r = .ok (.ret (.bool true)) ∧ OldK s1.heap s'.heap ∧ s'.os = s1.os ∧ AllBare s'.gens) s1 := by
  have rv := vals_ints hi
  have lenV := hi.length
  generalize eH : scriptHp K a { cls := .type "list", data := .seq vs.toArray } (ns.map V.int) = H
  have hO : Only H := by
    rw [← eH]
    exact script_only
  have hat : ∀ {b : Addr} {o : HO}, H b = some o → b = a ∧ K.lookup a = none ∧ o = .frz { cls := .type "list", data := .seq vs.toArray } (.lst (ns.map V.int)) := fun {b o} q => by
    rw [← eH] at q
    exact scriptHp_some q
  have hS : SqL K H a (ns.map V.int) := by
    cases hk : K.lookup a with
    | none =>
      refine .inl (.inr ⟨{ cls := .type "list", data := .seq vs.toArray }, ?_⟩)
      rw [← eH]
      exact if_pos ⟨rfl, hk⟩
    | some o =>
      have e := KX a o hk
      rw [ha] at e
      cases e
      exact .inr ⟨_, vs.toArray, _, hk, rfl, rfl, rfl, by rw [List.size_toArray, lenV]; exact hl, by simpa using rv⟩
  have hok : HOk P w H s1.heap := fun b o q => by
    obtain ⟨rfl, _, rfl⟩ := hat q
    exact ⟨ha, by rw [List.length_map]; exact hl, vs, _, rv, ha⟩
  have none_of : ∀ {b : Addr} {o : Obj}, s1.heap.get? b = some o → (b = a → K.lookup a = none → False) → H b = none := fun {b o} _ z => by
    cases q : H b with
    | none => rfl
    | some u =>
      obtain ⟨e1, e2, _⟩ := hat q
      exact (z e1 e2).elim
  have dictFree : ∀ {b : Addr} {o : Obj} {es : Array DictEntry} {ep : Nat}, s1.heap.get? b = some o → o.data = .dict es ep → H b = none := fun {b o es ep} e d => none_of e fun e1 _ => by
    subst e1
    rw [ha] at e
    cases e
    cases (show Data.seq vs.toArray _ = Data.dict es ep from d)
  have nsK : ∀ {b : Addr} {m : Str → Option Value}, s1.heap.Ns b m → (hidT s1.heap H).Ns b m := by
    rintro b m ⟨o, es, ep, e, d, r⟩
    exact ⟨o, es, ep, hidT_get e (dictFree e d), d, r⟩
  have hKb : K.In (hidT s1.heap H) := fun b o e => hidT_get (KX b o e) (none_of (KX b o e) fun e1 e2 => by
    subst e1
    rw [e2] at e
    cases e)
  obtain ⟨mc, lim1, lim2⟩ := hlim
  have hM : Mod K mg (hidT s1.heap H) := ⟨hKb, nsK hns, ⟨mb, nsK hb, hbb⟩, mc, nsK lim1, lim2⟩
  have e0 : Env0 P w K mg (hidT s1.heap H) callerA [] s1 H :=
    ⟨rfl, hM, fun b o e => of_hidT e, Nat.le_of_eq (hidT_size _ _), trivial, fun b hb => absurd (show b ∈ ([] : List Addr) from hb) (by simp), hok, .of_eq hg⟩
  refine codeAny_mono (F _ hKb (nsK hns) s1 H ⟨[.ref a], []⟩ (.ref a) (.ref a) _ _ e0 (hbind s1 (.ref a)) rfl (hsp H hO hS)) fun r s' h => ?_
  cases r with
  | error e => exact (hCX H e s' h).elim
  | ok fl =>
    cases fl with
    | next => exact h.elim
    | brk => exact h.elim
    | cont => exact h.elim
    | ret u =>
      obtain ⟨v, H', os, bare, un, hok', r', q⟩ := h
      obtain rfl : v = .bl true := q
      obtain rfl : u = Value.bool true := r'
      refine ⟨rfl, OldK.of_keep fun b o e => ?_, os, bare⟩
      cases q : H b with
      | none => exact un.keep b o e q (fun z => absurd (show b ∈ ([] : List Addr) from z) (by simp)) (by simp)
      | some u =>
        obtain ⟨e1, e2, e3⟩ := hat q
        subst e3
        have z2 := un.frzs b _ _ q
        obtain ⟨k1, _⟩ := hok b _ q
        obtain ⟨k2, _⟩ := hok' b _ z2
        rw [e] at k1
        cases k1
        exact k2

theorem walk_at_law {l : PySem.W.OpenLaw} {n : Nat} {q : Program} {loose : List Str} {XP : (Str → Option Value) → Heap → Prop} {YP : World → Heap → Prop} {d : DefRec} {K : Params → PySem.W.Frag} {CX : CXT} {sp : PySem.W.Frag → Sp} {x : Str}
    (hn : l.most = some n) (hn2 : n ≤ sizeLine) (hdf : d.params.defaults = []) (hY : ∀ (w : World) (h : Heap), YP w h → (K w.params).In h)
    (F : ∀ (w : World) (mg : Str → Option Value) (fa : Addr) (h : Heap), (K w.params).In h → h.Ns mainGlobals mg → mg d.name = some (.ref fa) →
      ∃ fd : FuncData, (∀ (s : Shared) (u : Value), BindsTo s fd ⟨[u], []⟩ [(x, u)]) ∧ ∀ base : Heap, (K w.params).In base → base.Ns mainGlobals mg → AtC l.prog w (K w.params) mg base CX fa fd x (sp (K w.params)))
    (hsp : ∀ (K : PySem.W.Frag) (H : Hp) (a : Addr) (ns : List Int), ns.length ≤ n → Only H → SqL K H a (ns.map V.int) → sp K [.ref a] H (fun v _ => v = .bl true) fun _ _ _ => False)
    (hCX : ∀ (H : Hp) (s : Shared) (e : Value) (s' : Shared), CX [] H s (fun _ _ _ => False) e s' → False) :
    PySem.W.WalkO q loose XP YP l.row.toRowW d [] (fun f vs => PySem.call f vs) := by
  refine Att.attach_call hn hdf fun w s0 s1 mg mb fa o pm cd doc a vs ns G Y ho hd hcd hmg hobj hints hlen hgen => ?_
  have KX := hY w _ Y
  obtain ⟨fd, hb, hF⟩ := F w mg fa _ KX G.T.g hmg
  exact law_at KX G.T.g G.T.b G.T.builtins G.T.nolimit hgen hobj hints (Nat.le_trans hlen hn2) hF hb (fun H hO hS => hsp _ H a ns hlen hO hS) fun H e s' => hCX H s1 e s'
end Tp

set_option Elab.async false
set_option linter.all false
set_option maxRecDepth 100000
set_option maxHeartbeats 2000000
namespace Tp
open PySem PySem.Spec PyProof.Rows L2

/-! ### heaps that only grow -/
theorem Same.up {H H1 : Hp} {p : Addr} {o : HO} (e : Same H H1) (h : H1 p = none) : Same H (upd H1 p o) := fun b u q => by
  have q1 := e b u q
  rw [upd_ne (ne_of_none q1 h)]
  exact q1
theorem Same.up0 {H : Hp} {p : Addr} {o : HO} (h : H p = none) : Same H (upd H p o) := Same.up (Same.refl H) h
theorem Same.sqt {K : PySem.W.Frag} {H H' : Hp} {a : Addr} {xs : List V} (e : Same H H') (h : SqT K H a xs) : SqT K H' a xs := by
  rcases h with (h | ⟨o, h⟩) | h
  · exact .inl (.inl (e _ _ h))
  · exact .inl (.inr ⟨o, e _ _ h⟩)
  · exact .inr h
mutual
theorem dp_same {K : PySem.W.Frag} {H H' : Hp} (e : Same H H') : ∀ (d : PyData) (v : V), Dp K H v d → Dp K H' v d
  | .none, _, h => by
    cases h
    exact .non
  | .bool _, _, h => by
    cases h
    exact .bl _
  | .int _, _, h => by
    cases h
    exact .int _
  | .str _, _, h => by
    cases h
    exact .str _
  | .list ds, _, h => by
    cases h with
    | lst q a => exact .lst (e.seq q) (dpa_same e ds _ a)
  | .tuple ds, _, h => by
    cases h with
    | tup q a => exact .tup (Same.sqt e q) (dpa_same e ds _ a)
  | .dict _, _, h => by cases h
theorem dpa_same {K : PySem.W.Frag} {H H' : Hp} (e : Same H H') : ∀ (ds : List PyData) (vs : List V), DpAll K H vs ds → DpAll K H' vs ds
  | [], _, h => by
    cases h
    exact .nil
  | d :: ds, _, h => by
    cases h with
    | cons a b => exact .cons (dp_same e d _ a) (dpa_same e ds _ b)
end

/-! ### defs of the module that may be called by their names -/
structure Cal (P : Program) (w : World) (K : PySem.W.Frag) (mg : Str → Option Value) (base : Heap) (k : Nat) (x : Str) (sp : Sp) : Prop where
  ex : ∃ (f : Addr) (fd : FuncData) (ps : List Str), FnOk P w K mg base L2.CX0 k f fd ps sp ∧ mg x = some (.ref f) ∧ PySem.W.keepIn K (.ref f) = true ∧ Binds K fd ps []
theorem pe_f {X : Cx} {k j : Nat} {x : Str} {sp : Sp} {p pos : Pos} {e : Expr} {es : List Expr} {t : TA} (c : Cal X.prog X.w X.K X.mg X.base k x sp) (hr : Room j X.A) (hg : Gl X x) (ha : PA X (e :: es) t) (hk : k ≤ j := by decide)
    (hdb : (x == ("__debug__" : Str)) = false := by decide) (he : starEach (e :: es) X.env = (false, eval e X.env) :: starEach es X.env := by rfl) (hpl : (backTo pos (starEach es X.env)).any (·.1) = false := by rfl) :
    PE X (.Call (.Name x p) (e :: es) [] pos) (tCall sp [] E0 t) := by
  obtain ⟨f, fd, ps, F, hm, kp, b⟩ := c.ex
  exact pe_call F (hr.mono hk) hg hm kp b .nil pass0 ha hdb he hpl
/-- a def of the text as it stands behind the top, under its name -/
structure DefIn (K : PySem.W.Frag) (mg : Str → Option Value) (x : Str) (st : Stmt) : Prop where
  ex : ∃ (f : Addr) (fd : FuncData), Fun K x x st f fd ∧ mg x = some (.ref f)
theorem cal_of {P : Program} {w : World} {K : PySem.W.Frag} {mg : Str → Option Value} {base : Heap} {x : Str} {st : Stmt} {k : Nat} {ps : List Str} {sp : Sp} (D : DefIn K mg x st)
    (h : ∀ f fd, Fun K x x st f fd → FnOk P w K mg base L2.CX0 k f fd ps sp)
    (hb : ∀ (kV doc pm : Value) (an : Option Addr) (cdv ct : Value) (us : List Value), us.length = ps.length → bindArgs (PySem.W.fnOf x x (defArgs st) (defBody st) (defScope st) .none kV doc pm an cdv ct) ⟨us, []⟩ = pure (ps.zip us)) :
    Cal P w K mg base k x sp := by
  obtain ⟨f, fd, F, hm⟩ := D.ex
  exact ⟨f, fd, ps, h f fd F, hm, F.kp, F.binds hb⟩

/-! ### a for over enumerate(list) -/
theorem for_enum {K : PySem.W.Frag} {a : Addr} {xs : List V} {g : TG} {tb : TS} {D : Ends} {σ : L2.St} {H : Hp} (Pv : Nat → L2.St → Hp → Prop) (h0 : Pv 0 σ H) (hl : ∀ i σ H, i ≤ xs.length → Pv i σ H → SqL K H a xs)
    (hs : ∀ i x T σ H, xs[i]? = some x → Pv i σ H → H T = none → g (.ref T) σ (upd H T (.tup [.int ((i : Nat) : Int), x])) fun σ2 H2 => tb { D with nx := Pv (i + 1), ct := Pv (i + 1), bk := D.nx } σ2 H2)
    (hd : ∀ σ H, Pv xs.length σ H → D.nx σ H) :
    ∃ W : Nat → Nat → L2.St → Hp → Prop, (∃ m, W 0 m σ H) ∧ ∀ i m σ H, W i m σ H →
      ((Ite K a).stop i H ∧ D.nx σ H) ∨ ((Ite K a).go i H ∧ ∃ N : L2.St → Hp → Prop, (∀ σ' H', N σ' H' → ∃ m', m' < m ∧ W (i + 1) m' σ' H') ∧ ∀ x H', (Ite K a).yld i H x H' → g x σ H' fun σ2 H2 => tb { D with nx := N, ct := N, bk := D.nx } σ2 H2) := by
  refine ⟨fun i m σ H => m + i = xs.length ∧ Pv i σ H, ⟨xs.length, by omega, h0⟩, ?_⟩
  rintro i m σ H ⟨e, p⟩
  have q := hl i σ H (by omega) p
  by_cases hlt : i < xs.length
  · have hx : xs[i]? = some xs[i] := List.getElem?_eq_getElem hlt
    refine .inr ⟨⟨xs, _, q, hx⟩, Pv (i + 1), fun σ' H' p' => ⟨m - 1, by omega, by omega, p'⟩, fun x H' y => ?_⟩
    obtain ⟨T, z, rfl, nT, rfl, fz⟩ := y
    exact hs i z T σ H (fz xs q) p nT
  · have ei : i = xs.length := by omega
    subst ei
    exact .inl ⟨⟨xs, q, Nat.le_refl _⟩, hd σ H p⟩
end Tp

set_option Elab.async false
set_option linter.all false
set_option maxRecDepth 100000
set_option maxHeartbeats 2000000
namespace Tp
open PySem PySem.Spec PyProof.Rows L2

/-! ### short answers -/
theorem ixl {K : PySem.W.Frag} {H : Hp} {p : Addr} {xs : List V} {j : Nat} {v : V} {R : VK} (h : H p = some (.lst xs)) (e : xs[j]? = some v) (r : R v H) : rIx K (.ref p) (.int (j : Int)) H R := .inl ⟨p, xs, _, v, rfl, rfl, SqL.of h, atI_nat e, r⟩
theorem ixlS {K : PySem.W.Frag} {H : Hp} {p : Addr} {xs : List V} {z : Int} {j : Nat} {v : V} {R : VK} (h : SqL K H p xs) (ez : z = (j : Int)) (e : xs[j]? = some v) (r : R v H) : rIx K (.ref p) (.int z) H R := by
  subst ez
  exact .inl ⟨p, xs, _, v, rfl, rfl, h, atI_nat e, r⟩
theorem ixt {K : PySem.W.Frag} {H : Hp} {p : Addr} {xs : List V} {j : Nat} {v : V} {R : VK} (h : H p = some (.tup xs)) (e : xs[j]? = some v) (r : R v H) : rIx K (.ref p) (.int (j : Int)) H R := .inr (.inl ⟨p, xs, _, v, rfl, rfl, SqT.of h, atI_nat e, r⟩)
theorem lens (n : Nat) (h : n ≤ 1000) : n ≤ sizeLine := Nat.le_of_lt (small1000 h)

/-! ### a word in the middle: what follows is shown once -/
theorem pe_cut {X : Cx} {e : Expr} {te : TE} (h : PE X e te) : PE X e (fun σ H Q => ∃ M : VK, te σ H M ∧ ∀ v H', M v H' → Q v H') := by
  refine ⟨fun pins s σ H Q I hq => ?_⟩
  obtain ⟨M, hm, k⟩ := hq
  exact thn (h.run pins s σ H M I hm) fun u s1 ⟨v, H1, I1, r1, q1⟩ => ⟨v, H1, I1, r1, k v H1 q1⟩
theorem pss_mid {X : Cx} {st : Stmt} {sts : List Stmt} {t u : TS} (h1 : PS X st t) (h2 : PSs X sts u) : PSs X (st :: sts) (fun D σ H => ∃ M : L2.St → Hp → Prop, t { D with nx := M } σ H ∧ ∀ σ' H', M σ' H' → u D σ' H') := by
  refine ⟨fun pins s σ H D I hq => ?_⟩
  obtain ⟨M, hm, k⟩ := hq
  refine wpAny_execs_cons (thn (h1.run pins s σ H { D with nx := M } I hm) fun f s1 q => ?_)
  cases f with
  | next =>
    obtain ⟨σ', H', I', q⟩ := q
    exact h2.run pins s1 σ' H' D I' (k σ' H' q)
  | ret v => exact q
  | brk => exact q
  | cont => exact q

/-! ### the law's numbers: a bag is a list of two ints, none below nought -/
def BagAt (H : Hp) (p : Addr) : Prop := ∃ a b : Int, H p = some (.lst [.int a, .int b]) ∧ 0 ≤ a ∧ 0 ≤ b ∧ b < 2147483563
/-- all but p is as it was -/
def But (p : Addr) (H H' : Hp) : Prop := ∀ q, q ≠ p → H' q = H q
theorem But.refl (p : Addr) (H : Hp) : But p H H := fun _ _ => rfl
theorem But.trans {p : Addr} {H H1 H2 : Hp} (a : But p H H1) (b : But p H1 H2) : But p H H2 := fun q h => (b q h).trans (a q h)
/-- what was there stays, but for the bag at p -/
def Grow (p : Addr) (H H' : Hp) : Prop := ∀ q o, q ≠ p → H q = some o → H' q = some o
theorem Grow.refl (p : Addr) (H : Hp) : Grow p H H := fun _ _ _ h => h
theorem Grow.trans {p : Addr} {H H1 H2 : Hp} (a : Grow p H H1) (b : Grow p H1 H2) : Grow p H H2 := fun q o n h => b q o n (a q o n h)
theorem But.grow {p : Addr} {H H' : Hp} (b : But p H H') : Grow p H H' := fun q _ n h => (b q n).trans h
theorem Same.grow {p : Addr} {H H' : Hp} (b : Same H H') : Grow p H H' := fun q o _ h => b q o h
theorem Grow.same {p : Addr} {H H1 H2 : Hp} (e : Same H H1) (n : H p = none) (g : Grow p H1 H2) : Same H H2 := fun q o h => g q o (ne_of_none h n) (e q o h)
theorem BagAt.keep {H H' : Hp} {p : Addr} (h : BagAt H p) (e : Same H H') : BagAt H' p := by
  obtain ⟨a, b, hp, r⟩ := h
  exact ⟨a, b, e _ _ hp, r⟩
theorem BagAt.there {H : Hp} {p : Addr} (h : BagAt H p) : H p ≠ none := by
  obtain ⟨a, b, hp, _⟩ := h
  rw [hp]
  intro z
  cases z
theorem BagAt.new {H : Hp} {p q : Addr} (h : BagAt H p) (n : H q = none) : q ≠ p := fun e => h.there (e ▸ n)

def spBag (K : PySem.W.Frag) : Sp := fun vs H Q _ => ∃ (a : Addr) (ns : List Int) (k : Int), vs = [.ref a, .int k] ∧ SqL K H a (ns.map V.int) ∧ ns.length ≤ 100 ∧ 0 ≤ k ∧ k ≤ 100 ∧
  ∀ H' p, Same H H' → H p = none → BagAt H' p → Q (.ref p) H'
def spTake : Sp := fun vs H Q _ => ∃ (p : Addr) (m : Int), vs = [.ref p, .int m] ∧ BagAt H p ∧ 0 < m ∧ m.natAbs < 2 ^ 250 ∧
  ∀ H' r, But p H H' → BagAt H' p → 0 ≤ r → r < m → Q (.int r) H'

/-! ### what a part is -/
def kinds : List String := ["NoneType", "bool", "int", "str", "list", "tuple", "dict"]
def partB (x y : Int) : Bool := decide (1 ≤ y) && (decide (Builtin.bitAnd y (y - 1) = 0) && (decide (0 ≤ x) && (decide (x ≤ y) && (decide (y = 1) || decide (Builtin.bitAnd x 1 = 1)))))
def tupPart : List V → Bool
  | [.int x, .int y] => partB x y
  | _ => false
/-- a value of one of the plain kinds -/
def Known (K : PySem.W.Frag) (H : Hp) (y : V) : Prop := ∃ n, TyX K H y (.type n) ∧ n ∈ kinds
theorem Known.int {K : PySem.W.Frag} {H : Hp} (i : Int) : Known K H (.int i) := ⟨"int", .base (.int i), by decide⟩
theorem tyx_int {K : PySem.W.Frag} {H : Hp} {y : V} (h : TyX K H y (.type "int")) : ∃ i, y = .int i := by
  generalize e : Value.type "int" = t at h
  cases h with
  | base b =>
    cases b with
    | int i => exact ⟨i, rfl⟩
    | _ => first | (exact absurd (Value.type.inj e) (by decide)) | cases e
  | _ => first | (exact absurd (Value.type.inj e) (by decide)) | cases e
theorem tyx_is {K : PySem.W.Frag} {H : Hp} {i : Int} {n : String} (h : TyX K H (.int i) (.type n)) : n = "int" := by
  generalize ex : V.int i = x at h
  generalize e : Value.type n = t at h
  cases h with
  | base b =>
    cases b with
    | int i =>
      cases e
      rfl
    | _ => cases ex
  | _ => cases ex
def spPlain (K : PySem.W.Frag) : Sp := fun vs H Q _ => ∃ (x : V) (n : String), vs = [x] ∧ TyX K H x (.type n) ∧ n ∈ kinds ∧ Q (.bl (decide (n = "int"))) H
def spPow2 : Sp := fun vs H Q _ => ∃ b : Int, vs = [.int b] ∧ Q (.bl (decide (Builtin.bitAnd b (b - 1) = 0))) H
def spIsPart (K : PySem.W.Frag) : Sp := fun vs H Q _ => (∃ (x : V) (n : String), vs = [x] ∧ TyX K H x (.type n) ∧ n ∈ kinds ∧ n ≠ "tuple" ∧ Q (.bl false) H) ∨
  ∃ (a : Addr) (xs : List V), vs = [.ref a] ∧ H a = some (.tup xs) ∧ (∀ y ∈ xs, Known K H y) ∧ Q (.bl (tupPart xs)) H
/-- the half of a part that is not nothing -/
def spHalf : Sp := fun vs H Q _ => ∃ (a : Addr) (x y : Int), vs = [.ref a] ∧ H a = some (.tup [.int x, .int y]) ∧ partB x y = true ∧ x ≠ 0 ∧
  ∀ p, H p = none → Q (.ref p) (upd H p (.tup [.int x, .int (y * 2)]))
/-- the text's own half -/
def spLHalf : Sp := fun vs H Q _ => ∃ (a : Addr) (x y : Int), vs = [.ref a] ∧ H a = some (.tup [.int x, .int y]) ∧ ∀ p, H p = none → Q (.ref p) (upd H p (.tup [.int x, .int (2 * y)]))
/-- a drawn part: x / 2 ^ n in lowest terms, not nothing -/
structure Drawn (x y : Int) (most : Nat) : Prop where
  ex : ∃ n : Nat, n ≤ most ∧ y = 2 ^ n
  lo : 1 ≤ x
  hi : x ≤ y
  odd : y = 1 ∨ x % 2 = 1
def spPart : Sp := fun vs H Q _ => ∃ (p : Addr) (most : Nat), vs = [.ref p, .int (most : Int)] ∧ BagAt H p ∧ most ≤ 200 ∧
  ∀ H' t x y, Grow p H H' → BagAt H' p → H t = none → H' t = some (.tup [.int x, .int y]) → Drawn x y most → Q (.ref t) H'
/-! ### arithmetic of parts -/
theorem pow2_pos (n : Nat) : (1 : Int) ≤ 2 ^ n := by
  have h : (0 : Nat) < 2 ^ n := Nat.two_pow_pos n
  have e : ((2 ^ n : Nat) : Int) = (2 : Int) ^ n := by simp
  omega
theorem pow2_and (n : Nat) : Builtin.bitAnd ((2 : Int) ^ n) ((2 : Int) ^ n - 1) = 0 := by
  rw [PySem.W.kbt_mask]
  exact Int.emod_self
theorem pow2_half {n : Nat} (h : n ≠ 0) : ∃ m, n = m + 1 ∧ (2 : Int) ^ n = 2 * 2 ^ m := by
  cases n with
  | zero => exact absurd rfl h
  | succ m => exact ⟨m, rfl, by rw [Int.pow_succ]; omega⟩
theorem Drawn.part {x y : Int} {most : Nat} (h : Drawn x y most) : partB x y = true := by
  obtain ⟨⟨n, _, rfl⟩, h1, h2, h3⟩ := h
  have := pow2_pos n
  unfold partB
  rw [decide_eq_true (show (1 : Int) ≤ 2 ^ n by omega), pow2_and, decide_eq_true rfl, decide_eq_true (show (0 : Int) ≤ x by omega), decide_eq_true h2, bitAnd_m1]
  rcases h3 with e | e
  · rw [decide_eq_true e]
    rfl
  · rw [decide_eq_true e, Bool.or_true]
    rfl
theorem Drawn.mono {x y : Int} {m k : Nat} (h : Drawn x y m) (le : m ≤ k) : Drawn x y k := by
  obtain ⟨⟨n, hn, e⟩, h1, h2, h3⟩ := h
  exact ⟨⟨n, by omega, e⟩, h1, h2, h3⟩
theorem Drawn.size {x y : Int} {most : Nat} (h : Drawn x y most) : x.natAbs ≤ 2 ^ most ∧ y.natAbs ≤ 2 ^ most := by
  obtain ⟨⟨n, hn, rfl⟩, h1, h2, h3⟩ := h
  have le : (2 : Nat) ^ n ≤ 2 ^ most := Nat.pow_le_pow_right (by decide) hn
  have e : ((2 ^ n : Nat) : Int) = (2 : Int) ^ n := by simp
  have := pow2_pos n
  omega
/-! ### data that repr shows in few signs -/
theorem leaf_short {i : Int} (h : i.natAbs < 10 ^ 60) : (PyData.shown (.int i)).length ≤ 64 := by
  have e := int_text_length_le10 (k := 60) (by decide) h
  show (Str.ofString (toString i)).length ≤ 64
  rw [PySem.ofString_length]
  omega
theorem leaf_show {i : Int} (h : i.natAbs < 10 ^ 60) : i.natAbs.log2 < 1920 := by
  have h2 : i.natAbs < 2 ^ 200 := Nat.lt_of_lt_of_le h (by decide)
  exact Nat.lt_of_lt_of_le (PySem.Flt.log2_lt_of (by decide) h2) (by decide)
theorem shown_fits {d : PyData} (h : d.leavesShort 64 = true) (hb : d.bulk ≤ 10000) : d.shown.length ≤ sizeLine := by
  have e := PyData.shown_le_bulk 64 (by decide) d h
  have z : sizeLine = 16777216 := sizeLine_eq
  omega
/-- the law's own promise -/
def spLaw (K : PySem.W.Frag) : Sp := fun vs H Q _ => ∃ (a : Addr) (ns : List Int), vs = [.ref a] ∧ SqL K H a (ns.map V.int) ∧ ns.length ≤ 63 ∧ ∀ H', Q (.bl true) H'
/-- the law's def by its body, the guards known -/
theorem law_ok {P : Program} {w : World} {K : PySem.W.Frag} {mg : Str → Option Value} {base : Heap} {x y : Str} {st : Stmt} {f : Addr} {fd : FuncData} {N : List Str} {sp : Sp} (F : Fun K x x st f fd) (S : FnScope N [y] (defScope st)) (len : ∀ vs H Q E, sp vs H Q E → vs.length = 1)
    (hbody : ∀ (cdv : Value) (A : Around) (outer : List Env) (s : Shared) (H : Hp) (vs : List V) (Q : VK) (E : XK), (A.deeper (envOfC x (defScope st) s.heap.objs.size f cdv)).guards = some [] → Room 30 (A.deeper (envOfC x (defScope st) s.heap.objs.size f cdv)) → sp vs H Q E →
      ∃ t, PSs (cxOf L2.CX0 P w K mg base N x (defScope st) f cdv A outer s H E).nox (defBody st) t ∧ t { nx := fun _ H' => Q .non H', rt := Q } (start N vs) H) : AtC P w K mg base L2.CX0 f fd y sp := by
  obtain ⟨oc, od, kV, doc, pm, an, cdv, ct, osl, rfl, lk, hcd⟩ := F.ex
  refine atC_of (k := 30) lk hcd S (by decide) len fun A outer s H vs Q E hA hr hsp => ?_
  obtain ⟨t, h, q⟩ := hbody cdv A outer s H vs Q E hA hr hsp
  exact ⟨t, h.nox, q⟩
/-- how many cells are played -/
theorem cells_of (n lo : Nat) (hi : Nat) (h : lo ≤ hi) : ∃ m : Nat, (if (if ((n : Nat) : Int) < (hi : Int) then (n : Int) else (hi : Int)) > (lo : Int) then (if ((n : Nat) : Int) < (hi : Int) then (n : Int) else (hi : Int)) else (lo : Int)) = (m : Int) ∧ m ≤ hi := by
  by_cases h1 : ((n : Nat) : Int) < (hi : Int)
  · by_cases h2 : ((n : Nat) : Int) > (lo : Int)
    · exact ⟨n, by rw [if_pos h1, if_pos h2], by omega⟩
    · exact ⟨lo, by rw [if_pos h1, if_neg h2], h⟩
  · by_cases h2 : ((hi : Nat) : Int) > (lo : Int)
    · exact ⟨hi, by rw [if_neg h1, if_pos h2], Nat.le_refl _⟩
    · exact ⟨lo, by rw [if_neg h1, if_neg h2], h⟩
end Tp

set_option Elab.async false
set_option linter.all false
set_option maxRecDepth 100000
set_option maxHeartbeats 4000000
namespace Tp
open PySem PySem.Spec PyProof.Rows L2
/-! ### the text by places -/
def top (i : Nat) : Stmt := PySem.Challenge.pw_trailparts_k05_addresses_split.main.body.getD i (.Pass ⟨0, 0, 0, 0⟩)
abbrev s_is_plain_int : Stmt := top 3
abbrev s_is_part : Stmt := top 5
abbrev s_half : Stmt := top 6
abbrev s_is_power_of_two : Stmt := top 7
abbrev s_split : Stmt := top 9
abbrev s_l_bag : Stmt := top 11
abbrev s_l_take : Stmt := top 12
abbrev s_l_part : Stmt := top 13
abbrev s_l_half : Stmt := top 14
abbrev s_law : Stmt := top 15
theorem sc_is_plain_int : FnScope ["thing"] ["thing"] (defScope s_is_plain_int) := ⟨rfl, rfl, rfl, by decide +kernel, rfl, by decide +kernel, by decide +kernel⟩
theorem sc_is_part : FnScope ["thing", "top", "bottom"] ["thing"] (defScope s_is_part) := ⟨rfl, rfl, rfl, by decide +kernel, rfl, by decide +kernel, by decide +kernel⟩
theorem sc_half : FnScope ["part", "top", "bottom"] ["part"] (defScope s_half) := ⟨rfl, rfl, rfl, by decide +kernel, rfl, by decide +kernel, by decide +kernel⟩
theorem sc_is_power_of_two : FnScope ["number"] ["number"] (defScope s_is_power_of_two) := ⟨rfl, rfl, rfl, by decide +kernel, rfl, by decide +kernel, by decide +kernel⟩
theorem sc_split : FnScope ["address", "house", "number", "age", "part", "less"] ["address"] (defScope s_split) := ⟨rfl, rfl, rfl, by decide +kernel, rfl, by decide +kernel, by decide +kernel⟩
theorem sc_l_bag : FnScope ["_law_script", "_law_at", "_law_cell", "_law_mixed", "_law_spot", "_law_other"] ["_law_script", "_law_at"] (defScope s_l_bag) := ⟨rfl, rfl, rfl, by decide +kernel, rfl, by decide +kernel, by decide +kernel⟩
theorem sc_l_take : FnScope ["_law_bag_here", "_law_many", "_law_digit"] ["_law_bag_here", "_law_many"] (defScope s_l_take) := ⟨rfl, rfl, rfl, by decide +kernel, rfl, by decide +kernel, by decide +kernel⟩
theorem sc_l_part : FnScope ["_law_bag_here", "_law_most", "_law_bottom", "_law_top"] ["_law_bag_here", "_law_most"] (defScope s_l_part) := ⟨rfl, rfl, rfl, by decide +kernel, rfl, by decide +kernel, by decide +kernel⟩
theorem sc_l_half : FnScope ["_law_part_here"] ["_law_part_here"] (defScope s_l_half) := ⟨rfl, rfl, rfl, by decide +kernel, rfl, by decide +kernel, by decide +kernel⟩
theorem sc_law : FnScope ["_law_script", "_law_k", "_law_bag_here", "_law_address", "_law_less", "_law_again"] ["_law_script"] (defScope s_law) := ⟨rfl, rfl, rfl, by decide +kernel, rfl, by decide +kernel, by decide +kernel⟩
/-- the builtins that the text calls by their names -/
structure Bl (mg : Str → Option Value) : Prop where
  b_ArithmeticError : mg "ArithmeticError" = none
  b_abs : mg "abs" = none
  b_bool : mg "bool" = none
  b_enumerate : mg "enumerate" = none
  b_int : mg "int" = none
  b_isinstance : mg "isinstance" = none
  b_len : mg "len" = none
  b_max : mg "max" = none
  b_min : mg "min" = none
  b_range : mg "range" = none
  b_repr : mg "repr" = none
  b_tuple : mg "tuple" = none
/-! ### the law's numbers -/
section
variable {P : Program} {w : World} {K : PySem.W.Frag} {mg : Str → Option Value} {base : Heap}
theorem ok_take {f : Addr} {fd : FuncData} (F : Fun K "_law_take" "_law_take" s_l_take f fd) : FnOk P w K mg base L2.CX0 1 f fd ["_law_bag_here", "_law_many"] spTake := by
  refine F.ok sc_l_take (fun vs H Q E h => ?_) (fun cdv A outer s H vs Q E hr h => ?_)
  · obtain ⟨p, m, rfl, _⟩ := h
    rfl
  · obtain ⟨p, m, rfl, ⟨a, b, hp, a0, b0, b1⟩, m0, m1, q⟩ := h
    have nd := sc_l_take.nd
    refine ⟨_, (pss_cons (ps_if (pt_cmpR op_gt (pe_ix ix_seq (pv 0) pe_int (fun _ _ => rfl)) pe_int (nomark _))
        (pss_cons (ps_set (i := 2) nd rfl (.inl rfl) (pe_op op_mod (pe_ix ix_seq (pv 0) pe_int (fun _ _ => rfl)) (pv 1)))
        (pss_cons (ps_asg (pe_op op_fdivW (pe_ix ix_seq (pv 0) pe_int (fun _ _ => rfl)) (pv 1)) (pg_sub (pv 0) pe_int set_list))
        (pss_one (ps_ret (pv 2)))))
        pss_nil)
      (pss_cons (ps_asg (pe_op op_mod (pe_op op_add (pe_op op_mulX (pe_ix ix_seq (pv 0) pe_int (fun _ _ => rfl)) pe_int) pe_int) pe_int) (pg_sub (pv 0) pe_int set_list))
      (pss_one (ps_ret (pe_op op_mod (pe_op op_fdivW (pe_op op_mod (pe_op op_mulX (pe_op op_fdivW (pe_ix ix_seq (pv 0) pe_int (fun _ _ => rfl)) pe_int) pe_int) pe_int) pe_int) (pv 1)))))), ?_⟩
    refine ⟨_, rfl, ixl (j := 0) hp rfl ⟨_, _, rfl, rfl, _, rfl, ite2 (fun e => ?_) (fun e => ?_)⟩⟩
    · -- the cell's own digits
      refine ⟨_, rfl, ixl (j := 0) hp rfl ⟨_, rfl, _, _, rfl, rfl, m0, ?_⟩⟩
      refine ⟨_, rfl, ixl (j := 0) hp rfl ⟨_, rfl, _, _, rfl, rfl, wide_div m0 m1 (by decide) (by decide), ?_⟩⟩
      refine ⟨_, rfl, p, _, _, 0, rfl, rfl, hp, rfl, ?_⟩
      refine ⟨_, rfl, ?_⟩
      exact q _ _ (fun z hz => upd_ne hz) ⟨_, _, upd_same, Int.ediv_nonneg a0 (Int.le_of_lt m0), b0, b1⟩ (Int.emod_nonneg _ (by omega)) (Int.emod_lt_of_pos _ m0)
    · -- the mixed number
      refine ⟨_, rfl, ixl (j := 1) hp rfl ⟨_, _, rfl, rfl, mulx_ok (a := 64) (b := 64) (by omega) (by decide) (by decide), _, _, rfl, rfl, _, _, rfl, rfl, (by show (0 : Int) < 2147483399; decide), ?_⟩⟩
      refine ⟨_, rfl, p, _, _, 1, rfl, rfl, hp, rfl, ?_⟩
      have c0 : 0 ≤ (b * 40692 + 3791) % 2147483399 := Int.emod_nonneg _ (by decide)
      have c1 : (b * 40692 + 3791) % 2147483399 < 2147483399 := Int.emod_lt_of_pos _ (by decide)
      refine ⟨_, rfl, ixl (j := 1) upd_same rfl ⟨_, _, rfl, rfl, wide_div (by decide) (b := 64) (by decide) (by decide) (by decide), _, _, rfl, rfl, mulx_ok (a := 64) (b := 64) (by omega) (by decide) (by decide), ?_⟩⟩
      refine ⟨_, _, rfl, rfl, (by show (0 : Int) < 2147483249; decide), _, _, rfl, rfl, wide_div (by decide) (b := 64) (by decide) (by decide) (by decide), _, rfl, _, _, rfl, rfl, m0, ?_⟩
      exact q _ _ (fun z hz => upd_ne hz) ⟨_, _, upd_same, a0, c0, by omega⟩ (Int.emod_nonneg _ (by omega)) (Int.emod_lt_of_pos _ m0)
theorem cut_ints (ns : List Int) (lo hi : Option Int) : ∃ ms : List Int, cutV (ns.map V.int) lo hi = ms.map V.int ∧ ms.length ≤ ns.length := by
  refine ⟨(ns.drop (HT.sIx (ns.map V.int).length 0 lo)).take (HT.sIx (ns.map V.int).length (ns.map V.int).length hi - HT.sIx (ns.map V.int).length 0 lo), ?_, ?_⟩
  · unfold cutV
    rw [List.map_take, List.map_drop]
  · rw [List.length_take, List.length_drop]
    omega
theorem ok_bag {f : Addr} {fd : FuncData} (F : Fun K "_law_bag" "_law_bag" s_l_bag f fd) (T : Bl mg) : FnOk P w K mg base L2.CX0 1 f fd ["_law_script", "_law_at"] (spBag K) := by
  refine F.ok sc_l_bag (fun vs H Q E h => ?_) (fun cdv A outer s H vs Q E hr h => ?_)
  · obtain ⟨a, ns, k, rfl, _⟩ := h
    rfl
  · obtain ⟨a, ns, k, rfl, hS, hlen, k0, k1, q⟩ := h
    have nd := sc_l_bag.nd
    refine ⟨_, (pss_cons (ps_set (i := 2) nd rfl (.inl rfl) (pe_cut (pe_ifExp (pt_cmpR op_lt (pv 1) (pe_callB call_len (by rfl) T.b_len (by decide +kernel) (pa_cons (pv 0) pa_nil)) (nomark _)) (pe_ix ix_seq (pv 0) (pv 1) (fun _ _ => rfl)) pe_int)))
      (pss_cons (ps_set (i := 3) nd rfl (.inl rfl) (pe_op op_add (pe_op op_mulX pe_int (pv 1)) pe_int))
      (pss_cons (ps_for PassesOwn.never rfl (pi_enum (by rfl) T.b_enumerate (pa_cons (pe_slice sl_list (pv 0) po_none (po_some pe_int)) pa_nil)) (pg_tup rfl (pgs_cons (pg_name (i := 4) nd rfl (.inl rfl)) (pgs_cons (pg_name (i := 5) nd rfl (.inl rfl)) pgs_nil)))
        (pss_one (ps_set (i := 3) nd rfl (.inl rfl) (pe_op op_mod (pe_op op_add (pe_op op_add (pe_op op_mulX (pv 3) pe_int) (pe_op op_mod (pv 5) pe_int)) (pe_op op_mulX pe_int (pv 4))) pe_int))))
      (pss_one (ps_ret (pe_lst (pa_cons (pe_cut (pe_ifExp (pt_cmpR op_ge (pe_callB call_abs (by rfl) T.b_abs (by decide +kernel) (pa_cons (pv 2) pa_nil)) (pe_op op_pow pe_int pe_int) (nomark _)) (pe_callB call_abs (by rfl) T.b_abs (by decide +kernel) (pa_cons (pv 2) pa_nil)) pe_int)) (pa_cons (pv 3) pa_nil)))))))), ?_⟩
    -- the cell
    refine ⟨fun v H' => (∃ c : Int, v = .int c) ∧ H' = H, ?_, ?_⟩
    · refine ⟨_, rfl, _, rfl, .ref a, _, rfl, .inl ⟨_, hS, rfl⟩, _, _, rfl, rfl, _, rfl, ite2 (fun e => ?_) (fun _ => ⟨⟨0, rfl⟩, rfl⟩)⟩
      have hk : k.toNat < ns.length := by
        have e1 := of_decide_eq_true e
        rw [List.length_map] at e1
        omega
      exact ⟨_, rfl, _, rfl, ixlS (j := k.toNat) (v := .int ns[k.toNat]) hS (by omega) (by rw [List.getElem?_map, List.getElem?_eq_getElem hk]; rfl) ⟨⟨_, rfl⟩, rfl⟩⟩
    rintro _ H0 ⟨⟨cell, rfl⟩, rfl⟩
    refine ⟨_, rfl, _, _, rfl, rfl, mulx_ok (a := 64) (b := 64) (by decide) (by omega) (by decide), _, _, rfl, rfl, ?_⟩
    -- the first thirty cells
    refine ⟨_, rfl, 30, rfl, a, _, rfl, hS, fun c nc => ?_⟩
    obtain ⟨ms, ems, hms⟩ := cut_ints ns none (some 30)
    have sc : Same H0 (upd H0 c (.lst (cutV (ns.map V.int) none (some 30)))) := Same.up0 nc
    refine ⟨c, _, rfl, SqL.of upd_same, ?_⟩
    refine for_enum (xs := ms.map V.int) (fun i σ H2 => ∃ (m : Int) (y4 y5 : Option V), σ = [some (.ref a), some (.int k), some (.int cell), some (.int m), y4, y5] ∧ 0 ≤ m ∧ m < 2147483563 ∧ Same H0 H2 ∧ H2 c = some (.lst (ms.map V.int))) ⟨_, none, none, rfl, by omega, by omega, sc, by rw [upd_same, ems]⟩
      (fun i σ H2 _ ⟨_, _, _, _, _, _, _, hc⟩ => SqL.of hc) ?_ ?_
    · rintro i x tp σ H2 hx ⟨m, y4, y5, rfl, m0, m1, s2, hc⟩ nt
      have hi : i < ms.length := by
        have q1 := (List.getElem?_eq_some_iff.mp hx).1
        rw [List.length_map] at q1
        exact q1
      rw [List.getElem?_map, List.getElem?_eq_getElem hi] at hx
      obtain rfl := (Option.some.inj hx).symm
      refine ⟨tp, _, rfl, SqT.of upd_same, rfl, _, _, rfl, _, _, rfl, rfl, ?_⟩
      refine ⟨_, rfl, _, _, rfl, rfl, mulx_ok (a := 64) (b := 64) (by omega) (by decide) (by decide), _, rfl, _, _, rfl, rfl, (by show (0 : Int) < 2147483563; decide), _, _, rfl, rfl, _, rfl, _, _, rfl, rfl, mulx_ok (a := 64) (b := 64) (by decide) (by omega) (by decide), _, _, rfl, rfl, _, _, rfl, rfl, (by show (0 : Int) < 2147483563; decide), ?_⟩
      refine ⟨_, _, _, rfl, Int.emod_nonneg _ (by decide), Int.emod_lt_of_pos _ (by decide), Same.up s2 nt, ?_⟩
      rw [upd_ne (ne_of_none hc nt)]
      exact hc
    · rintro σ H2 ⟨m, y4, y5, rfl, m0, m1, s2, hc⟩
      -- the bag
      have last : ∀ d : Int, 0 ≤ d → ∀ p, H2 p = none → Q (.ref p) (upd H2 p (.lst [.int d, .int m])) := fun d d0 p np =>
        q _ p (Same.up s2 np) (s2.free np) ⟨d, m, upd_same, d0, m0, m1⟩
      refine ⟨fun v H3 => (∃ d : Int, v = .int d ∧ 0 ≤ d) ∧ H3 = H2, ?_, ?_⟩
      · have ha : ∀ z : Int, 0 ≤ (if z < 0 then -z else z) := fun z => by
          split <;> omega
        refine ⟨_, rfl, _, rfl, _, _, rfl, rfl, ⟨by decide, by decide, by decide⟩, _, _, rfl, rfl, _, rfl, ite2 (fun _ => ?_) (fun _ => ⟨⟨0, rfl, by decide⟩, rfl⟩)⟩
        exact ⟨_, rfl, _, rfl, ⟨_, rfl, ha _⟩, rfl⟩
      rintro _ _ ⟨⟨d, rfl, d0⟩, rfl⟩
      exact ⟨_, rfl, lens 2 (by decide), last d d0⟩
end
/-! ### parts -/
section
variable {P : Program} {w : World} {K : PySem.W.Frag} {mg : Str → Option Value} {base : Heap}
theorem ok_plain {f : Addr} {fd : FuncData} (F : Fun K "is_plain_int" "is_plain_int" s_is_plain_int f fd) (T : Bl mg) : FnOk P w K mg base L2.CX0 1 f fd ["thing"] (spPlain K) := by
  refine F.ok sc_is_plain_int (fun vs H Q E h => ?_) (fun cdv A outer s H vs Q E hr h => ?_)
  · obtain ⟨x, n, rfl, _⟩ := h
    rfl
  · obtain ⟨x, n, rfl, ty, hn, q⟩ := h
    have nd := sc_is_plain_int.nd
    refine ⟨_, (pss_one (ps_ret (pe_and (pe_callB call_isi (by rfl) T.b_isinstance (by decide +kernel) (pa_cons (pv 0) (pa_cons (pe_bltn (v := .ty "int") (by rfl) T.b_int (by decide +kernel) rfl) pa_nil))) (pe_one (pe_not (pe_callB call_isi (by rfl) T.b_isinstance (by decide +kernel) (pa_cons (pv 0) (pa_cons (pe_bltn (v := .ty "bool") (by rfl) T.b_bool (by decide +kernel) rfl) pa_nil)))))))), ?_⟩
    by_cases h1 : n = "int"
    · subst h1
      rw [decide_eq_true rfl] at q
      exact ⟨_, rfl, x, .ty "int", _, _, true, rfl, .ty _, ty, kit_ty (by decide +kernel), true, rfl, iteT ⟨_, rfl, x, .ty "bool", _, _, false, rfl, .ty _, ty, kit_ty (by decide +kernel), false, rfl, q⟩⟩
    · rw [decide_eq_false h1] at q
      by_cases h2 : n = "bool"
      · subst h2
        exact ⟨_, rfl, x, .ty "int", _, _, true, rfl, .ty _, ty, kit_ty (by decide +kernel), true, rfl, iteT ⟨_, rfl, x, .ty "bool", _, _, true, rfl, .ty _, ty, kit_ty (by decide +kernel), true, rfl, q⟩⟩
      · have h3 : kitB n "int" = some false := by
          simp only [kinds, List.mem_cons, List.not_mem_nil, or_false] at hn
          rcases hn with rfl | rfl | rfl | rfl | rfl | rfl | rfl
          · decide +kernel
          · exact absurd rfl h2
          · exact absurd rfl h1
          · decide +kernel
          · decide +kernel
          · decide +kernel
          · decide +kernel
        exact ⟨_, rfl, x, .ty "int", _, _, false, rfl, .ty _, ty, kit_ty h3, false, rfl, iteF q⟩
theorem ok_pow2 {f : Addr} {fd : FuncData} (F : Fun K "is_power_of_two" "is_power_of_two" s_is_power_of_two f fd) : FnOk P w K mg base L2.CX0 1 f fd ["number"] spPow2 := by
  refine F.ok sc_is_power_of_two (fun vs H Q E h => ?_) (fun cdv A outer s H vs Q E hr h => ?_)
  · obtain ⟨b, rfl, _⟩ := h
    rfl
  · obtain ⟨b, rfl, q⟩ := h
    have nd := sc_is_power_of_two.nd
    refine ⟨_, (pss_one (ps_ret (pe_cmpR op_eq (pe_op op_and (pv 0) (pe_op op_sub (pv 0) pe_int)) pe_int (nomark _)))), ?_⟩
    refine ⟨_, rfl, _, rfl, _, _, rfl, rfl, _, _, rfl, rfl, rfl, ?_⟩
    have e : decide (V.int (Builtin.bitAnd b (b - 1)) = V.int 0) = decide (Builtin.bitAnd b (b - 1) = 0) := by
      rw [dec_int, Bool.beq_eq_decide_eq]
    show Q (.bl (decide (V.int (Builtin.bitAnd b (b - 1)) = V.int 0))) H
    rw [e]
    exact q
theorem ok_isPart {f : Addr} {fd : FuncData} (F : Fun K "is_part" "is_part" s_is_part f fd) (T : Bl mg) (c_is_plain_int : Cal P w K mg base 1 "is_plain_int" (spPlain K)) (c_is_power_of_two : Cal P w K mg base 1 "is_power_of_two" spPow2) :
    FnOk P w K mg base L2.CX0 2 f fd ["thing"] (spIsPart K) := by
  refine F.ok sc_is_part (fun vs H Q E h => ?_) (fun cdv A outer s H vs Q E hr h => ?_)
  · rcases h with ⟨x, n, rfl, _⟩ | ⟨a, xs, rfl, _⟩
    · rfl
    · rfl
  · have nd := sc_is_part.nd
    refine ⟨_, (pss_cons (ps_if (PW.pt (pw_or (pt_not (pt_val (pe_callB call_isi (by rfl) T.b_isinstance (by decide +kernel) (pa_cons (pv 0) (pa_cons (pe_bltn (v := .ty "tuple") (by rfl) T.b_tuple (by decide +kernel) rfl) pa_nil))))) (pw_or1 (pt_cmpR op_ne (pe_callB call_len (by rfl) T.b_len (by decide +kernel) (pa_cons (pv 0) pa_nil)) pe_int (nomark _)))))
        (pss_one (ps_ret pe_bl))
        pss_nil)
      (pss_cons (ps_asg (pv 0) (pg_tup rfl (pgs_cons (pg_name (i := 1) nd rfl (.inl rfl)) (pgs_cons (pg_name (i := 2) nd rfl (.inl rfl)) pgs_nil))))
      (pss_cons (ps_if (PW.pt (pw_or (pt_not (pt_val (pe_f c_is_plain_int hr rfl (pa_cons (pv 1) pa_nil)))) (pw_or1 (pt_not (pt_val (pe_f c_is_plain_int hr rfl (pa_cons (pv 2) pa_nil)))))))
        (pss_one (ps_ret pe_bl))
        pss_nil)
      (pss_cons (ps_if (PW.pt (pw_or (pt_cmpR op_lt (pv 2) pe_int (nomark _)) (pw_or1 (pt_not (pt_val (pe_f c_is_power_of_two hr rfl (pa_cons (pv 2) pa_nil)))))))
        (pss_one (ps_ret pe_bl))
        pss_nil)
      (pss_one (ps_ret (pe_and (pe_chain op_le op_le pe_int (pv 1) (pv 2)) (pe_one (pe_or (pe_cmpR op_eq (pv 2) pe_int (nomark _)) (pe_one (pe_cmpR op_eq (pe_op op_and (pv 1) pe_int) pe_int (nomark _)))))))))))), ?_⟩
    rcases h with ⟨x, n, rfl, ty, hn, h1, q⟩ | ⟨a, xs, rfl, ha, hk, q⟩
    · have h3 : kitB n "tuple" = some false := by
        simp only [kinds, List.mem_cons, List.not_mem_nil, or_false] at hn
        rcases hn with rfl | rfl | rfl | rfl | rfl | rfl | rfl
        · decide +kernel
        · decide +kernel
        · decide +kernel
        · decide +kernel
        · decide +kernel
        · exact absurd rfl h1
        · decide +kernel
      exact ⟨_, rfl, ⟨x, .ty "tuple", _, _, false, rfl, .ty _, ty, kit_ty h3, false, rfl, iteT (iteT q)⟩⟩
    · refine ⟨_, rfl, ⟨.ref a, .ty "tuple", _, _, true, rfl, .ty _, .base (.tup ha), kit_ty (by decide +kernel), true, rfl, iteF ?_⟩⟩
      refine ⟨_, rfl, .ref a, _, rfl, .inr ⟨_, SqT.of ha, rfl⟩, rfl, _, rfl, ?_⟩
      match xs, ha, hk, q with
      | [x, y], ha, hk, q =>
        refine iteF ?_
        refine ⟨_, rfl, a, _, rfl, SqT.of ha, rfl, _, _, rfl, _, _, rfl, rfl, ?_⟩
        obtain ⟨nx, tx, hx⟩ := hk x (by simp)
        obtain ⟨ny, ty, hy⟩ := hk y (by simp)
        refine ⟨_, rfl, x, nx, rfl, tx, hx, _, rfl, ?_⟩
        by_cases ex : nx = "int"
        · rw [decide_eq_true ex]
          refine iteF ?_
          refine ⟨_, rfl, y, ny, rfl, ty, hy, _, rfl, ?_⟩
          by_cases ey : ny = "int"
          · rw [decide_eq_true ey]
            refine iteF ?_
            subst ex ey
            obtain ⟨i, rfl⟩ := tyx_int tx
            obtain ⟨j, rfl⟩ := tyx_int ty
            refine ⟨_, rfl, _, _, rfl, rfl, _, rfl, ite2 (fun e => ?_) (fun e => ?_)⟩
            · have e1 : ¬ (1 ≤ j) := by
                have := of_decide_eq_true e
                omega
              refine iteT ?_
              have e2 : tupPart [.int i, .int j] = false := by
                show partB i j = false
                unfold partB
                rw [decide_eq_false e1]
                rfl
              rw [e2] at q
              exact q
            · have e1 : 1 ≤ j := by
                have : ¬ (j < 1) := fun z => e (decide_eq_true z)
                omega
              refine ⟨_, rfl, j, rfl, _, rfl, ?_⟩
              have eP : tupPart [.int i, .int j] = (decide (Builtin.bitAnd j (j - 1) = 0) && (decide (0 ≤ i) && (decide (i ≤ j) && (decide (j = 1) || decide (Builtin.bitAnd i 1 = 1))))) := by
                show partB i j = _
                unfold partB
                rw [decide_eq_true e1, Bool.true_and]
              rw [eP] at q
              by_cases e3 : Builtin.bitAnd j (j - 1) = 0
              · rw [decide_eq_true e3] at q ⊢
                rw [Bool.true_and] at q
                refine iteF ?_
                refine ⟨_, rfl, _, _, rfl, rfl, _, rfl, ite2 (fun e => ?_) (fun e => ?_)⟩
                · have e4 : (0 : Int) ≤ i := of_decide_eq_true e
                  rw [decide_eq_true e4, Bool.true_and] at q
                  refine ⟨_, rfl, _, _, rfl, rfl, _, rfl, ?_⟩
                  by_cases e5 : i ≤ j
                  · rw [decide_eq_true e5] at q ⊢
                    rw [Bool.true_and] at q
                    refine iteT ⟨_, rfl, rfl, _, rfl, ?_⟩
                    by_cases e6 : j = 1
                    · subst e6
                      rw [decide_eq_true rfl, Bool.true_or] at q
                      rw [decide_eq_true rfl]
                      exact iteT q
                    · rw [decide_eq_false e6, Bool.false_or] at q
                      rw [decide_eq_false (fun z => e6 (V.int.inj z))]
                      refine iteF ⟨_, rfl, _, _, rfl, rfl, rfl, ?_⟩
                      show Q (.bl (decide (V.int (Builtin.bitAnd i 1) = V.int 1))) H
                      rw [dec_int, Bool.beq_eq_decide_eq]
                      exact q
                  · rw [decide_eq_false e5] at q ⊢
                    exact iteF q
                · have e4 : ¬ (0 : Int) ≤ i := fun z => e (decide_eq_true z)
                  rw [decide_eq_false e4] at q
                  exact ⟨_, rfl, iteF q⟩
              · rw [decide_eq_false e3] at q ⊢
                exact iteT q
          · rw [decide_eq_false ey]
            refine iteT ?_
            have e2 : tupPart [x, y] = false := by
              match y, ty with
              | .int j, ty => exact absurd (tyx_is ty) ey
              | .non, _ => cases x <;> rfl
              | .bl _, _ => cases x <;> rfl
              | .str _, _ => cases x <;> rfl
              | .byt _, _ => cases x <;> rfl
              | .flt _, _ => cases x <;> rfl
              | .ref _, _ => cases x <;> rfl
              | .ty _, _ => cases x <;> rfl
            rw [e2] at q
            exact q
        · rw [decide_eq_false ex]
          refine iteT ?_
          have e2 : tupPart [x, y] = false := by
            match x, tx with
            | .int j, tx => exact absurd (tyx_is tx) ex
            | .non, _ => rfl
            | .bl _, _ => rfl
            | .str _, _ => rfl
            | .byt _, _ => rfl
            | .flt _, _ => rfl
            | .ref _, _ => rfl
            | .ty _, _ => rfl
          rw [e2] at q
          exact q
      | [], ha, hk, q => exact iteT q
      | [x], ha, hk, q =>
        have e2 : tupPart [x] = false := by cases x <;> rfl
        rw [e2] at q
        exact iteT q
      | x :: y :: z :: r, ha, hk, q =>
        have e2 : tupPart (x :: y :: z :: r) = false := by cases x <;> cases y <;> rfl
        rw [e2] at q
        have e3 : (!decide (V.int ((((x :: y :: z :: r).length : Nat) : Int)) = V.int 2)) = true := by
          rw [dec_int]
          have : ((((x :: y :: z :: r).length : Nat) : Int) == 2) = false := beq_eq_false_iff_ne.mpr (by simp only [List.length_cons]; omega)
          rw [this]
          rfl
        show (if (!decide (V.int ((((x :: y :: z :: r).length : Nat) : Int)) = V.int 2)) = true then _ else _)
        rw [e3]
        exact iteT q
end
/-! ### halves, drawn parts -/
section
variable {P : Program} {w : World} {K : PySem.W.Frag} {mg : Str → Option Value} {base : Heap}
theorem ok_half {f : Addr} {fd : FuncData} (F : Fun K "half" "half" s_half f fd) (c_is_part : Cal P w K mg base 2 "is_part" (spIsPart K)) : FnOk P w K mg base L2.CX0 3 f fd ["part"] spHalf := by
  refine F.ok sc_half (fun vs H Q E h => ?_) (fun cdv A outer s H vs Q E hr h => ?_)
  · obtain ⟨a, x, y, rfl, _⟩ := h
    rfl
  · obtain ⟨a, x, y, rfl, ha, hp, hx, q⟩ := h
    have nd := sc_half.nd
    refine ⟨_, (pss_cons (ps_if (PW.pt (pw_or (pt_not (pt_val (pe_f c_is_part hr rfl (pa_cons (pv 0) pa_nil)))) (pw_or1 (pt_cmpR op_eq (pe_ix ix_seq (pv 0) pe_int (fun _ _ => rfl)) pe_int (nomark _)))))
        (pss_one ps_never)
        pss_nil)
      (pss_cons (ps_asg (pv 0) (pg_tup rfl (pgs_cons (pg_name (i := 1) nd rfl (.inl rfl)) (pgs_cons (pg_name (i := 2) nd rfl (.inl rfl)) pgs_nil))))
      (pss_one (ps_ret (pe_tup (pa_cons (pv 1) (pa_cons (pe_op op_mul (pv 2) pe_int) pa_nil))))))), ?_⟩
    have hk : ∀ v ∈ ([.int x, .int y] : List V), Known K H v := by
      intro v hv
      simp only [List.mem_cons, List.not_mem_nil, or_false] at hv
      rcases hv with rfl | rfl
      · exact Known.int x
      · exact Known.int y
    refine ⟨_, rfl, .inr ⟨a, _, rfl, ha, hk, ?_⟩⟩
    have ep : tupPart [.int x, .int y] = true := hp
    rw [ep]
    refine ⟨_, rfl, iteF ?_⟩
    refine ⟨_, rfl, ixt (j := 0) ha rfl ⟨rfl, _, rfl, ?_⟩⟩
    rw [decide_eq_false (fun z => hx (V.int.inj z))]
    refine iteF ?_
    refine ⟨_, rfl, a, _, rfl, SqT.of ha, rfl, _, _, rfl, _, _, rfl, rfl, ?_⟩
    exact ⟨_, rfl, _, rfl, _, _, rfl, rfl, .inr ⟨by decide, by decide⟩, lens 2 (by decide), q⟩
theorem ok_lhalf {f : Addr} {fd : FuncData} (F : Fun K "_law_half" "_law_half" s_l_half f fd) : FnOk P w K mg base L2.CX0 1 f fd ["_law_part_here"] spLHalf := by
  refine F.ok sc_l_half (fun vs H Q E h => ?_) (fun cdv A outer s H vs Q E hr h => ?_)
  · obtain ⟨a, x, y, rfl, _⟩ := h
    rfl
  · obtain ⟨a, x, y, rfl, ha, q⟩ := h
    have nd := sc_l_half.nd
    refine ⟨_, (pss_one (ps_ret (pe_tup (pa_cons (pe_ix ix_seq (pv 0) pe_int (fun _ _ => rfl)) (pa_cons (pe_op op_mul pe_int (pe_ix ix_seq (pv 0) pe_int (fun _ _ => rfl))) pa_nil))))), ?_⟩
    exact ⟨_, rfl, ixt (j := 0) ha rfl ⟨_, rfl, ixt (j := 1) ha rfl ⟨_, _, rfl, rfl, .inl ⟨by decide, by decide⟩, lens 2 (by decide), q⟩⟩⟩
theorem ok_part {f : Addr} {fd : FuncData} (F : Fun K "_law_part" "_law_part" s_l_part f fd) (T : Bl mg) (c_law_take : Cal P w K mg base 1 "_law_take" spTake) : FnOk P w K mg base L2.CX0 2 f fd ["_law_bag_here", "_law_most"] spPart := by
  refine F.ok sc_l_part (fun vs H Q E h => ?_) (fun cdv A outer s H vs Q E hr h => ?_)
  · obtain ⟨p, most, rfl, _⟩ := h
    rfl
  · obtain ⟨p, most, rfl, hB, hm, q⟩ := h
    have nd := sc_l_part.nd
    refine ⟨_, (pss_cons (ps_set (i := 2) nd rfl (.inl rfl) (pe_cut (pe_op op_shlW pe_int (pe_f c_law_take hr rfl (pa_cons (pv 0) (pa_cons (pe_op op_add (pv 1) pe_int) pa_nil))))))
      (pss_cons (ps_set (i := 3) nd rfl (.inl rfl) (pe_cut (pe_ix ix_seq (pe_lst (pa_cons pe_int (pa_cons (pv 2) (pa_cons (pe_op op_sub (pv 2) pe_int) (pa_cons (pe_op op_add pe_int (pe_f c_law_take hr rfl (pa_cons (pv 0) (pa_cons (pv 2) pa_nil)))) pa_nil))))) (pe_f c_law_take hr rfl (pa_cons (pv 0) (pa_cons pe_int pa_nil))) (fun _ _ => rfl))))
      (pss_cons (ps_while PassesOwn.never (PW.pt (pw_and (pt_cmpR op_gt (pv 2) pe_int (nomark _)) (pw_and1 (pt_cmpR op_eq (pe_op op_mod (pv 3) pe_int) pe_int (nomark _)))))
        (pss_one (ps_par (i := 3) (j := 2) rfl nd rfl rfl (by decide) rfl rfl (pa_cons (pe_op op_fdivW (pv 3) pe_int) (pa_cons (pe_op op_fdivW (pv 2) pe_int) pa_nil)) rfl)))
      (pss_one (ps_ret (pe_tup (pa_cons (pe_callB (call_max2 rfl) (by rfl) T.b_max (by decide +kernel) (pa_cons pe_int (pa_cons (pv 3) pa_nil))) (pa_cons (pv 2) pa_nil)))))))), ?_⟩
    -- the bottom
    refine ⟨fun v H1 => ∃ n : Nat, n ≤ most ∧ v = .int (2 ^ n) ∧ But p H H1 ∧ BagAt H1 p, ?_, ?_⟩
    · refine ⟨_, rfl, _, rfl, _, _, rfl, rfl, p, _, rfl, hB, by omega, ?_, ?_⟩
      · exact Nat.lt_of_le_of_lt (show ((most : Int) + 1).natAbs ≤ 2 ^ 8 by omega) (Nat.pow_lt_pow_right (by decide) (by decide))
      intro H1 r b1 hB1 r0 r1
      obtain ⟨n, rfl⟩ := Int.eq_ofNat_of_zero_le r0
      refine ⟨_, _, rfl, rfl, shl_ok (i := 1) (n := 2) (j := n) (by decide) (by omega), n, by omega, ?_, b1, hB1⟩
      show V.int (1 * 2 ^ ((n : Nat) : Int).toNat) = .int (2 ^ n)
      rw [Int.toNat_natCast, Int.one_mul]
    rintro _ H1 ⟨n, hn, rfl, b1, hB1⟩
    have n0 := pow2_pos n
    have nbig : ((2 : Int) ^ n).natAbs < 2 ^ 250 := by
      have e : ((2 ^ n : Nat) : Int) = (2 : Int) ^ n := by simp
      have l : (2 : Nat) ^ n < 2 ^ 250 := Nat.pow_lt_pow_right (by decide) (by omega)
      omega
    -- the top
    refine ⟨fun v H2 => (∃ x : Int, v = .int x ∧ 0 ≤ x ∧ x ≤ 2 ^ n ∧ (1 ≤ x ∨ n = 0)) ∧ Grow p H H2 ∧ BagAt H2 p, ?_, ?_⟩
    · refine ⟨_, rfl, _, rfl, _, _, rfl, rfl, _, rfl, _, rfl, p, _, rfl, hB1, by omega, nbig, ?_⟩
      intro H2 r b2 hB2 r0 r1
      refine ⟨_, _, rfl, rfl, lens 4 (by decide), fun l nl => ?_⟩
      have g2 : Grow p H (upd H2 l (.lst [.int 1, .int (2 ^ n), .int (2 ^ n - 1), .int (1 + r)])) := (b1.trans b2).grow.trans (Same.grow (Same.up0 nl))
      refine ⟨_, rfl, p, _, rfl, hB2.keep (Same.up0 nl), by decide, by decide, ?_⟩
      intro H3 k b3 hB3 k0 k1
      have hl : H3 l = some (.lst [.int 1, .int (2 ^ n), .int (2 ^ n - 1), .int (1 + r)]) := by
        rw [b3 l (hB2.new nl)]
        exact upd_same
      have fin : ∀ x : Int, 0 ≤ x → x ≤ 2 ^ n → (1 ≤ x ∨ n = 0) → (∃ y : Int, V.int x = .int y ∧ 0 ≤ y ∧ y ≤ 2 ^ n ∧ (1 ≤ y ∨ n = 0)) ∧ Grow p H H3 ∧ BagAt H3 p := fun x a b c => ⟨⟨x, rfl, a, b, c⟩, g2.trans b3.grow, hB3⟩
      have hk : k = 0 ∨ k = 1 ∨ k = 2 ∨ k = 3 := by omega
      rcases hk with rfl | rfl | rfl | rfl
      · exact ixl (j := 0) hl rfl (fin _ (by decide) n0 (.inl (by decide)))
      · exact ixl (j := 1) hl rfl (fin _ (by omega) (by omega) (.inl n0))
      · refine ixl (j := 2) hl rfl (fin _ (by omega) (by omega) ?_)
        by_cases e : n = 0
        · exact .inr e
        · obtain ⟨m, _, e2⟩ := pow2_half e
          have := pow2_pos m
          exact .inl (by omega)
      · exact ixl (j := 3) hl rfl (fin _ (by omega) (by omega) (.inl (by omega)))
    rintro _ H2 ⟨⟨x, rfl, x0, x1, x2⟩, g2, hB2⟩
    -- in lowest terms
    refine ⟨fun m σ H3 => ∃ x : Int, σ = [some (.ref p), some (.int (most : Int)), some (.int (2 ^ m)), some (.int x)] ∧ m ≤ n ∧ 0 ≤ x ∧ x ≤ 2 ^ m ∧ (1 ≤ x ∨ m = 0) ∧ H3 = H2, ⟨n, x, rfl, Nat.le_refl _, x0, x1, x2, rfl⟩, ?_⟩
    rintro m _ H3 ⟨x, rfl, hm2, x0, x1, x2, rfl⟩
    have m0 := pow2_pos m
    have done : (m = 0 ∨ x % 2 = 1) → ∀ t, H3 t = none → Q (.ref t) (upd H3 t (.tup [.int (if x > 1 then x else 1), .int (2 ^ m)])) := by
      intro hd t nt
      refine q _ t _ _ (g2.trans (Same.grow (Same.up0 nt))) (hB2.keep (Same.up0 nt)) ?_ upd_same ⟨⟨m, by omega, rfl⟩, ?_, ?_, ?_⟩
      · cases e : H t with
        | none => rfl
        | some o =>
          have ne : t ≠ p := hB2.new nt
          rw [g2 t o ne e] at nt
          cases nt
      · split <;> omega
      · split <;> omega
      · rcases hd with rfl | hd
        · exact .inl rfl
        · by_cases e : m = 0
          · subst e
            exact .inl rfl
          · refine .inr ?_
            rw [show (if x > 1 then x else 1) = x by split <;> omega]
            exact hd
    refine ⟨_, rfl, _, _, rfl, rfl, _, rfl, ite2 (fun e => ?_) (fun e => ?_)⟩
    · have m1 : m ≠ 0 := fun z => by
        subst z
        exact absurd (of_decide_eq_true e) (by decide)
      obtain ⟨m', rfl, e2⟩ := pow2_half m1
      have m2 := pow2_pos m'
      refine ⟨_, rfl, _, _, rfl, rfl, (by show (0 : Int) < 2; decide), rfl, _, rfl, ?_⟩
      rw [dec_int]
      by_cases e3 : x % 2 = 0
      · rw [beq_iff_eq.mpr e3]
        refine iteT ⟨fun σ' H' => ∃ x : Int, σ' = [some (.ref p), some (.int (most : Int)), some (.int (2 ^ m')), some (.int x)] ∧ 0 ≤ x ∧ x ≤ 2 ^ m' ∧ (1 ≤ x ∨ m' = 0) ∧ H' = H3, ?_, ?_⟩
        · rintro σ' H' ⟨x', rfl, a, b, c, rfl⟩
          exact ⟨m', by omega, x', rfl, by omega, a, b, c, rfl⟩
        · refine ⟨_, rfl, _, _, rfl, rfl, wide_div (by decide) (b := 64) (by decide) (by decide) (by decide), _, rfl, _, _, rfl, rfl, wide_div (by decide) (b := 64) (by decide) (by decide) (by decide), _, _, rfl, x / 2, ?_, by omega, by omega, .inl (by omega), rfl⟩
          have e4 : (2 : Int) ^ (m' + 1) / 2 = 2 ^ m' := by omega
          show [some (V.ref p), some (V.int (most : Int)), some (V.int ((2 : Int) ^ (m' + 1) / 2)), some (V.int (x / 2))] = _
          rw [e4]
      · rw [beq_eq_false_iff_ne.mpr e3]
        exact iteF ⟨_, rfl, _, _, rfl, _, rfl, lens 2 (by decide), done (.inr (by omega))⟩
    · have m1 : m = 0 := by
        have e1 : ¬ ((1 : Int) < 2 ^ m) := fun z => e (decide_eq_true z)
        by_cases z : m = 0
        · exact z
        · obtain ⟨m', _, e2⟩ := pow2_half z
          have := pow2_pos m'
          omega
      exact ⟨_, rfl, _, _, rfl, _, rfl, lens 2 (by decide), done (.inl m1)⟩
end
/-! ### split -/
def addrD (h n g x y : Int) : PyData := .tuple [.int h, .int n, .int g, .tuple [.int x, .int y]]
def spSplit (K : PySem.W.Frag) : Sp := fun vs H Q _ => ∃ (a pa : Addr) (h n g x y : Int), vs = [.ref a] ∧ H a = some (.tup [.int h, .int n, .int g, .ref pa]) ∧ H pa = some (.tup [.int x, .int y]) ∧ partB x y = true ∧ x ≠ 0 ∧
  ∀ H' r, Same H H' → Dp K H' (.ref r) (.tuple [addrD h n g x (y * 2), addrD h n g x (y * 2)]) → Q (.ref r) H'
theorem addr_dp {K : PySem.W.Frag} {H : Hp} {a pa : Addr} {h n g x y : Int} (ha : H a = some (.tup [.int h, .int n, .int g, .ref pa])) (hp : H pa = some (.tup [.int x, .int y])) : Dp K H (.ref a) (addrD h n g x y) :=
  .tup (SqT.of ha) (.cons (.int h) (.cons (.int n) (.cons (.int g) (.cons (.tup (SqT.of hp) (.cons (.int x) (.cons (.int y) .nil))) .nil))))
section
variable {P : Program} {w : World} {K : PySem.W.Frag} {mg : Str → Option Value} {base : Heap}
theorem ok_split {f : Addr} {fd : FuncData} (F : Fun K "split" "split" s_split f fd) (c_half : Cal P w K mg base 3 "half" spHalf) : FnOk P w K mg base L2.CX0 4 f fd ["address"] (spSplit K) := by
  refine F.ok sc_split (fun vs H Q E h => ?_) (fun cdv A outer s H vs Q E hr h => ?_)
  · obtain ⟨a, pa, h, n, g, x, y, rfl, _⟩ := h
    rfl
  · obtain ⟨a, pa, h, n, g, x, y, rfl, ha, hpa, hp, hx, q⟩ := h
    have nd := sc_split.nd
    refine ⟨_, (pss_cons (ps_asg (pv 0) (pg_tup rfl (pgs_cons (pg_name (i := 1) nd rfl (.inl rfl)) (pgs_cons (pg_name (i := 2) nd rfl (.inl rfl)) (pgs_cons (pg_name (i := 3) nd rfl (.inl rfl)) (pgs_cons (pg_name (i := 4) nd rfl (.inl rfl)) pgs_nil))))))
      (pss_cons (ps_set (i := 5) nd rfl (.inl rfl) (pe_f c_half hr rfl (pa_cons (pv 4) pa_nil)))
      (pss_one (ps_ret (pe_tup (pa_cons (pe_tup (pa_cons (pv 1) (pa_cons (pv 2) (pa_cons (pv 3) (pa_cons (pv 5) pa_nil))))) (pa_cons (pe_tup (pa_cons (pv 1) (pa_cons (pv 2) (pa_cons (pv 3) (pa_cons (pv 5) pa_nil))))) pa_nil))))))), ?_⟩
    refine ⟨_, rfl, a, _, rfl, SqT.of ha, rfl, _, _, rfl, _, _, rfl, _, _, rfl, _, _, rfl, rfl, ?_⟩
    refine ⟨_, rfl, pa, x, y, rfl, hpa, hp, hx, fun l nl => ?_⟩
    refine ⟨_, rfl, _, rfl, _, rfl, _, rfl, lens 4 (by decide), fun t nt => ?_⟩
    refine ⟨_, rfl, _, rfl, _, rfl, _, rfl, lens 4 (by decide), fun u nu => ⟨lens 2 (by decide), fun r nr => ?_⟩⟩
    have s1 : Same H (upd H l (.tup [.int x, .int (y * 2)])) := Same.up0 nl
    have s2 : Same (upd H l (.tup [.int x, .int (y * 2)])) _ := Same.up0 (o := .tup [.int h, .int n, .int g, .ref l]) nt
    have s3 := Same.up0 (o := .tup [.int h, .int n, .int g, .ref l]) nu
    have s4 := Same.up0 (o := .tup [.ref t, .ref u]) nr
    refine q _ r (((s1.trans s2).trans s3).trans s4) ?_
    have d1 : Dp K _ (.ref t) (addrD h n g x (y * 2)) := addr_dp (K := K) (upd_same (H := upd H l (.tup [.int x, .int (y * 2)])) (a := t)) (s2 _ _ upd_same)
    have d2 : Dp K _ (.ref u) (addrD h n g x (y * 2)) := addr_dp (K := K) upd_same (s3 _ _ (s2 _ _ upd_same))
    exact .tup (SqT.of upd_same) (.cons (dp_same s4 _ _ (dp_same s3 _ _ d1)) (.cons (dp_same s4 _ _ d2) .nil))
end
/-! ### the law -/
section
variable {P : Program} {w : World} {K : PySem.W.Frag} {mg : Str → Option Value} {base : Heap}
theorem ok_law {f : Addr} {fd : FuncData} (F : Fun K "law" "law" s_law f fd) (T : Bl mg) (c_law_bag : Cal P w K mg base 1 "_law_bag" (spBag K)) (c_law_take : Cal P w K mg base 1 "_law_take" spTake) (c_law_part : Cal P w K mg base 2 "_law_part" spPart)
    (c_law_half : Cal P w K mg base 1 "_law_half" spLHalf) (c_split : Cal P w K mg base 4 "split" (spSplit K)) : AtC P w K mg base L2.CX0 f fd "_law_script" (spLaw K) := by
  refine law_ok F sc_law (fun vs H Q E h => ?_) (fun cdv A outer s H vs Q E hgd hr h => ?_)
  · obtain ⟨a, ns, rfl, _⟩ := h
    rfl
  · obtain ⟨a, ns, rfl, hS, hlen, q⟩ := h
    have nd := sc_law.nd
    have hu64 := hr.units
    refine ⟨_, (pss_cons (ps_for PassesOwn.never rfl (pi_range1 rfl T.b_range (pa_cons (pe_callB (call_max2 rfl) (by rfl) T.b_max (by decide +kernel) (pa_cons pe_int (pa_cons (pe_callB (call_min2 rfl) (by rfl) T.b_min (by decide +kernel) (pa_cons pe_int (pa_cons (pe_callB call_len (by rfl) T.b_len (by decide +kernel) (pa_cons (pv 0) pa_nil)) pa_nil))) pa_nil))) pa_nil)) (pg_name (i := 1) nd rfl (.inl rfl))
        (pss_cons (ps_set (i := 2) nd rfl (.inl rfl) (pe_f c_law_bag hr rfl (pa_cons (pv 0) (pa_cons (pv 1) pa_nil))))
        (pss_cons (ps_set (i := 3) nd rfl (.inl rfl) (pe_tup (pa_cons (pe_f c_law_take hr rfl (pa_cons (pv 2) (pa_cons pe_int pa_nil))) (pa_cons (pe_f c_law_take hr rfl (pa_cons (pv 2) (pa_cons pe_int pa_nil))) (pa_cons (pe_f c_law_take hr rfl (pa_cons (pv 2) (pa_cons pe_int pa_nil))) (pa_cons (pe_f c_law_part hr rfl (pa_cons (pv 2) (pa_cons pe_int pa_nil))) pa_nil))))))
        (pss_cons (ps_set (i := 4) nd rfl (.inl rfl) (pe_op op_catT (pe_slice sl_tup (pv 3) po_none (po_some pe_int)) (pe_tup (pa_cons (pe_f c_law_half hr rfl (pa_cons (pe_ix ix_seq (pv 3) pe_int (fun _ _ => rfl)) pa_nil)) pa_nil))))
        (pss_one (ps_for PassesOwn.never rfl (pi_range1 rfl T.b_range (pa_cons pe_int pa_nil)) (pg_name (i := 5) nd rfl (.inl rfl))
          (pss_one (ps_if (pt_cmpR op_ne (pe_callB (reprD hgd hu64) (by rfl) T.b_repr (by decide +kernel) (pa_cons (pe_f c_split hr rfl (pa_cons (pv 3) pa_nil)) pa_nil)) (pe_callB (reprD hgd hu64) (by rfl) T.b_repr (by decide +kernel) (pa_cons (pe_tup (pa_cons (pv 4) (pa_cons (pv 4) pa_nil))) pa_nil)) (nomark _))
            (pss_one (ps_ret pe_bl))
            pss_nil))))))))
      (pss_one (ps_ret pe_bl))), ?_⟩
    obtain ⟨m, em, hm⟩ := cells_of ns.length 2 6 (by decide)
    refine ⟨_, rfl, .ref a, _, rfl, .inl ⟨_, hS, rfl⟩, _, _, rfl, _, _, rfl, (m : Int), ?_, by omega, by omega, ?_⟩
    · rw [List.length_map]
      exact congrArg (fun z => [V.int z]) em
    refine for_range (lo := 0) (n := m) (fun i σ H' => ∃ y1 y2 y3 y4 y5 : Option V, σ = [some (.ref a), y1, y2, y3, y4, y5] ∧ Same H H') ⟨_, _, _, _, _, rfl, Same.refl H⟩ ?_ ?_
    · rintro i σ H1 hi ⟨y1, y2, y3, y4, y5, rfl, s1⟩
      refine ⟨_, rfl, _, rfl, a, ns, _, rfl, s1.seq hS, by omega, by omega, by omega, fun H2 p s2 np hB => ?_⟩
      have s02 := s1.trans s2
      have np0 : H p = none := s1.free np
      -- the address
      refine ⟨_, rfl, p, _, rfl, hB, by decide, by decide, fun H3 h b3 hB3 h0 h1 => ?_⟩
      refine ⟨_, rfl, p, _, rfl, hB3, by decide, by decide, fun H4 n b4 hB4 n0 n1 => ?_⟩
      refine ⟨_, rfl, p, _, rfl, hB4, by decide, by decide, fun H5 g b5 hB5 g0 g1 => ?_⟩
      refine ⟨_, rfl, p, 60, rfl, hB5, by decide, fun H6 t x y g6 hB6 nt ht dr => ?_⟩
      have g16 : Grow p H1 H6 := ((Same.grow s2).trans ((b3.grow.trans b4.grow).trans b5.grow)).trans g6
      have s06 : Same H H6 := Grow.same s1 np0 g16
      refine ⟨lens 4 (by decide), fun ad nad => ?_⟩
      have sad := Same.up0 (o := .tup [.int h, .int n, .int g, .ref t]) nad
      -- the due answer
      refine ⟨_, rfl, _, rfl, ad, _, rfl, SqT.of upd_same, ?_, fun c nc => ?_⟩
      · show ¬ ((0 : Nat) = 0 ∧ (3 : Nat) = 4)
        decide
      have sc := Same.up0 (o := .tup (cutV [.int h, .int n, .int g, .ref t] none (some 3))) nc
      refine ⟨_, rfl, ixt (j := 3) (sc _ _ upd_same) rfl ⟨t, x, y, rfl, sc _ _ (sad _ _ ht), fun u nu => ?_⟩⟩
      have su := Same.up0 (o := .tup [.int x, .int (2 * y)]) nu
      refine ⟨lens 1 (by decide), fun v nv => ?_⟩
      have sv := Same.up0 (o := .tup [.ref u]) nv
      have ec : cutV [.int h, .int n, .int g, .ref t] none (some 3) = [.int h, .int n, .int g] := rfl
      refine ⟨c, v, [.int h, .int n, .int g], [.ref u], rfl, rfl, SqT.of (sv _ _ (su _ _ (by rw [← ec]; exact upd_same))), SqT.of upd_same, by simp, lens 4 (by decide), fun z => absurd z (by simp), fun _ le nle => ?_⟩
      have sle := Same.up0 (o := .tup ([.int h, .int n, .int g] ++ [.ref u])) nle
      have s6 : Same H6 _ := (((sad.trans sc).trans su).trans sv).trans sle
      generalize eH7 : upd _ le (.tup ([.int h, .int n, .int g] ++ [.ref u])) = H7 at sle s6
      have hle : H7 le = some (.tup [.int h, .int n, .int g, .ref u]) := by
        rw [← eH7]
        exact upd_same
      have had : H7 ad = some (.tup [.int h, .int n, .int g, .ref t]) := sle _ _ (sv _ _ (su _ _ (sc _ _ upd_same)))
      have hu : H7 u = some (.tup [.int x, .int (2 * y)]) := sle _ _ (sv _ _ upd_same)
      have ht7 : H7 t = some (.tup [.int x, .int y]) := s6 _ _ ht
      -- asked twice
      refine ⟨2, rfl, by decide, by decide, ?_⟩
      refine for_range (lo := 0) (n := 2) (fun i' σ H' => ∃ z : Option V, σ = [some (.ref a), some (.int (0 + (i : Nat))), some (.ref p), some (.ref ad), some (.ref le), z] ∧ Same H7 H') ⟨_, rfl, Same.refl H7⟩ ?_ ?_
      · rintro i' σ H8 hi' ⟨z, rfl, s8⟩
        have dsz := dr.size
        refine ⟨_, rfl, ad, t, h, n, g, x, y, rfl, s8 _ _ had, s8 _ _ ht7, dr.part, by have := dr.lo; omega, fun H9 r s9 d9 => ?_⟩
        have good : ∀ z : Int, z = y * 2 → (PyData.tuple [addrD h n g x z, addrD h n g x z]).showable = true ∧ (PyData.tuple [addrD h n g x z, addrD h n g x z]).leavesShort 64 = true := by
          intro z ez
          have a1 : h.natAbs < 10 ^ 60 := by omega
          have a2 : n.natAbs < 10 ^ 60 := by omega
          have a3 : g.natAbs < 10 ^ 60 := by omega
          have a4 : x.natAbs < 10 ^ 60 := Nat.lt_of_le_of_lt dsz.1 (by decide)
          have a5 : z.natAbs < 10 ^ 60 := by
            have : z.natAbs ≤ 2 ^ 61 := by omega
            exact Nat.lt_of_le_of_lt this (by decide)
          constructor
          · simp only [addrD, PyData.showable, PyData.showableAll, Bool.and_eq_true, decide_eq_true_eq, and_true]
            exact ⟨⟨leaf_show a1, leaf_show a2, leaf_show a3, leaf_show a4, leaf_show a5⟩, leaf_show a1, leaf_show a2, leaf_show a3, leaf_show a4, leaf_show a5⟩
          · simp only [addrD, PyData.leavesShort, PyData.leavesShortAll, Bool.and_eq_true, decide_eq_true_eq, and_true]
            exact ⟨⟨leaf_short a1, leaf_short a2, leaf_short a3, leaf_short a4, leaf_short a5⟩, leaf_short a1, leaf_short a2, leaf_short a3, leaf_short a4, leaf_short a5⟩
        refine ⟨_, _, rfl, d9, (good _ rfl).1, rfl, (by show (3 : Nat) ≤ 40; decide), shown_fits (good _ rfl).2 (by show (14 : Nat) ≤ 10000; decide), ?_⟩
        refine ⟨_, rfl, _, rfl, lens 2 (by decide), fun k nk => ?_⟩
        have sk := Same.up0 (o := .tup [.ref le, .ref le]) nk
        have dl : Dp K _ (.ref le) (addrD h n g x (2 * y)) := dp_same sk _ _ (dp_same s9 _ _ (dp_same s8 _ _ (addr_dp (K := K) hle hu)))
        have e2 : 2 * y = y * 2 := Int.mul_comm 2 y
        refine ⟨_, _, rfl, .tup (SqT.of upd_same) (.cons dl (.cons dl .nil)), (good _ e2).1, rfl, (by show (3 : Nat) ≤ 40; decide), shown_fits (good _ e2).2 (by show (14 : Nat) ≤ 10000; decide), rfl, _, rfl, ?_⟩
        rw [e2, decide_eq_true rfl]
        exact iteF ⟨_, rfl, (s8.trans s9).trans sk⟩
      · rintro σ H8 ⟨z, rfl, s8⟩
        exact ⟨_, _, _, _, _, rfl, (s06.trans s6).trans s8⟩
    · rintro σ H1 ⟨y1, y2, y3, y4, y5, rfl, s1⟩
      exact q H1
theorem at_law {f : Addr} {fd : FuncData} (F : Fun K "law" "law" s_law f fd) (T : Bl mg) (D_is_plain_int : DefIn K mg "is_plain_int" s_is_plain_int) (D_is_part : DefIn K mg "is_part" s_is_part) (D_half : DefIn K mg "half" s_half) (D_is_power_of_two : DefIn K mg "is_power_of_two" s_is_power_of_two)
    (D_split : DefIn K mg "split" s_split) (D_bag : DefIn K mg "_law_bag" s_l_bag) (D_take : DefIn K mg "_law_take" s_l_take) (D_part : DefIn K mg "_law_part" s_l_part) (D_lhalf : DefIn K mg "_law_half" s_l_half) : AtC P w K mg base L2.CX0 f fd "_law_script" (spLaw K) := by
  have c_take : Cal P w K mg base 1 "_law_take" spTake := cal_of D_take (fun _ _ F => ok_take F) fun _ _ _ _ _ _ us hl => match us, hl with | [_, _], _ => rfl
  have c_bag : Cal P w K mg base 1 "_law_bag" (spBag K) := cal_of D_bag (fun _ _ F => ok_bag F T) fun _ _ _ _ _ _ us hl => match us, hl with | [_, _], _ => rfl
  have c_plain : Cal P w K mg base 1 "is_plain_int" (spPlain K) := cal_of D_is_plain_int (fun _ _ F => ok_plain F T) fun _ _ _ _ _ _ us hl => match us, hl with | [_], _ => rfl
  have c_pow2 : Cal P w K mg base 1 "is_power_of_two" spPow2 := cal_of D_is_power_of_two (fun _ _ F => ok_pow2 F) fun _ _ _ _ _ _ us hl => match us, hl with | [_], _ => rfl
  have c_isPart : Cal P w K mg base 2 "is_part" (spIsPart K) := cal_of D_is_part (fun _ _ F => ok_isPart F T c_plain c_pow2) fun _ _ _ _ _ _ us hl => match us, hl with | [_], _ => rfl
  have c_half : Cal P w K mg base 3 "half" spHalf := cal_of D_half (fun _ _ F => ok_half F c_isPart) fun _ _ _ _ _ _ us hl => match us, hl with | [_], _ => rfl
  have c_split : Cal P w K mg base 4 "split" (spSplit K) := cal_of D_split (fun _ _ F => ok_split F c_half) fun _ _ _ _ _ _ us hl => match us, hl with | [_], _ => rfl
  have c_part : Cal P w K mg base 2 "_law_part" spPart := cal_of D_part (fun _ _ F => ok_part F T c_take) fun _ _ _ _ _ _ us hl => match us, hl with | [_, _], _ => rfl
  have c_lhalf : Cal P w K mg base 1 "_law_half" spLHalf := cal_of D_lhalf (fun _ _ F => ok_lhalf F) fun _ _ _ _ _ _ us hl => match us, hl with | [_], _ => rfl
  exact ok_law F T c_bag c_take c_part c_lhalf c_split
end
/-! ### what the top has written -/
theorem all_mk {l : PySem.W.OpenLaw} {w : World} {K : PySem.W.Frag} {h : Heap} {mg : Str → Option Value} {fa f0 f1 f2 f3 f4 f5 f6 f7 f8 f9 : Addr} (X : K.In h) (G : h.Ns mainGlobals mg) (hfa : mg "law" = some (.ref fa))
    {od0 an0 od1 an1 od2 an2 od3 an3 od4 an4 od5 an5 od6 an6 od7 an7 od8 an8 od9 an9 : Option Addr} {sl0 sl1 sl2 sl3 sl4 sl5 sl6 sl7 sl8 sl9 : Array (Option Value)} {oc0 kV0 dc0 pm0 cd0 ct0 oc1 kV1 dc1 pm1 cd1 ct1 oc2 kV2 dc2 pm2 cd2 ct2 oc3 kV3 dc3 pm3 cd3 ct3 oc4 kV4 dc4 pm4 cd4 ct4 oc5 kV5 dc5 pm5 cd5 ct5 oc6 kV6 dc6 pm6 cd6 ct6 oc7 kV7 dc7 pm7 cd7 ct7 oc8 kV8 dc8 pm8 cd8 ct8 oc9 kV9 dc9 pm9 cd9 ct9 : Value}
    (a0 : PySem.W.nsIn K mainGlobals "is_plain_int" = some (some (.ref f0))) (l0 : K.lookup f0 = some ⟨oc0, od0, .func (PySem.W.fnOf "is_plain_int" "is_plain_int" (defArgs s_is_plain_int) (defBody s_is_plain_int) (defScope s_is_plain_int) .none kV0 dc0 pm0 an0 cd0 ct0), sl0⟩)
    (c0 : PySem.W.codeIn K cd0 "is_plain_int" = true) (k0 : PySem.W.keepIn K (.ref f0) = true)
    (a1 : PySem.W.nsIn K mainGlobals "is_part" = some (some (.ref f1))) (l1 : K.lookup f1 = some ⟨oc1, od1, .func (PySem.W.fnOf "is_part" "is_part" (defArgs s_is_part) (defBody s_is_part) (defScope s_is_part) .none kV1 dc1 pm1 an1 cd1 ct1), sl1⟩)
    (c1 : PySem.W.codeIn K cd1 "is_part" = true) (k1 : PySem.W.keepIn K (.ref f1) = true)
    (a2 : PySem.W.nsIn K mainGlobals "half" = some (some (.ref f2))) (l2 : K.lookup f2 = some ⟨oc2, od2, .func (PySem.W.fnOf "half" "half" (defArgs s_half) (defBody s_half) (defScope s_half) .none kV2 dc2 pm2 an2 cd2 ct2), sl2⟩)
    (c2 : PySem.W.codeIn K cd2 "half" = true) (k2 : PySem.W.keepIn K (.ref f2) = true)
    (a3 : PySem.W.nsIn K mainGlobals "is_power_of_two" = some (some (.ref f3))) (l3 : K.lookup f3 = some ⟨oc3, od3, .func (PySem.W.fnOf "is_power_of_two" "is_power_of_two" (defArgs s_is_power_of_two) (defBody s_is_power_of_two) (defScope s_is_power_of_two) .none kV3 dc3 pm3 an3 cd3 ct3), sl3⟩)
    (c3 : PySem.W.codeIn K cd3 "is_power_of_two" = true) (k3 : PySem.W.keepIn K (.ref f3) = true)
    (a4 : PySem.W.nsIn K mainGlobals "split" = some (some (.ref f4))) (l4 : K.lookup f4 = some ⟨oc4, od4, .func (PySem.W.fnOf "split" "split" (defArgs s_split) (defBody s_split) (defScope s_split) .none kV4 dc4 pm4 an4 cd4 ct4), sl4⟩)
    (c4 : PySem.W.codeIn K cd4 "split" = true) (k4 : PySem.W.keepIn K (.ref f4) = true)
    (a5 : PySem.W.nsIn K mainGlobals "_law_bag" = some (some (.ref f5))) (l5 : K.lookup f5 = some ⟨oc5, od5, .func (PySem.W.fnOf "_law_bag" "_law_bag" (defArgs s_l_bag) (defBody s_l_bag) (defScope s_l_bag) .none kV5 dc5 pm5 an5 cd5 ct5), sl5⟩)
    (c5 : PySem.W.codeIn K cd5 "_law_bag" = true) (k5 : PySem.W.keepIn K (.ref f5) = true)
    (a6 : PySem.W.nsIn K mainGlobals "_law_take" = some (some (.ref f6))) (l6 : K.lookup f6 = some ⟨oc6, od6, .func (PySem.W.fnOf "_law_take" "_law_take" (defArgs s_l_take) (defBody s_l_take) (defScope s_l_take) .none kV6 dc6 pm6 an6 cd6 ct6), sl6⟩)
    (c6 : PySem.W.codeIn K cd6 "_law_take" = true) (k6 : PySem.W.keepIn K (.ref f6) = true)
    (a7 : PySem.W.nsIn K mainGlobals "_law_part" = some (some (.ref f7))) (l7 : K.lookup f7 = some ⟨oc7, od7, .func (PySem.W.fnOf "_law_part" "_law_part" (defArgs s_l_part) (defBody s_l_part) (defScope s_l_part) .none kV7 dc7 pm7 an7 cd7 ct7), sl7⟩)
    (c7 : PySem.W.codeIn K cd7 "_law_part" = true) (k7 : PySem.W.keepIn K (.ref f7) = true)
    (a8 : PySem.W.nsIn K mainGlobals "_law_half" = some (some (.ref f8))) (l8 : K.lookup f8 = some ⟨oc8, od8, .func (PySem.W.fnOf "_law_half" "_law_half" (defArgs s_l_half) (defBody s_l_half) (defScope s_l_half) .none kV8 dc8 pm8 an8 cd8 ct8), sl8⟩)
    (c8 : PySem.W.codeIn K cd8 "_law_half" = true) (k8 : PySem.W.keepIn K (.ref f8) = true)
    (a9 : PySem.W.nsIn K mainGlobals "law" = some (some (.ref f9))) (l9 : K.lookup f9 = some ⟨oc9, od9, .func (PySem.W.fnOf "law" "law" (defArgs s_law) (defBody s_law) (defScope s_law) .none kV9 dc9 pm9 an9 cd9 ct9), sl9⟩)
    (c9 : PySem.W.codeIn K cd9 "law" = true) (k9 : PySem.W.keepIn K (.ref f9) = true)
    (z_ArithmeticError : PySem.W.nsIn K mainGlobals "ArithmeticError" = some none)
    (z_abs : PySem.W.nsIn K mainGlobals "abs" = some none)
    (z_bool : PySem.W.nsIn K mainGlobals "bool" = some none)
    (z_enumerate : PySem.W.nsIn K mainGlobals "enumerate" = some none)
    (z_int : PySem.W.nsIn K mainGlobals "int" = some none)
    (z_isinstance : PySem.W.nsIn K mainGlobals "isinstance" = some none)
    (z_len : PySem.W.nsIn K mainGlobals "len" = some none)
    (z_max : PySem.W.nsIn K mainGlobals "max" = some none)
    (z_min : PySem.W.nsIn K mainGlobals "min" = some none)
    (z_range : PySem.W.nsIn K mainGlobals "range" = some none)
    (z_repr : PySem.W.nsIn K mainGlobals "repr" = some none)
    (z_tuple : PySem.W.nsIn K mainGlobals "tuple" = some none)
    : ∃ fd : FuncData, (∀ (s : Shared) (v : Value), BindsTo s fd ⟨[v], []⟩ [("_law_script", v)]) ∧ ∀ base : Heap, K.In base → base.Ns mainGlobals mg → AtC l.prog w K mg base L2.CX0 fa fd "_law_script" (spLaw K) := by
  have e := hfa.symm.trans (PySem.W.mg_of X G a9)
  cases e
  have T : Bl mg := ⟨PySem.W.mg_none_of X G z_ArithmeticError, PySem.W.mg_none_of X G z_abs, PySem.W.mg_none_of X G z_bool, PySem.W.mg_none_of X G z_enumerate, PySem.W.mg_none_of X G z_int, PySem.W.mg_none_of X G z_isinstance, PySem.W.mg_none_of X G z_len, PySem.W.mg_none_of X G z_max, PySem.W.mg_none_of X G z_min, PySem.W.mg_none_of X G z_range, PySem.W.mg_none_of X G z_repr, PySem.W.mg_none_of X G z_tuple⟩
  have D_is_plain_int : DefIn K mg "is_plain_int" s_is_plain_int := ⟨f0, _, fun_mk (st := s_is_plain_int) l0 c0 k0, PySem.W.mg_of X G a0⟩
  have D_is_part : DefIn K mg "is_part" s_is_part := ⟨f1, _, fun_mk (st := s_is_part) l1 c1 k1, PySem.W.mg_of X G a1⟩
  have D_half : DefIn K mg "half" s_half := ⟨f2, _, fun_mk (st := s_half) l2 c2 k2, PySem.W.mg_of X G a2⟩
  have D_is_power_of_two : DefIn K mg "is_power_of_two" s_is_power_of_two := ⟨f3, _, fun_mk (st := s_is_power_of_two) l3 c3 k3, PySem.W.mg_of X G a3⟩
  have D_split : DefIn K mg "split" s_split := ⟨f4, _, fun_mk (st := s_split) l4 c4 k4, PySem.W.mg_of X G a4⟩
  have D_l_bag : DefIn K mg "_law_bag" s_l_bag := ⟨f5, _, fun_mk (st := s_l_bag) l5 c5 k5, PySem.W.mg_of X G a5⟩
  have D_l_take : DefIn K mg "_law_take" s_l_take := ⟨f6, _, fun_mk (st := s_l_take) l6 c6 k6, PySem.W.mg_of X G a6⟩
  have D_l_part : DefIn K mg "_law_part" s_l_part := ⟨f7, _, fun_mk (st := s_l_part) l7 c7 k7, PySem.W.mg_of X G a7⟩
  have D_l_half : DefIn K mg "_law_half" s_l_half := ⟨f8, _, fun_mk (st := s_l_half) l8 c8 k8, PySem.W.mg_of X G a8⟩
  exact ⟨PySem.W.fnOf "law" "law" (defArgs s_law) (defBody s_law) (defScope s_law) .none kV9 dc9 pm9 an9 cd9 ct9, fun s v => .of_eq rfl, fun base _ _ => at_law (fun_mk (st := s_law) l9 c9 k9) T D_is_plain_int D_is_part D_half D_is_power_of_two D_split D_l_bag D_l_take D_l_part D_l_half⟩
end Tp
open PySem PySem.W PyProof.Rows in
set_option maxRecDepth 100000 in
set_option maxHeartbeats 0 in
theorem PySem.Challenge.cw_trailparts_k05_addresses_split_holds : PySem.Challenge.rw_trailparts_k05_addresses_split.Holds := by
  w_on; o_law; k_head; (case hw => w_witness2)
  k_fill
  refine Tp.walk_at_law (l := PySem.Challenge.rw_trailparts_k05_addresses_split) (n := 63) (CX := L2.CX0) (sp := Tp.spLaw) (x := "_law_script") rfl (by decide) rfl (fun w h Y => PySem.W.kIn_of Y) ?F (fun _ _ a ns hl _ hS => ⟨a, ns, rfl, hS, hl, fun _ => rfl⟩) (fun _ _ _ _ z => z)
  case F =>
    intro w mg fa h KX G hmg
    refine' Tp.all_mk KX G hmg ?a0 ?l0 ?c0 ?k0 ?a1 ?l1 ?c1 ?k1 ?a2 ?l2 ?c2 ?k2 ?a3 ?l3 ?c3 ?k3 ?a4 ?l4 ?c4 ?k4 ?a5 ?l5 ?c5 ?k5 ?a6 ?l6 ?c6 ?k6 ?a7 ?l7 ?c7 ?k7 ?a8 ?l8 ?c8 ?k8 ?a9 ?l9 ?c9 ?k9 ?z_ArithmeticError ?z_abs ?z_bool ?z_enumerate ?z_int ?z_isinstance ?z_len ?z_max ?z_min ?z_range ?z_repr ?z_tuple
    (case a0 => k_is)
    (case l0 => k_is)
    (case c0 => k_is)
    (case k0 => k_is)
    (case a1 => k_is)
    (case l1 => k_is)
    (case c1 => k_is)
    (case k1 => k_is)
    (case a2 => k_is)
    (case l2 => k_is)
    (case c2 => k_is)
    (case k2 => k_is)
    (case a3 => k_is)
    (case l3 => k_is)
    (case c3 => k_is)
    (case k3 => k_is)
    (case a4 => k_is)
    (case l4 => k_is)
    (case c4 => k_is)
    (case k4 => k_is)
    (case a5 => k_is)
    (case l5 => k_is)
    (case c5 => k_is)
    (case k5 => k_is)
    (case a6 => k_is)
    (case l6 => k_is)
    (case c6 => k_is)
    (case k6 => k_is)
    (case a7 => k_is)
    (case l7 => k_is)
    (case c7 => k_is)
    (case k7 => k_is)
    (case a8 => k_is)
    (case l8 => k_is)
    (case c8 => k_is)
    (case k8 => k_is)
    (case a9 => k_is)
    (case l9 => k_is)
    (case c9 => k_is)
    (case k9 => k_is)
    (case z_ArithmeticError => k_is)
    (case z_abs => k_is)
    (case z_bool => k_is)
    (case z_enumerate => k_is)
    (case z_int => k_is)
    (case z_isinstance => k_is)
    (case z_len => k_is)
    (case z_max => k_is)
    (case z_min => k_is)
    (case z_range => k_is)
    (case z_repr => k_is)
    (case z_tuple => k_is)
#print axioms PySem.Challenge.cw_trailparts_k05_addresses_split_holds
