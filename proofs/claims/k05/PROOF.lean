import PyProof.Rows.All
import Wide.All
import OpenK.AllK
import Wide.FinOn
import PyProof.ReprRoads
import HandS.ForMost
import HandS.Evl
import HandS.EndBits
import HandS.Wide
import HandS.IsInst
import HandS.Style
import HandS.Codes
import HandS.Walk
import HandS.Defaults
import HandS.Property
import HandS.ForExc
import HandS.Small
import HandS.SlotsOwn
import HandS.MakeKw
import HandS.MakeKwOnly
import HandS.Gcd
import HandS.ClsMeth
import HandS.FStr
import HandS.CallSlots
import HandS.DeepEq
import PySem.Challenge.RW_saidchances_k05_ratios
set_option Elab.async false
set_option linter.all false
set_option maxRecDepth 100000
set_option maxHeartbeats 2000000
namespace L2
open PySem PySem.Spec PyProof.Rows
section
variable {X : Cx}
/-- repr of data without dicts -/
def rRepr (K : PySem.W.Frag) : List V → Hp → VK → Prop := fun vs H Q => ∃ v d, vs = [v] ∧ Dp K H v d ∧ (∃ a, v = .ref a) ∧ d.showable = true ∧ d.hasDict = false ∧ d.depth ≤ 60 ∧ d.shown.length ≤ sizeLine ∧ Q (.str d.shown) H
theorem cr_repr (hu : X.A.units + 64 < cLine) (hgd : X.A.guards = some []) : CallR X (.builtin "repr") (rRepr X.K) := by
  intro pins s σ H vs us Q I r h
  obtain ⟨v, d, rfl, hd, ⟨a, rfl⟩, hs, hn, hdp, hl, q⟩ := h
  obtain ⟨u, rfl, ru⟩ := vals1 r
  obtain ⟨as, hr⟩ := Dp.reads I d _ u hd ru
  cases ru
  refine repr_of_reads' hr hs (PyData.noDict_hsm hn) hgd (by omega) (fun b o e => e) (fun h' u tk hk => ?_) hl
  refine ⟨.str _, H, I.kept fun b o eo => hk b o eo, ⟨_, rfl⟩, q⟩
end
end L2
/-! ### defs that may show lists: no repr runs around them -/
namespace L2
open PySem PySem.Spec PyProof.Rows
structure FnG (P : Program) (w : World) (K : PySem.W.Frag) (mg : Str → Option Value) (base : Heap) (CX : CXT) (k : Nat) (f : Addr) (fd : FuncData) (ps : List Str) (sp : Sp) : Prop where
  size : ∀ vs H Q E, sp vs H Q E → vs.length = ps.length
  goes : ∀ (A : Around) (o : List Env) (s : Shared) (H : Hp) (ar : Args) (us : List Value) (vs : List V) (Q : VK) (E : XK), A.guards = some [] → Room k A →
    Env0 P w K mg base A o s H → BindsTo s fd ar (ps.zip us) → Vals vs us → sp vs H Q E → codeAny (model P w) A (.call (.ref f) ar) (CR CX o P w H s Q E) s
section
variable {P : Program} {w : World} {K : PySem.W.Frag} {mg : Str → Option Value} {base : Heap} {CX : CXT} {k : Nat} {f : Addr} {fd : FuncData} {ps : List Str} {sp : Sp}
theorem FnOk.g (F : FnOk P w K mg base CX k f fd ps sp) : FnG P w K mg base CX k f fd ps sp := ⟨F.len, fun A o s H ar us vs Q E _ => F.run A o s H ar us vs Q E⟩
theorem FnG.up {j : Nat} (F : FnG P w K mg base CX j f fd ps sp) (h : j ≤ k) : FnG P w K mg base CX k f fd ps sp := ⟨F.size, fun A o s H ar us vs Q E g hr => F.goes A o s H ar us vs Q E g (hr.mono h)⟩
theorem Fun.okG {x qual : Str} {st : Stmt} {N : List Str} (F : Fun K x qual st f fd) (S : FnScope N ps (defScope st)) (len : ∀ vs H Q E, sp vs H Q E → vs.length = ps.length)
    (hb : ∀ (cv : Value) (A : Around) (o : List Env) (s : Shared) (H : Hp) (vs : List V) (Q : VK) (E : XK), A.guards = some [] → Room k (A.deeper (envOfC qual (defScope st) s.heap.objs.size f cv)) → sp vs H Q E →
      ∃ t, PSs (cxOf CX P w K mg base N qual (defScope st) f cv A o s H E) (defBody st) t ∧ t { nx := fun _ H' => Q .non H', rt := Q } (start N vs) H) : FnG P w K mg base CX (k + 1) f fd ps sp := by
  obtain ⟨oc, od, kV, doc, pm, an, cv, ct, sl, rfl, lk, cd⟩ := F.ex
  refine ⟨len, fun A o s H ar us vs Q E g hr e hbi rv hs => ?_⟩
  have in0 := e.mod.kin.keeps fun b u z => (e.bs b u z).1
  have nl := e.mod.nolimit.keeps fun b u z => (e.bs b u z).1
  have sz := len _ _ _ _ hs
  have kinds : ∀ y ∈ ps.zip us, (defScope st).names.lookup y.1 = some .local ∨ ((defScope st).names.lookup y.1 = some .cell ∧ ((cellsFrom (s.heap.objs.size + 1) (defScope st).names []).lookup y.1).isSome = true) := by
    rintro ⟨n, v⟩ hy
    cases S.par n (List.of_mem_zip hy).1 with
    | inl q => exact Or.inl q
    | inr q => exact Or.inr (And.intro q (PySem.W.cellsFrom_some _ _ _ (Or.inl q)))
  refine codeAny_call_function hr.depth (in0 _ _ lk) rfl S.co S.gen rfl (PySem.W.codeRec_of in0 cd) (hbi _ _ _ _ (wpAny_newFunctionEnv_cells S.kind kinds ?_))
  rintro env rfl s1 x
  obtain ⟨t, ht, hq⟩ := hb cv A o s H vs Q E g (Room.deeper hr _) hs
  have J : Inv (cxOf CX P w K mg base N qual (defScope st) f cv A o s H E) [] (start N vs) H s1 := inv_start S hr.hd e sz rv x
  refine And.intro (nl.keeps x.toInCall.keep) (codeAny_func (wpAny_mono (PSs.run ht [] s1 (start N vs) H _ J hq) (fun fl s' z => ?_) (fun _ _ z => z)))
  have fin {σ' : St} {H' : Hp} {v : V} {u : Value} (I : Inv (cxOf CX P w K mg base N qual (defScope st) f cv A o s H E) [] σ' H' s') (rv : RelV v u) (q : Q v H') : CE o P w H s Q u s' :=
    Exists.intro v (Exists.intro H' (And.intro I.os (And.intro I.bare (And.intro I.base (And.intro I.hok (And.intro rv q))))))
  match fl, z with
  | .ret u, ⟨v, σ', H', I, rv, q⟩ => exact fin I rv q
  | .next, ⟨σ', H', I, q⟩ => exact fin (v := .non) (u := .none) I rfl q
  | .brk, ⟨_, _, _, q⟩ => exact q.elim
  | .cont, ⟨_, _, _, q⟩ => exact q.elim
end
section
variable {X : Cx} {CX : CXT} {k : Nat} {f : Addr} {fd : FuncData} {ps : List Str} {sp : Sp} {dvs : List V} {ds : List Value} {E : XK} {x : Str} {p pos : Pos} {e : Expr} {es : List Expr} {t : TA}
theorem goesG {pins : List (Addr × Obj)} {σ : St} {H : Hp} {s : Shared} {Q : VK} {us : List Value} {vs : List V} (F : FnG X.prog X.w X.K X.mg X.base CX k f fd ps sp) (g : X.A.guards = some []) (hr : Room k X.A) (hb : Binds X.K fd ps ds) (hd : Vals dvs ds) (hx : Passes CX X E)
    (I : Inv X pins σ H s) (r : Vals vs us) (h : sp (vs ++ dvs) H Q E) : wpAny (model X.prog X.w) X.A (call (.ref f) us) (EP X pins σ Q) X.xe s := by
  have rr := Vals.append r hd
  have sz : (us ++ ds).length = ps.length := (rr.length).symm.trans (F.size _ _ _ _ h)
  refine wpAny_call (codeAny_mono (F.goes X.A X.stack s H _ (us ++ ds) (vs ++ dvs) Q E g hr I.env0 (hb s us I.kIn sz) rr h) ?_)
  intro r s' hq
  match r, hq with
  | .error er, hq => exact hx pins σ H s er s' I hq
  | .ok (.ret u), hq => exact Inv.after I hq
theorem pe_callG (F : FnG X.prog X.w X.K X.mg X.base CX k f fd ps sp) (g : X.A.guards = some []) (hr : Room k X.A) (hg : Gl X x) (hm : X.mg x = some (.ref f)) (hk : PySem.W.keepIn X.K (.ref f) = true) (hb : Binds X.K fd ps ds) (hd : Vals dvs ds) (hx : Passes CX X E)
    (ha : PA X (e :: es) t) (nd : (x == ("__debug__" : Str)) = false := by decide) (he : starEach (e :: es) X.env = (false, eval e X.env) :: starEach es X.env := by rfl) (hpl : (backTo pos (starEach es X.env)).any (·.1) = false := by rfl) :
    PE X (.Call (.Name x p) (e :: es) [] pos) (tCall sp dvs E t) := .mk fun pins s σ H Q I h =>
  wpAny_Call_Name_kw (ld_glob I hg hm (PySem.W.callWith_K (h₀ := X.base) I.ok.mod.kin hk (thn (ha.run pos pins s σ H _ I h) fun us s1 ⟨vs, H1, I1, r, q⟩ => ⟨I1.kIn, goesG F g hr hb hd hx I1 r q⟩) he hpl) nd)
end
end L2

namespace L2
open PySem PySem.Spec PyProof.Rows
theorem hp_no {H : Hp} {h : Heap} {a b : Addr} {vs : List Value} (only : ∀ b, H b ≠ none → b = a) (ha : h.get? a = some { cls := .type "list", data := .seq vs.toArray }) {o : Obj} (e : h.get? b = some o) (ne : ∀ n, o.data ≠ .seq vs.toArray n) : H b = none := by
  by_cases z : H b = none
  · exact z
  · have q := only b z
    rw [q, ha] at e
    cases e
    exact (ne _ rfl).elim
theorem env_start {P : Program} {w : World} {K : PySem.W.Frag} {mg mb : Str → Option Value} {a : Addr} {s : Shared} {vs : List Value} {H : Hp} (KX : K.In s.heap) (hm : s.heap.Ns mainGlobals mg) (hb : s.heap.Ns builtinsNs mb)
    (boot : ∀ x : Str, x ≠ "__name__" → mb x = bootBuiltins x) (nl : s.heap.NoLimit) (hg : s.gens = #[]) (ha : s.heap.get? a = some { cls := .type "list", data := .seq vs.toArray })
    (hok : HOk P w H s.heap) (only : ∀ b, H b ≠ none → b = a) (nK : H a ≠ none → K.lookup a = none) : K.In (hidT s.heap H) ∧ (hidT s.heap H).Ns mainGlobals mg ∧ Env0 P w K mg (hidT s.heap H) callerA [] s H := by
  have dn {c : Addr} {m : Str → Option Value} (n : s.heap.Ns c m) : (hidT s.heap H).Ns c m := by
    obtain ⟨o, es, ep, e, d, r⟩ := n
    refine Exists.intro o (Exists.intro es (Exists.intro ep (And.intro (hidT_get e (hp_no only ha e fun n q => ?_)) (And.intro d r))))
    rw [d] at q
    cases q
  have kx : K.In (hidT s.heap H) := by
    intro b o e
    refine hidT_get (KX b o e) ?_
    by_cases z : H b = none
    · exact z
    · have q := only b z
      subst q
      rw [nK z] at e
      cases e
  obtain ⟨mc, l1, l2⟩ := nl
  exact And.intro kx (And.intro (dn hm) { frames := rfl, mod := ⟨kx, dn hm, ⟨mb, dn hb, boot⟩, ⟨mc, dn l1, l2⟩⟩, bs := fun b o e => of_hidT e, bsz := Nat.le_of_eq (hidT_size _ _), funs := trivial, frf := (fun b hb => by cases hb), hok := hok, bare := .of_eq hg })
theorem law_goG {P : Program} {w : World} {K : PySem.W.Frag} {mg mb : Str → Option Value} {k : Nat} {fa a : Addr} {fd : FuncData} {x : Str} {sp : Sp} {s : Shared} {vs : List Value} {ns : List Int} (KX : K.In s.heap) (hm : s.heap.Ns mainGlobals mg) (hb : s.heap.Ns builtinsNs mb)
    (boot : ∀ x : Str, x ≠ "__name__" → mb x = bootBuiltins x) (nl : s.heap.NoLimit) (hg : s.gens = #[]) (ha : s.heap.get? a = some { cls := .type "list", data := .seq vs.toArray }) (hi : IntsAre vs ns) (hl : ns.length ≤ sizeLine) (hr : Room k callerA)
    (F : ∀ base : Heap, K.In base → base.Ns mainGlobals mg → FnG P w K mg base CX0 k fa fd [x] sp) (bind : ∀ (s : Shared) (u : Value), BindsTo s fd ⟨[u], []⟩ [(x, u)])
    (hsp : ∀ H : Hp, Only H → SqL K H a (ns.map V.int) → sp [.ref a] H (fun v _ => v = .bl true) fun _ _ _ => False) :
    codeAny (model P w) callerA (.call (.ref fa) ⟨[.ref a], []⟩) (fun r s' => r = .ok (.ret (.bool true)) ∧ OldK s.heap s'.heap ∧ s'.os = s.os ∧ AllBare s'.gens) s := by
  have rv := vals_ints hi
  have go (H : Hp) (hO : Only H) (hS : SqL K H a (ns.map V.int)) (hok : HOk P w H s.heap) (only : ∀ b, H b ≠ none → b = a) (nK : H a ≠ none → K.lookup a = none) :
      codeAny (model P w) callerA (.call (.ref fa) ⟨[.ref a], []⟩) (fun r s' => r = .ok (.ret (.bool true)) ∧ OldK s.heap s'.heap ∧ s'.os = s.os ∧ AllBare s'.gens) s := by
    obtain ⟨kx, nm, e0⟩ := env_start KX hm hb boot nl hg ha hok only nK
    refine codeAny_mono ((F _ kx nm).goes callerA [] s H _ [.ref a] [.ref a] _ _ rfl hr e0 (bind s (.ref a)) (.cons rfl .nil) (hsp H hO hS)) ?_
    intro r s' h
    match r, h with
    | .ok (.ret u), ⟨v, H', os, bare, un, hok', ru, qv⟩ =>
      have hv : v = V.bl true := qv
      rw [hv] at ru
      have hu : u = Value.bool true := ru
      rw [hu]
      refine And.intro rfl (And.intro (OldK.of_keep fun b o e => ?_) (And.intro os bare))
      by_cases z : H b = none
      · exact un.keep b o e z (fun z => by cases z) (fun z => by cases z)
      · cases hO b with
        | inl q => exact (z q).elim
        | inr q =>
          obtain ⟨ob, xs, q⟩ := q
          have o1 := (hok b _ q).1
          have o2 := (hok' b _ (un.frzs b ob _ q)).1
          rw [e] at o1
          cases o1
          exact o2
  by_cases hk : K.lookup a = none
  · refine go (fun b => if b = a then some (.frz { cls := .type "list", data := .seq vs.toArray } (.lst (ns.map V.int))) else none) (fun b => ?_) (Or.inl (Or.inr (Exists.intro _ (if_pos rfl)))) (fun b u z => ?_) (fun b z => ?_) (fun _ => hk)
    · by_cases e : b = a
      · exact Or.inr (Exists.intro _ (Exists.intro _ (if_pos e)))
      · exact Or.inl (if_neg e)
    · by_cases e : b = a
      · replace z := (if_pos e).symm.trans z
        cases z
        subst e
        exact And.intro ha (And.intro (by rw [List.length_map]; exact hl) (Exists.intro vs (Exists.intro _ (And.intro rv ha))))
      · replace z := (if_neg e).symm.trans z
        cases z
    · by_cases e : b = a
      · exact e
      · exact (z (if_neg e)).elim
  · obtain ⟨o, e⟩ := Option.ne_none_iff_exists'.mp hk
    have e2 := KX a o e
    rw [ha] at e2
    cases e2
    refine go (fun _ => none) (fun _ => Or.inl rfl) (Or.inr ⟨_, vs.toArray, _, e, rfl, rfl, rfl, ?_, by simpa using rv⟩) (fun b u z => by cases z) (fun b z => (z rfl).elim) (fun z => (z rfl).elim)
    rw [List.size_toArray, hi.length]
    exact hl
theorem walk_ofG {l : PySem.W.OpenLaw} {n k : Nat} {q : Program} {loose : List Str} {XP : (Str → Option Value) → Heap → Prop} {YP : World → Heap → Prop} {d : DefRec} {K : Params → PySem.W.Frag} {sp : World → Sp} {x : Str} (hn : l.most = some n) (hn2 : n ≤ sizeLine)
    (hdf : d.params.defaults = []) (hr : Room k callerA) (hY : ∀ (w : World) (h : Heap), YP w h → (K w.params).In h)
    (F : ∀ (w : World) (mg : Str → Option Value) (fa : Addr) (h : Heap), (K w.params).In h → h.Ns mainGlobals mg → mg d.name = some (.ref fa) → ∃ fd : FuncData, (∀ (s : Shared) (u : Value), BindsTo s fd ⟨[u], []⟩ [(x, u)]) ∧
      ∀ base : Heap, (K w.params).In base → base.Ns mainGlobals mg → FnG l.prog w (K w.params) mg base CX0 k fa fd [x] (sp w))
    (hsp : ∀ (w : World) (H : Hp) (a : Addr) (ns : List Int), ns.length ≤ n → (∀ z ∈ ns, Builtin.Int.intBits z ≤ 1048576) → Only H → SqL (K w.params) H a (ns.map V.int) → sp w [.ref a] H (fun v _ => v = .bl true) fun _ _ _ => False) :
    PySem.W.WalkO q loose XP YP l.row.toRowW d [] (fun f vs => PySem.call f vs) := by
  refine Att.attach_callB hn hdf ?_
  intro w s0 s1 mg mb fa o pm cd doc a vs ns G Y ho hd hcd hmg hobj hints hlen hbits hg
  have KX := hY w _ Y
  obtain ⟨fd, hb, hF⟩ := F w mg fa _ KX G.T.g hmg
  exact law_goG KX G.T.g G.T.b G.T.builtins G.T.nolimit hg hobj hints (Nat.le_trans hlen hn2) hr hF hb (fun H hO hS => hsp w H a ns hlen hbits hO hS)
end L2
set_option Elab.async false
set_option linter.all false
set_option maxRecDepth 100000
set_option maxHeartbeats 2000000
namespace LawK
open PySem PySem.Spec PyProof.Rows L2 Evl
/-! ### data -/
theorem dp_ints {K : PySem.W.Frag} {H : Hp} : ∀ xs : List Int, DpAll K H (xs.map V.int) (xs.map PyData.int)
  | [] => .nil
  | x :: r => .cons (.int x) (dp_ints r)
theorem lay_ints : ∀ xs : List Int, PyData.canLayAll0 (xs.map PyData.int) = true
  | [] => rfl
  | x :: r => by
    show (PyData.canLay0 (.int x) && PyData.canLayAll0 (r.map PyData.int)) = true
    rw [lay_ints r]
    rfl
theorem dep_ints : ∀ xs : List Int, PyData.depthAll (xs.map PyData.int) ≤ 1
  | [] => by decide
  | x :: r => by
    have h := dep_ints r
    show max (PyData.depth (.int x)) (PyData.depthAll (r.map PyData.int)) ≤ 1
    have : PyData.depth (.int x) ≤ 1 := by show 0 ≤ 1; decide
    omega
theorem shaped_ints (xs : List Int) : SeqAt.shaped (.list (xs.map PyData.int)) = true := by
  unfold SeqAt.shaped
  rw [Bool.and_eq_true]
  refine ⟨lay_ints xs, decide_eq_true ?_⟩
  have h := dep_ints xs
  show PyData.depthAll (xs.map PyData.int) + 1 ≤ 64
  omega
theorem eqv_nil : ∀ xs : List Int, PyData.eqv (.list (xs.map PyData.int)) (.list []) = xs.isEmpty
  | [] => rfl
  | x :: r => rfl
end LawK
/-! ### the law's state: a list at p of a list at a, a list at b, and a count; G is what else is known -/
namespace LawK
open PySem PySem.Spec PyProof.Rows L2 Evl
structure SBe (G H : Hp) (p a b : Addr) (xs ys : List Int) (n : Int) : Prop where
  ex : Ex G H
  hp : H p = some (.lst [.ref a, .ref b, .int n])
  ha : H a = some (.lst (xs.map V.int))
  hb : H b = some (.lst (ys.map V.int))
  gp : G p = none
  ga : G a = none
  gb : G b = none
  ap : a ≠ p
  bp : b ≠ p
  ab : a ≠ b
theorem SBe.ext {G H H2 : Hp} {p a b : Addr} {xs ys : List Int} {n : Int} (S : SBe G H p a b xs ys n) (e : Ex H H2) : SBe G H2 p a b xs ys n :=
  ⟨S.ex.trans e, e _ _ S.hp, e _ _ S.ha, e _ _ S.hb, S.gp, S.ga, S.gb, S.ap, S.bp, S.ab⟩
theorem SBe.setn {G H : Hp} {p a b : Addr} {xs ys : List Int} {n k : Int} (S : SBe G H p a b xs ys n) : SBe G (upd H p (.lst [.ref a, .ref b, .int k])) p a b xs ys k :=
  ⟨S.ex.mut S.gp, upd_same, by rw [upd_ne S.ap]; exact S.ha, by rw [upd_ne S.bp]; exact S.hb, S.gp, S.ga, S.gb, S.ap, S.bp, S.ab⟩
theorem SBe.seta {G H : Hp} {p a b : Addr} {xs zs ys : List Int} {n : Int} (S : SBe G H p a b xs ys n) : SBe G (upd H a (.lst (zs.map V.int))) p a b zs ys n :=
  ⟨S.ex.mut S.ga, by rw [upd_ne S.ap.symm]; exact S.hp, upd_same, by rw [upd_ne S.ab.symm]; exact S.hb, S.gp, S.ga, S.gb, S.ap, S.bp, S.ab⟩
theorem SBe.newa {G H : Hp} {p a b q : Addr} {xs zs ys : List Int} {n : Int} (S : SBe G H p a b xs ys n) (hq : H q = none) : SBe G (upd (upd H q (.lst (zs.map V.int))) p (.lst [.ref q, .ref b, .int n])) p q b zs ys n := by
  have qp : q ≠ p := fun e => by rw [e, S.hp] at hq; cases hq
  have qb : q ≠ b := fun e => by rw [e, S.hb] at hq; cases hq
  refine ⟨(S.ex.trans (Ex.new hq)).mut S.gp, upd_same, ?_, ?_, S.gp, fresh_back S.ex hq, S.gb, qp, S.bp, qb⟩
  · rw [upd_ne qp, upd_same]
  · rw [upd_ne S.bp, upd_ne qb.symm]
    exact S.hb
/-- at most m draws so far -/
def SB (G H : Hp) (p : Addr) (m : Nat) : Prop := ∃ a b xs ys n, SBe G H p a b xs ys n ∧ 0 ≤ n ∧ n ≤ (m : Int) ∧ ys ≠ []
theorem SB.ext {G H H2 : Hp} {p : Addr} {m : Nat} (S : SB G H p m) (e : Ex H H2) : SB G H2 p m := by
  obtain ⟨a, b, xs, ys, n, s, r⟩ := S
  exact ⟨a, b, xs, ys, n, s.ext e, r⟩
theorem SB.le {G H : Hp} {p : Addr} {m k : Nat} (S : SB G H p m) (h : m ≤ k) : SB G H p k := by
  obtain ⟨a, b, xs, ys, n, s, h0, h1, h2⟩ := S
  exact ⟨a, b, xs, ys, n, s, h0, by omega, h2⟩
theorem SB.ex {G H : Hp} {p : Addr} {m : Nat} (S : SB G H p m) : Ex G H := by
  obtain ⟨a, b, xs, ys, n, s, _⟩ := S
  exact s.ex
/-- what is new is known from now on -/
def grow (G H H2 : Hp) : Hp := fun x => match H x with | none => H2 x | some _ => G x
theorem grow_ex {G H H2 : Hp} (e : Ex G H) : Ex G (grow G H H2) := fun x o h => by
  unfold grow
  rw [e x o h]
  exact h
theorem grow_new {G H H2 : Hp} {q : Addr} (h : H q = none) : grow G H H2 q = H2 q := by
  unfold grow
  rw [h]
theorem SB.grow {G H H2 : Hp} {p : Addr} {m : Nat} (S : SB G H p m) (e : Ex H H2) : SB (grow G H H2) H2 p m := by
  obtain ⟨a, b, xs, ys, n, s, r⟩ := S
  have old : ∀ {c : Addr} {o : HO}, H c = some o → G c = none → LawK.grow G H H2 c = none := fun {c o} h g => by
    unfold LawK.grow
    rw [h]
    exact g
  refine ⟨a, b, xs, ys, n, ⟨fun x o h => ?_, e _ _ s.hp, e _ _ s.ha, e _ _ s.hb, old s.hp s.gp, old s.ha s.ga, old s.hb s.gb, s.ap, s.bp, s.ab⟩, r⟩
  unfold LawK.grow at h
  cases z : H x with
  | none => rw [z] at h; exact h
  | some u => rw [z] at h; exact e _ _ (s.ex _ _ h)
/-- a draw below a size -/
def spDraw : Sp := fun vs H Q _ => ∃ (p : Addr) (k : Int) (G : Hp) (m : Nat), vs = [.ref p, .int k] ∧ 0 < k ∧ k.natAbs.log2 < 9000 ∧ m < 1000000 ∧ SB G H p m ∧
  ∀ (r : Int) (H2 : Hp), 0 ≤ r → r < k → SB G H2 p (m + 1) → Q (.int r) H2
def spStart (K : PySem.W.Frag) : Sp := fun vs H Q _ => ∃ (a : Addr) (ns : List Int), vs = [.ref a] ∧ SqL K H a (ns.map V.int) ∧ ns.length ≤ 63 ∧ ∀ (p : Addr) (H2 : Hp), SB H H2 p 0 → Q (.ref p) H2
def spLaw (K : PySem.W.Frag) : Sp := fun vs H Q _ => ∃ (a : Addr) (ns : List Int), vs = [.ref a] ∧ SqL K H a (ns.map V.int) ∧ ns.length ≤ 63 ∧ ∀ H', Q (.bl true) H'
end LawK
/-! ### defs as constants of the module, where lists may be shown -/
namespace L2
open PySem PySem.Spec PyProof.Rows
structure CalG (P : Program) (w : World) (K : PySem.W.Frag) (mg : Str → Option Value) (base : Heap) (k : Nat) (x : Str) (sp : Sp) (dvs : List V) : Prop where
  is : ∃ (f : Addr) (fd : FuncData) (ps : List Str) (ds : List Value), FnG P w K mg base CX0 k f fd ps sp ∧ mg x = some (.ref f) ∧ PySem.W.keepIn K (.ref f) = true ∧ Binds K fd ps ds ∧ Vals dvs ds
section
variable {X : Cx} {k j : Nat} {x : Str} {sp : Sp} {dvs : List V} {p pos : Pos} {e : Expr} {es : List Expr} {t : TA}
theorem pe_cG (c : CalG X.prog X.w X.K X.mg X.base k x sp dvs) (g : X.A.guards = some []) (hr : Room j X.A) (hk : k ≤ j) (hg : Gl X x) (ha : PA X (e :: es) t)
    (nd : (x == ("__debug__" : Str)) = false := by decide) (he : starEach (e :: es) X.env = (false, eval e X.env) :: starEach es X.env := by rfl) (hpl : (backTo pos (starEach es X.env)).any (·.1) = false := by rfl) :
    PE X (.Call (.Name x p) (e :: es) [] pos) (tCall sp dvs E0 t) := by
  obtain ⟨f, fd, ps, ds, F, hm, kp, b, d⟩ := c.is
  exact pe_callG F g (hr.mono hk) hg hm kp b d pass0 ha nd he hpl
end
end L2
namespace L2
open PySem PySem.Spec PyProof.Rows
def rModA : R2 := fun x y H Q => ∃ i j, x = .int i ∧ y = .int j ∧ 0 < j ∧ ∀ r, 0 ≤ r → r < j → r = i % j → Q (.int r) H
theorem op_modA {X : Cx} : OpR X (binaryOp .Mod) rModA := by
  intro pins s σ H x y v u Q I rx ry h
  obtain ⟨i, j, rfl, rfl, c, q⟩ := h
  exact op_mod pins s σ H _ _ v u Q I rx ry ⟨i, j, rfl, rfl, c, q _ (Int.emod_nonneg _ (by omega)) (Int.emod_lt_of_pos _ c) rfl⟩
end L2
/-! ### f(k = v, ..) alone -/
namespace L2
open PySem PySem.Spec PyProof.Rows
structure CalKw (P : Program) (w : World) (K : PySem.W.Frag) (mg : Str → Option Value) (base : Heap) (k : Nat) (x : Str) (ks : List Str) (sp : Sp) (gV : List V → List V → List V) : Prop where
  is : ∃ (f : Addr) (fd : FuncData) (ps : List Str) (g : List Value → List Value → List Value), FnOk P w K mg base CX0 k f fd ps sp ∧ mg x = some (.ref f) ∧ PySem.W.keepIn K (.ref f) = true ∧ KBn K fd ps 0 ks g gV
def tCallKw (ks : List Str) (sp : Sp) (gV : List V → List V → List V) (tk : TA) : TE := fun σ H Q => tk σ H fun zs H2 => zs.length = ks.length ∧ sp (gV [] zs) H2 Q E0
section
variable {X : Cx} {k j : Nat} {x : Str} {ks : List Str} {sp : Sp} {gV : List V → List V → List V} {p pos : Pos} {kws : List Keyword} {tk : TA}
theorem pe_kw (c : CalKw X.prog X.w X.K X.mg X.base k x ks sp gV) (hr : Room j X.A) (hk : k ≤ j) (hg : Gl X x) (ha : PK X kws tk)
    (hall : (backToKw pos (keywordEach kws X.env)).all (·.1.isSome) = true := by rfl) (hks : (backToKw pos (keywordEach kws X.env)).filterMap (·.1) = ks := by rfl) (nd : (x == ("__debug__" : Str)) = false := by decide)
    (hpl : ((backTo pos (starEach [] X.env)).any (·.1) || (backToKw pos (keywordEach kws X.env)).any (·.1.isNone)) = false := by rfl) : PE X (.Call (.Name x p) [] kws pos) (tCallKw ks sp gV tk) := by
  obtain ⟨f, fd, ps, g, F, hm, kp, b⟩ := c.is
  refine .mk fun pins s σ H Q I h => wpAny_Call_Name_kw (ld_glob I hg hm (PySem.W.callWith_KW0 (h₀ := X.base) I.ok.mod.kin kp hall (thn (ha.run pos pins s σ H _ I h) ?_) hpl) nd)
  rintro ws s2 ⟨zs, H2, I2, rz, sz, q⟩
  refine And.intro I2.kIn ?_
  rw [hks]
  have r0 : Vals ([] : List V) ([] : List Value) := .nil
  have rr := b.rel r0 rz
  refine wpAny_call (codeAny_mono (F.run X.A X.stack s2 H2 ⟨[], ks.zip ws⟩ (g [] ws) (gV [] zs) Q E0 (hr.mono hk) I2.env0 (b.to s2 [] ws I2.kIn rfl (rz.length.symm.trans sz)) rr q) ?_)
  intro r s' hq
  match r, hq with
  | .ok (.ret u), hq => exact Inv.after I2 hq
end
end L2
/-! ### comprehensions over texts -/
namespace LawK
open PySem PySem.Spec PyProof.Rows L2 Evl
theorem el_lcS {σ : L2.St} {H : Hp} {te tl : TE} {t : TT} {z : Str} {j : Nat} {vs : List Nat} (f : Nat → Bool) (v : Nat → V) (h : Ev tl σ H (.str z)) (hz : z.cps.size ≤ 40000) (hw : ∀ x, wipe ((wipe σ vs).set j (some x)) vs = wipe σ vs)
    (ht : ∀ (i c : Nat) H1, Ex H H1 → z.cps[i]? = some c → EvT t ((wipe σ vs).set j (some (.str ⟨#[c]⟩))) H1 (f i)) (he : ∀ (i c : Nat) H1, Ex H H1 → z.cps[i]? = some c → f i = true → Ev te ((wipe σ vs).set j (some (.str ⟨#[c]⟩))) H1 (v i)) :
    EvL (tLc (iStr tl) (gName j) t te vs) σ H (given z.cps.size f v) := by
  intro H0 e Q q
  refine h H0 e _ fun H1 e1 => ⟨z, rfl, fun D hD => ?_⟩
  refine lc_it walk_str (Cw H1 f v D) ⟨hD, Ex.new hD, upd_same⟩ (fun _ _ _ _ => trivial) ?_ (fun H' p => q D H' (fresh_back e1 p.1) (e1.trans p.2.1) p.2.2)
  rintro i x H2 H' hi p ⟨rfl, c, hc, rfl⟩
  exact ⟨hw _, cw_turn p (by omega) (ht i c H1 (e.trans e1) hc) (fun hf => he i c H1 (e.trans e1) hc hf)⟩
theorem et_yes {σ : L2.St} {H : Hp} : EvT tYes σ H true := fun H1 _ _ q => q H1 (Ex.refl H1)
theorem given_all (n : Nat) (v : Nat → V) : given n (fun _ => true) v = (List.range n).map v := by
  unfold given
  rw [List.filter_eq_self.mpr (fun _ _ => rfl)]
theorem map_getD {α β : Type} (f : α → β) (d : α) : ∀ l : List α, (List.range l.length).map (fun i => f (l.getD i d)) = l.map f
  | [] => rfl
  | a :: l => by
    rw [List.length_cons, List.range_succ_eq_map, List.map_cons, List.map_map, List.map_cons, ← map_getD f d l]
    rfl
theorem getD_of {l : Array Nat} {i c : Nat} (h : l[i]? = some c) : l.toList.getD i 0 = c := by
  rw [List.getD_eq_getElem?_getD, Array.getElem?_toList, h]
  rfl
end LawK
namespace L2
open PySem PySem.Spec PyProof.Rows
theorem pe_k0 {X : Cx} {x : Str} {v : V} {pos : Pos} (hg : Gl X x) (h : ∃ u, X.mg x = some u ∧ RelV v u) (nd : (x == ("__debug__" : Str)) = false := by decide) : PE X (.Name x pos) (tC v) := by
  obtain ⟨u, hm, r⟩ := h
  exact pe_glob hg hm r nd
structure CalF (P : Program) (w : World) (K : PySem.W.Frag) (mg : Str → Option Value) (base : Heap) (k : Nat) (x : Str) (sp : Sp) (dvs : List V) : Prop where
  is : ∃ (f : Addr) (fd : FuncData) (ps : List Str) (ds : List Value), FnOk P w K mg base CX0 k f fd ps sp ∧ mg x = some (.ref f) ∧ PySem.W.keepIn K (.ref f) = true ∧ Binds K fd ps ds ∧ Vals dvs ds
section
variable {X : Cx} {k j : Nat} {x : Str} {sp : Sp} {dvs : List V} {p pos : Pos} {e : Expr} {es : List Expr} {t : TA}
theorem pe_cF (c : CalF X.prog X.w X.K X.mg X.base k x sp dvs) (hr : Room j X.A) (hk : k ≤ j) (hg : Gl X x) (ha : PA X (e :: es) t)
    (nd : (x == ("__debug__" : Str)) = false := by decide) (he : starEach (e :: es) X.env = (false, eval e X.env) :: starEach es X.env := by rfl) (hpl : (backTo pos (starEach es X.env)).any (·.1) = false := by rfl) :
    PE X (.Call (.Name x p) (e :: es) [] pos) (tCall sp dvs E0 t) := by
  obtain ⟨f, fd, ps, ds, F, hm, kp, b, d⟩ := c.is
  exact pe_call F (hr.mono hk) hg hm kp b d pass0 ha nd he hpl
end
end L2
/-! ### readings, opened one at a time -/
namespace LawK
open PySem PySem.Spec PyProof.Rows L2 Evl
section
variable {σ : L2.St} {H : Hp} {te ta tb tc : TE} {t : TT} {D : L2.Ends} {Q : VK} {r : R2} {g : TG} {tu tw : TS} {v : V} {xs : List V} {QT : Bool → Hp → Prop} {m : List V → Hp → VK → Prop} {tl : TA} {QA : List V → Hp → Prop}
theorem x_nx (h : D.nx σ H) : tNext D σ H := h
theorem x_ret (h : te σ H D.rt) : tRet te D σ H := h
theorem x_seq (h : tu { D with nx := tw D } σ H) : tSeq tu tw D σ H := h
theorem x_asg (h : te σ H fun x H1 => g x σ H1 D.nx) : tAsg te g D σ H := h
theorem x_set {i : Nat} (h : te σ H fun x H1 => D.nx (σ.set i (some x)) H1) : tAsg te (gName i) D σ H := h
theorem x_if (h : t σ H fun b H1 => if b = true then tu D σ H1 else tw D σ H1) : tIfS t tu tw D σ H := h
theorem x_cb (h : tl σ H fun vs H1 => m vs H1 Q) : tCB m tl σ H Q := h
theorem x_cons (h : te σ H fun x H1 => tl σ H1 fun ys H2 => QA (x :: ys) H2) : tCons te tl σ H QA := h
theorem x_nil (h : QA [] H) : tNil σ H QA := h
theorem x_op (h : ta σ H fun x H1 => tb σ H1 fun y H2 => r x y H2 Q) : tOp r ta tb σ H Q := h
theorem x_test (h : te σ H fun x H1 => ∃ b, x = .bl b ∧ QT b H1) : tTest te σ H QT := h
theorem x_call {sp : Sp} {dvs : List V} {E : XK} (h : tl σ H fun vs H1 => sp (vs ++ dvs) H1 Q E) : tCall sp dvs E tl σ H Q := h
theorem x_kw {ks : List Str} {sp : Sp} {gV : List V → List V → List V} (h : tl σ H fun zs H2 => zs.length = ks.length ∧ sp (gV [] zs) H2 Q E0) : tCallKw ks sp gV tl σ H Q := h
theorem x_lst (h : tl σ H fun xs H1 => xs.length ≤ sizeLine ∧ ∀ p, H1 p = none → Q (.ref p) (upd H1 p (.lst xs))) : tLst tl σ H Q := h
theorem x_not (h : t σ H fun c H1 => QT (!c) H1) : tNot t σ H QT := h
theorem x_or {u : TT} (h : t σ H fun c H1 => if c = true then QT true H1 else u σ H1 QT) : tOr t u σ H QT := h
theorem x_and {u : TT} (h : t σ H fun c H1 => if c = true then u σ H1 QT else QT false H1) : tAnd t u σ H QT := h
theorem u_v (h : Ev te σ H v) (k : ∀ H2, Ex H H2 → Q v H2) : te σ H Q := h H (Ex.refl H) Q k
theorem u_l (h : EvL te σ H xs) (k : ∀ p H2, H p = none → Ex H H2 → H2 p = some (.lst xs) → Q (.ref p) H2) : te σ H Q := h H (Ex.refl H) Q k
theorem u_t {b : Bool} (h : EvT t σ H b) (k : ∀ H2, Ex H H2 → QT b H2) : t σ H QT := h H (Ex.refl H) QT k
/-- what is pure, where G is known -/
theorem g_v {G : Hp} (x : Ex G H) (h : Ev te σ G v) (k : ∀ H2, Ex H H2 → Q v H2) : te σ H Q := h H x Q k
theorem g_t {G : Hp} {b : Bool} (x : Ex G H) (h : EvT t σ G b) (k : ∀ H2, Ex H H2 → QT b H2) : t σ H QT := h H x QT k
theorem g_l {G : Hp} (x : Ex G H) (h : EvL te σ G xs) (k : ∀ p H2, H p = none → Ex H H2 → H2 p = some (.lst xs) → Q (.ref p) H2) : te σ H Q := h H x Q k
end
end LawK
/-! ### draws in readings -/
namespace LawK
open PySem PySem.Spec PyProof.Rows L2 Evl
theorem lg_of {k : Int} {n : Nat} (h : k.natAbs < 2 ^ n) (n0 : 0 < n) (n1 : n ≤ 9000) : k.natAbs.log2 < 9000 := Nat.lt_of_lt_of_le (PySem.Flt.log2_lt_of n0 h) n1
theorem lg64 {k : Int} (h0 : 0 ≤ k) (h : k < 18446744073709551616) : k.natAbs.log2 < 9000 := by
  have e : (2 : Nat) ^ 64 = 18446744073709551616 := by decide
  exact lg_of (n := 64) (by omega) (by decide) (by decide)
theorem SB.weak {G G' H : Hp} {p : Addr} {m : Nat} (e : Ex G G') (S : SB G' H p m) : SB G H p m := by
  obtain ⟨a, b, xs, ys, n, s, r⟩ := S
  exact ⟨a, b, xs, ys, n, ⟨e.trans s.ex, s.hp, s.ha, s.hb, fresh_back e s.gp, fresh_back e s.ga, fresh_back e s.gb, s.ap, s.bp, s.ab⟩, r⟩
section
variable {K : PySem.W.Frag} {σ : L2.St} {G H : Hp} {te tl ta tb tc : TE} {D : L2.Ends} {Q : VK} {p : Addr} {m i j : Nat} {k : Int} {E : XK} {tz : TS} {xs : List V} {r r' : R2} {x y z : V}
theorem u_draw (S : SB G H p m) (hi : σ[i]? = some (some (.ref p))) (he : Ev te σ G (.int k)) (k0 : 0 < k) (kb : k.natAbs.log2 < 9000) (hm : m < 1000000) (q : ∀ r H2, 0 ≤ r → r < k → SB G H2 p (m + 1) → Q (.int r) H2) :
    tCall spDraw [] E (tCons (tVar i) (tCons te tNil)) σ H Q :=
  ⟨.ref p, hi, he H S.ex _ fun H2 e2 => ⟨p, k, G, m, rfl, k0, kb, hm, S.ext e2, q⟩⟩
theorem q_draw (S : SB G H p m) (hi : σ[i]? = some (some (.ref p))) (he : Ev te σ G (.int k)) (k0 : 0 < k) (kb : k.natAbs.log2 < 9000) (hm : m < 1000000)
    (q : ∀ r H2, 0 ≤ r → r < k → SB G H2 p (m + 1) → tz D (σ.set j (some (.int r))) H2) : tSeq (tAsg (tCall spDraw [] E (tCons (tVar i) (tCons te tNil))) (gName j)) tz D σ H := u_draw S hi he k0 kb hm q
/-- [..][draw] -/
theorem u_pick {n : Nat} (S : SB G H p m) (hl : EvL tl σ G xs) (hn : xs.length = n) (hi : σ[i]? = some (some (.ref p))) (he : Ev te σ G (.int (n : Int))) (k0 : 0 < n) (kb : n < 1000) (hm : m < 1000000)
    (q : ∀ (c : Nat) (v : V) (H2 : Hp), xs[c]? = some v → SB G H2 p (m + 1) → Q v H2) : tOp (rIxL K) tl (tCall spDraw [] E (tCons (tVar i) (tCons te tNil))) σ H Q := by
  refine hl H S.ex _ fun l H1 hl e1 h1 => ?_
  have S1 := S.grow e1
  refine u_draw S1 hi (he.mono (grow_ex S.ex)) (by omega) (lg64 (by omega) (by omega)) hm fun r H2 r0 r1 S2 => ?_
  have hL : H2 l = some (.lst xs) := S2.ex _ _ (by rw [grow_new hl]; exact h1)
  have hr : r.toNat < xs.length := by omega
  exact ⟨l, xs, r, xs[r.toNat], rfl, rfl, sq_of hL, at_of (Int.toNat_of_nonneg r0).symm (List.getElem?_eq_getElem hr), q r.toNat _ H2 (List.getElem?_eq_getElem hr) (S2.weak (grow_ex S.ex))⟩
theorem q_pick {n : Nat} (S : SB G H p m) (hl : EvL tl σ G xs) (hn : xs.length = n) (hi : σ[i]? = some (some (.ref p))) (he : Ev te σ G (.int (n : Int))) (k0 : 0 < n) (kb : n < 1000) (hm : m < 1000000)
    (q : ∀ (c : Nat) (v : V) (H2 : Hp), xs[c]? = some v → SB G H2 p (m + 1) → tz D (σ.set j (some v)) H2) : tSeq (tAsg (tOp (rIxL K) tl (tCall spDraw [] E (tCons (tVar i) (tCons te tNil)))) (gName j)) tz D σ H := u_pick S hl hn hi he k0 kb hm q
theorem ev_chain {k l : Bool} (ha : Ev ta σ H x) (hb : Ev tb σ H y) (hr : RV r x y H (.bl k)) (hc : k = true → Ev tc σ H z) (hr' : k = true → RV r' y z H (.bl l)) : Ev (tChain r r' ta tb tc) σ H (.bl (k && l)) := by
  intro H1 e1 Q q
  refine ha H1 e1 _ fun H2 e2 => hb H2 (e1.trans e2) _ fun H3 e3 => hr H3 ((e1.trans e2).trans e3) _ fun H4 e4 => ⟨k, rfl, ?_⟩
  have e14 := (e2.trans e3).trans e4
  cases k with
  | true => exact iteT (hc rfl H4 (e1.trans e14) _ fun H5 e5 => hr' rfl H5 ((e1.trans e14).trans e5) Q fun H6 e6 => q H6 ((e14.trans e5).trans e6))
  | false => exact iteF (q H4 e14)
theorem ev_slS {tl th : TO} {w : Str} {lo hi : Option Int} (h : Ev te σ H (.str w)) (h1 : EvO tl σ H lo) (h2 : EvO th σ H hi) (hz : w.length ≤ 100000) : Ev (tSl rSlS te tl th) σ H (.str (cutS w lo hi)) := fun H1 e Q q =>
  h H1 e _ fun H2 e2 => h1 H2 (e.trans e2) _ fun H3 e3 => h2 H3 ((e.trans e2).trans e3) _ fun H4 e4 => ⟨w, rfl, sz_of hz, q H4 ((e2.trans e3).trans e4)⟩
def rAddT : R2 := fun x y H Q => ∃ i j, x = .str i ∧ y = .str j ∧ i.length + j.length ≤ sizeLine ∧ Q (.str (i ++ j)) H
theorem rv_addS {a b : Str} (h : a.length + b.length ≤ 100000) : RV rAddT (.str a) (.str b) H (.str (a ++ b)) := fun H1 _ _ q => ⟨a, b, rfl, rfl, sz_of h, q H1 (Ex.refl H1)⟩
theorem rv_notB {a b : Bool} : RV rNotB (.bl a) (.bl b) H (.bl (!decide (a = b))) := fun H1 _ _ q => ⟨a, b, rfl, rfl, q H1 (Ex.refl H1)⟩
theorem ev_reprL {ds : List PyData} (h : EvL te σ H xs) (hd : ∀ H1, Ex H H1 → DpAll K H1 xs ds) (h1 : PyData.showable (.list ds) = true) (h2 : PyData.hasDict (.list ds) = false) (h3 : PyData.depth (.list ds) ≤ 60) (h4 : (PyData.shown (.list ds)).length ≤ sizeLine) :
    Ev (tCB (rRepr K) (tCons te tNil)) σ H (.str (PyData.shown (.list ds))) := fun H1 e Q q =>
  h H1 e _ fun l H2 _ e2 hl => ⟨.ref l, .list ds, rfl, .lst (sq_of hl) (hd H2 (e.trans e2)), ⟨l, rfl⟩, h1, h2, h3, h4, q H2 e2⟩
end
end LawK
namespace L2
open PySem PySem.Spec PyProof.Rows
theorem Fun.kbn {K : PySem.W.Frag} {x qual : Str} {st : Stmt} {f : Addr} {fd : FuncData} {ps ks : List Str} (g : List Value → List Value) (gV : List V → List V) (F : Fun K x qual st f fd)
    (h : ∀ (kV doc pm : Value) (an : Option Addr) (cv ct : Value) (ws : List Value), ws.length = ks.length → bindArgs (PySem.W.fnOf x qual (defArgs st) (defBody st) (defScope st) .none kV doc pm an cv ct) ⟨[], ks.zip ws⟩ = pure (ps.zip (g ws)))
    (rel : ∀ zs ws, Vals zs ws → Vals (gV zs) (g ws)) : KBn K fd ps 0 ks (fun _ ws => g ws) (fun _ zs => gV zs) := by
  obtain ⟨oc, od, kV, doc, pm, an, cv, ct, sl, rfl, lk, cd⟩ := F.ex
  refine ⟨fun s us ws _ l1 l2 => ?_, fun _ r => rel _ _ r⟩
  cases us with
  | nil => exact .of_eq (h kV doc pm an cv ct ws l2)
  | cons u r => cases l1
end L2
set_option Elab.async false
set_option linter.all false
set_option maxRecDepth 100000
set_option maxHeartbeats 2000000
/-! ### own operators of instances, at the library's level -/
namespace OwnR
open PySem PySem.W PySem.Calls PyProof.Rows
section
variable {prog : Program} {w : World} {A : Around} {E : Value → Shared → Prop} {s : Shared} {K : Frag} {x C f : Addr} {ox : Obj} {od : Option Obj} {nm : String} {b : Value}
/-- what the int on the right must be known for -/
structure IntOn (nm : String) : Prop where
  fl : fillsNumberSlot (.type "int") nm = pure true
  rl : ∃ z, typeLookup (.type "int") (dunderR nm) = pure z
theorem on_add : IntOn "add" := ⟨PySem.F.fills_int_add, ⟨some (.builtin "int.__radd__"), by rw [typeLookup_type, builtinLookup_eq_fast]; kernel_rfl⟩⟩
theorem on_sub : IntOn "sub" := ⟨PySem.F.fills_int_sub, ⟨some (.builtin "int.__rsub__"), by rw [typeLookup_type, builtinLookup_eq_fast]; kernel_rfl⟩⟩
theorem on_mul : IntOn "mul" := ⟨PySem.F.fills_int_mul, ⟨some (.builtin "int.__rmul__"), by rw [typeLookup_type, builtinLookup_eq_fast]; kernel_rfl⟩⟩
theorem py_slot {M : Model} {h : Heap} (X : K.In h) (hs : findIn K (.ref C) (PySem.dunder nm) = some (some (.ref f))) (hr : findIn K (.ref C) (dunderR nm) = some none) : Looks M h (numberSlotInPython (.ref C) nm) true := by
  intro A Q E s k q
  unfold numberSlotInPython
  refine wpAny_bind (looks_findIn X hs A _ E s k ?_)
  refine wpAny_bind (wpAny_pure ?_)
  refine wpAny_bind (looks_findIn X hr A _ E s k ?_)
  refine wpAny_bind (wpAny_pure ?_)
  exact wpAny_pure q
theorem no_slot {M : Model} {h : Heap} : Looks M h (numberSlotInPython (.type "int") nm) false := Looks.of_pure rfl
/-- x op i, i an int -/
theorem bin_int {op : Operator} {i : Int} {u : Tok} {Q : Value → Shared → Prop} (on : IntOn op.info.2) (X : K.In s.heap) (I : InstAt s.heap x ox C od) (hc : selfFirst K C = true) (hs : findIn K (.ref C) (PySem.dunder op.info.2) = some (some (.ref f)))
    (hr : findIn K (.ref C) (dunderR op.info.2) = some none) (hf : isFn K (.ref f) = true) (sb : subIn K (.type "int") (.ref C) = some false) (h : wpAny (model prog w) A (call (.ref f) [.ref x, .int i u]) (PySem.W.CmpBack Q) E s) :
    wpAny (model prog w) A (binaryOp op (.ref x) (.int i u)) Q E s := by
  obtain ⟨cd, hcd, hm⟩ := any_some hc
  obtain ⟨rest, hm⟩ : ∃ rest, cd.mro = .ref C :: rest := by
    cases q : cd.mro with
    | nil => rw [q] at hm; cases hm
    | cons a r => rw [q] at hm; exact ⟨r, by rw [List.head?_cons] at hm; cases (beq_iff_eq.mp hm); rfl⟩
  obtain ⟨z, rl⟩ := on.rl
  unfold binaryOp
  generalize op.info = inf at *
  obtain ⟨sym, nm⟩ := inf
  refine wpAny_holding (wpAny_bind ?_)
  unfold binaryOp1
  have ht : (Value.ref C == Value.type "int") = false := rfl
  refine wpAny_bind (I.type.here (wpAny_bind (wpAny_typeOf (show s.TypeIs (.int i u) "int" from rfl) (wpAny_bind ((fills_K X hcd hm hs).here ?_)))))
  rw [ht]
  simp only [Bool.false_eq_true, if_false]
  refine wpAny_bind (wpAny_of_eq on.fl ?_)
  simp only [Bool.and_self, if_true]
  refine wpAny_bind ((looks_subIn X sb).here ?_)
  simp only [Bool.false_eq_true, if_false, Bool.not_false]
  refine wpAny_bind ((py_slot X hs hr).here ?_)
  simp only [if_true]
  refine wpAny_bind (no_slot.here ?_)
  simp only [Bool.not_false, if_true]
  refine wpAny_bind (wpAny_of_eq rl ?_)
  refine wpAny_bind (m := tryMethod (.ref x) _ _) ?_
  unfold tryMethod
  refine wpAny_bind (special_fn X I hs (beq_iff_eq.mp hf) (wpAny_mono h (fun v s' hv => ?_) fun _ _ e => e))
  cases v <;> first | exact hv.elim | exact wpAny_pure (wpAny_pure (wpAny_pure hv))
/-! != by an own __eq__ -/
theorem ne_body {Q : Fin → Shared → Prop} (hu : A.units < cLine) (X : K.In s.heap) (I : InstAt s.heap x ox C od) (hs : findIn K (.ref C) "__eq__" = some (some (.ref f))) (hf : isFn K (.ref f) = true)
    (h : wpAny (model prog w) A (call (.ref f) [.ref x, b]) (fun v s' => ∃ k, v = .bool k ∧ Q (.done (.ret (.bool (!k)))) s') E s) : wpAny (model prog w) A (Builtin.«object.__ne__» ⟨[.ref x, b], []⟩) Q E s := by
  unfold Builtin.«object.__ne__»
  repeat (first
    | with_reducible refine wpAny_cRoomFor hu ?_
    | (refine wpAny_bind (m := callSpecialIfBound? (.ref x) (Str.ofString "__eq__") [b]) (ifBound_K X I hs hf (wpAny_mono h (fun r s' z => ?_) fun _ _ e => e)))
    | wp_step)
  obtain ⟨k, rfl, q⟩ := z
  repeat (first | exact q | exact wpAny_pure q | exact wpAny_truthy_bool q | (refine wpAny_bind (m := truthy (.bool _)) (wpAny_truthy_bool ?_)) | wp_step)
theorem bound_ne {args : List Value} {Q : Option Value → Shared → Prop} {M : Model} (X : K.In s.heap) (I : InstAt s.heap x ox C od) (hs : findIn K (.ref C) "__ne__" = some (some (.builtin "object.__ne__")))
    (h : wpAny M A (call (.builtin "object.__ne__") (.ref x :: args)) (fun v => Q (some v)) E s) : wpAny M A (callSpecialIfBound? (.ref x) "__ne__" args) Q E s := by
  have go : wpAny M A (call (.builtin "object.__ne__") ([.ref x] ++ args) >>= fun v => pure (some v)) Q E s := wpAny_bind (wpAny_mono h (fun v s' z => wpAny_pure z) fun _ _ z => z)
  simp only [callSpecialIfBound?, bindSpecialIfBound?]
  refine wpAny_holding (wpAny_bind (wpAny_bind (wpAny_bind (I.type.here ((looks_findIn X hs).here (wpAny_bind (wpAny_askSetting (wpAny_ite ?_))))))))
  split
  · exact wpAny_bind (wpAny_of_eq (F.cmp_object.ne.bind _) (wpAny_pure (by exact go)))
  · exact wpAny_tryCatch (wpAny_bind (wpAny_of_eq (F.cmp_object.ne.bind _) (wpAny_pure (by exact go))))
theorem ne_own {tb : Value} {Q : Value → Shared → Prop} (hu : A.units + 1 < cLine) (X : K.In s.heap) (I : InstAt s.heap x ox C od) (hm : mroIn K C (.type "object") = some true) (hn : findIn K (.ref C) "__ne__" = some (some (.builtin "object.__ne__")))
    (hs : findIn K (.ref C) "__eq__" = some (some (.ref f))) (hf : isFn K (.ref f) = true) (hb : Looks (model prog w) s.heap (typeOf b) tb) (nf : notFirst K C tb = true)
    (h : wpAny (model prog w) A.in1 (call (.ref f) [.ref x, b]) (fun v s' => ∃ k, v = .bool k ∧ Q (.bool (!k)) s') E s) : wpAny (model prog w) A (richCompare .NotEq (.ref x) b) Q E s := by
  have one : wpAny (model prog w) A (tryCompare (.ref x) "__ne__" b) (fun r s' => ∃ v, r = some v ∧ Q v s') E s := by
    unfold tryCompare
    refine wpAny_bind (bound_ne X I hn (wpAny_call (codeAny_call_builtin F.cmp_object.ne.plain F.cmpEntry_ne (check_slot F.cmpKind_ne F.cmpSplit_ne (I.type.andThen (looks_mroIn X hm)) (F.cmpArgs_ne _ _) ?_))))
    refine ne_body (A := A.in1) hu X I hs hf (wpAny_mono h (fun v s' z => ?_) fun _ _ e => e)
    obtain ⟨k, rfl, q⟩ := z
    first
      | exact ⟨k, rfl, wpAny_pure ⟨_, rfl, q⟩⟩
      | exact ⟨k, rfl, ⟨_, rfl, q⟩⟩
  unfold richCompare
  simp only [oneThing_ref]
  refine wpAny_holding (wpAny_bind (wpAny_cRoomFor (Nat.lt_of_succ_lt hu) ?_))
  refine wpAny_bind (I.type.here (wpAny_bind (hb.here ?_)))
  have tail : wpAny (model prog w) A (tryCompare (.ref x) (cmpInfo .NotEq).2.1 b) (fun r s' => ∃ v, r = some v ∧ Q v s') E s := one
  split
  · rename_i q
    have e : subIn K tb (.ref C) = some false := by
      cases Bool.or_eq_true_iff.mp nf with
      | inl e => rw [beq_iff_eq.mp e] at q; simp at q
      | inr e => exact beq_iff_eq.mp e
    refine wpAny_bind ((looks_subIn X e).here ?_)
    simp only [Bool.false_eq_true, if_false]
    refine wpAny_bind (wpAny_mono tail (fun r s' z => ?_) fun _ _ e => e)
    obtain ⟨v, rfl, hq⟩ := z
    exact wpAny_pure hq
  · refine wpAny_bind (wpAny_pure ?_)
    simp only [Bool.false_eq_true, if_false]
    refine wpAny_bind (wpAny_mono tail (fun r s' z => ?_) fun _ _ e => e)
    obtain ⟨v, rfl, hq⟩ := z
    exact wpAny_pure hq
/-! an int == x -/
theorem int_no_ins (i : Int) (u : Tok) (l : Addr) (dx : Addr) :
    Meets (Builtin.«int.__eq__» ⟨[.int i u, .ref l], []⟩) (fun _ R s => s.heap.get? l = some (instObj C dx) ∧ R (.ok (.ret .notImplemented)) s) :=
  .of_wp fun prog w A R s h => by
    obtain ⟨hp, g, d, tk, os⟩ := s
    obtain ⟨hl, h⟩ := h
    unfold instObj at hl
    wp_walk using AutoSeq1.wpAny_loadPart' hl, wpAny_load hl
    exact ⟨_, rfl, h⟩
theorem eq_int_own {i : Int} {u : Tok} {dx : Addr} {Q : Value → Shared → Prop} (hu : A.units < cLine) (X : K.In s.heap) (hx : s.heap.get? x = some (instObj C dx)) (I : InstAt s.heap x ox C od) (hs : findIn K (.ref C) "__eq__" = some (some (.ref f))) (hf : isFn K (.ref f) = true)
    (sb : subIn K (.ref C) (.type "int") = some false) (h : wpAny (model prog w) A (call (.ref f) [.ref x, .int i u]) (PySem.W.CmpBack Q) E s) : wpAny (model prog w) A (richCompare .Eq (.int i u) (.ref x)) Q E s := by
  have two : wpAny (model prog w) A (tryCompare (.ref x) "__eq__" (.int i u)) (fun r s' => ∃ v, r = some v ∧ Q v s') E s := by
    unfold tryCompare
    refine wpAny_bind (ifBound_K X I hs hf (wpAny_mono h (fun v s' hv => ?_) fun _ _ e => e))
    cases v <;> first | exact hv.elim | exact wpAny_pure ⟨_, rfl, hv⟩
  have one : wpAny (model prog w) A (tryCompare (.int i u) "__eq__" (.ref x)) (fun r s' => r = none ∧ s' = s) E s :=
    wpAny_tryCompare_declines (typeIs_int s i u) F.slot_int_eq (call_meets F.slot_int_eq (typeIs_int s i u) F.entry_int_eq (F.args_int_eq_2 _ _) (int_no_ins i u x dx) ⟨hx, rfl, rfl, rfl⟩)
  unfold richCompare
  simp only [oneThing_ref]
  refine wpAny_holding (wpAny_bind (wpAny_cRoomFor hu ?_))
  refine wpAny_bind (wpAny_typeOf (typeIs_int s i u) (wpAny_bind (I.type.here ?_)))
  have ne : (Value.type "int" != Value.ref C) = true := rfl
  rw [if_pos ne]
  refine wpAny_bind ((looks_subIn X sb).here ?_)
  simp only [Bool.false_eq_true, if_false, Bool.not_false, if_true]
  refine wpAny_bind (m := tryCompare (.int i u) _ (.ref x)) (wpAny_mono one (fun r s1 z => ?_) fun _ _ e => e)
  obtain ⟨rfl, rfl⟩ := z
  refine wpAny_bind (m := tryCompare (.ref x) _ (.int i u)) (wpAny_mono two (fun r s1 z => ?_) fun _ _ e => e)
  obtain ⟨v, rfl, q⟩ := z
  exact wpAny_pure q
end
end OwnR
/-! ### the same over the layer -/
namespace L2
open PySem PySem.Spec PyProof.Rows
theorem passX {X : Cx} {P : Program} {w : World} : Passes (L2.CX P w) X E0 := fun _ _ _ _ _ _ _ h => by
  obtain ⟨_, _, _, _, _, _, _, _, _, _, _, _, h⟩ := h
  exact h.elim
theorem FnOk.up {P : Program} {w : World} {K : PySem.W.Frag} {mg : Str → Option Value} {base : Heap} {CX : CXT} {k : Nat} {f : Addr} {fd : FuncData} {ps : List Str} {sp : Sp} (F : FnOk P w K mg base CX0 k f fd ps sp) : FnOk P w K mg base CX k f fd ps sp :=
  ⟨F.len, fun A o s H ar us vs Q E hr e b r h => codeAny_mono (F.run A o s H ar us vs Q E hr e b r h) fun r s' z => by
    cases r with
    | ok fl => cases fl <;> exact z
    | error er => exact False.elim z⟩
/-- an instance of the class at C -/
def InsAt (C : Addr) (H : Hp) (x : V) : Prop := ∃ a dx fs, x = .ref a ∧ H a = some (.ins C dx fs)
section
variable {X : Cx} {CX : CXT} {C f : Addr} {fd : FuncData} {ps : List Str} {sp : Sp} {E : XK} {k : Nat}
theorem ins_at {pins : List (Addr × Obj)} {σ : St} {H : Hp} {s : Shared} {a dx : Addr} {fs : List (Str × V)} (I : Inv X pins σ H s) (h : H a = some (.ins C dx fs)) :
    s.heap.get? a = some (PySem.W.instObj C dx) ∧ ∃ ox od, PySem.W.InstAt s.heap a ox C (some od) := by
  have o : ObjOk X.prog X.w H s.heap a (.ins C dx fs) := I.hok a _ h
  obtain ⟨_, _, _, e, _⟩ := o
  obtain ⟨mA, O, _⟩ := ins_get I.hok h
  obtain ⟨od, J, _⟩ := O.look
  exact ⟨e, _, _, J⟩
def rOwnAr (C : Addr) (sp : Sp) (E : XK) : R2 := fun x y H Q => InsAt C H x ∧ ((∃ i, y = .int i) ∨ InsAt C H y) ∧ sp [x, y] H Q E
theorem op_ownAr {op : Operator} (on : OwnR.IntOn op.info.2) (hc : PySem.W.selfFirst X.K C = true) (hs : PySem.W.findIn X.K (.ref C) (PySem.dunder op.info.2) = some (some (.ref f))) (nr : PySem.W.findIn X.K (.ref C) (dunderR op.info.2) = some none)
    (hf : PySem.W.isFn X.K (.ref f) = true) (sb : PySem.W.subIn X.K (.type "int") (.ref C) = some false) (F : FnOk X.prog X.w X.K X.mg X.base CX k f fd ps sp) (hr : Room k X.A) (hb : Binds X.K fd ps []) (hx : Passes CX X E) : OpR X (binaryOp op) (rOwnAr C sp E) := by
  intro pins s σ H x y v u Q I rx ry h
  obtain ⟨⟨a, dx, fs, rfl, ha⟩, hy, q⟩ := h
  cases (show v = Value.ref a from rx)
  obtain ⟨_, ox, od, J⟩ := ins_at I ha
  obtain ⟨m, hF⟩ := I.fr
  cases hy with
  | inl hy =>
    obtain ⟨i, rfl⟩ := hy
    obtain ⟨t, rfl⟩ := ry
    refine OwnR.bin_int on I.kIn J hc hs nr hf sb (wpAny_mono (run_fn (us := [.ref a, .int i t]) (vs := [.ref a, .int i]) F hr hb .nil hx I (.cons rfl (.cons ⟨t, rfl⟩ .nil)) q) (fun z s' hz => ?_) fun _ _ e => e)
    obtain ⟨z', H', I', rz, qz⟩ := hz
    exact SlX.cmpback rz ⟨z', H', I', rz, qz⟩
  | inr hy =>
    obtain ⟨b, dy, gs, rfl, hb2⟩ := hy
    cases (show u = Value.ref b from ry)
    obtain ⟨_, oy, oe, J2⟩ := ins_at I hb2
    refine PySem.W.binop_K hF I.ok.mod.kin J J2.type hc hs hf (wpAny_mono (run_fn (us := [.ref a, .ref b]) (vs := [.ref a, .ref b]) F hr hb .nil hx I (.cons rfl (.cons rfl .nil)) q) (fun z s' hz => ?_) fun _ _ e => e)
    obtain ⟨z', H', I', rz, qz⟩ := hz
    exact SlX.cmpback rz ⟨z', H', I', rz, qz⟩
def rOwnNeg (C : Addr) (sp : Sp) (E : XK) : V → Hp → VK → Prop := fun x H Q => InsAt C H x ∧ sp [x] H Q E
theorem un_ownNeg (hs : PySem.W.findIn X.K (.ref C) "__neg__" = some (some (.ref f))) (hf : PySem.W.isFn X.K (.ref f) = true) (F : FnOk X.prog X.w X.K X.mg X.base CX k f fd ps sp) (hr : Room k X.A) (hb : Binds X.K fd ps []) (hx : Passes CX X E) :
    UnR X (unaryOp .USub) (rOwnNeg C sp E) := by
  intro pins s σ H x v Q I rx h
  obtain ⟨⟨a, dx, fs, rfl, ha⟩, q⟩ := h
  cases (show v = Value.ref a from rx)
  obtain ⟨_, ox, od, J⟩ := ins_at I ha
  unfold unaryOp
  refine wpAny_holding ?_
  dsimp only
  rw [if_neg (by decide)]
  refine wpAny_bind (PySem.W.special_fn I.kIn J hs (beq_iff_eq.mp hf) (wpAny_mono (run_fn (us := [.ref a]) (vs := [.ref a]) F hr hb .nil hx I (.cons rfl .nil) q) (fun z s' hz => ?_) fun _ _ e => e))
  exact wpAny_pure hz
/-- == and != -/
def rOwnEq (K : PySem.W.Frag) (C : Addr) (sp : Sp) (E : XK) : R2 := fun x y H Q => InsAt C H x ∧ (∃ t, TyX K H y t ∧ PySem.W.notFirst K C t = true) ∧ sp [x, y] H Q E
theorem op_ownEq (hs : PySem.W.findIn X.K (.ref C) "__eq__" = some (some (.ref f))) (hf : PySem.W.isFn X.K (.ref f) = true) (F : FnOk X.prog X.w X.K X.mg X.base CX k f fd ps sp) (hr : Room k X.A) (hb : Binds X.K fd ps []) (hx : Passes CX X E) :
    OpR X (compareOp .Eq) (rOwnEq X.K C sp E) := by
  intro pins s σ H x y v u Q I rx ry h
  obtain ⟨⟨a, dx, fs, rfl, ha⟩, ⟨t, ty, nf⟩, q⟩ := h
  cases (show v = Value.ref a from rx)
  obtain ⟨_, ox, od, J⟩ := ins_at I ha
  obtain ⟨m, hF⟩ := I.fr
  obtain ⟨PP, Z, pz, _⟩ := kit_of I ry ty
  show wpAny (model X.prog X.w) X.A (richCompare .Eq (.ref a) u) (EP X pins σ Q) X.xe s
  refine PySem.W.cmp_K (op := .Eq) hr.units0 hF I.ok.mod.kin J (Z.ty _ _ I.kIn pz) nf hs hf (wpAny_mono (run_fn (us := [.ref a, u]) (vs := [.ref a, y]) F hr hb .nil hx I (.cons rfl (.cons ry .nil)) q) (fun z s' hz => ?_) fun _ _ e => e)
  obtain ⟨z', H', I', rz, qz⟩ := hz
  exact SlX.cmpback rz ⟨z', H', I', rz, qz⟩
def rOwnNe (K : PySem.W.Frag) (C : Addr) (sp : Sp) (E : XK) : R2 := fun x y H Q => InsAt C H x ∧ (∃ t, TyX K H y t ∧ PySem.W.notFirst K C t = true) ∧ sp [x, y] H (fun z H' => ∃ b, z = .bl b ∧ Q (.bl (!b)) H') E
theorem op_ownNe (hm : PySem.W.mroIn X.K C (.type "object") = some true) (hn : PySem.W.findIn X.K (.ref C) "__ne__" = some (some (.builtin "object.__ne__"))) (hs : PySem.W.findIn X.K (.ref C) "__eq__" = some (some (.ref f)))
    (hf : PySem.W.isFn X.K (.ref f) = true) (F : FnOk X.prog X.w X.K X.mg X.base CX k f fd ps sp) (hr : Room (k + 1) X.A) (hb : Binds X.K fd ps []) (hx : Passes CX X E) : OpR X (compareOp .NotEq) (rOwnNe X.K C sp E) := by
  intro pins s σ H x y v u Q I rx ry h
  obtain ⟨⟨a, dx, fs, rfl, ha⟩, ⟨t, ty, nf⟩, q⟩ := h
  cases (show v = Value.ref a from rx)
  obtain ⟨_, ox, od, J⟩ := ins_at I ha
  obtain ⟨PP, Z, pz, _⟩ := kit_of I ry ty
  show wpAny (model X.prog X.w) X.A (richCompare .NotEq (.ref a) u) (EP X pins σ Q) X.xe s
  have rr : Vals ([.ref a, y] : List V) [.ref a, u] := .cons rfl (.cons ry .nil)
  refine OwnR.ne_own (by have := hr.un; omega) I.kIn J hm hn hs hf (Z.ty _ _ I.kIn pz) nf ?_
  have sz : ([.ref a, u] ++ [] : List Value).length = ps.length := by rw [← F.len _ _ _ _ q]; rfl
  refine wpAny_call (codeAny_mono (F.run X.A.in1 X.stack s H ⟨[.ref a, u], []⟩ ([.ref a, u] ++ []) ([.ref a, y]) _ E hr.in1 I.env0.in1 (hb s [.ref a, u] I.kIn sz) rr q) ?_)
  intro r s' hq
  match r, hq with
  | .error er, hq => exact hx pins σ H s er s' I hq
  | .ok (.ret w), hq =>
    obtain ⟨z, H', I', rz, b, rfl, qz⟩ := Inv.after I hq
    cases (show w = Value.bool b from rz)
    exact ⟨b, rfl, .bl (!b), H', I', rfl, qz⟩
def rIntEq (C : Addr) (sp : Sp) (E : XK) : R2 := fun x y H Q => (∃ i, x = .int i) ∧ InsAt C H y ∧ sp [y, x] H Q E
theorem op_intEq (hs : PySem.W.findIn X.K (.ref C) "__eq__" = some (some (.ref f))) (hf : PySem.W.isFn X.K (.ref f) = true) (sb : PySem.W.subIn X.K (.ref C) (.type "int") = some false)
    (F : FnOk X.prog X.w X.K X.mg X.base CX k f fd ps sp) (hr : Room k X.A) (hb : Binds X.K fd ps []) (hx : Passes CX X E) : OpR X (compareOp .Eq) (rIntEq C sp E) := by
  intro pins s σ H x y v u Q I rx ry h
  obtain ⟨⟨i, rfl⟩, ⟨a, dx, fs, rfl, ha⟩, q⟩ := h
  cases (show u = Value.ref a from ry)
  obtain ⟨t, rfl⟩ := rx
  obtain ⟨ho, ox, od, J⟩ := ins_at I ha
  show wpAny (model X.prog X.w) X.A (richCompare .Eq (.int i t) (.ref a)) (EP X pins σ Q) X.xe s
  refine OwnR.eq_int_own hr.units0 I.kIn ho J hs hf sb (wpAny_mono (run_fn (us := [.ref a, .int i t]) (vs := [.ref a, .int i]) F hr hb .nil hx I (.cons rfl (.cons ⟨t, rfl⟩ .nil)) q) (fun z s' hz => ?_) fun _ _ e => e)
  obtain ⟨z', H', I', rz, qz⟩ := hz
  exact SlX.cmpback rz ⟨z', H', I', rz, qz⟩
/-- // by any divisor that is not 0 -/
def CDivZ (_ j : Int) : Prop := j ≠ 0 ∧ j.natAbs.log2 < 9000
theorem op_fdivZ : OpR X (binaryOp .FloorDiv) (rI CDivZ fun i j => .int (i.fdiv j)) := opI fun _ _ _ _ _ _ _ hc q => floordiv_int hc.1 q (.inl (PyProof.noPylong_of_log2 hc.2))
end
end L2
set_option Elab.async false
set_option linter.all false
set_option maxRecDepth 100000
set_option maxHeartbeats 2000000
/-! ### defs, methods, properties and makers that may raise, as constants of the module -/
namespace L2
open PySem PySem.Spec PyProof.Rows
def E00 : St → XK := fun _ => E0
theorem passN {X : Cx} {P : Program} {w : World} : ∀ σ, PassesAt (L2.CX P w) X σ (E00 σ) := fun _ _ _ _ _ _ _ h => by
  obtain ⟨_, _, _, _, _, _, _, _, _, _, _, _, h⟩ := h
  exact h.elim
/-- a def's exceptions are the caller's -/
theorem passE {X : Cx} {E : XK} (tk : Takes X (fun cls d _ H => E cls d H)) : ∀ σ, PassesAt (L2.CX X.prog X.w) X σ ((fun _ => E : St → XK) σ) := fun _ _ _ _ e s' I c => tk e s' (XE.of_call I (fun _ _ _ h => h) c)
structure Kn (P : Program) (w : World) (K : PySem.W.Frag) (mg : Str → Option Value) (base : Heap) (k : Nat) (f : Addr) (sp : Sp) (dvs : List V) : Prop where
  is : ∃ (fd : FuncData) (ps : List Str) (ds : List Value), FnOk P w K mg base (L2.CX P w) k f fd ps sp ∧ Binds K fd ps ds ∧ Vals dvs ds
structure CalX (P : Program) (w : World) (K : PySem.W.Frag) (mg : Str → Option Value) (base : Heap) (k : Nat) (x : Str) (sp : Sp) (dvs : List V) : Prop where
  is : ∃ f, Kn P w K mg base k f sp dvs ∧ mg x = some (.ref f) ∧ PySem.W.keepIn K (.ref f) = true
structure MetX (P : Program) (w : World) (K : PySem.W.Frag) (mg : Str → Option Value) (base : Heap) (k : Nat) (C : Addr) (m : Str) (sp : Sp) (dvs : List V) : Prop where
  is : ∃ f, Kn P w K mg base k f sp dvs ∧ Cls K C ∧ Meth K C m f
structure MakX (P : Program) (w : World) (K : PySem.W.Frag) (mg : Str → Option Value) (base : Heap) (k : Nat) (x : Str) (C : Addr) (sp : Sp) (dvs : List V) : Prop where
  is : ∃ f, Kn P w K mg base k f sp dvs ∧ Mk K C f ∧ mg x = some (.ref C)
structure ProX (P : Program) (w : World) (K : PySem.W.Frag) (mg : Str → Option Value) (base : Heap) (k : Nat) (C : Addr) (m : Str) (sp : Sp) : Prop where
  is : ∃ p g, Kn P w K mg base k g sp [] ∧ Cls K C ∧ PropOf K C m p g
/-- an operator's def -/
structure DunX (P : Program) (w : World) (K : PySem.W.Frag) (mg : Str → Option Value) (base : Heap) (k : Nat) (C : Addr) (m : Str) (sp : Sp) : Prop where
  is : ∃ f, Kn P w K mg base k f sp [] ∧ PySem.W.findIn K (.ref C) m = some (some (.ref f)) ∧ PySem.W.isFn K (.ref f) = true
def tMethSD (C : Addr) (m : Str) (sp : Sp) (dvs : List V) (E : St → XK) (ta : TE) (t : TA) : TE := fun σ H Q => ta σ H fun x H1 => ∃ a dx fs, x = .ref a ∧ H1 a = some (.ins C dx fs) ∧ fs.lookup m = none ∧ t σ H1 fun vs H2 => sp (x :: (vs ++ dvs)) H2 Q (E σ)
def tMakeSD (C : Addr) (sp : Sp) (dvs : List V) (E : St → XK) (t : TA) : TE := fun σ H Q => t σ H fun vs H1 => ∀ x dx, H1 x = none → H1 dx = none → dx ≠ x → sp (.ref x :: (vs ++ dvs)) (upd (upd H1 dx (.own x)) x (.ins C dx [])) (fun v H2 => v = .non ∧ Q (.ref x) H2) (E σ)
section
variable {X : Cx} {k j : Nat} {C f : Addr} {x m : Str} {sp : Sp} {dvs : List V} {E : St → XK} {p pos apos : Pos} {e o : Expr} {es : List Expr} {ta : TE} {t : TA}
theorem go_kn {pins : List (Addr × Obj)} {σ : St} {H : Hp} {s : Shared} {Q : VK} {us : List Value} {vs : List V} (c : Kn X.prog X.w X.K X.mg X.base k f sp dvs) (hr : Room k X.A) (hx : PassesAt (L2.CX X.prog X.w) X σ (E σ))
    (I : Inv X pins σ H s) (r : Vals vs us) (h : sp (vs ++ dvs) H Q (E σ)) : wpAny (model X.prog X.w) X.A (call (.ref f) us) (EP X pins σ Q) X.xe s := by
  obtain ⟨fd, ps, ds, F, b, d⟩ := c.is
  exact run_fnSD F hr b d hx I r h
theorem pe_cX (c : CalX X.prog X.w X.K X.mg X.base k x sp dvs) (hx : ∀ σ, PassesAt (L2.CX X.prog X.w) X σ (E σ)) (hr : Room j X.A) (hk : k ≤ j) (hg : Gl X x) (ha : PA X (e :: es) t)
    (nd : (x == ("__debug__" : Str)) = false := by decide) (he : starEach (e :: es) X.env = (false, eval e X.env) :: starEach es X.env := by rfl) (hpl : (backTo pos (starEach es X.env)).any (·.1) = false := by rfl) :
    PE X (.Call (.Name x p) (e :: es) [] pos) (tCallSD sp dvs E t) := by
  obtain ⟨f, ⟨fd, ps, ds, F, b, d⟩, hm, kp⟩ := c.is
  exact pe_callSD F (hr.mono hk) hg hm kp b d hx ha nd he hpl
theorem pe_mtX {pl : Sem Bool} (c : MetX X.prog X.w X.K X.mg X.base k C m sp dvs) (hx : ∀ σ, PassesAt (L2.CX X.prog X.w) X σ (E σ)) (hr : Room j X.A) (hk : k ≤ j) (ho : PE X o ta) (ha : PA X (e :: es) t)
    (he : starEach (e :: es) X.env = (false, eval e X.env) :: starEach es X.env := by rfl) (hpl : (backTo pos (starEach es X.env)).any (·.1) = false := by rfl)
    (ht : eval (.Call (.Attribute o m apos) (e :: es) [] pos) X.env = (do let ov ← eval o X.env; standAt apos.atName; let (f, first) ← holding [ov] (getMethod ov m pl); callWith pos f first (backTo pos (starEach (e :: es) X.env)) (backToKw pos (keywordEach [] X.env))) := by rfl) :
    PE X (.Call (.Attribute o m apos) (e :: es) [] pos) (tMethSD C m sp dvs E ta t) := by
  obtain ⟨f, kn, cl, me⟩ := c.is
  refine .mk fun pins s σ H Q I h => PySem.W.methodCall_KW (pl := pl) (thn (ho.run pins s σ H _ I h) ?_) ht
  rintro u s1 ⟨x, H1, I1, rx, a, dx, fs, rfl, ea, l, q⟩
  cases (show u = Value.ref a from rx)
  refine getmeth_ok I1 ea cl me l (PySem.W.callWith_K (first := [.ref a]) (h₀ := X.base) I.ok.mod.kin me.kp (thn (ha.run pos pins s1 σ H1 _ I1 q) ?_) he hpl)
  rintro us s2 ⟨vs, H2, I2, r, q2⟩
  exact And.intro I2.kIn (go_kn (us := .ref a :: us) (vs := .ref a :: vs) kn (hr.mono hk) (hx σ) I2 (.cons rfl r) q2)
theorem pe_mtX0 {pl : Sem Bool} (c : MetX X.prog X.w X.K X.mg X.base k C m sp dvs) (hx : ∀ σ, PassesAt (L2.CX X.prog X.w) X σ (E σ)) (hr : Room j X.A) (hk : k ≤ j) (ho : PE X o ta)
    (ht : eval (.Call (.Attribute o m apos) [] [] pos) X.env = (do let ov ← eval o X.env; standAt apos.atName; let (f, first) ← holding [ov] (getMethod ov m pl); callWith pos f first (backTo pos (starEach [] X.env)) (backToKw pos (keywordEach [] X.env))) := by rfl) :
    PE X (.Call (.Attribute o m apos) [] [] pos) (tMethSD C m sp dvs E ta tNil) := by
  obtain ⟨f, kn, cl, me⟩ := c.is
  refine .mk fun pins s σ H Q I h => PySem.W.methodCall_KW (pl := pl) (thn (ho.run pins s σ H _ I h) ?_) ht
  rintro u s1 ⟨x, H1, I1, rx, a, dx, fs, rfl, ea, l, q⟩
  cases (show u = Value.ref a from rx)
  exact getmeth_ok I1 ea cl me l (PySem.W.callWith_K0 (first := [.ref a]) I1.kIn me.kp (go_kn (us := [.ref a]) (vs := [.ref a]) kn (hr.mono hk) (hx σ) I1 (.cons rfl .nil) q))
theorem pe_prX (c : ProX X.prog X.w X.K X.mg X.base k C m sp) (hr : Room j X.A) (hk : k + 1 ≤ j) (ho : PE X o ta) (hab : attributeBase o m X.env (eval o X.env) = eval o X.env := by rfl) : PE X (.Attribute o m pos) (tProp C sp [] E0 ta) := by
  obtain ⟨p, g, ⟨fd, ps, ds, F, b, d⟩, cl, pr⟩ := c.is
  exact pe_prop ho cl pr F (hr.mono hk) b d passX hab
theorem pe_mkX (c : MakX X.prog X.w X.K X.mg X.base k x C sp dvs) (hx : ∀ σ, PassesAt (L2.CX X.prog X.w) X σ (E σ)) (hr : Room j X.A) (hk : k + 1 ≤ j) (hg : Gl X x) (ha : PA X (e :: es) t)
    (nd : (x == ("__debug__" : Str)) = false := by decide) (he : starEach (e :: es) X.env = (false, eval e X.env) :: starEach es X.env := by rfl) (hpl : (backTo pos (starEach es X.env)).any (·.1) = false := by rfl) :
    PE X (.Call (.Name x p) (e :: es) [] pos) (tMakeSD C sp dvs E t) := by
  obtain ⟨f, ⟨fd, ps, ds, F, b, d⟩, M, hm⟩ := c.is
  refine .mk fun pins s σ H Q I h => wpAny_Call_Name_kw (ld_glob I hg hm (PySem.W.callWith_K (h₀ := X.base) I.ok.mod.kin M.kp (thn (ha.run pos pins s σ H _ I h) ?_) he hpl) nd)
  rintro us s1 ⟨vs, H1, I1, r, q⟩
  refine And.intro I1.kIn ?_
  have hq := q (s1.heap.objs.size + 1) s1.heap.objs.size (I1.hok.fresh (Nat.le_succ _)) (I1.hok.fresh (Nat.le_refl _)) (Nat.ne_of_lt (Nat.lt_succ_self _))
  have I2 := Inv.made (C := C) I1
  have rr : Vals (V.ref (s1.heap.objs.size + 1) :: (vs ++ dvs)) (Value.ref (s1.heap.objs.size + 1) :: (us ++ ds)) := .cons rfl (r.append d)
  have sz : (Value.ref (s1.heap.objs.size + 1) :: us ++ ds).length = ps.length := by
    have z := rr.length
    rw [F.len _ _ _ _ hq] at z
    exact z.symm
  refine wpAny_call (make_map (f := f) I1.kIn M.makes M.init (beq_iff_eq.mp M.fn) (codeAny_mono (F.run _ X.stack _ _ ⟨Value.ref (s1.heap.objs.size + 1) :: us, []⟩ (Value.ref (s1.heap.objs.size + 1) :: (us ++ ds)) _ _ (E σ) ((hr.mono hk).make C us []) (I2.env0.make C us []) (b _ (Value.ref (s1.heap.objs.size + 1) :: us) I2.kIn sz) rr hq) ?_))
  intro r2 s' z
  match r2, z with
  | .error er, z => exact hx σ pins _ _ er s' I2 z
  | .ok (.ret u), z =>
    obtain ⟨v, H', I3, rv, ev, q3⟩ := Inv.after I2 z
    subst ev
    exact ⟨rv, ⟨V.ref (s1.heap.objs.size + 1), H', I3, rfl, q3⟩⟩
end
end L2
namespace L2
open PySem PySem.Spec PyProof.Rows
/-- X(), X an own exception class without an __init__ of its own -/
theorem pmk_own0 {X : Cx} {C : Addr} {bmB : List Value} {B newId initId : String} {x : Str} {p pos : Pos} (F : ExcBaseFacts B newId initId bmB) (q : PySem.W.excIn X.K C bmB newId = true) (gC : X.mg x = some (.ref C))
    (kC : PySem.W.keepIn X.K (.ref C) = true) (r : Raises X (.ref C)) (hg : Gl X x) (nd : (x == ("__debug__" : Str)) = false := by decide) : PMk X (.Call (.Name x p) [] [] pos) (fun _ H Q => Q (.ref C) none H) := by
  intro pins s σ H Q I h
  refine wpAny_Call_Name_kw (ld_glob I hg gC (PySem.W.callWith_K0 I.kIn kC ?_) nd)
  show wpAny _ _ (call (.ref C) []) _ _ _
  obtain ⟨bm, N, nm, qn, bs, hdct, sn, sub, ab, col, dd, k0, k1, k2, k3, k5, mN, hC, hN, hni, T⟩ := exc_obj I.kIn q
  exact wpAny_call_exc_subT F T hC hN hni (fun h' e hm => mk_of I hm r h (I.hok.gone hm.new)) (Nat.zero_le _)
end L2
set_option Elab.async false
set_option linter.all false
set_option maxRecDepth 100000
set_option maxHeartbeats 2000000
/-! ### exact quotients: the numbers behind the objects -/
namespace RatK
open PySem PySem.Spec PyProof.Rows L2 Evl
def sgn (b : Int) (g : Nat) : Int := if b < 0 then -(g : Int) else (g : Int)
theorem fdiv_neg {k : Int} {g : Nat} (hg : 0 < g) : ((g : Int) * k).fdiv (-(g : Int)) = -k := by
  have e : (g : Int) * k = (-(g : Int)) * (-k) := by rw [Int.neg_mul_neg]
  rw [e, Int.mul_fdiv_cancel_left _ (by omega)]
theorem gcd_pos {t b : Int} (hb : b ≠ 0) : 0 < Nat.gcd t.natAbs b.natAbs := Nat.gcd_pos_of_pos_right _ (by omega)
theorem num_is {t b : Int} (hb : b ≠ 0) : t.fdiv (sgn b (Nat.gcd t.natAbs b.natAbs)) = (Rat.divInt t b).num := by
  have gp := gcd_pos (t := t) hb
  rw [Rat.num_divInt]
  have eg : b.gcd t = Nat.gcd t.natAbs b.natAbs := Nat.gcd_comm _ _
  rw [eg]
  have dv : ((Nat.gcd t.natAbs b.natAbs : Nat) : Int) ∣ t := Int.ofNat_dvd_left.mpr (Nat.gcd_dvd_left _ _)
  obtain ⟨k, hk⟩ := dv
  generalize Nat.gcd t.natAbs b.natAbs = g at *
  unfold sgn
  by_cases h : b < 0
  · rw [if_pos h, hk, fdiv_neg gp, Int.sign_eq_neg_one_of_neg h]
    have e : -1 * ((g : Int) * k) = (g : Int) * (-k) := by rw [Int.mul_neg]; omega
    rw [e, Int.mul_ediv_cancel_left _ (by omega)]
  · rw [if_neg h, hk, Int.mul_fdiv_cancel_left _ (by omega), Int.sign_eq_one_of_pos (by omega), Int.one_mul, Int.mul_ediv_cancel_left _ (by omega)]
theorem den_is {t b : Int} (hb : b ≠ 0) : b.fdiv (sgn b (Nat.gcd t.natAbs b.natAbs)) = ((Rat.divInt t b).den : Int) := by
  have gp := gcd_pos (t := t) hb
  rw [Rat.den_divInt, if_neg hb]
  have eg : b.gcd t = Nat.gcd t.natAbs b.natAbs := Nat.gcd_comm _ _
  rw [eg]
  obtain ⟨m, hm⟩ := (Nat.gcd_dvd_right t.natAbs b.natAbs)
  generalize Nat.gcd t.natAbs b.natAbs = g at *
  rw [hm, Nat.mul_div_cancel_left _ gp]
  unfold sgn
  by_cases h : b < 0
  · have e : b = (g : Int) * (-(m : Int)) := by
      have : (b.natAbs : Int) = (g : Int) * (m : Int) := by rw [hm]; exact Int.natCast_mul _ _
      rw [Int.mul_neg]
      omega
    rw [if_pos h, e, fdiv_neg gp]
    omega
  · have e : b = (g : Int) * (m : Int) := by
      have : (b.natAbs : Int) = (g : Int) * (m : Int) := by rw [hm]; exact Int.natCast_mul _ _
      omega
    rw [if_neg h, e, Int.mul_fdiv_cancel_left _ (by omega)]
theorem sgn_ne {t b : Int} (hb : b ≠ 0) : sgn b (Nat.gcd t.natAbs b.natAbs) ≠ 0 := by
  have gp := gcd_pos (t := t) hb
  unfold sgn
  split <;> omega
theorem sgn_le {t b : Int} (hb : b ≠ 0) : (sgn b (Nat.gcd t.natAbs b.natAbs)).natAbs ≤ b.natAbs := by
  have h := Nat.le_of_dvd (by omega) (Nat.gcd_dvd_right t.natAbs b.natAbs)
  unfold sgn
  split <;> omega
theorem num_le {t b : Int} (hb : b ≠ 0) : (Rat.divInt t b).num.natAbs ≤ t.natAbs := by
  rw [← num_is hb]
  have gp := gcd_pos (t := t) hb
  obtain ⟨k, hk⟩ := (show ((Nat.gcd t.natAbs b.natAbs : Nat) : Int) ∣ t from Int.ofNat_dvd_left.mpr (Nat.gcd_dvd_left _ _))
  generalize Nat.gcd t.natAbs b.natAbs = g at *
  have e : t.natAbs = g * k.natAbs := by rw [hk, Int.natAbs_mul]; rfl
  have le : k.natAbs ≤ g * k.natAbs := Nat.le_mul_of_pos_left _ gp
  unfold sgn
  by_cases h : b < 0
  · rw [if_pos h]
    conv => lhs; rw [hk, fdiv_neg gp]
    omega
  · rw [if_neg h]
    conv => lhs; rw [hk, Int.mul_fdiv_cancel_left _ (by omega)]
    omega
theorem den_le {t b : Int} (hb : b ≠ 0) : (Rat.divInt t b).den ≤ b.natAbs := by
  rw [Rat.den_divInt, if_neg hb]
  exact Nat.div_le_self _ _
/-- how great -/
def Sz (n : Nat) (q : Rat) : Prop := q.num.natAbs < 2 ^ n ∧ q.den < 2 ^ n
theorem Sz.mono {n m : Nat} {q : Rat} (h : Sz n q) (l : n ≤ m) : Sz m q := ⟨Nat.lt_of_lt_of_le h.1 (Nat.pow_le_pow_right (by decide) l), Nat.lt_of_lt_of_le h.2 (Nat.pow_le_pow_right (by decide) l)⟩
theorem sz_div {n : Nat} {t b : Int} (hb : b ≠ 0) (h1 : t.natAbs < 2 ^ n) (h2 : b.natAbs < 2 ^ n) : Sz n (Rat.divInt t b) := ⟨Nat.lt_of_le_of_lt (num_le hb) h1, Nat.lt_of_le_of_lt (den_le hb) h2⟩
/-! ### the objects -/
def ratF (q : Rat) : List (Str × V) := putF "_bottom" (.int (q.den : Int)) (putF "_top" (.int q.num) [])
theorem tb : ¬ (("_top" : Str) = "_bottom") := by decide +kernel
theorem ratF_eq (q : Rat) : ratF q = ([("_top", V.int q.num), ("_bottom", V.int (q.den : Int))] : List (Str × V)) := by
  unfold ratF
  show (if ("_top" : Str) = "_bottom" then _ else (("_top" : Str), V.int q.num) :: putF "_bottom" (V.int (q.den : Int)) []) = _
  rw [if_neg tb]
  rfl
theorem ratF_top (q : Rat) : (ratF q).lookup ("_top" : Str) = some (.int q.num) := by
  unfold ratF
  rw [lookup_putF, if_neg tb, lookup_putF, if_pos rfl]
theorem ratF_bot (q : Rat) : (ratF q).lookup ("_bottom" : Str) = some (.int (q.den : Int)) := by
  unfold ratF
  rw [lookup_putF, if_pos rfl]
theorem ratF_no (q : Rat) {m : Str} (h1 : ¬ m = "_bottom") (h2 : ¬ m = "_top") : (ratF q).lookup m = none := by
  unfold ratF
  rw [lookup_putF, if_neg h1, lookup_putF, if_neg h2]
  rfl
def RatAt (C : Addr) (H : Hp) (a : Addr) (q : Rat) : Prop := ∃ dx, H a = some (.ins C dx (ratF q))
theorem RatAt.ex {C a : Addr} {H H2 : Hp} {q : Rat} (h : RatAt C H a q) (e : Ex H H2) : RatAt C H2 a q := h.elim fun dx h => ⟨dx, e _ _ h⟩
def NumV (C : Addr) (H : Hp) (v : V) (q : Rat) : Prop := (∃ i : Int, v = .int i ∧ q = (i : Rat)) ∨ (∃ a, v = .ref a ∧ RatAt C H a q)
theorem NumV.ex {C : Addr} {H H2 : Hp} {v : V} {q : Rat} (h : NumV C H v q) (e : Ex H H2) : NumV C H2 v q := h.imp id fun ⟨a, h1, h2⟩ => ⟨a, h1, h2.ex e⟩
def NoInt (K : PySem.W.Frag) (t : Value) : Prop := PySem.W.kitOne K t (.type "int") = some false ∨ (PySem.W.kitOne K t (.type "int") = some true ∧ PySem.W.kitOne K t (.type "bool") = some true)
def NoNum (K : PySem.W.Frag) (C : Addr) (H : Hp) (v : V) : Prop := ∃ t, TyX K H v t ∧ NoInt K t ∧ PySem.W.kitOne K t (.ref C) = some false
/-- what isinstance asks of the class -/
structure RIs (K : PySem.W.Frag) (C : Addr) : Prop where
  cl : Cls K C
  ca : PySem.W.findIn K (.ref C) "__class__" = some (some (.builtin "object.__class__"))
  cn : PySem.W.specialIn K (.builtin "object.__class__") "__get__" = some (some (.builtin "getset_descriptor.__get__"))
  ct : PySem.W.takesIn K (.builtin "object.__class__") = some true
  cm : PySem.W.mroIn K C (.type "object") = some true
  ki : PySem.W.kitOne K (.ref C) (.type "int") = some false
  kc : PySem.W.kitOne K (.ref C) (.ref C) = some true
  ti : PySem.W.kitOne K (.type "int") (.ref C) = some false
theorem RatAt.ty {K : PySem.W.Frag} {C a : Addr} {H : Hp} {q : Rat} (h : RatAt C H a q) (r : RIs K C) : TyX K H (.ref a) (.ref C) := h.elim fun dx h => .base (.ins h r.cl r.ca r.cn r.ct r.cm)
end RatK
namespace RatK
open PySem PySem.Spec PyProof.Rows L2 Evl
def spTop (C : Addr) : Sp := fun vs H Q _ => ∃ a q, vs = [.ref a] ∧ RatAt C H a q ∧ Q (.int q.num) H
def spBot (C : Addr) : Sp := fun vs H Q _ => ∃ a q, vs = [.ref a] ∧ RatAt C H a q ∧ Q (.int (q.den : Int)) H
def spInit (C CZ : Addr) : Sp := fun vs H Q E => ∃ (x dx : Addr) (t b : Int), vs = [.ref x, .int t, .int b] ∧ H x = some (.ins C dx []) ∧ t.natAbs < 2 ^ 8900 ∧ b.natAbs < 2 ^ 8900 ∧
  (b = 0 → E (.ref CZ) none H) ∧ (b ≠ 0 → Q .non (upd H x (.ins C dx (ratF (Rat.divInt t b)))))
def spIsInt (K : PySem.W.Frag) : Sp := fun vs H Q _ => ∃ v, vs = [v] ∧ ((∃ i : Int, v = .int i ∧ Q (.bl true) H) ∨ (∃ t, TyX K H v t ∧ NoInt K t ∧ Q (.bl false) H))
/-- as_ratio: the number's Ratio, or BadNumber -/
def spAsR (K : PySem.W.Frag) (C CB : Addr) : Sp := fun vs H Q E => ∃ v, vs = [v] ∧ ((∃ q, NumV C H v q ∧ Sz 8900 q ∧ ∀ p H2, Ex H H2 → RatAt C H2 p q → Q (.ref p) H2) ∨
  (NoNum K C H v ∧ ∀ d, H d = none → E (.ref CB) (some d) (upd H d (.xd [("value", v)]))))
/-- self op number: a new Ratio -/
def spBin (C : Addr) (g : Rat → Rat → Rat) : Sp := fun vs H Q _ => ∃ x y q1 q2, vs = [.ref x, y] ∧ RatAt C H x q1 ∧ NumV C H y q2 ∧ Sz 4000 q1 ∧ Sz 4000 q2 ∧ ∀ p H2, Ex H H2 → RatAt C H2 p (g q1 q2) → Q (.ref p) H2
def spUn (C : Addr) (g : Rat → Rat) : Sp := fun vs H Q _ => ∃ x q1, vs = [.ref x] ∧ RatAt C H x q1 ∧ Sz 4000 q1 ∧ ∀ p H2, Ex H H2 → RatAt C H2 p (g q1) → Q (.ref p) H2
def spOver (C CZ : Addr) : Sp := fun vs H Q E => ∃ x y q1 q2, vs = [.ref x, y] ∧ RatAt C H x q1 ∧ NumV C H y q2 ∧ Sz 4000 q1 ∧ Sz 4000 q2 ∧ (q2 = 0 → ∀ H2, Ex H H2 → E (.ref CZ) none H2) ∧ (q2 ≠ 0 → ∀ p H2, Ex H H2 → RatAt C H2 p (q1 / q2) → Q (.ref p) H2)
def spLess (C : Addr) : Sp := fun vs H Q _ => ∃ x y q1 q2, vs = [.ref x, y] ∧ RatAt C H x q1 ∧ NumV C H y q2 ∧ Sz 4000 q1 ∧ Sz 4000 q2 ∧ ∀ H2, Ex H H2 → Q (.bl (decide (q1 < q2))) H2
def spEq (K : PySem.W.Frag) (C : Addr) : Sp := fun vs H Q _ => ∃ x y q1, vs = [.ref x, y] ∧ RatAt C H x q1 ∧ ((∃ q2, NumV C H y q2 ∧ Q (.bl (decide (q1 = q2))) H) ∨ (NoNum K C H y ∧ Q (.bl false) H))
section
variable {K : PySem.W.Frag} {C CZ CB a x y : Addr} {σ : L2.St} {H : Hp} {ta tb te : TE} {t b : Int} {q q1 q2 : Rat} {Q : VK} {E : L2.St → XK} {dx : Addr} {fs : List (Str × V)} {f : Str} {v : V}
theorem made {p : Addr} (nx : H p = none) (nd : H dx = none) (ne : dx ≠ p) : Ex H (upd (upd (upd H dx (.own p)) p (.ins C dx [])) p (.ins C dx (ratF q))) ∧ RatAt C (upd (upd (upd H dx (.own p)) p (.ins C dx [])) p (.ins C dx (ratF q))) p q := by
  refine ⟨fun z o h => ?_, dx, upd_same⟩
  rw [upd_ne (ne_of_none h nx), upd_ne (ne_of_none h nx), upd_ne (ne_of_none h nd)]
  exact h
theorem half {p : Addr} (nx : H p = none) (nd : H dx = none) : Ex H (upd (upd H dx (.own p)) p (.ins C dx [])) := fun z o h => by
  rw [upd_ne (ne_of_none h nx), upd_ne (ne_of_none h nd)]
  exact h
theorem u_new (ha : Ev ta σ H (.int t)) (hb : Ev tb σ H (.int b)) (h1 : t.natAbs < 2 ^ 8900) (h2 : b.natAbs < 2 ^ 8900) (nb : b ≠ 0) (k : ∀ p H2, Ex H H2 → RatAt C H2 p (Rat.divInt t b) → Q (.ref p) H2) :
    tMakeSD C (spInit C CZ) [] E (tCons ta (tCons tb tNil)) σ H Q := ha H (Ex.refl H) _ fun H1 e1 => hb H1 e1 _ fun H2 e2 => fun p dx nx nd ne =>
  ⟨p, dx, t, b, rfl, upd_same, h1, h2, fun z => (nb z).elim, fun _ => ⟨rfl, k p _ ((e1.trans e2).trans (made nx nd ne).1) (made nx nd ne).2⟩⟩
theorem u_new0 (ha : Ev ta σ H (.int t)) (hb : Ev tb σ H (.int b)) (h1 : t.natAbs < 2 ^ 8900) (h2 : b.natAbs < 2 ^ 8900) (nb : b ≠ 0 → ∀ p H2, Ex H H2 → RatAt C H2 p (Rat.divInt t b) → Q (.ref p) H2) (z : b = 0 → ∀ H2, Ex H H2 → E σ (.ref CZ) none H2) :
    tMakeSD C (spInit C CZ) [] E (tCons ta (tCons tb tNil)) σ H Q := ha H (Ex.refl H) _ fun H1 e1 => hb H1 e1 _ fun H2 e2 => fun p dx nx nd ne =>
  ⟨p, dx, t, b, rfl, upd_same, h1, h2, fun z0 => z z0 _ ((e1.trans e2).trans (half nx nd)), fun n0 => ⟨rfl, nb n0 p _ ((e1.trans e2).trans (made nx nd ne).1) (made nx nd ne).2⟩⟩
theorem u_new1 (ha : Ev ta σ H (.int t)) (h1 : t.natAbs < 2 ^ 8900) (k : ∀ p H2, Ex H H2 → RatAt C H2 p (Rat.divInt t 1) → Q (.ref p) H2) : tMakeSD C (spInit C CZ) [.int 1] E (tCons ta tNil) σ H Q :=
  ha H (Ex.refl H) _ fun H1 e1 => fun p dx nx nd ne => ⟨p, dx, t, 1, rfl, upd_same, h1, (by decide +kernel), (fun z => absurd z (by decide)), fun _ => ⟨rfl, k p _ (e1.trans (made nx nd ne).1) (made nx nd ne).2⟩⟩
theorem ev_fld (h : Ev ta σ H (.ref a)) (ho : H a = some (.ins C dx fs)) (c : Cls K C) (n : NoAttr K C f) (l : fs.lookup f = some v) : Ev (tFld K ta f) σ H v := fun H1 e Q q =>
  h H1 e _ fun H2 e2 => ⟨a, C, dx, fs, v, rfl, e2 _ _ (e _ _ ho), c, n, l, q H2 e2⟩
theorem ev_top (h : Ev ta σ H (.ref a)) (r : RatAt C H a q) : Ev (tProp C (spTop C) [] E0 ta) σ H (.int q.num) := fun H1 e Q k => h H1 e _ fun H2 e2 => (r.ex (e.trans e2)).elim fun dx hd => ⟨a, dx, _, rfl, hd, a, q, rfl, ⟨dx, hd⟩, k H2 e2⟩
theorem ev_bot (h : Ev ta σ H (.ref a)) (r : RatAt C H a q) : Ev (tProp C (spBot C) [] E0 ta) σ H (.int (q.den : Int)) := fun H1 e Q k => h H1 e _ fun H2 e2 => (r.ex (e.trans e2)).elim fun dx hd => ⟨a, dx, _, rfl, hd, a, q, rfl, ⟨dx, hd⟩, k H2 e2⟩
theorem rv_mulW {i j : Int} (h : CMulW i j) : RV (rI CMulW fun i j => .int (i * j)) (.int i) (.int j) H (.int (i * j)) := rv_I h
theorem sz_mul {i j : Int} (h1 : i.natAbs < 2 ^ 4000) (h2 : j.natAbs < 2 ^ 4000) : CMulW i j := wide_mul h1 h2 (by decide) (by decide) (by decide)
theorem lt_mul {i j : Int} (h1 : i.natAbs < 2 ^ 4000) (h2 : j.natAbs < 2 ^ 4000) : (i * j).natAbs < 2 ^ 8000 := wide_lt h1 h2
theorem p81 : (2 : Nat) ^ 8000 + 2 ^ 8000 ≤ 2 ^ 8900 := by
  have e : (2 : Nat) ^ 8000 + 2 ^ 8000 = 2 ^ 8001 := by rw [← Nat.two_mul, ← Nat.pow_succ']
  rw [e]
  exact Nat.pow_le_pow_right (by decide) (by decide)
theorem lt_add {i j : Int} (h1 : i.natAbs < 2 ^ 8000) (h2 : j.natAbs < 2 ^ 8000) : (i + j).natAbs < 2 ^ 8900 := by
  have h := p81
  generalize (2 : Nat) ^ 8000 = M at *
  generalize (2 : Nat) ^ 8900 = N at *
  omega
theorem lt_sub {i j : Int} (h1 : i.natAbs < 2 ^ 8000) (h2 : j.natAbs < 2 ^ 8000) : (i - j).natAbs < 2 ^ 8900 := by
  have h := p81
  generalize (2 : Nat) ^ 8000 = M at *
  generalize (2 : Nat) ^ 8900 = N at *
  omega
theorem lt_up {i : Int} (h1 : i.natAbs < 2 ^ 8000) : i.natAbs < 2 ^ 8900 := Nat.lt_of_lt_of_le h1 (Nat.pow_le_pow_right (by decide) (by decide))
theorem den_nz (q : Rat) : (q.den : Int) ≠ 0 := by have := q.den_nz; omega
theorem den_abs (q : Rat) {n : Nat} (h : q.den < n) : ((q.den : Int)).natAbs < n := by omega
theorem divInt_nd (q : Rat) : Rat.divInt q.num q.den = q := Rat.num_divInt_den q
theorem add_is (p q : Rat) : Rat.divInt (p.num * q.den + q.num * p.den) (p.den * q.den) = p + q := by
  conv => rhs; rw [← divInt_nd p, ← divInt_nd q]
  rw [Rat.divInt_add_divInt _ _ (den_nz p) (den_nz q)]
theorem sub_is (p q : Rat) : Rat.divInt (p.num * q.den - q.num * p.den) (p.den * q.den) = p - q := by
  conv => rhs; rw [← divInt_nd p, ← divInt_nd q]
  rw [Rat.divInt_sub_divInt _ _ (den_nz p) (den_nz q)]
theorem mul_is (p q : Rat) : Rat.divInt (p.num * q.num) (p.den * q.den) = p * q := by
  conv => rhs; rw [← divInt_nd p, ← divInt_nd q]
  rw [Rat.divInt_mul_divInt]
theorem neg_is (p : Rat) : Rat.divInt (-p.num) p.den = -p := by
  conv => rhs; rw [← divInt_nd p]
  rw [Rat.neg_divInt]
theorem one_is (i : Int) : Rat.divInt i 1 = (i : Rat) := (Rat.mk_eq_divInt (num := i) (den := 1) (nz := by decide) (c := Nat.coprime_one_right _)).symm
theorem div_is (p q : Rat) : Rat.divInt (p.num * q.den) (p.den * q.num) = p / q := by
  rw [Rat.div_def]
  conv => rhs; rw [← divInt_nd p, ← divInt_nd q]
  rw [Rat.inv_divInt, Rat.divInt_mul_divInt]
end
end RatK
/-! ### lists or tuples of numbers -/
namespace RatK
open PySem PySem.Spec PyProof.Rows L2 Evl
def iSeq (K : PySem.W.Frag) (te : TE) : TI := fun σ H R => iList K te σ H R ∨ iTup K te σ H R
theorem pi_seq {X : Cx} {tg e : Expr} {te : TE} (he : PE X e te) : PI X tg e (iSeq X.K te) := .mk fun pins s σ H R I h => h.elim ((pi_list he).run pins s σ H R I) ((pi_tup he).run pins s σ H R I)
def Sq (K : PySem.W.Frag) (H : Hp) (a : Addr) (xs : List V) : Prop := SqL K H a xs ∨ SqT K H a xs
theorem Sq.ex {K : PySem.W.Frag} {H H2 : Hp} {a : Addr} {xs : List V} (h : Sq K H a xs) (e : Ex H H2) : Sq K H2 a xs := h.imp (ex_l e) (ex_t e)
section
variable {K : PySem.W.Frag} {C : Addr} {σ : L2.St} {H H2 : Hp} {tl : TE} {D : L2.Ends} {tu tz : TS} {a : Addr} {xs : List V} {j : Nat} {v : V}
theorem s_forS (h : Ev tl σ H (.ref a)) (hx : Sq K H a xs) (Pv : Nat → L2.St → Hp → Prop) (h0 : ∀ H1, Ex H H1 → Pv 0 σ H1) (hl : ∀ i σ' H', i ≤ xs.length → Pv i σ' H' → Ex H H')
    (hs : ∀ i x σ' H', xs[i]? = some x → Pv i σ' H' → tu { D with nx := Pv (i + 1), ct := Pv (i + 1), bk := D.nx } (σ'.set j (some x)) H') (hd : ∀ σ' H', Pv xs.length σ' H' → D.nx σ' H') : tFor (iSeq K tl) (gName j) tu D σ H :=
  hx.elim (fun hx => Or.inl (h H (Ex.refl H) _ fun H1 e => ⟨a, rfl, ⟨xs, ex_l e hx⟩, for_list Pv (h0 H1 e) (fun i σ' H' z p => ex_l (hl i σ' H' z p) hx) hs hd⟩))
    (fun hx => Or.inr (h H (Ex.refl H) _ fun H1 e => ⟨a, rfl, ⟨xs, ex_t e hx⟩, for_tup Pv (h0 H1 e) (fun i σ' H' z p => ex_t (hl i σ' H' z p) hx) hs hd⟩))
theorem q_forS (h : Ev tl σ H (.ref a)) (hx : Sq K H a xs) (Pv : Nat → L2.St → Hp → Prop) (h0 : ∀ H1, Ex H H1 → Pv 0 σ H1) (hl : ∀ i σ' H', i ≤ xs.length → Pv i σ' H' → Ex H H')
    (hs : ∀ i x σ' H', xs[i]? = some x → Pv i σ' H' → tu { D with nx := Pv (i + 1), ct := Pv (i + 1), bk := tz D } (σ'.set j (some x)) H') (hd : ∀ σ' H', Pv xs.length σ' H' → tz D σ' H') : tSeq (tFor (iSeq K tl) (gName j) tu) tz D σ H :=
  s_forS (D := { D with nx := tz D }) h hx Pv h0 hl hs hd
theorem rv_ixS (h : Sq K H a xs) (ha : xs[0]? = some v) : RV (rIx K) (.ref a) (.int 0) H v := fun H1 e _ q =>
  h.elim (fun h => Or.inl ⟨a, xs, 0, v, rfl, rfl, ex_l e h, atI_nat (j := 0) ha, q H1 (Ex.refl H1)⟩) (fun h => Or.inr (Or.inl ⟨a, xs, 0, v, rfl, rfl, ex_t e h, atI_nat (j := 0) ha, q H1 (Ex.refl H1)⟩))
/-- v is a list or tuple of the numbers qs -/
def SeqN (K : PySem.W.Frag) (C : Addr) (H : Hp) (v : V) (qs : List Rat) : Prop := ∃ a xs, v = .ref a ∧ Sq K H a xs ∧ xs.length = qs.length ∧ ∀ (i : Nat) x q, xs[i]? = some x → qs[i]? = some q → NumV C H x q
def sumR (l : List Rat) : Rat := l.foldl (fun a b => a + b) 0
def minR (l : List Rat) : Rat := l.foldl (fun a b => if b < a then b else a) (l.headD 0)
def maxR (l : List Rat) : Rat := l.foldl (fun a b => if a < b then b else a) (l.headD 0)
theorem take_one {α : Type} {l : List α} {i : Nat} {x : α} (h : l[i]? = some x) : l.take (i + 1) = l.take i ++ [x] := by
  rw [List.take_add_one, h]
  rfl
def spTotal (K : PySem.W.Frag) (C : Addr) : Sp := fun vs H Q _ => ∃ v qs, vs = [v] ∧ SeqN K C H v qs ∧ (∀ q ∈ qs, Sz 4000 q) ∧ (∀ i, Sz 4000 (sumR (qs.take i))) ∧ ∀ p H2, Ex H H2 → RatAt C H2 p (sumR qs) → Q (.ref p) H2
def spPick (K : PySem.W.Frag) (C : Addr) (g : List Rat → Rat) : Sp := fun vs H Q _ => ∃ v qs, vs = [v] ∧ SeqN K C H v qs ∧ qs ≠ [] ∧ (∀ q ∈ qs, Sz 4000 q) ∧ ∀ p H2, Ex H H2 → RatAt C H2 p (g qs) → Q (.ref p) H2
def spIsNum (K : PySem.W.Frag) (C : Addr) : Sp := fun vs H Q _ => ∃ v, vs = [v] ∧ ((∃ q, NumV C H v q ∧ Q (.bl true) H) ∨ (NoNum K C H v ∧ Q (.bl false) H))
def spIsCh (K : PySem.W.Frag) (C : Addr) : Sp := fun vs H Q _ => ∃ v, vs = [v] ∧ ((∃ q, NumV C H v q ∧ Sz 4000 q ∧ ∀ H2, Ex H H2 → Q (.bl (!decide (q < 0) && !decide (1 < q))) H2) ∨ (NoNum K C H v ∧ ∀ H2, Ex H H2 → Q (.bl false) H2))
def absR (q : Rat) : Rat := Rat.divInt (if q.num < 0 then -q.num else q.num) q.den
end
theorem sumR_snoc (l : List Rat) (x : Rat) : sumR (l ++ [x]) = sumR l + x := by
  unfold sumR
  rw [List.foldl_append]
  rfl
def minF (l : List Rat) (z : Rat) : Rat := l.foldl (fun a b => if b < a then b else a) z
def maxF (l : List Rat) (z : Rat) : Rat := l.foldl (fun a b => if a < b then b else a) z
theorem minF_snoc (l : List Rat) (z x : Rat) : minF (l ++ [x]) z = if x < minF l z then x else minF l z := by
  unfold minF
  rw [List.foldl_append]
  rfl
theorem maxF_snoc (l : List Rat) (z x : Rat) : maxF (l ++ [x]) z = if maxF l z < x then x else maxF l z := by
  unfold maxF
  rw [List.foldl_append]
  rfl
theorem minF_mem : ∀ (l : List Rat) (z : Rat), minF l z = z ∨ minF l z ∈ l
  | [], z => .inl rfl
  | x :: l, z => by
    show minF l (if x < z then x else z) = z ∨ minF l (if x < z then x else z) ∈ x :: l
    rcases minF_mem l (if x < z then x else z) with h | h
    · rw [h]
      split
      · exact .inr (.head _)
      · exact .inl rfl
    · exact .inr (.tail _ h)
theorem maxF_mem : ∀ (l : List Rat) (z : Rat), maxF l z = z ∨ maxF l z ∈ l
  | [], z => .inl rfl
  | x :: l, z => by
    show maxF l (if z < x then x else z) = z ∨ maxF l (if z < x then x else z) ∈ x :: l
    rcases maxF_mem l (if z < x then x else z) with h | h
    · rw [h]
      split
      · exact .inr (.head _)
      · exact .inl rfl
    · exact .inr (.tail _ h)
theorem NumV.alt {C : Addr} {H : Hp} {v : V} {q : Rat} (h : NumV C H v q) : (∃ i, v = .int i) ∨ InsAt C H v := h.elim (fun ⟨i, h, _⟩ => .inl ⟨i, h⟩) fun ⟨a, h, dx, ha⟩ => .inr ⟨a, dx, _, h, ha⟩
theorem RatAt.ins {C a : Addr} {H : Hp} {q : Rat} (h : RatAt C H a q) : InsAt C H (.ref a) := h.elim fun dx ha => ⟨a, dx, _, rfl, ha⟩
end RatK
set_option Elab.async false
set_option linter.all false
set_option maxRecDepth 100000
set_option maxHeartbeats 2000000
/-! ### repr of a thing of any of these kinds -/
namespace L2
open PySem PySem.Spec PyProof.Rows
inductive Rep (K : PySem.W.Frag) (H : Hp) : V → Str → Prop where
  | non : Rep K H .non (Str.ofString "None")
  | bl (b : Bool) : Rep K H (.bl b) (if b = true then Str.ofString "True" else Str.ofString "False")
  | int (i : Int) : i.natAbs.log2 < 1920 → Rep K H (.int i) (Str.ofString (toString i))
  | str (z : Str) : (reprText z).length ≤ sizeLine → Rep K H (.str z) (reprText z)
  | dat {a : Addr} {d : PyData} : Dp K H (.ref a) d → d.showable = true → d.hasDict = false → d.depth ≤ 60 → d.shown.length ≤ sizeLine → Rep K H (.ref a) d.shown
  | emp {a : Addr} : H a = some (.dK []) → Rep K H (.ref a) (PyData.shown (.dict []))
def rReprA (K : PySem.W.Frag) : List V → Hp → VK → Prop := fun vs H Q => ∃ v z, vs = [v] ∧ Rep K H v z ∧ Q (.str z) H
section
variable {X : Cx}
theorem emp_reads {pins : List (Addr × Obj)} {σ : St} {H : Hp} {s : Shared} {a : Addr} (I : Inv X pins σ H s) (h : H a = some (.dK [])) : Reads s.heap (.ref a) (.dict []) [a] ∧ (a == sysModules) = false := by
  have o : ObjOk X.prog X.w H s.heap a (.dK []) := I.hok a _ h
  obtain ⟨_, ns, vs, kv, ob, es, ep, g, ed, dt, kn, pr, _⟩ := o
  cases kv
  refine ⟨?_, ns⟩
  have ee : es.toList = [] := by
    generalize es.toList = l at pr
    cases pr
    rfl
  have e1 : ReadsAll s.heap (List.map (fun x => x.key) es.toList) (List.map (fun x => x.fst) ([] : List (PyData × PyData))) [] := by rw [ee]; exact .nil
  have e2 : ReadsAll s.heap (List.map (fun x => x.val) es.toList) (List.map (fun x => x.snd) ([] : List (PyData × PyData))) [] := by rw [ee]; exact .nil
  exact Reads.dict (as := []) (bs := []) g ed.1 dt e1 e2
theorem cr_reprA (hu : X.A.units + 64 < cLine) (hgd : X.A.guards = some []) : CallR X (.builtin "repr") (rReprA X.K) := by
  intro pins s σ H vs us Q I r h
  obtain ⟨v, z, rfl, hd, q⟩ := h
  cases hd with
  | non =>
    obtain ⟨u, rfl, ru⟩ := vals1 r
    cases (show u = Value.none from ru)
    exact PySem.P.repr_of_none ⟨.str _, H, I.kept fun b o e => e, ⟨_, rfl⟩, q⟩
  | bl b =>
    obtain ⟨u, rfl, ru⟩ := vals1 r
    cases (show u = Value.bool b from ru)
    exact PySem.P.repr_of_bool ⟨.str _, H, I.kept fun b o e => e, ⟨_, rfl⟩, q⟩
  | int i hi =>
    obtain ⟨u, rfl, ru⟩ := vals1 r
    obtain ⟨t, rfl⟩ := ru
    exact PySem.P.repr_of_int hi ⟨.str _, H, I.kept fun b o e => e, ⟨_, rfl⟩, q⟩
  | str x hx =>
    obtain ⟨u, rfl, ru⟩ := vals1 r
    obtain ⟨t, rfl⟩ := ru
    exact PySem.P.repr_of_str ⟨.str _, H, I.kept fun b o e => e, ⟨_, rfl⟩, q⟩ hx
  | dat h1 h2 h3 h4 h5 => exact cr_repr hu hgd pins s σ H _ us Q I r ⟨_, _, rfl, h1, ⟨_, rfl⟩, h2, h3, h4, h5, q⟩
  | emp h =>
    obtain ⟨u, rfl, ru⟩ := vals1 r
    cases ru
    obtain ⟨rd, ns⟩ := emp_reads I h
    refine repr_of_reads' rd (by decide) (fun _ hm => ?_) hgd (by show X.A.units + (_ + 1) < cLine; have : PyData.depth (.dict []) ≤ 1 := by decide
                                                                  omega) (fun b o e => e) (fun h' u tk hk => ?_) (by decide +kernel)
    · cases (List.mem_singleton.mp hm)
      simp at ns
    · exact ⟨.str _, H, I.kept fun b o eo => hk b o eo, ⟨_, rfl⟩, q⟩
theorem cr_reprK {K : PySem.W.Frag} (hu : X.A.units + 64 < cLine) (hgd : X.A.guards = some []) (hK : X.K = K) : CallR X (.builtin "repr") (rReprA K) := hK ▸ cr_reprA hu hgd
end
end L2
set_option Elab.async false
set_option linter.all false
set_option maxRecDepth 100000
set_option maxHeartbeats 2000000
/-! ### pairs of integers, and the quotients that they stand for -/
namespace RatK
open PySem PySem.Spec PyProof.Rows L2 Evl LawK
def PairAt (H : Hp) (a : Addr) (t b : Int) : Prop := H a = some (.tup [.int t, .int b])
theorem PairAt.ex {H H2 : Hp} {a : Addr} {t b : Int} (h : PairAt H a t b) (e : Ex H H2) : PairAt H2 a t b := e _ _ h
theorem PairAt.sq {K : PySem.W.Frag} {H : Hp} {a : Addr} {t b : Int} (h : PairAt H a t b) : SqT K H a [.int t, .int b] := .inl (.inl h)
structure PB (n : Nat) (t b : Int) : Prop where
  up : t.natAbs < 2 ^ n
  lo : b.natAbs < 2 ^ n
  nz : b ≠ 0
theorem PB.mono {n m : Nat} {t b : Int} (h : PB n t b) (l : n ≤ m) : PB m t b := ⟨Nat.lt_of_lt_of_le h.up (Nat.pow_le_pow_right (by decide) l), Nat.lt_of_lt_of_le h.lo (Nat.pow_le_pow_right (by decide) l), h.nz⟩
theorem PB.sz {n : Nat} {t b : Int} (h : PB n t b) : Sz n (Rat.divInt t b) := sz_div h.nz h.up h.lo
/-! the numbers -/
theorem parts {t b : Int} (hb : b ≠ 0) : ∃ g : Int, g ≠ 0 ∧ t = g * (Rat.divInt t b).num ∧ b = g * ((Rat.divInt t b).den : Int) := by
  refine ⟨sgn b (Nat.gcd t.natAbs b.natAbs), sgn_ne hb, ?_, ?_⟩
  · have dv : sgn b (Nat.gcd t.natAbs b.natAbs) ∣ t := by
      have : ((Nat.gcd t.natAbs b.natAbs : Nat) : Int) ∣ t := Int.ofNat_dvd_left.mpr (Nat.gcd_dvd_left _ _)
      unfold sgn
      split
      · exact Int.neg_dvd.mpr this
      · exact this
    rw [← num_is hb]
    exact (Int.mul_fdiv_cancel' dv).symm
  · have dv : sgn b (Nat.gcd t.natAbs b.natAbs) ∣ b := by
      have : ((Nat.gcd t.natAbs b.natAbs : Nat) : Int) ∣ b := Int.ofNat_dvd_left.mpr (Nat.gcd_dvd_right _ _)
      unfold sgn
      split
      · exact Int.neg_dvd.mpr this
      · exact this
    rw [← den_is hb]
    exact (Int.mul_fdiv_cancel' dv).symm
theorem sq_pos {g : Int} (h : g ≠ 0) : 0 < g * g := by
  rcases Int.lt_or_gt_of_ne h with h | h
  · exact Int.mul_pos_of_neg_of_neg h h
  · exact Int.mul_pos h h
theorem pos_mul {k x : Int} (hk : 0 < k) : k * x < 0 ↔ x < 0 := by
  constructor
  · intro h
    refine Int.not_le.mp fun z => ?_
    have := Int.mul_nonneg (Int.le_of_lt hk) z
    omega
  · intro h
    exact Int.mul_neg_of_pos_of_neg hk h
theorem lt_is {a b c d : Int} (hb : b ≠ 0) (hd : d ≠ 0) : Rat.divInt a b < Rat.divInt c d ↔ (a * d - c * b) * (b * d) < 0 := by
  obtain ⟨g, g0, ea, eb⟩ := parts (t := a) hb
  obtain ⟨k, k0, ec, ed⟩ := parts (t := c) hd
  have D1 := (Rat.divInt a b).den_pos
  have D2 := (Rat.divInt c d).den_pos
  rw [Rat.lt_iff]
  generalize (Rat.divInt a b).num = N1 at *
  generalize (Rat.divInt a b).den = M1 at *
  generalize (Rat.divInt c d).num = N2 at *
  generalize (Rat.divInt c d).den = M2 at *
  have p : 0 < (g * g) * (k * k) * ((M1 : Int) * (M2 : Int)) := Int.mul_pos (Int.mul_pos (sq_pos g0) (sq_pos k0)) (Int.mul_pos (by omega) (by omega))
  have e : (a * d - c * b) * (b * d) = ((g * g) * (k * k) * ((M1 : Int) * (M2 : Int))) * (N1 * (M2 : Int) - N2 * (M1 : Int)) := by
    rw [ea, eb, ec, ed]
    simp only [Int.mul_sub, Int.sub_mul]
    simp only [Int.mul_assoc, Int.mul_comm, Int.mul_left_comm]
  rw [e, pos_mul p]
  omega
theorem eq_is {a b c d : Int} (hb : b ≠ 0) (hd : d ≠ 0) : Rat.divInt a b = Rat.divInt c d ↔ (a * d - c * b) * (b * d) = 0 := by
  rw [Rat.divInt_eq_divInt_iff hb hd]
  constructor
  · intro h
    rw [h, Int.sub_self, Int.zero_mul]
  · intro h
    rcases Int.mul_eq_zero.mp h with h | h
    · omega
    · exact (Int.mul_ne_zero hb hd h).elim
theorem neg_fd {t g : Int} : (-t).fdiv g = t.fdiv (-g) := by
  have h := Int.neg_fdiv_neg t (-g)
  rw [Int.neg_neg] at h
  exact h
/-- as the law reckons it: the sign apart -/
theorem low_num {t b : Int} (hb : b ≠ 0) : ((if b > 0 then (1 : Int) else -1) * t).fdiv (Nat.gcd t.natAbs b.natAbs : Nat) = (Rat.divInt t b).num := by
  rw [← num_is hb]
  unfold sgn
  by_cases h : b < 0
  · rw [if_pos h, if_neg (by omega), Int.neg_mul, Int.one_mul, neg_fd]
  · rw [if_neg h, if_pos (by omega), Int.one_mul]
theorem low_den {t b : Int} (hb : b ≠ 0) : ((if b > 0 then (1 : Int) else -1) * b).fdiv (Nat.gcd t.natAbs b.natAbs : Nat) = ((Rat.divInt t b).den : Int) := by
  rw [← den_is hb]
  unfold sgn
  by_cases h : b < 0
  · rw [if_pos h, if_neg (by omega), Int.neg_mul, Int.one_mul, neg_fd]
  · rw [if_neg h, if_pos (by omega), Int.one_mul]
theorem abs_is {a b : Int} (hb : b ≠ 0) : absR (Rat.divInt a b) = Rat.divInt (if a < 0 then -a else a) (if b < 0 then -b else b) := by
  obtain ⟨g, g0, ea, eb⟩ := parts (t := a) hb
  have D1 := (Rat.divInt a b).den_pos
  unfold absR
  rw [Rat.divInt_eq_divInt_iff (by omega) (by split <;> omega)]
  generalize (Rat.divInt a b).num = N at *
  generalize (Rat.divInt a b).den = M at *
  have M0 : (0 : Int) < (M : Int) := by omega
  have sa : a < 0 ↔ (g < 0 ∧ 0 < N) ∨ (0 < g ∧ N < 0) := by
    rw [ea]
    constructor
    · intro h
      rcases Int.lt_trichotomy g 0 with h1 | h1 | h1
      · refine .inl ⟨h1, ?_⟩
        refine Int.not_le.mp fun z => ?_
        have := Int.mul_nonneg_of_nonpos_of_nonpos (Int.le_of_lt h1) z
        omega
      · exact (g0 h1).elim
      · refine .inr ⟨h1, ?_⟩
        refine Int.not_le.mp fun z => ?_
        have := Int.mul_nonneg (Int.le_of_lt h1) z
        omega
    · rintro (⟨h1, h2⟩ | ⟨h1, h2⟩)
      · exact Int.mul_neg_of_neg_of_pos h1 h2
      · exact Int.mul_neg_of_pos_of_neg h1 h2
  have sb : b < 0 ↔ g < 0 := by
    rw [eb]
    constructor
    · intro h
      refine Int.not_le.mp fun z => ?_
      have := Int.mul_nonneg z (Int.le_of_lt M0)
      omega
    · intro h
      exact Int.mul_neg_of_neg_of_pos h M0
  have key : N * b = a * (M : Int) := by
    rw [ea, eb]
    simp only [Int.mul_assoc, Int.mul_comm, Int.mul_left_comm]
  by_cases hg : g < 0
  · have b0 : b < 0 := sb.mpr hg
    rw [if_pos b0]
    by_cases hN : N < 0
    · have a0 : ¬ a < 0 := fun z => by rcases sa.mp z with h | h <;> omega
      rw [if_pos hN, if_neg a0, Int.neg_mul_neg]
      exact key
    · rw [if_neg hN]
      by_cases hz : 0 < N
      · rw [if_pos (sa.mpr (.inl ⟨hg, hz⟩)), Int.mul_neg, Int.neg_mul, key]
      · have n0 : N = 0 := by omega
        have a0 : a = 0 := by rw [ea, n0, Int.mul_zero]
        rw [a0, n0]
        simp
  · have b0 : ¬ b < 0 := fun z => hg (sb.mp z)
    rw [if_neg b0]
    by_cases hN : N < 0
    · rw [if_pos hN, if_pos (sa.mpr (.inr ⟨by omega, hN⟩)), Int.neg_mul, Int.neg_mul, key]
    · have a0 : ¬ a < 0 := fun z => by rcases sa.mp z with h | h <;> omega
      rw [if_neg hN, if_neg a0]
      exact key
theorem in_is {a b : Int} (hb : b ≠ 0) : (!decide (Rat.divInt a b < 0) && !decide (1 < Rat.divInt a b)) = (decide (0 ≤ a * b) && decide ((if a < 0 then -a else a) ≤ (if b < 0 then -b else b))) := by
  have z0 : (0 : Rat) = Rat.divInt 0 1 := rfl
  have z1 : (1 : Rat) = Rat.divInt 1 1 := rfl
  have e0 : Rat.divInt a b < 0 ↔ a * b < 0 := by
    rw [z0, lt_is hb (by decide)]
    simp
  have e1 : (1 : Rat) < Rat.divInt a b ↔ (b - a) * b < 0 := by
    rw [z1, lt_is (by decide) hb]
    simp
  have p0 : (!decide (Rat.divInt a b < 0)) = decide (0 ≤ a * b) := by
    rw [← decide_not]
    exact decide_eq_decide.mpr (by rw [e0]; omega)
  rw [p0, ← decide_not]
  by_cases h : 0 ≤ a * b
  · rw [decide_eq_true h, Bool.true_and, Bool.true_and]
    refine decide_eq_decide.mpr ?_
    rw [e1]
    rcases Int.lt_or_gt_of_ne hb with h1 | h1
    · have a0 : a ≤ 0 := by
        refine Int.not_lt.mp fun z => ?_
        have := Int.mul_neg_of_pos_of_neg z h1
        omega
      have s : (b - a) * b < 0 ↔ 0 < b - a := by
        constructor
        · intro q
          refine Int.not_le.mp fun z => ?_
          have := Int.mul_nonneg_of_nonpos_of_nonpos z (Int.le_of_lt h1)
          omega
        · intro q
          exact Int.mul_neg_of_pos_of_neg q h1
      rw [s, if_pos h1]
      split <;> omega
    · have a0 : 0 ≤ a := by
        refine Int.not_lt.mp fun z => ?_
        have := Int.mul_neg_of_neg_of_pos z h1
        omega
      have s : (b - a) * b < 0 ↔ b - a < 0 := by
        constructor
        · intro q
          refine Int.not_le.mp fun z => ?_
          have := Int.mul_nonneg z (Int.le_of_lt h1)
          omega
        · intro q
          exact Int.mul_neg_of_neg_of_pos q h1
      rw [s, if_neg (by omega), if_neg (by omega)]
      omega
  · rw [decide_eq_false h, Bool.false_and, Bool.false_and]
/-! what the law's helpers do -/
def spPair : Sp := fun vs H Q _ => ∃ p G m, vs = [.ref p] ∧ m + 6 < 1000000 ∧ SB G H p m ∧ ∀ q t b G2 H2, Ex G G2 → SB G2 H2 p (m + 6) → PairAt G2 q t b → PB 140 t b → Q (.ref q) H2
def spLow : Sp := fun vs H Q _ => ∃ a t b, vs = [.ref a] ∧ PairAt H a t b ∧ PB 4000 t b ∧ ∀ q H2, H q = none → Ex H H2 → PairAt H2 q (Rat.divInt t b).num (Rat.divInt t b).den → Q (.ref q) H2
def spIs (C : Addr) : Sp := fun vs H Q _ => ∃ r a t b, vs = [.ref r, .ref a] ∧ RatAt C H r (Rat.divInt t b) ∧ PairAt H a t b ∧ PB 4000 t b ∧ ∀ H2, Ex H H2 → Q (.bl true) H2
/-- a new Ratio -/
def EvR (C : Addr) (te : TE) (σ : L2.St) (H : Hp) (x : Rat) : Prop := ∀ H1, Ex H H1 → ∀ Q : VK, (∀ p H2, Ex H1 H2 → RatAt C H2 p x → Q (.ref p) H2) → te σ H1 Q
/-- a pair -/
def EvP (te : TE) (σ : L2.St) (H : Hp) (t b : Int) : Prop := ∀ H1, Ex H H1 → ∀ Q : VK, (∀ p H2, Ex H1 H2 → PairAt H2 p t b → Q (.ref p) H2) → te σ H1 Q
section
variable {K : PySem.W.Frag} {C CZ CB a x : Addr} {σ : L2.St} {H : Hp} {ta tb te : TE} {t b c d : Int} {q q1 q2 : Rat} {v : V} {E : L2.St → XK} {EE : XK} {g : Rat → Rat → Rat}
theorem EvR.mono {H' : Hp} (e : Ex H H') (h : EvR C te σ H q) : EvR C te σ H' q := fun H1 e1 => h H1 (e.trans e1)
theorem EvP.mono {H' : Hp} (e : Ex H H') (h : EvP te σ H t b) : EvP te σ H' t b := fun H1 e1 => h H1 (e.trans e1)
theorem er_is (h : EvR C te σ H q1) (e : q1 = q2) : EvR C te σ H q2 := e ▸ h
theorem er_v (h : Ev te σ H (.ref a)) (hr : RatAt C H a q) : EvR C te σ H q := fun H1 e Q k => h H1 e Q fun H2 e2 => k a H2 e2 (hr.ex (e.trans e2))
theorem er_new (ha : Ev ta σ H (.int t)) (hb : Ev tb σ H (.int b)) (h1 : t.natAbs < 2 ^ 8900) (h2 : b.natAbs < 2 ^ 8900) (nb : b ≠ 0) : EvR C (tMakeSD C (spInit C CZ) [] E (tCons ta (tCons tb tNil))) σ H (Rat.divInt t b) := fun H1 e Q k =>
  u_new (ha.mono e) (hb.mono e) h1 h2 nb k
theorem er_new1 (ha : Ev ta σ H (.int t)) (h1 : t.natAbs < 2 ^ 8900) : EvR C (tMakeSD C (spInit C CZ) [.int 1] E (tCons ta tNil)) σ H (Rat.divInt t 1) := fun H1 e Q k => u_new1 (ha.mono e) h1 k
theorem er_ar (ha : Ev ta σ H (.ref a)) (hb : Ev tb σ H v) (r : RatAt C H a q1) (n : NumV C H v q2) (s1 : Sz 4000 q1) (s2 : Sz 4000 q2) : EvR C (tOp (rOwnAr C (spBin C g) EE) ta tb) σ H (g q1 q2) := fun H1 e Q k =>
  ha H1 e _ fun H2 e2 => hb H2 (e.trans e2) _ fun H3 e3 => by
    have e13 := (e.trans e2).trans e3
    exact ⟨(r.ex e13).ins, (n.ex e13).alt, a, v, q1, q2, rfl, r.ex e13, n.ex e13, s1, s2, fun p H4 e4 hp => k p H4 ((e2.trans e3).trans e4) hp⟩
theorem er_neg {f : Rat → Rat} (ha : Ev ta σ H (.ref a)) (r : RatAt C H a q) (s : Sz 4000 q) : EvR C (tUn (rOwnNeg C (spUn C f) EE) ta) σ H (f q) := fun H1 e Q k =>
  ha H1 e _ fun H2 e2 => ⟨(r.ex (e.trans e2)).ins, a, q, rfl, r.ex (e.trans e2), s, fun p H3 e3 hp => k p H3 (e2.trans e3) hp⟩
theorem er_mun {f : Rat → Rat} {m : Str} (ha : Ev ta σ H (.ref a)) (r : RatAt C H a q) (s : Sz 4000 q) (n1 : ¬ m = "_bottom") (n2 : ¬ m = "_top") : EvR C (tMethSD C m (spUn C f) [] E ta tNil) σ H (f q) := fun H1 e Q k =>
  ha H1 e _ fun H2 e2 => by
    obtain ⟨dx, hx⟩ := r.ex (e.trans e2)
    exact ⟨a, dx, _, rfl, hx, ratF_no q n1 n2, a, q, rfl, r.ex (e.trans e2), s, fun p H3 e3 hp => k p H3 (e2.trans e3) hp⟩
theorem er_asr (ha : Ev ta σ H v) (n : NumV C H v q) (s : Sz 8900 q) : EvR C (tCallSD (spAsR K C CB) [] E (tCons ta tNil)) σ H q := fun H1 e Q k =>
  ha H1 e _ fun H2 e2 => ⟨v, rfl, .inl ⟨q, n.ex (e.trans e2), s, fun p H3 e3 hp => k p H3 (e2.trans e3) hp⟩⟩
theorem ep_v (h : Ev te σ H (.ref a)) (hp : PairAt H a t b) : EvP te σ H t b := fun H1 e Q k => h H1 e Q fun H2 e2 => k a H2 e2 (hp.ex (e.trans e2))
theorem ep_tup (ha : Ev ta σ H (.int t)) (hb : Ev tb σ H (.int b)) : EvP (tTup (tCons ta (tCons tb tNil))) σ H t b := fun H1 e Q k =>
  eu_tup (ea_cons ha (ea_cons hb ea_nil)) (by show 2 ≤ 100000; decide) H1 e Q fun p H2 _ e2 hp => k p H2 e2 hp
theorem ep_low (h : EvP ta σ H t b) (pb : PB 4000 t b) : EvP (tCallSD spLow [] E (tCons ta tNil)) σ H (Rat.divInt t b).num (Rat.divInt t b).den := fun H1 e Q k =>
  h H1 e _ fun p H2 e2 hp => ⟨p, t, b, rfl, hp, pb, fun q H3 _ e3 hq => k q H3 (e2.trans e3) hq⟩
theorem ev_isr (h1 : EvR C ta σ H q) (h2 : EvP tb σ H t b) (pb : PB 4000 t b) (e : q = Rat.divInt t b) : Ev (tCallSD (spIs C) [] E (tCons ta (tCons tb tNil))) σ H (.bl true) := fun H1 e1 Q k =>
  h1 H1 e1 _ fun p H2 e2 hp => h2 H2 (e1.trans e2) _ fun a H3 e3 ha => ⟨p, a, t, b, rfl, e ▸ hp.ex e3, ha, pb, fun H4 e4 => k H4 ((e2.trans e3).trans e4)⟩
theorem ev_p0 (h : Ev te σ H (.ref a)) (hp : PairAt H a t b) : Ev (tOp (rIxT K) te (tC (.int 0))) σ H (.int t) := ev_op h ev_c (rv_ixT hp.sq rfl)
theorem ev_p1 (h : Ev te σ H (.ref a)) (hp : PairAt H a t b) : Ev (tOp (rIxT K) te (tC (.int 1))) σ H (.int b) := ev_op h ev_c (rv_ixT hp.sq rfl)
end
def absI (i : Int) : Int := if i < 0 then -i else i
theorem absI_nat (i : Int) : absI i = (i.natAbs : Int) := by unfold absI; split <;> omega
section
variable {K : PySem.W.Frag} {C : Addr} {σ : L2.St} {H : Hp} {te tb : TE} {ta : TA} {D : L2.Ends} {tz : TS} {i j : Nat} {x y : V} {n : Int} {xs : List V} {p : Addr} {E : XK}
theorem q_par (h : EvA ta σ H [x, y]) (k : ∀ H1, Ex H H1 → tz D ((σ.set i (some x)).set j (some y)) H1) : tSeq (tPar i j ta) tz D σ H := h H (Ex.refl H) _ fun H1 e1 => ⟨x, y, rfl, k H1 e1⟩
theorem s_par (h : EvA ta σ H [x, y]) (k : ∀ H1, Ex H H1 → D.nx ((σ.set i (some x)).set j (some y)) H1) : tPar i j ta D σ H := h H (Ex.refl H) _ fun H1 e1 => ⟨x, y, rfl, k H1 e1⟩
theorem ev_absI (h : Ev te σ H (.int n)) : Ev (tCB (fun xs H Q => ∃ i, xs = [.int i] ∧ Q (.int (if i < 0 then -i else i)) H) (tCons te tNil)) σ H (.int (absI n)) := ev_cb (ea_cons h ea_nil) fun H1 _ Q' q' => ⟨n, rfl, q' H1 (Ex.refl H1)⟩
theorem rv_divZ {k l : Int} (h : CDivZ k l) : RV (rI CDivZ fun i j => .int (i.fdiv j)) (.int k) (.int l) H (.int (k.fdiv l)) := rv_I h
theorem rv_gt {k l : Int} {g : Int → Int → V} : RV (rI0 g) (.int k) (.int l) H (g k l) := rv_I0
end
section
variable {σ : L2.St} {H : Hp} {ta tb : TE} {t : TA} {r : R2} {v : V} {Q : VK}
theorem x_opc (h : tb σ H fun y H2 => r v y H2 Q) : tOp r (tC v) tb σ H Q := h
theorem x_tup (h : t σ H fun xs H1 => xs.length ≤ sizeLine ∧ ∀ p, H1 p = none → Q (.ref p) (upd H1 p (.tup xs))) : tTup t σ H Q := h
end
end RatK
namespace L2
open PySem PySem.Spec PyProof.Rows
theorem op_alt {X : Cx} {m : Value → Value → Sem Value} {r1 r2 : R2} (h1 : OpR X m r1) (h2 : OpR X m r2) : OpR X m (fun x y H Q => r1 x y H Q ∨ r2 x y H Q) := by
  intro pins s σ H x y v u Q I rx ry h
  exact h.elim (h1 pins s σ H x y v u Q I rx ry) (h2 pins s σ H x y v u Q I rx ry)
end L2
namespace RatK
open PySem PySem.Spec PyProof.Rows L2 Evl LawK
theorem ml {x y : Int} {n m : Nat} (h1 : x.natAbs < 2 ^ n) (h2 : y.natAbs < 2 ^ m) : (x * y).natAbs < 2 ^ (n + m) := wide_lt h1 h2
theorem al {x y : Int} {n : Nat} (h1 : x.natAbs < 2 ^ n) (h2 : y.natAbs < 2 ^ n) : (x + y).natAbs < 2 ^ (n + 1) := by
  rw [Nat.pow_succ]
  generalize 2 ^ n = M at *
  omega
theorem sl {x y : Int} {n : Nat} (h1 : x.natAbs < 2 ^ n) (h2 : y.natAbs < 2 ^ n) : (x - y).natAbs < 2 ^ (n + 1) := by
  rw [Nat.pow_succ]
  generalize 2 ^ n = M at *
  omega
theorem up {x : Int} {n m : Nat} (h1 : x.natAbs < 2 ^ n) (l : n ≤ m) : x.natAbs < 2 ^ m := Nat.lt_of_lt_of_le h1 (Nat.pow_le_pow_right (by decide) l)
theorem wm {x y : Int} {n m : Nat} (h1 : x.natAbs < 2 ^ n) (h2 : y.natAbs < 2 ^ m) (l1 : n ≤ 4000) (l2 : m ≤ 4000) : CMulW x y := sz_mul (up h1 l1) (up h2 l2)
theorem absI_lt {x : Int} {n : Nat} (h : x.natAbs < 2 ^ n) : (absI x).natAbs < 2 ^ n := by
  have : (absI x).natAbs = x.natAbs := by rw [absI_nat]; omega
  rw [this]
  exact h
theorem absI_nz {x : Int} (h : x ≠ 0) : absI x ≠ 0 := by unfold absI; split <;> omega
theorem dec0 {g : Int} : decide (V.int g = V.int 0) = decide (g = 0) := decide_eq_decide.mpr ⟨fun h => V.int.inj h, fun h => by rw [h]⟩
section
variable {K : PySem.W.Frag} {C CZ CB a : Addr} {σ : L2.St} {H : Hp} {ta tb te : TE} {q q1 q2 : Rat} {v : V} {E : L2.St → XK} {EE : XK} {b : Bool} {n : Int} {xs : List V} {ds : List PyData} {l : Addr}
theorem nf_self : PySem.W.notFirst K C (.ref C) = true := by
  unfold PySem.W.notFirst
  simp
theorem nf_sub {t : Value} (h : PySem.W.subIn K t (.ref C) = some false) : PySem.W.notFirst K C t = true := by
  unfold PySem.W.notFirst
  rw [h]
  simp
theorem NumV.nf (n : NumV C H v q) (r : RIs K C) (si : PySem.W.subIn K (.type "int") (.ref C) = some false) : ∃ t, TyX K H v t ∧ PySem.W.notFirst K C t = true :=
  n.elim (fun ⟨i, h, _⟩ => h ▸ ⟨.type "int", .base (.int i), nf_sub si⟩) fun ⟨a, h, hr⟩ => h ▸ ⟨.ref C, hr.ty r, nf_self⟩
theorem ev_oeq (ha : Ev ta σ H (.ref a)) (hb : Ev tb σ H v) (r : RatAt C H a q1) (n : NumV C H v q2) (rs : RIs K C) (si : PySem.W.subIn K (.type "int") (.ref C) = some false) : Ev (tOp (rOwnEq K C (spEq K C) EE) ta tb) σ H (.bl (decide (q1 = q2))) := fun H1 e Q k =>
  ha H1 e _ fun H2 e2 => hb H2 (e.trans e2) _ fun H3 e3 => by
    have e13 := (e.trans e2).trans e3
    exact ⟨(r.ex e13).ins, (n.ex e13).nf rs si, a, v, q1, rfl, r.ex e13, .inl ⟨q2, n.ex e13, k H3 (e2.trans e3)⟩⟩
theorem ev_one (ha : Ev ta σ H (.ref a)) (hb : Ev tb σ H v) (r : RatAt C H a q1) (n : NumV C H v q2) (rs : RIs K C) (si : PySem.W.subIn K (.type "int") (.ref C) = some false) : Ev (tOp (rOwnNe K C (spEq K C) EE) ta tb) σ H (.bl (!decide (q1 = q2))) := fun H1 e Q k =>
  ha H1 e _ fun H2 e2 => hb H2 (e.trans e2) _ fun H3 e3 => by
    have e13 := (e.trans e2).trans e3
    exact ⟨(r.ex e13).ins, (n.ex e13).nf rs si, a, v, q1, rfl, r.ex e13, .inl ⟨q2, n.ex e13, _, rfl, k H3 (e2.trans e3)⟩⟩
/-- v == a -/
theorem ev_oeqR (ha : Ev ta σ H v) (hb : Ev tb σ H (.ref a)) (r : RatAt C H a q1) (n : NumV C H v q2) (rs : RIs K C) (si : PySem.W.subIn K (.type "int") (.ref C) = some false) : Ev (tOp (fun x y H Q => rOwnEq K C (spEq K C) EE x y H Q ∨ rIntEq C (spEq K C) EE x y H Q) ta tb) σ H (.bl (decide (q1 = q2))) := fun H1 e Q k =>
  ha H1 e _ fun H2 e2 => hb H2 (e.trans e2) _ fun H3 e3 => by
    have e13 := (e.trans e2).trans e3
    have r3 := r.ex e13
    have g := k H3 (e2.trans e3)
    rcases n.ex e13 with ⟨i, rfl, rfl⟩ | ⟨p, rfl, hp⟩
    · exact .inr ⟨⟨i, rfl⟩, r3.ins, a, .int i, q1, rfl, r3, .inl ⟨_, .inl ⟨i, rfl, rfl⟩, g⟩⟩
    · refine .inl ⟨hp.ins, ⟨.ref C, r3.ty rs, nf_self⟩, p, .ref a, q2, rfl, hp, .inl ⟨q1, .inr ⟨a, rfl, r3⟩, ?_⟩⟩
      have ee : decide (q2 = q1) = decide (q1 = q2) := decide_eq_decide.mpr ⟨fun h => h.symm, fun h => h.symm⟩
      rw [ee]
      exact g
theorem ev_less (ha : Ev ta σ H (.ref a)) (hb : Ev tb σ H v) (r : RatAt C H a q1) (n : NumV C H v q2) (s1 : Sz 4000 q1) (s2 : Sz 4000 q2) : Ev (tMethSD C "below" (spLess C) [] E ta (tCons tb tNil)) σ H (.bl (decide (q1 < q2))) := fun H1 e Q k =>
  ha H1 e _ fun H2 e2 => by
    obtain ⟨dx, hx⟩ := r.ex (e.trans e2)
    exact ⟨a, dx, _, rfl, hx, ratF_no q1 (by decide +kernel) (by decide +kernel), hb H2 (e.trans e2) _ fun H3 e3 => ⟨a, v, q1, q2, rfl, r.ex ((e.trans e2).trans e3), n.ex ((e.trans e2).trans e3), s1, s2, fun H4 e4 => k H4 ((e2.trans e3).trans e4)⟩⟩
theorem ev_isnum (ha : Ev ta σ H v) (n : NumV C H v q) : Ev (tCallSD (spIsNum K C) [] E (tCons ta tNil)) σ H (.bl true) := fun H1 e Q k => ha H1 e _ fun H2 e2 => ⟨v, rfl, .inl ⟨q, n.ex (e.trans e2), k H2 e2⟩⟩
theorem ev_ischa (ha : Ev ta σ H v) (n : NumV C H v q) (s : Sz 4000 q) : Ev (tCallSD (spIsCh K C) [] E (tCons ta tNil)) σ H (.bl (!decide (q < 0) && !decide (1 < q))) := fun H1 e Q k => ha H1 e _ fun H2 e2 => ⟨v, rfl, .inl ⟨q, n.ex (e.trans e2), s, fun H3 e3 => k H3 (e2.trans e3)⟩⟩
theorem ev_isnum0 (ha : Ev ta σ H v) (n : ∀ H1, Ex H H1 → NoNum K C H1 v) : Ev (tCallSD (spIsNum K C) [] E (tCons ta tNil)) σ H (.bl false) := fun H1 e Q k => ha H1 e _ fun H2 e2 => ⟨v, rfl, .inr ⟨n H2 (e.trans e2), k H2 e2⟩⟩
theorem ev_ischa0 (ha : Ev ta σ H v) (n : ∀ H1, Ex H H1 → NoNum K C H1 v) : Ev (tCallSD (spIsCh K C) [] E (tCons ta tNil)) σ H (.bl false) := fun H1 e Q k => ha H1 e _ fun H2 e2 => ⟨v, rfl, .inr ⟨n H2 (e.trans e2), fun H3 e3 => k H3 (e2.trans e3)⟩⟩
theorem ev_reprV (h : Ev te σ H (.ref l)) (hl : H l = some (.lst xs)) (hd : ∀ H1, Ex H H1 → DpAll K H1 xs ds) (h1 : PyData.showable (.list ds) = true) (h2 : PyData.hasDict (.list ds) = false) (h3 : PyData.depth (.list ds) ≤ 60) (h4 : (PyData.shown (.list ds)).length ≤ sizeLine) :
    Ev (tCB (rRepr K) (tCons te tNil)) σ H (.str (PyData.shown (.list ds))) := fun H1 e Q q =>
  h H1 e _ fun H2 e2 => ⟨.ref l, .list ds, rfl, .lst (sq_of ((e.trans e2) _ _ hl)) (hd H2 (e.trans e2)), ⟨l, rfl⟩, h1, h2, h3, h4, q H2 e2⟩
theorem ev_repr4 {x1 x2 x3 x4 : Bool} (h : Ev te σ H (.ref l)) (hl : H l = some (.lst [.bl x1, .bl x2, .bl x3, .bl x4])) : Ev (tCB (rRepr K) (tCons te tNil)) σ H (.str (PyData.shown (.list [.bool x1, .bool x2, .bool x3, .bool x4]))) :=
  ev_reprV h hl (fun _ _ => .cons (.bl _) (.cons (.bl _) (.cons (.bl _) (.cons (.bl _) .nil)))) (by rfl) (by rfl) (by cases x1 <;> cases x2 <;> cases x3 <;> cases x4 <;> decide) (by cases x1 <;> cases x2 <;> cases x3 <;> cases x4 <;> decide +kernel)
theorem ev_reprB4 {x1 x2 x3 x4 : Bool} (h : EvL te σ H [.bl x1, .bl x2, .bl x3, .bl x4]) : Ev (tCB (rRepr K) (tCons te tNil)) σ H (.str (PyData.shown (.list [.bool x1, .bool x2, .bool x3, .bool x4]))) :=
  ev_reprL h (fun _ _ => .cons (.bl _) (.cons (.bl _) (.cons (.bl _) (.cons (.bl _) .nil)))) (by rfl) (by rfl) (by cases x1 <;> cases x2 <;> cases x3 <;> cases x4 <;> decide) (by cases x1 <;> cases x2 <;> cases x3 <;> cases x4 <;> decide +kernel)
theorem ev_reprB2 {x1 x2 : Bool} (h : EvL te σ H [.bl x1, .bl x2]) : Ev (tCB (rRepr K) (tCons te tNil)) σ H (.str (PyData.shown (.list [.bool x1, .bool x2]))) :=
  ev_reprL h (fun _ _ => .cons (.bl _) (.cons (.bl _) .nil)) (by rfl) (by rfl) (by cases x1 <;> cases x2 <;> decide) (by cases x1 <;> cases x2 <;> decide +kernel)
theorem er_over (ha : Ev ta σ H (.ref a)) (hb : Ev tb σ H v) (r : RatAt C H a q1) (n : NumV C H v q2) (s1 : Sz 4000 q1) (s2 : Sz 4000 q2) (z : q2 ≠ 0) : EvR C (tMethSD C "over" (spOver C CZ) [] E ta (tCons tb tNil)) σ H (q1 / q2) := fun H1 e Q k =>
  ha H1 e _ fun H2 e2 => by
    obtain ⟨dx, hx⟩ := r.ex (e.trans e2)
    exact ⟨a, dx, _, rfl, hx, ratF_no q1 (by decide +kernel) (by decide +kernel), hb H2 (e.trans e2) _ fun H3 e3 => ⟨a, v, q1, q2, rfl, r.ex ((e.trans e2).trans e3), n.ex ((e.trans e2).trans e3), s1, s2, fun q0 => (z q0).elim, fun _ p H4 e4 hp => k p H4 ((e2.trans e3).trans e4) hp⟩⟩
theorem div_pair {a b c d : Int} : Rat.divInt a b / Rat.divInt c d = Rat.divInt (a * d) (b * c) := by rw [Rat.div_def, Rat.inv_divInt, Rat.divInt_mul_divInt]
theorem zero_iff {c d : Int} (hd : d ≠ 0) : Rat.divInt c d = 0 ↔ c = 0 := by
  have e : (0 : Rat) = Rat.divInt 0 1 := rfl
  rw [e, Rat.divInt_eq_divInt_iff hd (by decide)]
  omega
end
end RatK
/-! ### calls by names alone, of what may raise and of classes -/
namespace L2
open PySem PySem.Spec PyProof.Rows
structure CalKX (P : Program) (w : World) (K : PySem.W.Frag) (mg : Str → Option Value) (base : Heap) (k : Nat) (x : Str) (ks : List Str) (sp : Sp) (gV : List V → List V → List V) : Prop where
  is : ∃ (f : Addr) (fd : FuncData) (ps : List Str) (g : List Value → List Value → List Value), FnOk P w K mg base (L2.CX P w) k f fd ps sp ∧ mg x = some (.ref f) ∧ PySem.W.keepIn K (.ref f) = true ∧ KBn K fd ps 0 ks g gV
structure MakK (P : Program) (w : World) (K : PySem.W.Frag) (mg : Str → Option Value) (base : Heap) (k : Nat) (x : Str) (C : Addr) (ks : List Str) (sp : Sp) (gV : List V → List V → List V) : Prop where
  is : ∃ (f : Addr) (fd : FuncData) (ps : List Str) (g : List Value → List Value → List Value), FnOk P w K mg base (L2.CX P w) k f fd ps sp ∧ Mk K C f ∧ mg x = some (.ref C) ∧ KBn K fd ps 1 ks g gV
def tCallKX (ks : List Str) (sp : Sp) (gV : List V → List V → List V) (E : St → XK) (tk : TA) : TE := fun σ H Q => tk σ H fun zs H2 => zs.length = ks.length ∧ sp (gV [] zs) H2 Q (E σ)
section
variable {X : Cx} {k j : Nat} {C : Addr} {x : Str} {ks : List Str} {sp : Sp} {gV : List V → List V → List V} {p pos : Pos} {kws : List Keyword} {tk : TA} {E : St → XK}
theorem pe_kwX (c : CalKX X.prog X.w X.K X.mg X.base k x ks sp gV) (hx : ∀ σ, PassesAt (L2.CX X.prog X.w) X σ (E σ)) (hr : Room j X.A) (hk : k ≤ j) (hg : Gl X x) (ha : PK X kws tk)
    (hall : (backToKw pos (keywordEach kws X.env)).all (·.1.isSome) = true := by rfl) (hks : (backToKw pos (keywordEach kws X.env)).filterMap (·.1) = ks := by rfl) (nd : (x == ("__debug__" : Str)) = false := by decide)
    (hpl : ((backTo pos (starEach [] X.env)).any (·.1) || (backToKw pos (keywordEach kws X.env)).any (·.1.isNone)) = false := by rfl) : PE X (.Call (.Name x p) [] kws pos) (tCallKX ks sp gV E tk) := by
  obtain ⟨f, fd, ps, g, F, hm, kp, b⟩ := c.is
  refine .mk fun pins s σ H Q I h => wpAny_Call_Name_kw (ld_glob I hg hm (PySem.W.callWith_KW0 (h₀ := X.base) I.ok.mod.kin kp hall (thn (ha.run pos pins s σ H _ I h) ?_) hpl) nd)
  rintro ws s2 ⟨zs, H2, I2, rz, sz, q⟩
  refine And.intro I2.kIn ?_
  rw [hks]
  have r0 : Vals ([] : List V) ([] : List Value) := .nil
  have rr := b.rel r0 rz
  refine wpAny_call (codeAny_mono (F.run X.A X.stack s2 H2 ⟨[], ks.zip ws⟩ (g [] ws) (gV [] zs) Q (E σ) (hr.mono hk) I2.env0 (b.to s2 [] ws I2.kIn rfl (rz.length.symm.trans sz)) rr q) ?_)
  intro r s' hq
  match r, hq with
  | .error er, hq => exact hx σ pins _ _ er s' I2 hq
  | .ok (.ret u), hq => exact Inv.after I2 hq
theorem pe_mkK (c : MakK X.prog X.w X.K X.mg X.base k x C ks sp gV) (hr : Room j X.A) (hk : k + 1 ≤ j) (hg : Gl X x) (ha : PK X kws tk)
    (hall : (backToKw pos (keywordEach kws X.env)).all (·.1.isSome) = true := by rfl) (hks : (backToKw pos (keywordEach kws X.env)).filterMap (·.1) = ks := by rfl) (nd : (x == ("__debug__" : Str)) = false := by decide)
    (hpl : ((backTo pos (starEach [] X.env)).any (·.1) || (backToKw pos (keywordEach kws X.env)).any (·.1.isNone)) = false := by rfl) : PE X (.Call (.Name x p) [] kws pos) (tMakeK C 0 ks.length sp gV E0 tNil tk) := by
  obtain ⟨f, fd, ps, g, F, M, hm, b⟩ := c.is
  exact pe_makeK0 M F (hr.mono hk) hg hm b passX ha hall hks nd hpl
end
end L2
namespace L2
open PySem PySem.Spec PyProof.Rows
theorem ix_tupK {X : Cx} {K : PySem.W.Frag} (hK : X.K = K) : IxR X (rIxT K) := hK ▸ ix_tup
end L2
/-! ### lists of pairs -/
namespace RatK
open PySem PySem.Spec PyProof.Rows L2 Evl LawK
def qOf (p : Int × Int) : Rat := Rat.divInt p.1 p.2
theorem add_step {n : Nat} {s : Rat} {t b : Int} (hs : Sz n s) (pb : PB 140 t b) : PB (n + 150) (s.num * b + t * (s.den : Int)) ((s.den : Int) * b) ∧ Rat.divInt (s.num * b + t * (s.den : Int)) ((s.den : Int) * b) = s + Rat.divInt t b := by
  have d0 := den_nz s
  have dl := den_abs s hs.2
  refine ⟨⟨up (al (ml hs.1 pb.lo) (by have := ml pb.up dl; rw [Nat.add_comm] at this; exact this)) (by omega), up (ml dl pb.lo) (by omega), Int.mul_ne_zero d0 pb.nz⟩, ?_⟩
  conv => rhs; rw [← divInt_nd s]
  rw [Rat.divInt_add_divInt _ _ d0 pb.nz]
theorem sum_sz {ps : List (Int × Int)} (pb : ∀ p ∈ ps, PB 140 p.1 p.2) : ∀ i, i ≤ ps.length → Sz (150 * (i + 1)) (sumR ((ps.map qOf).take i))
  | 0, _ => by
    show Sz 150 (sumR [])
    exact ⟨by decide +kernel, by decide +kernel⟩
  | i + 1, h => by
    have ih := sum_sz pb i (by omega)
    have hq : (ps.map qOf)[i]? = some (qOf ps[i]) := by rw [List.getElem?_map, List.getElem?_eq_getElem (by omega)]; rfl
    rw [take_one hq, sumR_snoc]
    obtain ⟨h1, h2⟩ := add_step ih (pb _ (List.getElem_mem (show i < ps.length by omega)))
    show Sz _ (_ + Rat.divInt _ _)
    rw [← h2]
    exact (h1.sz).mono (by omega)
theorem sum_sz4 {ps : List (Int × Int)} (pb : ∀ p ∈ ps, PB 140 p.1 p.2) (l : ps.length ≤ 20) (i : Nat) : Sz 4000 (sumR ((ps.map qOf).take i)) := by
  by_cases h : i ≤ ps.length
  · exact (sum_sz pb i h).mono (by omega)
  · rw [List.take_of_length_le (by rw [List.length_map]; omega)]
    have := sum_sz pb ps.length (Nat.le_refl _)
    rw [List.take_of_length_le (by rw [List.length_map]; exact Nat.le_refl _)] at this
    exact this.mono (by omega)
theorem all_sz {ps : List (Int × Int)} (pb : ∀ p ∈ ps, PB 140 p.1 p.2) : ∀ q ∈ ps.map qOf, Sz 4000 q := fun q hq => by
  obtain ⟨p, hp, rfl⟩ := List.mem_map.mp hq
  exact ((pb p hp).sz).mono (by decide)
theorem NumV.upd {C D : Addr} {H : Hp} {y : V} {q : Rat} {ys : List V} {o : HO} (n : NumV C H y q) (h : H D = some (.lst ys)) : NumV C (L2.upd H D o) y q := by
  rcases n with ⟨i, h1, h2⟩ | ⟨a, h1, dx, h2⟩
  · exact .inl ⟨i, h1, h2⟩
  · have ne : a ≠ D := fun e => by
      rw [e, h] at h2
      cases h2
    exact .inr ⟨a, h1, dx, by rw [upd_ne ne]; exact h2⟩
theorem eqv_self {K : PySem.W.Frag} {H : Hp} : ∀ ys : List V, (∀ y ∈ ys, (∃ i, y = .int i) ∨ ∃ a, y = .ref a) → Paired (EqV K H 1) ys ys
  | [], _ => .nil
  | y :: ys, h => .cons ((h y (.head _)).elim (fun ⟨i, e⟩ => .inl ⟨rfl, by rw [e]; rfl⟩) fun ⟨a, e⟩ => .inr (.inl ⟨a, e, e⟩)) (eqv_self ys fun z hz => h z (.tail _ hz))
section
variable {K : PySem.W.Frag} {C CZ a : Addr} {σ : L2.St} {H : Hp} {t : TT} {ta tb te : TE} {tz : TS} {D : L2.Ends} {E : L2.St → XK} {i : Nat} {x v : V} {b : Bool} {Q : VK} {qs : List Rat} {ys : List V} {l : Addr}
theorem x_ifE (h : t σ H fun c H1 => if c = true then ta σ H1 Q else tb σ H1 Q) : tIf t ta tb σ H Q := h
theorem q_ifset (h : EvT t σ H b) (hv : Ev te σ H v) (hs : σ.set i (some x) = σ) (k : ∀ H1, Ex H H1 → tz D (σ.set i (some (if b = true then v else x))) H1) : tSeq (tIfS t (tAsg te (gName i)) tNext) tz D σ H := by
  refine q_when h (fun hb H1 e1 => ?_) (fun hb H1 e1 => ?_)
  · refine s_asg (hv.mono e1) fun H2 e2 => ?_
    have := k H2 (e1.trans e2)
    rw [if_pos hb] at this
    exact this
  · have := k H1 e1
    rw [if_neg (by rw [hb]; decide), hs] at this
    exact this
theorem s_ifset (h : EvT t σ H b) (hv : Ev te σ H v) (hs : σ.set i (some x) = σ) (k : ∀ H1, Ex H H1 → D.nx (σ.set i (some (if b = true then v else x))) H1) : tIfS t (tAsg te (gName i)) tNext D σ H := by
  refine s_when h (fun hb H1 e1 => ?_) (fun hb H1 e1 => ?_)
  · refine s_asg (hv.mono e1) fun H2 e2 => ?_
    have := k H2 (e1.trans e2)
    rw [if_pos hb] at this
    exact this
  · have := k H1 e1
    rw [if_neg (by rw [hb]; decide), hs] at this
    exact this
theorem SeqN.ex {H2 : Hp} (h : SeqN K C H v qs) (e : Ex H H2) : SeqN K C H2 v qs := by
  obtain ⟨a, xs, h1, h2, h3, h4⟩ := h
  exact ⟨a, xs, h1, h2.ex e, h3, fun i x q g1 g2 => (h4 i x q g1 g2).ex e⟩
def EvS (K : PySem.W.Frag) (C : Addr) (te : TE) (σ : L2.St) (H : Hp) (qs : List Rat) : Prop := ∀ H1, Ex H H1 → ∀ Q : VK, (∀ v H2, Ex H1 H2 → SeqN K C H2 v qs → Q v H2) → te σ H1 Q
theorem es_v (h : Ev te σ H v) (hs : SeqN K C H v qs) : EvS K C te σ H qs := fun H1 e Q k => h H1 e Q fun H2 e2 => k v H2 e2 (hs.ex (e.trans e2))
theorem es_t (h : Ev te σ H (.ref l)) (hl : SqL K H l ys) (hy : ys.length = qs.length) (hn : ∀ (i : Nat) x q, ys[i]? = some x → qs[i]? = some q → NumV C H x q) :
    EvS K C (tCB (fun xs H Q => ∃ p ys, xs = [.ref p] ∧ ((SqL K H p ys ∧ ∀ l, H l = none → Q (.ref l) (upd H l (.tup ys))) ∨ (SqT K H p ys ∧ Q (.ref p) H))) (tCons te tNil)) σ H qs := fun H1 e Q k =>
  h H1 e _ fun H2 e2 => ⟨l, ys, rfl, .inl ⟨ex_l (e.trans e2) hl, fun p np => k _ _ (e2.trans (Ex.new np)) ⟨p, ys, rfl, .inr (.inl (.inl upd_same)), hy, fun i x q g1 g2 => (hn i x q g1 g2).ex ((e.trans e2).trans (Ex.new np))⟩⟩⟩
theorem es_nil : EvS K C (tLst tNil) σ H [] := fun H1 e Q k => ⟨Nat.zero_le _, fun p np => k _ _ (Ex.new np) ⟨p, [], rfl, .inl (sq_of upd_same), rfl, fun i x q h => by cases h⟩⟩
theorem er_total (h : EvS K C te σ H qs) (sz : ∀ q ∈ qs, Sz 4000 q) (sp : ∀ i, Sz 4000 (sumR (qs.take i))) : EvR C (tCallSD (spTotal K C) [] E (tCons te tNil)) σ H (sumR qs) := fun H1 e Q k =>
  h H1 e _ fun v H2 e2 hv => ⟨v, qs, rfl, hv, sz, sp, fun p H3 e3 hp => k p H3 (e2.trans e3) hp⟩
theorem er_pick {g : List Rat → Rat} (h : EvS K C te σ H qs) (ne : qs ≠ []) (sz : ∀ q ∈ qs, Sz 4000 q) : EvR C (tCallSD (spPick K C g) [] E (tCons te tNil)) σ H (g qs) := fun H1 e Q k =>
  h H1 e _ fun v H2 e2 hv => ⟨v, qs, rfl, hv, ne, sz, fun p H3 e3 hp => k p H3 (e2.trans e3) hp⟩
end
end RatK
/-! ### the law's state beside what is made -/
namespace LawK
open PySem PySem.Spec PyProof.Rows L2 Evl
theorem SB.mutD {G H : Hp} {p D : Addr} {m : Nat} {o o' : HO} (S : SB G H p m) (h : G D = some o) : SB (upd G D o') (upd H D o') p m := by
  obtain ⟨a, b, xs, ys, n, s, r⟩ := S
  have ne : ∀ {c : Addr}, G c = none → c ≠ D := fun {c} hc e => by
    rw [e, h] at hc
    cases hc
  refine ⟨a, b, xs, ys, n, ⟨fun x u hx => ?_, ?_, ?_, ?_, ?_, ?_, ?_, s.ap, s.bp, s.ab⟩, r⟩
  · by_cases e : x = D
    · rw [e, upd_same] at hx ⊢
      exact hx
    · rw [upd_ne e] at hx ⊢
      exact s.ex x u hx
  · rw [upd_ne (ne s.gp)]; exact s.hp
  · rw [upd_ne (ne s.ga)]; exact s.ha
  · rw [upd_ne (ne s.gb)]; exact s.hb
  · rw [upd_ne (ne s.gp)]; exact s.gp
  · rw [upd_ne (ne s.ga)]; exact s.ga
  · rw [upd_ne (ne s.gb)]; exact s.gb
section
variable {K : PySem.W.Frag} {σ : L2.St} {G H : Hp} {te : TE} {Q : VK} {p L : Addr} {m i n : Nat} {E : XK} {xs : List V}
/-- a draw, then the item of a list that is there -/
theorem u_pickL (S : SB G H p m) (hL : G L = some (.lst xs)) (hn : xs.length = n) (hi : σ[i]? = some (some (.ref p))) (he : Ev te σ G (.int (n : Int))) (k0 : 0 < n) (kb : n < 1000) (hm : m < 1000000)
    (q : ∀ (c : Nat) (v : V) (H2 : Hp), xs[c]? = some v → SB G H2 p (m + 1) → Q v H2) : tCall spDraw [] E (tCons (tVar i) (tCons te tNil)) σ H (fun y H2 => rIxL K (.ref L) y H2 Q) := by
  refine u_draw S hi he (by omega) (lg64 (by omega) (by omega)) hm fun r H2 r0 r1 S2 => ?_
  have hr : r.toNat < xs.length := by omega
  exact ⟨L, xs, r, xs[r.toNat], rfl, rfl, sq_of (S2.ex _ _ hL), at_of (Int.toNat_of_nonneg r0).symm (List.getElem?_eq_getElem hr), q r.toNat _ H2 (List.getElem?_eq_getElem hr) S2⟩
end
end LawK
namespace L2
open PySem PySem.Spec PyProof.Rows
theorem op_ownEqK {X : Cx} {K : PySem.W.Frag} {C : Addr} {sp : Sp} {E : XK} (hK : X.K = K) (h : OpR X (compareOp .Eq) (rOwnEq X.K C sp E)) : OpR X (compareOp .Eq) (rOwnEq K C sp E) := by
  rw [hK] at h
  exact h
end L2
namespace RatK
open PySem PySem.Spec PyProof.Rows L2 Evl LawK
/-- things that are no numbers, by their types -/
structure OddT (K : PySem.W.Frag) (C : Addr) : Prop where
  oN : PySem.W.kitOne K (.type "NoneType") (.ref C) = some false
  oB : PySem.W.kitOne K (.type "bool") (.ref C) = some false
  oS : PySem.W.kitOne K (.type "str") (.ref C) = some false
  oL : PySem.W.kitOne K (.type "list") (.ref C) = some false
  oT : PySem.W.kitOne K (.type "tuple") (.ref C) = some false
  oD : PySem.W.kitOne K (.type "dict") (.ref C) = some false
  sN : PySem.W.subIn K (.type "NoneType") (.ref C) = some false
  sB : PySem.W.subIn K (.type "bool") (.ref C) = some false
  sS : PySem.W.subIn K (.type "str") (.ref C) = some false
  sL : PySem.W.subIn K (.type "list") (.ref C) = some false
  sT : PySem.W.subIn K (.type "tuple") (.ref C) = some false
section
variable {K : PySem.W.Frag} {C CZ a D : Addr} {σ : L2.St} {H G : Hp} {ta tb te : TE} {q q1 q2 : Rat} {v : V} {E : L2.St → XK} {EE : XK} {xs ys : List V} {ps qs : List (Int × Int)} {l : Addr}
theorem no_non (O : OddT K C) : NoNum K C H .non := ⟨.type "NoneType", .base .non, .inl (kit_ty (by decide +kernel)), O.oN⟩
theorem no_bl (O : OddT K C) (b : Bool) : NoNum K C H (.bl b) := ⟨.type "bool", .base (.bl b), .inr ⟨kit_ty (by decide +kernel), kit_ty (by decide +kernel)⟩, O.oB⟩
theorem no_str (O : OddT K C) (z : Str) : NoNum K C H (.str z) := ⟨.type "str", .base (.str z), .inl (kit_ty (by decide +kernel)), O.oS⟩
theorem no_lst (O : OddT K C) (h : H l = some (.lst xs)) : NoNum K C H (.ref l) := ⟨.type "list", .base (.lst h), .inl (kit_ty (by decide +kernel)), O.oL⟩
theorem no_tup (O : OddT K C) (h : H l = some (.tup xs)) : NoNum K C H (.ref l) := ⟨.type "tuple", .base (.tup h), .inl (kit_ty (by decide +kernel)), O.oT⟩
theorem no_dic (O : OddT K C) (h : H l = some (.dK [])) : NoNum K C H (.ref l) := ⟨.type "dict", .base (.dK h), .inl (kit_ty (by decide +kernel)), O.oD⟩
/-- v is no number, and a Ratio is asked whether it's equal -/
def NoEq (K : PySem.W.Frag) (C : Addr) (H : Hp) (v : V) : Prop := NoNum K C H v ∧ ∃ t, TyX K H v t ∧ PySem.W.notFirst K C t = true
theorem ev_roeq (ha : EvR C ta σ H q1) (hb : Ev tb σ H v) (n : ∀ H1, Ex H H1 → NoEq K C H1 v) : Ev (tOp (rOwnEq K C (spEq K C) EE) ta tb) σ H (.bl false) := fun H1 e Q k =>
  ha H1 e _ fun p H2 e2 hp => hb H2 (e.trans e2) _ fun H3 e3 => by
    obtain ⟨n1, n2⟩ := n H3 ((e.trans e2).trans e3)
    exact ⟨(hp.ex e3).ins, n2, p, v, q1, rfl, hp.ex e3, .inr ⟨n1, k H3 (e2.trans e3)⟩⟩
theorem ev_rone (ha : EvR C ta σ H q1) (hb : Ev tb σ H v) (n : NumV C H v q2) (rs : RIs K C) (si : PySem.W.subIn K (.type "int") (.ref C) = some false) : Ev (tOp (rOwnNe K C (spEq K C) EE) ta tb) σ H (.bl (!decide (q1 = q2))) := fun H1 e Q k =>
  ha H1 e _ fun p H2 e2 hp => hb H2 (e.trans e2) _ fun H3 e3 => by
    have e13 := (e.trans e2).trans e3
    exact ⟨(hp.ex e3).ins, (n.ex e13).nf rs si, p, v, q1, rfl, hp.ex e3, .inl ⟨q2, n.ex e13, _, rfl, k H3 (e2.trans e3)⟩⟩
/-- Ratio(bottom = .., top = ..) -/
theorem er_kw {t b : Int} {ks : List Str} (hk : ks.length = 2) (ha : Ev tb σ H (.int b)) (hb : Ev ta σ H (.int t)) (h1 : t.natAbs < 2 ^ 8900) (h2 : b.natAbs < 2 ^ 8900) (nb : b ≠ 0) :
    EvR C (tMakeK C 0 ks.length (spInit C CZ) (fun vs zs => vs ++ (zs.drop 1 ++ zs.take 1)) EE tNil (tCons tb (tCons ta tNil))) σ H (Rat.divInt t b) := fun H1 e Q k =>
  ha H1 e _ fun H2 e2 => hb H2 (e.trans e2) _ fun H3 e3 => ⟨rfl, hk.symm, fun p dx nx nd ne => ⟨p, dx, t, b, rfl, upd_same, h1, h2, fun z => (nb z).elim, fun _ => ⟨rfl, k p _ ((e2.trans e3).trans (made nx nd ne).1) (made nx nd ne).2⟩⟩⟩
theorem er_mk1 {t : Int} (ha : Ev ta σ H (.int t)) (h1 : t.natAbs < 2 ^ 8900) : EvR C (tMakeSD C (spInit C CZ) [.int 1] E (tCons ta tNil)) σ H (t : Rat) := er_is (er_new1 ha h1) (one_is t)
end
end RatK
set_option Elab.async false
set_option linter.all false
set_option maxRecDepth 100000
set_option maxHeartbeats 2000000
namespace PySem
namespace LowX_BadNumber
open PySem.W PySem.Calls PyProof.Rows PySem.HandSPX
/-! ### the text of __init__ -/
def iA (p1 p2 : Pos) : Arguments := { posonlyargs := [], args := [{ arg := "self", annotation := none, pos := p1 }, { arg := "value", annotation := none, pos := p2 }], vararg := none, kwonlyargs := [], kw_defaults := [], kwarg := none, defaults := [] }
def iB (q1 q2 q3 q4 : Pos) : List Stmt := [.Assign [.Attribute (.Name "self" q1) "value" q2] (.Name "value" q3) q4]
def iS : Scope := { kind := .function, names := [(PySem.Str.ofString "self", .local), (PySem.Str.ofString "value", .local)], isGenerator := false, isCoroutine := false, more := [] }
/-- what the written part says of Low, at C, and of its __init__, at fI -/
structure LowTxt_BadNumber (K : Frag) (mg : Str → Option Value) (C fI : Addr) : Prop where
  gC : mg "BadNumber" = some (.ref C)
  cls : ∃ nm q N bs bm sn sub ab col dd k0 k1 k2 k3 k5, K.lookup C = some (excClassObj nm q C N bs bm true sn sub ab col dd k0 k1 k2 k3 k5 "ValueError.__new__") ∧ refsVE bm = true
  sa : findIn K (.ref C) "__setattr__" = some (some (.builtin "object.__setattr__"))
  ga : findIn K (.ref C) "__getattribute__" = some (some (.builtin "BaseException.__getattribute__"))
  gg : findIn K (.ref C) "__getattr__" = some none
  noN : findIn K (.ref C) "value" = some none
  iC : findIn K (.ref C) "__init__" = some (some (.ref fI))
  tC : typeIn K (.ref fI) = some (.type "function")
  kC : keepIn K (.ref C) = true
  exC : subIn K (.ref C) (.type "BaseException") = some true
  tyC : typeIn K (.ref C) = some (.type "type")
  hdC : hasDictIn K C = true
  te : exmOne K (.ref C) (.ref C) = some true
  fn : ∃ (oc : Value) (od : Option Addr) (doc pm : Value) (an : Option Addr) (cdv ct : Value) (osl : Array (Option Value)) (p1 p2 q1 q2 q3 q4 : Pos),
    K.lookup fI = some ⟨oc, od, .func (fnOf "__init__" "BadNumber.__init__" (iA p1 p2) (iB q1 q2 q3 q4) iS .none .none doc pm an cdv ct), osl⟩ ∧ codeIn K cdv "BadNumber.__init__" = true
theorem one_size (v : Value) : [v].length ≤ sizeLine := by
  rw [sizeLine_eq]
  exact (by decide : 1 ≤ 16777216)
theorem kept_but {K : Frag} {h h' : Heap} {x : Addr} (X : K.In h) (hx : K.lookup x = none) (k : ∀ b o, b ≠ x → h.get? b = some o → h'.get? b = some o) : K.In h' := fun a o e =>
  k a o (fun z => by rw [z, hx] at e; cases e) (X a o e)
theorem ldC {M : Model} {s : Shared} {name : Str} {scope : Scope} {L a : Addr} {cd : Value} {m : Str → Option Value} {x : Str} {pos : Pos} {v : Value} {Q : Value → Shared → Prop} {A : Around} {E : Value → Shared → Prop} (hn : s.heap.Ns L m) (hv : m x = some v) (h : Q v s)
    (hk : scope.kind = .function := by rfl) (hl : (envOfC name scope L a cd).kindOf x = some .local := by rfl) (hd : (x == ("__debug__" : Str)) = false := by decide) :
    wpAny M A (eval (.Name x pos) (envOfC name scope L a cd)) Q E s := wpAny_Name (wpAny_loadName_local hk hl hn hv h) hd
/-- what __init__ leaves of a fresh exception at x -/
structure InitEnd_BadNumber (h h' : Heap) (x C dx t1 : Addr) (v : Value) : Prop where
  keep : ∀ b o, b ≠ x → h.get? b = some o → h'.get? b = some o
  obj : h'.get? x = some { cls := .ref C, dict := some dx, data := .fields #[.ref t1, .none, .none, .none, .bool false, .none] }
  dbig : h.objs.size ≤ dx
  dne : dx ≠ x
  ns : h'.Ns1 dx (fun y => if y = "value" then some v else none)
/-- a made Low -/
structure OwnMade_BadNumber (h h' : Heap) (e C d : Addr) (v : Value) : Prop where
  keep : ∀ b o, h.get? b = some o → h'.get? b = some o
  new : h.objs.size ≤ e
  obj : ∃ oe vs, h'.get? e = some oe ∧ oe.cls = .ref C ∧ oe.dict = some d ∧ oe.data = .fields vs ∧ vs[1]? = some .none
  dbig : h.objs.size ≤ d
  dne : d ≠ e
  ns : h'.Ns1 d (fun y => if y = "value" then some v else none)
section
variable {prog : Program} {w : World} {A : Around} {E : Value → Shared → Prop} {R : Result → Shared → Prop} {s : Shared} {K : Frag} {mg : Str → Option Value} {C fI : Addr}
theorem low_init_BadNumber (T : LowTxt_BadNumber K mg C fI) {x t0 : Addr} {v : Value} (X : K.In s.heap) (hlim : s.heap.NoLimit) (hx : s.heap.get? x = some (excO C t0)) (hnx : K.lookup x = none) (hroom : A.depth < recursionLimit)
    (hq : ∀ h' tk dx, InitEnd_BadNumber s.heap h' x C dx t0 v → R (.ok (.ret .none)) { s with heap := h', toks := tk }) :
    codeAny (model prog w) A (.call (.ref fI) ⟨[.ref x, v], []⟩) R s := by
  obtain ⟨oc, od, doc, pm, an, cdv, ct, osl, p1, p2, q1, q2, q3, q4, ho, hcd⟩ := T.fn
  obtain ⟨nm, q, N, bs, bm, sn, sub, ab, col, dd, k0, k1, k2, k3, k5, hC, hbm⟩ := T.cls
  have hcl : clsIn K C = some { name := nm, bases := bs, mro := .ref C :: bm, ns := N, qualname := q, hasDict := true, slotNames := sn, subclasses := sub, abstract := ab, collection := col, hasDel := false } := by unfold clsIn; rw [hC] <;> rfl
  refine Att.call_fn (binds := [("self", .ref x), ("value", v)]) X hlim ho hcd hroom (BindsTo.of_eq (by first | rfl | with_unfolding_all rfl)) (by first | rfl | decide | with_unfolding_all rfl) (fun s₁ IC => ?_) rfl rfl rfl
  obtain ⟨h₁, tk₁, rfl⟩ := IC.toInCall.same
  have k : ∀ b o, s.heap.get? b = some o → h₁.get? b = some o := IC.toInCall.keep
  have hn := IC.toInCall.ns
  have hxL : s.heap.objs.size ≠ x := Nat.ne_of_gt (Heap.lt_size hx)
  have X₁ : K.In h₁ := X.keeps k
  have hx₁ := k _ _ hx
  -- self.by = by
  show wpAny _ _ (execs _ _) _ _ _
  refine wpAny_execs_cons (plainObj_wpAny_Assign_Attribute ?_)
  refine ldC (v := v) hn (by first | rfl | with_unfolding_all rfl | kernel_rfl) (ldC (v := .ref x) hn (by first | rfl | with_unfolding_all rfl | kernel_rfl) ?_)
  refine set_plain X₁ (ox := excO C t0) (od := none) ⟨hx₁, rfl, rfl, trivial⟩ T.sa ?_
  refine exc_osa X₁ hx₁ hcl (show refsVE (.ref C :: bm) = true from hbm) rfl T.noN (fun h₃ tk₃ dx k₃ dn dne hx₃ hn₃ => ?_)
  show wpAny _ _ (execs _ _) _ _ _
  have z : s.heap.objs.size < h₁.objs.size := hn.lt
  exact wpAny_execs_nil (hq h₃ tk₃ dx ⟨fun b o hb e => k₃ b o hb (k b o e), hx₃, Nat.le_of_lt (Nat.lt_of_lt_of_le z dn), dne, hn₃⟩)
theorem low_made_BadNumber (T : LowTxt_BadNumber K mg C fI) {v : Value} (X : K.In s.heap) (hlim : s.heap.NoLimit) (hroom : A.depth + 1 < recursionLimit)
    (hq : ∀ h' tk e d, OwnMade_BadNumber s.heap h' e C d v → R (.ok (.ret (.ref e))) { s with heap := h', toks := tk }) :
    codeAny (model prog w) A (.call (.ref C) ⟨[v], []⟩) R s := by
  obtain ⟨nm, q, N, bs, bm, sn, sub, ab, col, dd, k0, k1, k2, k3, k5, hC, hbm⟩ := T.cls
  obtain ⟨hp, g, dr, tk, os⟩ := s
  have k : ∀ b o, hp.get? b = some o → ((hp.push (kdv_tup [v])).push (excO C hp.objs.size)).get? b = some o := fun b o e => Heap.get?_push_of_some _ (Heap.get?_push_of_some _ e)
  have hget : ((hp.push (kdv_tup [v])).push (excO C hp.objs.size)).get? (hp.objs.size + 1) = some (excO C hp.objs.size) := by heap_get
  have hnx : K.lookup (hp.objs.size + 1) = none := by
    cases e : K.lookup (hp.objs.size + 1) with
    | none => rfl
    | some o =>
      have z : hp.get? (hp.objs.size + 1) = some o := X _ _ e
      exact absurd (Nat.lt_of_succ_lt (Heap.lt_size z)) (Nat.lt_irrefl _)
  refine call_own F.excBase_ValueError (fun X => refsVE_contains X bm hbm) (X _ _ hC) (looks_findIn X T.iC) (fun self => bind_fn X self T.tC) (one_size v) ?_
  refine low_init_BadNumber (s := ⟨(hp.push (kdv_tup [v])).push (excO C hp.objs.size), g, dr, tk, os⟩) T (X.keeps k) (hlim.keeps k) hget hnx ?_ fun h' tk' dx ⟨k', hx, dn, dne, hns⟩ => ?_
  · show A.depth + 1 < recursionLimit
    exact hroom
  · have old : ∀ b o, hp.get? b = some o → h'.get? b = some o := fun b o e => k' b o (Nat.ne_of_lt (Nat.lt_succ_of_lt (Heap.lt_size e))) (k b o e)
    have z : hp.objs.size + 1 + 1 ≤ dx := by
      first
        | (simpa only [Heap.size_push] using dn)
        | exact dn
        | (have q := dn; rw [Heap.size_push, Heap.size_push] at q; exact q)
    exact ⟨rfl, hq h' tk' (hp.objs.size + 1) dx ⟨old, Nat.le_succ _, ⟨_, _, hx, rfl, rfl, rfl, rfl⟩, Nat.le_trans (Nat.le_trans (Nat.le_succ _) (Nat.le_succ _)) z, dne, hns⟩⟩
end
end LowX_BadNumber
end PySem
namespace L2
open PySem PySem.Spec PyProof.Rows
theorem relO_low_BadNumber {v : V} {v' : Value} (r : RelV v v') (f : Str) : RelO (List.lookup f [(("value" : Str), v)]) (if f = "value" then some v' else none) := by
  by_cases hw : f = "value"
  · subst hw
    rw [if_pos rfl]
    have q : List.lookup ("value" : Str) [(("value" : Str), v)] = some v := by simp [List.lookup]
    rw [q]
    exact r
  · rw [if_neg hw]
    have qw : (f == ("value" : Str)) = false := by simpa using hw
    have q2 : List.lookup f [(("value" : Str), v)] = none := by simp [List.lookup, qw]
    rw [q2]
    trivial
section
variable {X : Cx} {C fI : Addr}
/-- Low(e) -/
def tMkLow_BadNumber (C : Addr) (ta : TA) : St → Hp → XK → Prop := fun σ H Q => ta σ H fun vs H1 => ∃ v, vs = [v] ∧ ∀ d, H1 d = none → Q (.ref C) (some d) (upd H1 d (.xd [(("value" : Str), v)]))
theorem pmk_low_BadNumber {a : Expr} {ta : TA} {p pos : Pos} {k : Nat} (T : PySem.LowX_BadNumber.LowTxt_BadNumber X.K X.mg C fI) (hr : Room k X.A) (ha : PA X [a] ta) (hg : Gl X "BadNumber" := by rfl)
    (he : starEach (a :: []) X.env = (false, eval a X.env) :: starEach [] X.env := by rfl) (hpl : (backTo pos (starEach [] X.env)).any (·.1) = false := by rfl) :
    PMk X (.Call (.Name "BadNumber" p) [a] [] pos) (tMkLow_BadNumber C ta) := by
  intro pins s σ H Q I h
  refine wpAny_Call_Name_kw (ld_glob I hg T.gC ?_)
  refine PySem.W.callWith_K (h₀ := X.base) I.ok.mod.kin T.kC (thn (ha.run pos pins s σ H _ I h) fun us s1 hh => ?_) he hpl
  obtain ⟨vs, H1, I1, r1, v, ev, q1⟩ := hh
  subst ev
  refine ⟨I1.kIn, ?_⟩
  cases r1 with
  | cons rv rn =>
    rename_i v' us'
    cases rn
    show wpAny _ _ (call (.ref C) [v']) _ _ _
    have hlim := I1.nolimit
    obtain ⟨hp, g, dr, tk, os⟩ := s1
    refine wpAny_call (PySem.LowX_BadNumber.low_made_BadNumber T I1.kIn hlim (by have := hr.dp; omega) fun h' tk' e d M => ?_)
    show MkP X pins σ Q (.ref e) ⟨h', g, dr, tk', os⟩
    obtain ⟨oe, fv, hoe, hc, hd, hdat, h1⟩ := M.obj
    have hns := M.ns
    obtain ⟨G', g1, g2⟩ := restrict h' fun b => decide (b ≠ e)
    have gk : ∀ b, b ≠ e → G'.get? b = h'.get? b := fun b hb => g1 b (decide_eq_true hb)
    have ge : G'.get? e = none := g2 e (by simp)
    have old : ∀ b o, hp.get? b = some o → G'.get? b = some o := fun b o q => (gk b (Nat.ne_of_lt (Nat.lt_of_lt_of_le (Heap.lt_size q) M.new))).trans (M.keep b o q)
    have ob : ObjOk X.prog X.w (upd H1 d (.xd [(("value" : Str), v)])) G' d (.xd [(("value" : Str), v)]) :=
      ⟨_, hns.at (fun o q => (gk d M.dne).trans q), fun f => relO_low_BadNumber rv f⟩
    have J : Inv X pins σ (upd H1 d (.xd [(("value" : Str), v)])) ⟨G', g, dr, tk', os⟩ := I1.laid (t' := tk') old M.dbig ob
    refine ⟨e, oe, fv, ⟨G', g, dr, tk', os⟩, _, .ref C, some d, rfl, J, fun b o q => ?_, ge, hoe, ⟨hc, hd⟩, hdat, h1, ?_, rfl, I1.bare, raises_own T.exC T.tyC, q1 d (I1.hok.fresh M.dbig)⟩
    · by_cases hb : b = e
      · have q' : G'.get? b = some o := q
        rw [hb, ge] at q'; cases q'
      · exact (gk b hb).symm.trans q
    · rw [upd_ne (Ne.symm M.dne)]
      exact I1.hok.fresh M.new
/-- raise Low(e) -/
def tRaiseLow_BadNumber (C : Addr) (W : WX) (ta : TA) : TS := fun _ σ H => tMkLow_BadNumber C ta σ H fun cls d H' => W cls d σ H'
theorem ps_raiseLow_BadNumber {a : Expr} {ta : TA} {W : WX} {p pos pos2 : Pos} {k : Nat} (hc : X.calm = true) (T : PySem.LowX_BadNumber.LowTxt_BadNumber X.K X.mg C fI) (hr : Room k X.A) (tk : Takes X W) (ha : PA X [a] ta) (hg : Gl X "BadNumber" := by rfl)
    (he : starEach (a :: []) X.env = (false, eval a X.env) :: starEach [] X.env := by rfl) (hpl : (backTo pos (starEach [] X.env)).any (·.1) = false := by rfl) :
    PS X (.Raise (some (.Call (.Name "BadNumber" p) [a] [] pos)) none pos2) (tRaiseLow_BadNumber C W ta) := ps_raise hc tk (pmk_low_BadNumber T hr ha hg he hpl)
/-- low.by, low the exception that the suite holds (at a; its class cls, its dict d) -/
def tByLow_BadNumber (C : Addr) (a : Addr) (cls : Value) (d : Option Addr) (te : TE) : TE := fun σ H Q => te σ H fun x H1 => x = .ref a ∧ cls = .ref C ∧ ∃ (dd : Addr) (v : V), d = some dd ∧ H1 dd = some (.xd [(("value" : Str), v)]) ∧ Q v H1
theorem pe_byLow_BadNumber {a : Addr} {oe : Obj} {cls : Value} {d : Option Addr} {pn : List (Addr × Obj)} {e : Expr} {te : TE} {pos : Pos} (T : PySem.LowX_BadNumber.LowTxt_BadNumber X.K X.mg C fI) (hz : Zc cls d oe) (hf : ∃ vs, oe.data = .fields vs) (he : PE (X.suite a ((a, oe) :: pn)) e te)
    (hb : attributeBase e "value" X.env (eval e X.env) = eval e X.env := by rfl) :
    PE (X.suite a ((a, oe) :: pn)) (.Attribute e "value" pos) (tByLow_BadNumber C a cls d te) := by
  refine ⟨fun pins s σ H Q I h => ?_⟩
  refine attr_of hb (thn (he.run pins s σ H _ I h) fun u s1 hh => ?_)
  obtain ⟨x, H1, I1, rx, ex, ec, dd, v, ed, ea, q⟩ := hh
  subst ex
  obtain rfl : u = Value.ref a := rx
  subst ec
  subst ed
  obtain ⟨ha, _⟩ := I1.pin (a, oe) (List.mem_append_left _ List.mem_cons_self)
  obtain ⟨vs, hd⟩ := hf
  have hx : ObjOk X.prog X.w H1 s1.heap dd (.xd [(("value" : Str), v)]) := I1.hok dd _ ea
  obtain ⟨mA, hns, hr⟩ := hx
  obtain ⟨od, ho, hl⟩ := lookIn_ns hns
  have l : List.lookup ("value" : Str) [(("value" : Str), v)] = some v := by simp [List.lookup]
  obtain ⟨u, hu, ru⟩ := RelO.some_of (v := v) (o := mA "value") (by rw [← l]; exact hr "value")
  have J : PySem.W.InstAt s1.heap a oe C (some od) := ⟨ha, hz.1, by unfold PySem.W.notCls; rw [hd] <;> rfl, by rw [hz.2]; exact ho⟩
  exact HandSPX.exc_get I1.kIn J T.ga T.gg T.exC (PySem.W.findObj_own T.hdC T.noN rfl (by rw [hl, hu])) (handed_of ru) ⟨v, H1, I1.tok _, ru, q⟩
end
end L2


namespace K05
open PySem PySem.Spec PyProof.Rows L2 Evl LawK RatK
def topS (i : Nat) : Stmt := PySem.Challenge.pw_saidchances_k05_ratios.main.body.getD i (.Pass ⟨0, 0, 0, 0⟩)
/-! ### Ratio, its parts and what works on it -/
open RatK
structure RTxt (K : PySem.W.Frag) (mg : Str → Option Value) (C : Addr) : Prop where
  r : RIs K C
  nT : NoAttr K C "_top"
  nB : NoAttr K C "_bottom"
  g_Ratio : ∃ u, mg "Ratio" = some u ∧ RelV (.ref C) u
  g_gcd : mg "gcd" = some (.builtin "math.gcd")
  z_isinstance : mg "isinstance" = none
  z_int : mg "int" = none
  z_bool : mg "bool" = none
  z_abs : mg "abs" = none
  z_repr : mg "repr" = none
  z_list : mg "list" = none
  z_tuple : mg "tuple" = none
  z_sum : mg "sum" = none
  z_len : mg "len" = none
  z_range : mg "range" = none
/-- what the operators ask of the class -/
structure ROps (K : PySem.W.Frag) (C : Addr) : Prop where
  sf : PySem.W.selfFirst K C = true
  na : PySem.W.findIn K (.ref C) "__radd__" = some none
  ns : PySem.W.findIn K (.ref C) "__rsub__" = some none
  nm : PySem.W.findIn K (.ref C) "__rmul__" = some none
  nn : PySem.W.findIn K (.ref C) "__ne__" = some (some (.builtin "object.__ne__"))
  si : PySem.W.subIn K (.type "int") (.ref C) = some false
  is : PySem.W.subIn K (.ref C) (.type "int") = some false
/-- ByZero -/
structure ZTxt (K : PySem.W.Frag) (mg : Str → Option Value) (CZ : Addr) : Prop where
  gZ : mg "ByZero" = some (.ref CZ)
  xZ : PySem.W.excIn K CZ [.type "ValueError", .type "Exception", .type "BaseException", .type "object"] "ValueError.__new__" = true
  kZ : PySem.W.keepIn K (.ref CZ) = true
  bZ : PySem.W.subIn K (.ref CZ) (.type "BaseException") = some true
  tZ : PySem.W.typeIn K (.ref CZ) = some (.type "type")
  eZ : PySem.W.exmOne K (.ref CZ) (.ref CZ) = some true
section
variable {P : Program} {w : World} {K : PySem.W.Frag} {mg : Str → Option Value} {base : Heap} {C CZ : Addr}
abbrev s_is_integer : Stmt := topS 14
theorem sc_is_integer : FnScope ["value"] ["value"] (defScope s_is_integer) := ⟨rfl, rfl, rfl, by decide +kernel, rfl, by decide +kernel, by decide +kernel⟩
theorem ok_is_integer {f : Addr} {fd : FuncData} (F : Fun K "is_integer" "is_integer" s_is_integer f fd) (T : RTxt K mg C) : FnOk P w K mg base CX0 1 f fd ["value"] (spIsInt K) := by
  refine F.ok sc_is_integer (fun vs H Q E h => ?_) (fun cdv A outer s H vs Q E hr h => ?_)
  · obtain ⟨v, rfl, _⟩ := h
    rfl
  · obtain ⟨v, rfl, h⟩ := h
    refine ⟨_, (pss_one (ps_ret (pe_and (pe_callB call_isi (by rfl) T.z_isinstance (by decide +kernel) (pa_cons (pv 0) (pa_cons (pe_bltn (by rfl) T.z_int (by decide +kernel) (show RelV (.ty "int") (.type "int") from rfl)) pa_nil))) (pe_one (pe_not (pe_callB call_isi (by rfl) T.z_isinstance (by decide +kernel) (pa_cons (pv 0) (pa_cons (pe_bltn (by rfl) T.z_bool (by decide +kernel) (show RelV (.ty "bool") (.type "bool") from rfl)) pa_nil)))))))), ?_⟩
    rcases h with ⟨i, rfl, q⟩ | ⟨t, ty, no, q⟩
    · refine ⟨.int i, rfl, .int i, .ty "int", .type "int", .type "int", true, rfl, .ty "int", .base (.int i), kit_ty (by decide +kernel), true, rfl, ?_⟩
      exact iteT ⟨.int i, rfl, .int i, .ty "bool", .type "int", .type "bool", false, rfl, .ty "bool", .base (.int i), kit_ty (by decide +kernel), false, rfl, q⟩
    · rcases no with no | ⟨n1, n2⟩
      · exact ⟨v, rfl, v, .ty "int", t, .type "int", false, rfl, .ty "int", ty, no, false, rfl, iteF q⟩
      · refine ⟨v, rfl, v, .ty "int", t, .type "int", true, rfl, .ty "int", ty, n1, true, rfl, ?_⟩
        exact iteT ⟨v, rfl, v, .ty "bool", t, .type "bool", true, rfl, .ty "bool", ty, n2, true, rfl, q⟩
/-! a new one -/
abbrev s_Ratio___init__ : Stmt := inClass (topS 16) 0
theorem sc_Ratio___init__ : FnScope ["self", "top", "bottom", "common"] ["self", "top", "bottom"] (defScope s_Ratio___init__) := ⟨rfl, rfl, rfl, by decide +kernel, rfl, by decide +kernel, by decide +kernel⟩
theorem ok_init {f : Addr} {fd : FuncData} (F : FunD K "__init__" "Ratio.__init__" (defArgs s_Ratio___init__) (defBody s_Ratio___init__) (defScope s_Ratio___init__) [.int 1] [] f fd) (T : RTxt K mg C) (Z : ZTxt K mg CZ) :
    FnOk P w K mg base (L2.CX P w) 1 f fd ["self", "top", "bottom"] (spInit C CZ) := by
  refine F.ok sc_Ratio___init__ (fun vs H Q E h => ?_) (fun cdv A outer s H vs Q E hr h => ?_)
  · obtain ⟨x, dx, t, b, rfl, _⟩ := h
    rfl
  · obtain ⟨x, dx, t, b, rfl, hx, ht, hb, q0, q⟩ := h
    refine ⟨_, (pss_cons (ps_if (pt_cmpR op_eq (pv 2) pe_int (nomark _))
        (pss_one (ps_raise rfl (takes_of rfl rfl rfl rfl) (pmk_own0 PySem.F.excBase_ValueError Z.xZ Z.gZ Z.kZ (raises_own Z.bZ Z.tZ) (by rfl))))
        pss_nil)
      (pss_cons (ps_set (i := 3) sc_Ratio___init__.nd rfl (Or.inl rfl) (pe_callBfun cr_gcd (by rfl) T.g_gcd (pa_cons (pv 1) (pa_cons (pv 2) pa_nil))))
      (pss_cut (ps_if (pt_cmpR op_lt (pv 2) pe_int (nomark _))
        (pss_one (ps_set (i := 3) sc_Ratio___init__.nd rfl (Or.inl rfl) (pe_un un_neg (pv 3))))
        pss_nil)
      (pss_cons (ps_fld (pv 0) (pe_op op_fdivZ (pv 1) (pv 3)) rfl)
      (pss_one (ps_fld (pv 0) (pe_op op_fdivZ (pv 2) (pv 3)) rfl)))))), ?_⟩
    refine ⟨.int b, rfl, rfl, _, rfl, ?_⟩
    refine ite2 (fun e => ?_) (fun e => ?_)
    · exact q0 (V.int.inj (of_decide_eq_true e))
    · have nb : b ≠ 0 := fun z => e (decide_eq_true (by rw [z]))
      have lb : ∀ z : Int, z.natAbs ≤ b.natAbs → z.natAbs.log2 < 9000 := fun z h => lg_of (n := 8900) (Nat.lt_of_le_of_lt h hb) (by decide) (by decide)
      refine ⟨.int t, rfl, .int b, rfl, t, b, rfl, ?_⟩
      refine ⟨fun σ H' => H' = H ∧ σ = [some (.ref x), some (.int t), some (.int b), some (.int (sgn b (Nat.gcd t.natAbs b.natAbs)))], ?_, ?_⟩
      · refine ⟨.int b, rfl, b, 0, rfl, rfl, _, rfl, ?_⟩
        refine ite2 (fun e2 => ?_) (fun e2 => ?_)
        · have l := of_decide_eq_true e2
          refine ⟨_, rfl, _, rfl, rfl, ?_⟩
          unfold sgn
          rw [if_pos l]
          rfl
        · have l : ¬ b < 0 := fun z => e2 (decide_eq_true z)
          refine ⟨rfl, ?_⟩
          unfold sgn
          rw [if_neg l]
          rfl
      · rintro σ H' ⟨rfl, rfl⟩
        refine ⟨.int t, rfl, _, rfl, t, _, rfl, rfl, ⟨sgn_ne nb, lb _ (sgn_le nb)⟩, .ref x, rfl, x, C, dx, [], rfl, hx, T.r.cl, T.nT, (by show 0 < 1000; decide), ?_⟩
        refine ⟨.int b, rfl, _, rfl, b, _, rfl, rfl, ⟨sgn_ne nb, lb _ (sgn_le nb)⟩, .ref x, rfl, x, C, dx, _, rfl, upd_same, T.r.cl, T.nB, (by show 1 < 1000; decide), ?_⟩
        have g := q nb
        unfold ratF at g
        rw [← num_is nb, ← den_is nb] at g
        rw [upd_upd]
        exact g
/-! its parts -/
abbrev s_Ratio_top : Stmt := inClass (topS 16) 1
theorem sc_Ratio_top : FnScope ["self"] ["self"] (defScope s_Ratio_top) := ⟨rfl, rfl, rfl, by decide +kernel, rfl, by decide +kernel, by decide +kernel⟩
theorem ok_top {f : Addr} {fd : FuncData} (F : Fun K "top" "Ratio.top" s_Ratio_top f fd) (T : RTxt K mg C) : FnOk P w K mg base CX0 1 f fd ["self"] (spTop C) := by
  refine F.ok sc_Ratio_top (fun vs H Q E h => ?_) (fun cdv A outer s H vs Q E hr h => ?_)
  · obtain ⟨a, q, rfl, _⟩ := h
    rfl
  · obtain ⟨a, q, rfl, ⟨dx, ha⟩, k⟩ := h
    exact ⟨_, (pss_one (ps_ret (pe_fld (pv 0) rfl))), ⟨.ref a, rfl, a, C, dx, _, _, rfl, ha, T.r.cl, T.nT, ratF_top q, k⟩⟩
abbrev s_Ratio_bottom : Stmt := inClass (topS 16) 2
theorem sc_Ratio_bottom : FnScope ["self"] ["self"] (defScope s_Ratio_bottom) := ⟨rfl, rfl, rfl, by decide +kernel, rfl, by decide +kernel, by decide +kernel⟩
theorem ok_bottom {f : Addr} {fd : FuncData} (F : Fun K "bottom" "Ratio.bottom" s_Ratio_bottom f fd) (T : RTxt K mg C) : FnOk P w K mg base CX0 1 f fd ["self"] (spBot C) := by
  refine F.ok sc_Ratio_bottom (fun vs H Q E h => ?_) (fun cdv A outer s H vs Q E hr h => ?_)
  · obtain ⟨a, q, rfl, _⟩ := h
    rfl
  · obtain ⟨a, q, rfl, ⟨dx, ha⟩, k⟩ := h
    exact ⟨_, (pss_one (ps_ret (pe_fld (pv 0) rfl))), ⟨.ref a, rfl, a, C, dx, _, _, rfl, ha, T.r.cl, T.nB, ratF_bot q, k⟩⟩
/-! a number as a Ratio -/
abbrev s_as_ratio : Stmt := topS 19
theorem sc_as_ratio : FnScope ["value"] ["value"] (defScope s_as_ratio) := ⟨rfl, rfl, rfl, by decide +kernel, rfl, by decide +kernel, by decide +kernel⟩
theorem ok_as_ratio {f CB fI : Addr} {fd : FuncData} (F : Fun K "as_ratio" "as_ratio" s_as_ratio f fd) (T : RTxt K mg C) (B : PySem.LowX_BadNumber.LowTxt_BadNumber K mg CB fI) (c_is_integer : CalX P w K mg base 1 "is_integer" (spIsInt K) []) (c_Ratio : MakX P w K mg base 1 "Ratio" C (spInit C CZ) [.int 1]) :
    FnOk P w K mg base (L2.CX P w) 4 f fd ["value"] (spAsR K C CB) := by
  refine F.okX sc_as_ratio (fun vs H Q E h => ?_) (fun cdv A outer s H vs Q E hr h => ?_)
  · obtain ⟨v, rfl, _⟩ := h
    rfl
  · obtain ⟨v, rfl, h⟩ := h
    refine ⟨_, (pss_cons (ps_if (pt_val (pe_callB call_isi (by rfl) T.z_isinstance (by decide +kernel) (pa_cons (pv 0) (pa_cons (pe_k0 rfl T.g_Ratio) pa_nil))))
        (pss_one (ps_ret (pv 0)))
        pss_nil)
      (pss_cons (ps_if (pt_val (pe_cX c_is_integer passN hr (by decide) rfl (pa_cons (pv 0) pa_nil)))
        (pss_one (ps_ret (pe_mkX c_Ratio passN hr (by decide) rfl (pa_cons (pv 0) pa_nil))))
        pss_nil)
      (pss_one (ps_raiseLow_BadNumber rfl B hr (takes_of rfl rfl rfl rfl) (pa_cons (pv 0) pa_nil))))), ?_⟩
    rcases h with ⟨q, hN, sz, k⟩ | ⟨⟨t, ty, no, nc⟩, k⟩
    · rcases hN with ⟨i, rfl, rfl⟩ | ⟨a, rfl, hR⟩
      · refine ⟨.int i, rfl, .int i, .ref C, .type "int", .ref C, false, rfl, .own C, .base (.int i), T.r.ti, false, rfl, ?_⟩
        refine iteF ⟨.int i, rfl, .int i, rfl, .inl ⟨i, rfl, true, rfl, ?_⟩⟩
        refine iteT ?_
        refine u_new1 (ev_var rfl) sz.1 fun p H2 e hr => ?_
        rw [one_is] at hr
        exact k p H2 e hr
      · refine ⟨.ref a, rfl, .ref a, .ref C, .ref C, .ref C, true, rfl, .own C, hR.ty T.r, T.r.kc, true, rfl, ?_⟩
        exact iteT ⟨.ref a, rfl, k a H (Ex.refl H) hR⟩
    · refine ⟨v, rfl, v, .ref C, t, .ref C, false, rfl, .own C, ty, nc, false, rfl, ?_⟩
      refine iteF ⟨v, rfl, v, rfl, .inr ⟨t, ty, no, false, rfl, ?_⟩⟩
      refine iteF ?_
      exact ⟨v, rfl, v, rfl, fun d hd => k d hd⟩
/-! the operators -/
abbrev s_Ratio___add__ : Stmt := inClass (topS 16) 3
theorem sc_Ratio___add__ : FnScope ["self", "other", "number"] ["self", "other"] (defScope s_Ratio___add__) := ⟨rfl, rfl, rfl, by decide +kernel, rfl, by decide +kernel, by decide +kernel⟩
theorem ok_add {f CB : Addr} {fd : FuncData} (F : Fun K "__add__" "Ratio.__add__" s_Ratio___add__ f fd) (T : RTxt K mg C) (c_as_ratio : CalX P w K mg base 4 "as_ratio" (spAsR K C CB) []) (c_Ratio : MakX P w K mg base 1 "Ratio" C (spInit C CZ) [])
    (p_top : ProX P w K mg base 1 C "top" (spTop C)) (p_bottom : ProX P w K mg base 1 C "bottom" (spBot C)) : FnOk P w K mg base (L2.CX P w) 5 f fd ["self", "other"] (spBin C (fun a b => a + b)) := by
  refine F.okX sc_Ratio___add__ (fun vs H Q E h => ?_) (fun cdv A outer s H vs Q E hr h => ?_)
  · obtain ⟨x, y, q1, q2, rfl, _⟩ := h
    rfl
  · obtain ⟨x, y, q1, q2, rfl, ⟨dx, h1⟩, h2, s1, s2, k⟩ := h
    refine ⟨_, (pss_cons (ps_set (i := 2) sc_Ratio___add__.nd rfl (Or.inl rfl) (pe_cX c_as_ratio passN hr (by decide) rfl (pa_cons (pv 1) pa_nil)))
      (pss_one (ps_ret (pe_mkX c_Ratio passN hr (by decide) rfl (pa_cons (pe_op op_add (pe_op op_mulW (pe_fld (pv 0) rfl) (pe_prX p_bottom hr (by decide) (pv 2))) (pe_op op_mulW (pe_prX p_top hr (by decide) (pv 2)) (pe_fld (pv 0) rfl))) (pa_cons (pe_op op_mulW (pe_fld (pv 0) rfl) (pe_prX p_bottom hr (by decide) (pv 2))) pa_nil)))))), ?_⟩
    refine ⟨y, rfl, y, rfl, .inl ⟨q2, h2, s2.mono (by decide), fun p H2 e hp => ?_⟩⟩
    dsimp only [gName]
    have h1' := e _ _ h1
    have tA := ev_fld (K := K) (ta := tVar 0) (σ := [some (.ref x), some y, some (.ref p)]) (ev_var rfl) h1' T.r.cl T.nT (ratF_top q1)
    have bA := ev_fld (K := K) (ta := tVar 0) (σ := [some (.ref x), some y, some (.ref p)]) (ev_var rfl) h1' T.r.cl T.nB (ratF_bot q1)
    have tB := ev_top (ta := tVar 2) (σ := [some (.ref x), some y, some (.ref p)]) (ev_var rfl) hp
    have bB := ev_bot (ta := tVar 2) (σ := [some (.ref x), some y, some (.ref p)]) (ev_var rfl) hp
    have d1 := den_abs q1 s1.2
    have d2 := den_abs q2 s2.2
    refine x_ret (u_new (ev_op (ev_op tA bB (rv_mulW (sz_mul s1.1 d2))) (ev_op tB bA (rv_mulW (sz_mul s2.1 d1))) rv_I0) (ev_op bA bB (rv_mulW (sz_mul d1 d2))) ?_ (lt_up (lt_mul d1 d2)) (Int.mul_ne_zero (den_nz q1) (den_nz q2)) fun r H3 e3 hr3 => ?_)
    · exact lt_add (lt_mul s1.1 d2) (lt_mul s2.1 d1)
    · rw [add_is] at hr3
      exact k r H3 (e.trans e3) hr3
abbrev s_Ratio___sub__ : Stmt := inClass (topS 16) 4
theorem sc_Ratio___sub__ : FnScope ["self", "other", "number"] ["self", "other"] (defScope s_Ratio___sub__) := ⟨rfl, rfl, rfl, by decide +kernel, rfl, by decide +kernel, by decide +kernel⟩
theorem ok_sub {f CB : Addr} {fd : FuncData} (F : Fun K "__sub__" "Ratio.__sub__" s_Ratio___sub__ f fd) (T : RTxt K mg C) (c_as_ratio : CalX P w K mg base 4 "as_ratio" (spAsR K C CB) []) (c_Ratio : MakX P w K mg base 1 "Ratio" C (spInit C CZ) [])
    (p_top : ProX P w K mg base 1 C "top" (spTop C)) (p_bottom : ProX P w K mg base 1 C "bottom" (spBot C)) : FnOk P w K mg base (L2.CX P w) 5 f fd ["self", "other"] (spBin C (fun a b => a - b)) := by
  refine F.okX sc_Ratio___sub__ (fun vs H Q E h => ?_) (fun cdv A outer s H vs Q E hr h => ?_)
  · obtain ⟨x, y, q1, q2, rfl, _⟩ := h
    rfl
  · obtain ⟨x, y, q1, q2, rfl, ⟨dx, h1⟩, h2, s1, s2, k⟩ := h
    refine ⟨_, (pss_cons (ps_set (i := 2) sc_Ratio___sub__.nd rfl (Or.inl rfl) (pe_cX c_as_ratio passN hr (by decide) rfl (pa_cons (pv 1) pa_nil)))
      (pss_one (ps_ret (pe_mkX c_Ratio passN hr (by decide) rfl (pa_cons (pe_op op_sub (pe_op op_mulW (pe_fld (pv 0) rfl) (pe_prX p_bottom hr (by decide) (pv 2))) (pe_op op_mulW (pe_prX p_top hr (by decide) (pv 2)) (pe_fld (pv 0) rfl))) (pa_cons (pe_op op_mulW (pe_fld (pv 0) rfl) (pe_prX p_bottom hr (by decide) (pv 2))) pa_nil)))))), ?_⟩
    refine ⟨y, rfl, y, rfl, .inl ⟨q2, h2, s2.mono (by decide), fun p H2 e hp => ?_⟩⟩
    dsimp only [gName]
    have h1' := e _ _ h1
    have tA := ev_fld (K := K) (ta := tVar 0) (σ := [some (.ref x), some y, some (.ref p)]) (ev_var rfl) h1' T.r.cl T.nT (ratF_top q1)
    have bA := ev_fld (K := K) (ta := tVar 0) (σ := [some (.ref x), some y, some (.ref p)]) (ev_var rfl) h1' T.r.cl T.nB (ratF_bot q1)
    have tB := ev_top (ta := tVar 2) (σ := [some (.ref x), some y, some (.ref p)]) (ev_var rfl) hp
    have bB := ev_bot (ta := tVar 2) (σ := [some (.ref x), some y, some (.ref p)]) (ev_var rfl) hp
    have d1 := den_abs q1 s1.2
    have d2 := den_abs q2 s2.2
    refine x_ret (u_new (ev_op (ev_op tA bB (rv_mulW (sz_mul s1.1 d2))) (ev_op tB bA (rv_mulW (sz_mul s2.1 d1))) rv_I0) (ev_op bA bB (rv_mulW (sz_mul d1 d2))) ?_ (lt_up (lt_mul d1 d2)) (Int.mul_ne_zero (den_nz q1) (den_nz q2)) fun r H3 e3 hr3 => ?_)
    · exact lt_sub (lt_mul s1.1 d2) (lt_mul s2.1 d1)
    · rw [sub_is] at hr3
      exact k r H3 (e.trans e3) hr3
abbrev s_Ratio___mul__ : Stmt := inClass (topS 16) 5
theorem sc_Ratio___mul__ : FnScope ["self", "other", "number"] ["self", "other"] (defScope s_Ratio___mul__) := ⟨rfl, rfl, rfl, by decide +kernel, rfl, by decide +kernel, by decide +kernel⟩
theorem ok_mul {f CB : Addr} {fd : FuncData} (F : Fun K "__mul__" "Ratio.__mul__" s_Ratio___mul__ f fd) (T : RTxt K mg C) (c_as_ratio : CalX P w K mg base 4 "as_ratio" (spAsR K C CB) []) (c_Ratio : MakX P w K mg base 1 "Ratio" C (spInit C CZ) [])
    (p_top : ProX P w K mg base 1 C "top" (spTop C)) (p_bottom : ProX P w K mg base 1 C "bottom" (spBot C)) : FnOk P w K mg base (L2.CX P w) 5 f fd ["self", "other"] (spBin C (fun a b => a * b)) := by
  refine F.okX sc_Ratio___mul__ (fun vs H Q E h => ?_) (fun cdv A outer s H vs Q E hr h => ?_)
  · obtain ⟨x, y, q1, q2, rfl, _⟩ := h
    rfl
  · obtain ⟨x, y, q1, q2, rfl, ⟨dx, h1⟩, h2, s1, s2, k⟩ := h
    refine ⟨_, (pss_cons (ps_set (i := 2) sc_Ratio___mul__.nd rfl (Or.inl rfl) (pe_cX c_as_ratio passN hr (by decide) rfl (pa_cons (pv 1) pa_nil)))
      (pss_one (ps_ret (pe_mkX c_Ratio passN hr (by decide) rfl (pa_cons (pe_op op_mulW (pe_fld (pv 0) rfl) (pe_prX p_top hr (by decide) (pv 2))) (pa_cons (pe_op op_mulW (pe_fld (pv 0) rfl) (pe_prX p_bottom hr (by decide) (pv 2))) pa_nil)))))), ?_⟩
    refine ⟨y, rfl, y, rfl, .inl ⟨q2, h2, s2.mono (by decide), fun p H2 e hp => ?_⟩⟩
    dsimp only [gName]
    have h1' := e _ _ h1
    have tA := ev_fld (K := K) (ta := tVar 0) (σ := [some (.ref x), some y, some (.ref p)]) (ev_var rfl) h1' T.r.cl T.nT (ratF_top q1)
    have bA := ev_fld (K := K) (ta := tVar 0) (σ := [some (.ref x), some y, some (.ref p)]) (ev_var rfl) h1' T.r.cl T.nB (ratF_bot q1)
    have tB := ev_top (ta := tVar 2) (σ := [some (.ref x), some y, some (.ref p)]) (ev_var rfl) hp
    have bB := ev_bot (ta := tVar 2) (σ := [some (.ref x), some y, some (.ref p)]) (ev_var rfl) hp
    have d1 := den_abs q1 s1.2
    have d2 := den_abs q2 s2.2
    refine x_ret (u_new (ev_op tA tB (rv_mulW (sz_mul s1.1 s2.1))) (ev_op bA bB (rv_mulW (sz_mul d1 d2))) ?_ (lt_up (lt_mul d1 d2)) (Int.mul_ne_zero (den_nz q1) (den_nz q2)) fun r H3 e3 hr3 => ?_)
    · exact lt_up (lt_mul s1.1 s2.1)
    · rw [mul_is] at hr3
      exact k r H3 (e.trans e3) hr3
abbrev s_Ratio___neg__ : Stmt := inClass (topS 16) 6
theorem sc_Ratio___neg__ : FnScope ["self"] ["self"] (defScope s_Ratio___neg__) := ⟨rfl, rfl, rfl, by decide +kernel, rfl, by decide +kernel, by decide +kernel⟩
theorem ok_neg {f : Addr} {fd : FuncData} (F : Fun K "__neg__" "Ratio.__neg__" s_Ratio___neg__ f fd) (T : RTxt K mg C) (c_Ratio : MakX P w K mg base 1 "Ratio" C (spInit C CZ) []) : FnOk P w K mg base (L2.CX P w) 5 f fd ["self"] (spUn C fun a => -a) := by
  refine F.okX sc_Ratio___neg__ (fun vs H Q E h => ?_) (fun cdv A outer s H vs Q E hr h => ?_)
  · obtain ⟨x, q1, rfl, _⟩ := h
    rfl
  · obtain ⟨x, q1, rfl, ⟨dx, h1⟩, s1, k⟩ := h
    refine ⟨_, (pss_one (ps_ret (pe_mkX c_Ratio passN hr (by decide) rfl (pa_cons (pe_un un_neg (pe_fld (pv 0) rfl)) (pa_cons (pe_fld (pv 0) rfl) pa_nil))))), ?_⟩
    have s1' := s1.mono (m := 8900) (by decide)
    refine x_ret (u_new (ev_un (ev_fld (ev_var rfl) h1 T.r.cl T.nT (ratF_top q1)) ru_neg) (ev_fld (ev_var rfl) h1 T.r.cl T.nB (ratF_bot q1)) (by rw [Int.natAbs_neg]; exact s1'.1) (den_abs q1 s1'.2) (den_nz q1) fun r H3 e3 hr3 => ?_)
    rw [neg_is] at hr3
    exact k r H3 e3 hr3
abbrev s_Ratio___eq__ : Stmt := inClass (topS 16) 7
theorem sc_Ratio___eq__ : FnScope ["self", "other"] ["self", "other"] (defScope s_Ratio___eq__) := ⟨rfl, rfl, rfl, by decide +kernel, rfl, by decide +kernel, by decide +kernel⟩
theorem ok_eq {f : Addr} {fd : FuncData} (F : Fun K "__eq__" "Ratio.__eq__" s_Ratio___eq__ f fd) (T : RTxt K mg C) (c_is_integer : CalX P w K mg base 1 "is_integer" (spIsInt K) [])
    (p_top : ProX P w K mg base 1 C "top" (spTop C)) (p_bottom : ProX P w K mg base 1 C "bottom" (spBot C)) : FnOk P w K mg base (L2.CX P w) 3 f fd ["self", "other"] (spEq K C) := by
  refine F.okX sc_Ratio___eq__ (fun vs H Q E h => ?_) (fun cdv A outer s H vs Q E hr h => ?_)
  · obtain ⟨x, y, q1, rfl, _⟩ := h
    rfl
  · obtain ⟨x, y, q1, rfl, ⟨dx, h1⟩, h⟩ := h
    refine ⟨_, (pss_cons (ps_if (pt_val (pe_cX c_is_integer passN hr (by decide) rfl (pa_cons (pv 1) pa_nil)))
        (pss_one (ps_ret (pe_and (pe_cmpR op_eq (pe_fld (pv 0) rfl) pe_int (nomark _)) (pe_one (pe_cmpR op_eq (pe_fld (pv 0) rfl) (pv 1) (nomark _))))))
        pss_nil)
      (pss_one (ps_ret (pe_and (pe_callB call_isi (by rfl) T.z_isinstance (by decide +kernel) (pa_cons (pv 1) (pa_cons (pe_k0 rfl T.g_Ratio) pa_nil))) (pe_and (pe_cmpR op_eq (pe_fld (pv 0) rfl) (pe_prX p_top hr (by decide) (pv 1)) (nomark _)) (pe_one (pe_cmpR op_eq (pe_fld (pv 0) rfl) (pe_prX p_bottom hr (by decide) (pv 1)) (nomark _)))))))), ?_⟩
    rcases h with ⟨q2, hN, k⟩ | ⟨⟨t, ty, no, nc⟩, k⟩
    · rcases hN with ⟨i, rfl, rfl⟩ | ⟨a, rfl, dy, hR⟩
      · refine ⟨.int i, rfl, .int i, rfl, .inl ⟨i, rfl, true, rfl, ?_⟩⟩
        refine iteT ?_
        refine ⟨.ref x, rfl, x, C, dx, _, _, rfl, h1, T.r.cl, T.nB, ratF_bot q1, rfl, _, rfl, ?_⟩
        refine ite2 (fun e => ?_) (fun e => ?_)
        · refine ⟨.ref x, rfl, x, C, dx, _, _, rfl, h1, T.r.cl, T.nT, ratF_top q1, .int i, rfl, rfl, ?_⟩
          have d1 : (q1.den : Int) = 1 := V.int.inj (of_decide_eq_true e)
          have e2 : decide (q1 = (i : Rat)) = decide (V.int q1.num = V.int i) := decide_eq_decide.mpr ⟨fun z => by rw [z]; rfl, fun z => by
            have n1 := V.int.inj z
            rw [← divInt_nd q1, d1, n1, one_is]⟩
          rw [← e2]
          exact k
        · have e2 : decide (q1 = (i : Rat)) = false := decide_eq_false fun z => e (decide_eq_true (by rw [z]; rfl))
          rw [e2] at k
          exact k
      · have hq : RatAt C H a q2 := ⟨dy, hR⟩
        refine ⟨.ref a, rfl, .ref a, rfl, .inr ⟨.ref C, hq.ty T.r, .inl T.r.ki, false, rfl, ?_⟩⟩
        refine iteF ?_
        refine ⟨.ref a, rfl, .ref a, .ref C, .ref C, .ref C, true, rfl, .own C, hq.ty T.r, T.r.kc, true, rfl, ?_⟩
        refine iteT ?_
        refine ⟨.ref x, rfl, x, C, dx, _, _, rfl, h1, T.r.cl, T.nT, ratF_top q1, .ref a, rfl, a, dy, _, rfl, hR, a, q2, rfl, hq, rfl, _, rfl, ?_⟩
        refine ite2 (fun e => ?_) (fun e => ?_)
        · refine ⟨.ref x, rfl, x, C, dx, _, _, rfl, h1, T.r.cl, T.nB, ratF_bot q1, .ref a, rfl, a, dy, _, rfl, hR, a, q2, rfl, hq, rfl, ?_⟩
          have n1 : q1.num = q2.num := V.int.inj (of_decide_eq_true e)
          have e2 : decide (q1 = q2) = decide (V.int (q1.den : Int) = V.int (q2.den : Int)) := decide_eq_decide.mpr ⟨fun z => by rw [z], fun z => by
            have d1 := V.int.inj z
            rw [← divInt_nd q1, ← divInt_nd q2, d1, n1]⟩
          rw [← e2]
          exact k
        · have e2 : decide (q1 = q2) = false := decide_eq_false fun z => e (decide_eq_true (by rw [z]))
          rw [e2] at k
          exact k
    · refine ⟨y, rfl, y, rfl, .inr ⟨t, ty, no, false, rfl, ?_⟩⟩
      refine iteF ?_
      exact ⟨y, rfl, y, .ref C, t, .ref C, false, rfl, .own C, ty, nc, false, rfl, iteF k⟩
end

/-! ### start and draw -/
section
variable {P : Program} {w : World} {K : PySem.W.Frag} {mg : Str → Option Value} {base : Heap} {C : Addr}
abbrev s__law_start : Stmt := topS 24
theorem sc__law_start : FnScope ["_law_script", "_law_spare", "_law_great"] ["_law_script"] (defScope s__law_start) := ⟨rfl, rfl, rfl, by decide +kernel, rfl, by decide +kernel, by decide +kernel⟩
theorem ok_start {f : Addr} {fd : FuncData} (F : Fun K "_law_start" "_law_start" s__law_start f fd) (T : RTxt K mg C) : FnOk P w K mg base CX0 1 f fd ["_law_script"] (spStart K) := by
  refine F.ok sc__law_start (fun vs H Q E h => ?_) (fun cdv A outer s H vs Q E hr h => ?_)
  · obtain ⟨a, ns, rfl, _⟩ := h
    rfl
  · obtain ⟨a, ns, rfl, hS, hl, q⟩ := h
    refine ⟨_, (pss_cons (ps_set (i := 1) sc__law_start.nd rfl (Or.inl rfl) (pe_op op_add pe_int (pe_op op_mod (pe_callB (cr_sum rfl) (by rfl) T.z_sum (by decide +kernel) (pa_cons (pe_slice sl_list (pv 0) po_none (po_some pe_int)) pa_nil)) pe_int)))
      (pss_one (ps_ret (pe_lst (pa_cons (pe_lc (own := [("_law_great", 2)]) rfl sc__law_start.nd (pi_list (pv 0)) (blkOk_by (own := [("_law_great", 2)]) (N := ["_law_script", "_law_spare", "_law_great"]) (sc := defScope s__law_start) (by decide +kernel)) (fun _ _ _ _ _ => (pg_name (i := 2) sc__law_start.nd rfl (Or.inl rfl))) (fun _ _ _ _ _ => (pts_one (pt_cmpR op_ge (pe_callB call_abs (by rfl) T.z_abs (by decide +kernel) (pa_cons (pv 2) pa_nil)) (pe_op op_pow pe_int pe_int) (nomark _)))) (fun _ _ _ _ _ => (pe_callB call_abs (by rfl) T.z_abs (by decide +kernel) (pa_cons (pv 2) pa_nil)))) (pa_cons (pe_op op_cat (pe_callTy call_list_of (by rfl) T.z_list (by decide +kernel) (pa_cons (pv 0) pa_nil)) (pe_lst (pa_cons (pv 1) pa_nil))) (pa_cons pe_int pa_nil))))))), ?_⟩
    -- spare
    refine ⟨.ref a, rfl, 1, rfl, a, _, rfl, hS, fun c nc => ?_⟩
    have eC : cutV (ns.map V.int) none (some 1) = (ns.take 1).map V.int := by
      unfold cutV
      rw [HT.sIx_none, show HT.sIx (ns.map V.int).length (ns.map V.int).length (some 1) = min 1 (ns.map V.int).length from HT.sIx_nat _ _ 1, List.drop_zero, Nat.sub_zero, List.map_take, List.length_map]
      cases ns with
      | nil => rfl
      | cons x r => simp
    rw [eC]
    refine ⟨c, ns.take 1, rfl, .inl (.inl upd_same), _, _, rfl, rfl, (by show (0 : Int) < 1000003; decide), _, _, rfl, rfl, ?_⟩
    have x1 : Ex H (upd H c (.lst ((ns.take 1).map V.int))) := Ex.new nc
    generalize upd H c (.lst ((ns.take 1).map V.int)) = H1 at x1
    -- the great ones
    have hS1 := ex_l x1 hS
    refine ⟨.ref a, rfl, a, rfl, ⟨_, hS1⟩, fun D hD => ?_⟩
    have xD : Ex H1 (upd H1 D (.lst [])) := Ex.new hD
    refine lc_list (K := K) (a := a) (xs := ns.map V.int) (fun i H' => Ex H1 H' ∧ ∃ xs : List Int, xs.length ≤ i ∧ H' D = some (.lst (xs.map V.int))) ⟨xD, [], Nat.le_refl _, upd_same⟩ (fun i H' _ h => ex_l h.1 hS1) (fun i x H' hi h => ?_) (fun H' h => ?_)
    · obtain ⟨xe, xs, hxl, hx⟩ := h
      have hil : i < (ns.map V.int).length := (List.getElem?_eq_some_iff.mp hi).1
      rw [List.length_map] at hil
      obtain ⟨z, rfl⟩ : ∃ z, x = V.int z := by
        rw [List.getElem?_map] at hi
        cases e : ns[i]? with
        | none => rw [e] at hi; cases hi
        | some z => rw [e] at hi; exact ⟨z, (Option.some.inj hi).symm⟩
      refine ⟨rfl, .int z, rfl, z, rfl, 10, 18, rfl, rfl, ⟨by decide, by decide, by decide⟩, _, _, rfl, rfl, _, rfl, ?_⟩
      refine ite2 (fun _ => ?_) (fun _ => ⟨xe, xs, by omega, hx⟩)
      refine ⟨.int z, rfl, z, rfl, _, hx, ?_, xe.mut hD, xs ++ [if z < 0 then -z else z], ?_, ?_⟩
      · rw [List.length_map]
        exact small1000 (by omega)
      · rw [List.length_append]
        show xs.length + 1 ≤ i + 1
        omega
      · rw [upd_same, List.map_append]
        rfl
    · obtain ⟨xe, xs, hxl, hx⟩ := h
      -- list(script) + [spare]
      refine ⟨.ref a, rfl, a, _, rfl, .inl (ex_l xe hS1), fun l hl2 => ?_⟩
      refine ⟨_, rfl, (by show 1 ≤ sizeLine; decide), fun m hm => ?_⟩
      have lm : l ≠ m := fun e => by
        subst e
        rw [upd_same] at hm
        cases hm
      refine ⟨l, m, _, _, rfl, rfl, (by rw [upd_ne lm, upd_same]), upd_same, ?_, fun b nb => ?_⟩
      · rw [List.length_map]
        show ns.length + 1 ≤ sizeLine
        exact Nat.le_of_lt (small1000 (by omega))
      · refine ⟨(by show 3 ≤ sizeLine; decide), fun p np => ?_⟩
        refine q p _ ?_
        have x2 : Ex H' (upd (upd (upd (upd H' l (.lst (ns.map V.int))) m (.lst [V.int (5 + (ns.take 1).sum % 1000003)])) b (.lst (ns.map V.int ++ [V.int (5 + (ns.take 1).sum % 1000003)]))) p (.lst [.ref D, .ref b, .int 0])) :=
          (((Ex.new hl2).trans (Ex.new hm)).trans (Ex.new nb)).trans (Ex.new np)
        have x12 : Ex H H' := x1.trans xe
        have n1 : (upd (upd H' l (.lst (ns.map V.int))) m (.lst [V.int (5 + (ns.take 1).sum % 1000003)])) D = some (.lst (xs.map V.int)) := ((Ex.new hl2).trans (Ex.new hm)) _ _ hx
        have Db : D ≠ b := fun e => by rw [e, nb] at n1; cases n1
        have n2 := Ex.new (o := .lst (ns.map V.int ++ [V.int (5 + (ns.take 1).sum % 1000003)])) nb _ _ n1
        have Dp : D ≠ p := fun e => by rw [e, np] at n2; cases n2
        have bp : b ≠ p := fun e => by rw [← e, upd_same] at np; cases np
        have gb : H b = none := fresh_back (x12.trans ((Ex.new hl2).trans (Ex.new hm))) nb
        have gp : H p = none := fresh_back (x12.trans (((Ex.new hl2).trans (Ex.new hm)).trans (Ex.new nb))) np
        exact ⟨D, b, xs, ns ++ [5 + (ns.take 1).sum % 1000003], 0, ⟨x12.trans x2, upd_same, x2 _ _ hx, by rw [upd_ne bp, upd_same, List.map_append]; rfl, gp, fresh_back x1 hD, gb, Dp, bp, Db⟩, by decide, by decide, by simp⟩
abbrev s__law_draw : Stmt := topS 25
theorem sc__law_draw : FnScope ["_law_state", "_law_size", "_law_digit", "_law_mixed"] ["_law_state", "_law_size"] (defScope s__law_draw) := ⟨rfl, rfl, rfl, by decide +kernel, rfl, by decide +kernel, by decide +kernel⟩
theorem ok_draw {f : Addr} {fd : FuncData} (F : Fun K "_law_draw" "_law_draw" s__law_draw f fd) (T : RTxt K mg C) : FnOk P w K mg base CX0 1 f fd ["_law_state", "_law_size"] spDraw := by
  refine F.ok sc__law_draw (fun vs H Q E h => ?_) (fun cdv A outer s H vs Q E hr h => ?_)
  · obtain ⟨p, k, G, m, rfl, _⟩ := h
    rfl
  · obtain ⟨p, k, G, m, rfl, k0, kb, hm, ⟨a0, b, xs0, ys, n, S0, n0, n1, hy⟩, q⟩ := h
    refine ⟨_, (pss_cons (ps_asg (pe_op op_add (pe_ix ix_list (pv 0) pe_int (fun _ _ => rfl)) pe_int) (pg_sub (pv 0) pe_int set_list))
      (pss_cut (ps_while PassesOwn.never (PW.pt (pw_and (pt_cmpR (op_neD hr.units) (pe_ix ix_list (pv 0) pe_int (fun _ _ => rfl)) (pe_lst pa_nil) (nomark _)) (pw_and1 (pt_cmpR op_eq (pe_ix ix_list (pe_ix ix_list (pv 0) pe_int (fun _ _ => rfl)) pe_int (fun _ _ => rfl)) pe_int (nomark _)))))
        (pss_one (ps_asg (pe_slice sl_list (pe_ix ix_list (pv 0) pe_int (fun _ _ => rfl)) (po_some pe_int) po_none) (pg_sub (pv 0) pe_int set_list))))
      (pss_cons (ps_if (pt_cmpR (op_neD hr.units) (pe_ix ix_list (pv 0) pe_int (fun _ _ => rfl)) (pe_lst pa_nil) (nomark _))
        (pss_cons (ps_set (i := 2) sc__law_draw.nd rfl (Or.inl rfl) (pe_op op_mod (pe_callTy call_int1 (by rfl) T.z_int (by decide +kernel) (pa_cons (pe_ix ix_list (pe_ix ix_list (pv 0) pe_int (fun _ _ => rfl)) pe_int (fun _ _ => rfl)) pa_nil)) (pv 1)))
        (pss_cons (ps_asg (pe_op op_fdivW (pe_ix ix_list (pe_ix ix_list (pv 0) pe_int (fun _ _ => rfl)) pe_int (fun _ _ => rfl)) (pv 1)) (pg_sub (pe_ix ix_list (pv 0) pe_int (fun _ _ => rfl)) pe_int set_list))
        (pss_one (ps_ret (pv 2)))))
        pss_nil)
      (pss_cons (ps_set (i := 3) sc__law_draw.nd rfl (Or.inl rfl) (pe_op op_modA (pe_callTy call_int1 (by rfl) T.z_int (by decide +kernel) (pa_cons (pe_ix ix_list (pe_ix ix_list (pv 0) pe_int (fun _ _ => rfl)) (pe_op op_mod (pe_callTy call_int1 (by rfl) T.z_int (by decide +kernel) (pa_cons (pe_ix ix_list (pv 0) pe_int (fun _ _ => rfl)) pa_nil)) (pe_callB call_len_seq (by rfl) T.z_len (by decide +kernel) (pa_cons (pe_ix ix_list (pv 0) pe_int (fun _ _ => rfl)) pa_nil))) (fun _ _ => rfl)) pa_nil)) pe_int))
      (pss_cons (ps_set (i := 3) sc__law_draw.nd rfl (Or.inl rfl) (pe_op op_modA (pe_callTy call_int1 (by rfl) T.z_int (by decide +kernel) (pa_cons (pe_op op_pow (pe_op op_add (pe_op op_add (pe_op op_mul (pv 3) pe_int) (pe_op op_mul (pe_ix ix_list (pv 0) pe_int (fun _ _ => rfl)) pe_int)) pe_int) pe_int) pa_nil)) pe_int))
      (pss_one (ps_ret (pe_op op_mod (pe_op op_fdiv (pe_op op_modA (pe_callTy call_int1 (by rfl) T.z_int (by decide +kernel) (pa_cons (pe_op op_pow (pe_op op_add (pe_op op_add (pe_op op_mul (pv 3) pe_int) (pe_op op_mul (pe_ix ix_list (pv 0) pe_int (fun _ _ => rfl)) pe_int)) pe_int) pe_int) pa_nil)) pe_int) pe_int) (pv 1))))))))), ?_⟩
    -- the count
    refine ⟨.ref p, rfl, p, _, 2, .int n, rfl, rfl, .inl (.inl S0.hp), rfl, n, 1, rfl, rfl, .ref p, rfl, p, _, 2, 2, rfl, rfl, S0.hp, rfl, ?_⟩
    have S1 := S0.setn (k := n + 1)
    show tSeq _ _ _ _ (upd H p (.lst [.ref a0, .ref b, .int (n + 1)]))
    generalize upd H p (.lst [.ref a0, .ref b, .int (n + 1)]) = H1 at S1
    -- zeros ahead fall away
    refine ⟨fun σ H' => ∃ a xs, σ = [some (.ref p), some (.int k), none, none] ∧ SBe G H' p a b xs ys (n + 1), ?_, ?_⟩
    · refine ⟨fun j σ H' => ∃ a xs, σ = [some (.ref p), some (.int k), none, none] ∧ SBe G H' p a b xs ys (n + 1) ∧ xs.length = j, ⟨_, a0, xs0, rfl, S1, rfl⟩, ?_⟩
      rintro j σ H2 ⟨a, xs, rfl, S2, hj⟩
      refine ⟨.ref p, rfl, p, _, 0, .ref a, rfl, rfl, .inl (.inl S2.hp), rfl, Nat.zero_le _, fun o no => ?_⟩
      have S3 := S2.ext (Ex.new (o := .lst []) no)
      refine ⟨.list (xs.map .int), .list [], .lst (.inl (.inl S3.ha)) (dp_ints xs), .lst (.inl (.inl upd_same)) .nil, shaped_ints xs, by decide, _, rfl, ?_⟩
      rw [eqv_nil]
      generalize upd H2 o (.lst []) = H3 at S3
      cases xs with
      | nil =>
        refine iteF (iteF ?_)
        exact ⟨a, [], rfl, S3⟩
      | cons z r =>
        refine iteT ?_
        refine ⟨.ref p, rfl, p, _, 0, .ref a, rfl, rfl, .inl (.inl S3.hp), rfl, a, _, 0, .int z, rfl, rfl, .inl (.inl S3.ha), atI_nat (j := 0) rfl, rfl, _, rfl, ?_⟩
        refine ite2 (fun ez => ?_) (fun nz => ⟨a, _, rfl, S3⟩)
        refine ⟨fun σ' H' => ∃ a xs, σ' = [some (.ref p), some (.int k), none, none] ∧ SBe G H' p a b xs ys (n + 1) ∧ xs.length < j, fun σ' H' ⟨a, xs, e, S, l⟩ => ⟨_, l, a, xs, e, S, rfl⟩, ?_⟩
        refine ⟨.ref p, rfl, p, _, 0, .ref a, rfl, rfl, .inl (.inl S3.hp), rfl, 1, rfl, a, _, rfl, .inl (.inl S3.ha), fun c nc => ?_⟩
        have eC : cutV ((z :: r).map V.int) (some 1) none = r.map V.int := by
          unfold cutV
          rw [HT.sIx_none, show HT.sIx ((z :: r).map V.int).length 0 (some 1) = min 1 ((z :: r).map V.int).length from HT.sIx_nat _ _ 1]
          have e1 : min 1 ((z :: r).map V.int).length = 1 := by rw [List.length_map, List.length_cons]; omega
          rw [e1]
          show List.take (((z :: r).map V.int).length - 1) (r.map V.int) = r.map V.int
          rw [List.length_map]
          exact List.take_of_length_le (by rw [List.length_map]; exact Nat.le_refl _)
        rw [eC]
        refine ⟨.ref p, rfl, p, _, 0, 0, rfl, rfl, (by rw [upd_ne (fun e => by rw [← e, S3.hp] at nc; cases nc)]; exact S3.hp), rfl, ?_⟩
        exact ⟨c, r, rfl, S3.newa nc, by rw [← hj]; exact Nat.lt_succ_self _⟩
    · rintro σ H2 ⟨a, xs, rfl, S2⟩
      refine ⟨.ref p, rfl, p, _, 0, .ref a, rfl, rfl, .inl (.inl S2.hp), rfl, Nat.zero_le _, fun o no => ?_⟩
      have S3 := S2.ext (Ex.new (o := .lst []) no)
      refine ⟨.list (xs.map .int), .list [], .lst (.inl (.inl S3.ha)) (dp_ints xs), .lst (.inl (.inl upd_same)) .nil, shaped_ints xs, by decide, _, rfl, ?_⟩
      rw [eqv_nil]
      generalize upd H2 o (.lst []) = H3 at S3
      cases xs with
      | cons z r =>
        refine iteT ?_
        -- the digit
        refine ⟨.ref p, rfl, p, _, 0, .ref a, rfl, rfl, .inl (.inl S3.hp), rfl, a, _, 0, .int z, rfl, rfl, .inl (.inl S3.ha), atI_nat (j := 0) rfl, .inl ⟨z, rfl, .int k, rfl, z, k, rfl, rfl, k0, ?_⟩⟩
        refine ⟨.ref p, rfl, p, _, 0, .ref a, rfl, rfl, .inl (.inl S3.hp), rfl, a, _, 0, .int z, rfl, rfl, .inl (.inl S3.ha), atI_nat (j := 0) rfl, .int k, rfl, z, k, rfl, rfl, ⟨k0, kb⟩, ?_⟩
        refine ⟨.ref p, rfl, p, _, 0, .ref a, rfl, rfl, .inl (.inl S3.hp), rfl, a, _, 0, 0, rfl, rfl, S3.ha, show ixN _ ((0 : Nat) : Int) = some 0 from ixN_nat (by rw [List.length_map, List.length_cons]; omega), ?_⟩
        refine ⟨.int (z % k), rfl, q _ _ (Int.emod_nonneg _ (by omega)) (Int.emod_lt_of_pos _ k0) ⟨a, b, z / k :: r, ys, n + 1, S3.seta (zs := z / k :: r), by omega, by omega, hy⟩⟩
      | nil =>
        refine iteF ?_
        -- the mixed one
        obtain ⟨y, hyy⟩ : ∃ y, (ys.map V.int)[((n + 1) % ((ys.map V.int).length : Int)).toNat]? = some (.int y) := by
          have l0 : 0 < ys.length := List.length_pos_iff.mpr hy
          have l1 : (0 : Int) < ((ys.map V.int).length : Int) := by rw [List.length_map]; omega
          have l2 := Int.emod_lt_of_pos (n + 1) l1
          have l3 := Int.emod_nonneg (n + 1) (show ((ys.map V.int).length : Int) ≠ 0 by omega)
          rw [List.length_map] at l2 l3
          have l4 : ((n + 1) % (ys.length : Int)).toNat < ys.length := by omega
          refine ⟨ys[((n + 1) % (ys.length : Int)).toNat], ?_⟩
          rw [List.length_map, List.getElem?_map, List.getElem?_eq_getElem l4]
          rfl
        have l0 : 0 < ys.length := List.length_pos_iff.mpr hy
        have l1 : (0 : Int) < ((ys.map V.int).length : Int) := by rw [List.length_map]; omega
        have l3 := Int.emod_nonneg (n + 1) (show ((ys.map V.int).length : Int) ≠ 0 by omega)
        refine ⟨.ref p, rfl, p, _, 1, .ref b, rfl, rfl, .inl (.inl S3.hp), rfl, .ref p, rfl, p, _, 2, .int (n + 1), rfl, rfl, .inl (.inl S3.hp), rfl, .inl ⟨n + 1, rfl, ?_⟩⟩
        refine ⟨.ref p, rfl, p, _, 1, .ref b, rfl, rfl, .inl (.inl S3.hp), rfl, b, _, rfl, .inl (.inl (.inl S3.hb)), n + 1, _, rfl, rfl, l1, ?_⟩
        refine ⟨b, _, _, .int y, rfl, rfl, .inl (.inl S3.hb), at_of (Int.toNat_of_nonneg l3).symm hyy, .inl ⟨y, rfl, y, 2147483647, rfl, rfl, (by show (0 : Int) < 2147483647; decide), fun u m0 m1 _ => ?_⟩⟩
        refine ⟨.int u, rfl, u, _, rfl, rfl, .inl ⟨by omega, by omega⟩, .ref p, rfl, p, _, 2, .int (n + 1), rfl, rfl, .inl (.inl S3.hp), rfl, n + 1, _, rfl, rfl, .inl ⟨by omega, by omega⟩, _, _, rfl, rfl, _, _, rfl, rfl, _, 5, rfl, rfl, ⟨by decide, by decide, by omega⟩, .inl ⟨_, rfl, _, 2147483647, rfl, rfl, (by show (0 : Int) < 2147483647; decide), fun v v0 v1 _ => ?_⟩⟩
        refine ⟨.int v, rfl, v, _, rfl, rfl, .inl ⟨by omega, by omega⟩, .ref p, rfl, p, _, 2, .int (n + 1), rfl, rfl, .inl (.inl S3.hp), rfl, n + 1, _, rfl, rfl, .inl ⟨by omega, by omega⟩, _, _, rfl, rfl, _, _, rfl, rfl, _, 5, rfl, rfl, ⟨by decide, by decide, by omega⟩, .inl ⟨_, rfl, _, 2147483629, rfl, rfl, (by show (0 : Int) < 2147483629; decide), fun w w0 w1 _ => ⟨_, 16, rfl, rfl, ⟨by decide, by decide⟩, .int k, rfl, _, k, rfl, rfl, k0, ?_⟩⟩⟩
        exact q _ _ (Int.emod_nonneg _ (by omega)) (Int.emod_lt_of_pos _ k0) ⟨a, b, [], ys, n + 1, S3, by omega, by omega, hy⟩
end

/-! ### over, below, size; lists of numbers -/
section
variable {P : Program} {w : World} {K : PySem.W.Frag} {mg : Str → Option Value} {base : Heap} {C CZ CB : Addr}
abbrev s_Ratio_over : Stmt := inClass (topS 16) 9
theorem sc_Ratio_over : FnScope ["self", "number", "divisor"] ["self", "number"] (defScope s_Ratio_over) := ⟨rfl, rfl, rfl, by decide +kernel, rfl, by decide +kernel, by decide +kernel⟩
theorem ok_over {f : Addr} {fd : FuncData} (F : Fun K "over" "Ratio.over" s_Ratio_over f fd) (T : RTxt K mg C) (c_as_ratio : CalX P w K mg base 4 "as_ratio" (spAsR K C CB) []) (c_Ratio : MakX P w K mg base 1 "Ratio" C (spInit C CZ) [])
    (p_top : ProX P w K mg base 1 C "top" (spTop C)) (p_bottom : ProX P w K mg base 1 C "bottom" (spBot C)) : FnOk P w K mg base (L2.CX P w) 5 f fd ["self", "number"] (spOver C CZ) := by
  refine F.okX sc_Ratio_over (fun vs H Q E h => ?_) (fun cdv A outer s H vs Q E hr h => ?_)
  · obtain ⟨x, y, q1, q2, rfl, _⟩ := h
    rfl
  · obtain ⟨x, y, q1, q2, rfl, ⟨dx, h1⟩, h2, s1, s2, k0, k⟩ := h
    refine ⟨_, (pss_cons (ps_set (i := 2) sc_Ratio_over.nd rfl (Or.inl rfl) (pe_cX c_as_ratio passN hr (by decide) rfl (pa_cons (pv 1) pa_nil)))
      (pss_one (ps_ret (pe_mkX c_Ratio (passE (takes_of rfl rfl rfl rfl)) hr (by decide) rfl (pa_cons (pe_op op_mulW (pe_fld (pv 0) rfl) (pe_prX p_bottom hr (by decide) (pv 2))) (pa_cons (pe_op op_mulW (pe_fld (pv 0) rfl) (pe_prX p_top hr (by decide) (pv 2))) pa_nil)))))), ?_⟩
    refine ⟨y, rfl, y, rfl, .inl ⟨q2, h2, s2.mono (by decide), fun p H2 e hp => ?_⟩⟩
    dsimp only [gName]
    have h1' := e _ _ h1
    have tA := ev_fld (K := K) (ta := tVar 0) (σ := [some (.ref x), some y, some (.ref p)]) (ev_var rfl) h1' T.r.cl T.nT (ratF_top q1)
    have bA := ev_fld (K := K) (ta := tVar 0) (σ := [some (.ref x), some y, some (.ref p)]) (ev_var rfl) h1' T.r.cl T.nB (ratF_bot q1)
    have tB := ev_top (ta := tVar 2) (σ := [some (.ref x), some y, some (.ref p)]) (ev_var rfl) hp
    have bB := ev_bot (ta := tVar 2) (σ := [some (.ref x), some y, some (.ref p)]) (ev_var rfl) hp
    have d1 := den_abs q1 s1.2
    have d2 := den_abs q2 s2.2
    have zz : q2 = 0 ↔ q2.num = 0 := Rat.num_eq_zero.symm
    refine x_ret (u_new0 (ev_op tA bB (rv_mulW (sz_mul s1.1 d2))) (ev_op bA tB (rv_mulW (sz_mul d1 s2.1))) (lt_up (lt_mul s1.1 d2)) (lt_up (lt_mul d1 s2.1)) (fun nb r H3 e3 hr3 => ?_) (fun z H3 e3 => ?_))
    · rw [div_is] at hr3
      refine k (fun z => nb ?_) r H3 (e.trans e3) hr3
      rw [zz.mp z, Int.mul_zero]
    · have z2 : q2 = 0 := zz.mpr ((Int.mul_eq_zero.mp z).resolve_left (den_nz q1))
      exact k0 z2 H3 (e.trans e3)
abbrev s_Ratio_below : Stmt := inClass (topS 16) 10
theorem sc_Ratio_below : FnScope ["self", "number", "other"] ["self", "number"] (defScope s_Ratio_below) := ⟨rfl, rfl, rfl, by decide +kernel, rfl, by decide +kernel, by decide +kernel⟩
theorem ok_below {f : Addr} {fd : FuncData} (F : Fun K "below" "Ratio.below" s_Ratio_below f fd) (T : RTxt K mg C) (c_as_ratio : CalX P w K mg base 4 "as_ratio" (spAsR K C CB) [])
    (p_top : ProX P w K mg base 1 C "top" (spTop C)) (p_bottom : ProX P w K mg base 1 C "bottom" (spBot C)) : FnOk P w K mg base (L2.CX P w) 5 f fd ["self", "number"] (spLess C) := by
  refine F.okX sc_Ratio_below (fun vs H Q E h => ?_) (fun cdv A outer s H vs Q E hr h => ?_)
  · obtain ⟨x, y, q1, q2, rfl, _⟩ := h
    rfl
  · obtain ⟨x, y, q1, q2, rfl, ⟨dx, h1⟩, h2, s1, s2, k⟩ := h
    refine ⟨_, (pss_cons (ps_set (i := 2) sc_Ratio_below.nd rfl (Or.inl rfl) (pe_cX c_as_ratio passN hr (by decide) rfl (pa_cons (pv 1) pa_nil)))
      (pss_one (ps_ret (pe_cmpR op_lt (pe_op op_mulW (pe_fld (pv 0) rfl) (pe_prX p_bottom hr (by decide) (pv 2))) (pe_op op_mulW (pe_prX p_top hr (by decide) (pv 2)) (pe_fld (pv 0) rfl)) (nomark _))))), ?_⟩
    refine ⟨y, rfl, y, rfl, .inl ⟨q2, h2, s2.mono (by decide), fun p H2 e hp => ?_⟩⟩
    dsimp only [gName]
    have h1' := e _ _ h1
    have tA := ev_fld (K := K) (ta := tVar 0) (σ := [some (.ref x), some y, some (.ref p)]) (ev_var rfl) h1' T.r.cl T.nT (ratF_top q1)
    have bA := ev_fld (K := K) (ta := tVar 0) (σ := [some (.ref x), some y, some (.ref p)]) (ev_var rfl) h1' T.r.cl T.nB (ratF_bot q1)
    have tB := ev_top (ta := tVar 2) (σ := [some (.ref x), some y, some (.ref p)]) (ev_var rfl) hp
    have bB := ev_bot (ta := tVar 2) (σ := [some (.ref x), some y, some (.ref p)]) (ev_var rfl) hp
    have d1 := den_abs q1 s1.2
    have d2 := den_abs q2 s2.2
    refine s_ret (v := .bl (decide (q1 < q2))) ?_ fun H3 e3 => k H3 (e.trans e3)
    refine ev_is (ev_op (ev_op tA bB (rv_mulW (sz_mul s1.1 d2))) (ev_op tB bA (rv_mulW (sz_mul s2.1 d1))) rv_I0) ?_
    exact congrArg V.bl (decide_eq_decide.mpr (Rat.lt_iff q1 q2).symm)
abbrev s_Ratio_size : Stmt := inClass (topS 16) 11
theorem sc_Ratio_size : FnScope ["self"] ["self"] (defScope s_Ratio_size) := ⟨rfl, rfl, rfl, by decide +kernel, rfl, by decide +kernel, by decide +kernel⟩
theorem ok_size {f : Addr} {fd : FuncData} (F : Fun K "size" "Ratio.size" s_Ratio_size f fd) (T : RTxt K mg C) (c_Ratio : MakX P w K mg base 1 "Ratio" C (spInit C CZ) []) : FnOk P w K mg base (L2.CX P w) 5 f fd ["self"] (spUn C absR) := by
  refine F.okX sc_Ratio_size (fun vs H Q E h => ?_) (fun cdv A outer s H vs Q E hr h => ?_)
  · obtain ⟨x, q1, rfl, _⟩ := h
    rfl
  · obtain ⟨x, q1, rfl, ⟨dx, h1⟩, s1, k⟩ := h
    refine ⟨_, (pss_one (ps_ret (pe_mkX c_Ratio passN hr (by decide) rfl (pa_cons (pe_callB call_abs (by rfl) T.z_abs (by decide +kernel) (pa_cons (pe_fld (pv 0) rfl) pa_nil)) (pa_cons (pe_fld (pv 0) rfl) pa_nil))))), ?_⟩
    have s1' := s1.mono (m := 8900) (by decide)
    refine x_ret (u_new (t := if q1.num < 0 then -q1.num else q1.num) ?ab (ev_fld (ev_var rfl) h1 T.r.cl T.nB (ratF_bot q1)) ?_ (den_abs q1 s1'.2) (den_nz q1) fun r H3 e3 hr3 => k r H3 e3 hr3)
    case ab => exact ev_cb (ea_cons (ev_fld (ev_var rfl) h1 T.r.cl T.nT (ratF_top q1)) ea_nil) fun H1 _ Q' q' => ⟨q1.num, rfl, q' H1 (Ex.refl H1)⟩
    · have : (if q1.num < 0 then -q1.num else q1.num).natAbs = q1.num.natAbs := by split <;> omega
      rw [this]
      exact s1'.1
abbrev s_is_number : Stmt := topS 17
theorem sc_is_number : FnScope ["value"] ["value"] (defScope s_is_number) := ⟨rfl, rfl, rfl, by decide +kernel, rfl, by decide +kernel, by decide +kernel⟩
theorem ok_is_number {f : Addr} {fd : FuncData} (F : Fun K "is_number" "is_number" s_is_number f fd) (T : RTxt K mg C) (c_is_integer : CalX P w K mg base 1 "is_integer" (spIsInt K) []) : FnOk P w K mg base (L2.CX P w) 2 f fd ["value"] (spIsNum K C) := by
  refine F.okX sc_is_number (fun vs H Q E h => ?_) (fun cdv A outer s H vs Q E hr h => ?_)
  · obtain ⟨v, rfl, _⟩ := h
    rfl
  · obtain ⟨v, rfl, h⟩ := h
    refine ⟨_, (pss_one (ps_ret (pe_or (pe_cX c_is_integer passN hr (by decide) rfl (pa_cons (pv 0) pa_nil)) (pe_one (pe_callB call_isi (by rfl) T.z_isinstance (by decide +kernel) (pa_cons (pv 0) (pa_cons (pe_k0 rfl T.g_Ratio) pa_nil))))))), ?_⟩
    rcases h with ⟨q, hN, k⟩ | ⟨⟨t, ty, no, nc⟩, k⟩
    · rcases hN with ⟨i, rfl, rfl⟩ | ⟨a, rfl, hR⟩
      · exact ⟨.int i, rfl, .int i, rfl, .inl ⟨i, rfl, true, rfl, iteT k⟩⟩
      · refine ⟨.ref a, rfl, .ref a, rfl, .inr ⟨.ref C, hR.ty T.r, .inl T.r.ki, false, rfl, ?_⟩⟩
        exact iteF ⟨.ref a, rfl, .ref a, .ref C, .ref C, .ref C, true, rfl, .own C, hR.ty T.r, T.r.kc, k⟩
    · refine ⟨v, rfl, v, rfl, .inr ⟨t, ty, no, false, rfl, ?_⟩⟩
      exact iteF ⟨v, rfl, v, .ref C, t, .ref C, false, rfl, .own C, ty, nc, k⟩
abbrev s_is_chance : Stmt := topS 18
theorem sc_is_chance : FnScope ["value", "number"] ["value"] (defScope s_is_chance) := ⟨rfl, rfl, rfl, by decide +kernel, rfl, by decide +kernel, by decide +kernel⟩
theorem ok_is_chance {f : Addr} {fd : FuncData} (F : Fun K "is_chance" "is_chance" s_is_chance f fd) (T : RTxt K mg C) (c_is_number : CalX P w K mg base 2 "is_number" (spIsNum K C) []) (c_as_ratio : CalX P w K mg base 4 "as_ratio" (spAsR K C CB) [])
    (c_Ratio : MakX P w K mg base 1 "Ratio" C (spInit C CZ) [.int 1]) (m_below : MetX P w K mg base 5 C "below" (spLess C) []) : FnOk P w K mg base (L2.CX P w) 6 f fd ["value"] (spIsCh K C) := by
  refine F.okX sc_is_chance (fun vs H Q E h => ?_) (fun cdv A outer s H vs Q E hr h => ?_)
  · obtain ⟨v, rfl, _⟩ := h
    rfl
  · obtain ⟨v, rfl, h⟩ := h
    refine ⟨_, (pss_cons (ps_if (pt_not (pt_val (pe_cX c_is_number passN hr (by decide) rfl (pa_cons (pv 0) pa_nil))))
        (pss_one (ps_ret pe_bl))
        pss_nil)
      (pss_cons (ps_set (i := 1) sc_is_chance.nd rfl (Or.inl rfl) (pe_cX c_as_ratio passN hr (by decide) rfl (pa_cons (pv 0) pa_nil)))
      (pss_one (ps_ret (pe_and (pe_not (pe_mtX m_below passN hr (by decide) (pv 1) (pa_cons pe_int pa_nil))) (pe_one (pe_not (pe_mtX m_below passN hr (by decide) (pe_mkX c_Ratio passN hr (by decide) rfl (pa_cons pe_int pa_nil)) (pa_cons (pv 1) pa_nil))))))))), ?_⟩
    rcases h with ⟨q, hN, sz, k⟩ | ⟨hN, k⟩
    · refine ⟨v, rfl, v, rfl, .inl ⟨q, hN, true, rfl, ?_⟩⟩
      refine iteF ?_
      refine ⟨v, rfl, v, rfl, .inl ⟨q, hN, sz.mono (by decide), fun p H2 e hp => ?_⟩⟩
      dsimp only [gName]
      obtain ⟨dp, hp'⟩ := id hp
      have s0 : Sz 4000 (0 : Rat) := ⟨by decide +kernel, by decide +kernel⟩
      have s1 : Sz 4000 (1 : Rat) := ⟨by decide +kernel, by decide +kernel⟩
      have e0 : ((0 : Int) : Rat) = 0 := rfl
      refine ⟨.ref p, rfl, p, dp, _, rfl, hp', ratF_no q (by decide +kernel) (by decide +kernel), p, .int 0, q, 0, rfl, hp, .inl ⟨0, rfl, rfl⟩, sz, s0, fun H3 e3 => ⟨_, rfl, _, rfl, ?_⟩⟩
      by_cases l : q < 0
      · have g := k H3 (e.trans e3)
        rw [decide_eq_true l] at g ⊢
        exact iteF g
      · rw [decide_eq_false l]
        refine iteT ?_
        unfold tNotV tMethSD
        refine u_new1 (t := 1) ev_c (by decide +kernel) fun r H4 e4 hr4 => ?_
        obtain ⟨dr, hr4'⟩ := id hr4
        have e1 : Rat.divInt 1 1 = 1 := rfl
        rw [e1] at hr4 hr4'
        refine ⟨r, dr, _, rfl, hr4', ratF_no 1 (by decide +kernel) (by decide +kernel), .ref p, rfl, r, .ref p, 1, q, rfl, hr4, .inr ⟨p, rfl, (hp.ex e3).ex e4⟩, s1, sz, fun H5 e5 => ⟨_, rfl, ?_⟩⟩
        have g := k H5 (((e.trans e3).trans e4).trans e5)
        rw [decide_eq_false l] at g
        exact g
    · refine ⟨v, rfl, v, rfl, .inr ⟨hN, false, rfl, ?_⟩⟩
      exact iteT (k H (Ex.refl H))
/-! lists -/
abbrev s_total : Stmt := topS 20
theorem sc_total : FnScope ["numbers", "result", "number"] ["numbers"] (defScope s_total) := ⟨rfl, rfl, rfl, by decide +kernel, rfl, by decide +kernel, by decide +kernel⟩
theorem ok_total {f : Addr} {fd : FuncData} (F : Fun K "total" "total" s_total f fd) (T : RTxt K mg C) (c_Ratio : MakX P w K mg base 1 "Ratio" C (spInit C CZ) [.int 1]) (d_add : DunX P w K mg base 5 C "__add__" (spBin C fun a b => a + b)) (O : ROps K C) : FnOk P w K mg base (L2.CX P w) 6 f fd ["numbers"] (spTotal K C) := by
  refine F.okX sc_total (fun vs H Q E h => ?_) (fun cdv A outer s H vs Q E hr h => ?_)
  · obtain ⟨v, qs, rfl, _⟩ := h
    rfl
  · obtain ⟨v, qs, rfl, ⟨a, xs, rfl, hS, hl, hN⟩, sz, sp, k⟩ := h
    obtain ⟨fA, ⟨fdA, psA, dsA, FA, bA, dA⟩, hA, hfA⟩ := d_add.is
    cases dA
    refine ⟨_, (pss_cons (ps_set (i := 1) sc_total.nd rfl (Or.inl rfl) (pe_mkX c_Ratio passN hr (by decide) rfl (pa_cons pe_int pa_nil)))
      (pss_cons (ps_for (passes_of rfl) rfl (pi_seq (pv 0)) (pg_name (i := 2) sc_total.nd rfl (Or.inl rfl))
        (pss_one (ps_set (i := 1) sc_total.nd rfl (Or.inl rfl) (pe_op (op_ownAr OwnR.on_add O.sf hA O.na hfA O.si FA (hr.mono (by decide)) bA passX) (pv 1) (pv 2)))))
      (pss_one (ps_ret (pv 1))))), ?_⟩
    refine x_seq (x_set (u_new1 (t := 0) ev_c (by decide +kernel) fun p H2 e hp => ?_))
    have e0 : Rat.divInt 0 1 = sumR (qs.take 0) := rfl
    rw [e0] at hp
    refine q_forS (ev_var rfl) (hS.ex e) (fun i σ H' => ∃ r y2, σ = [some (.ref a), some (.ref r), y2] ∧ Ex H2 H' ∧ RatAt C H' r (sumR (qs.take i))) (fun H3 e3 => ⟨p, none, rfl, e3, hp.ex e3⟩) (fun i σ' H' _ ⟨_, _, _, h, _⟩ => h) ?_ ?_
    · rintro i x σ' H' hi ⟨r, y2, rfl, e', hr'⟩
      have li : i < qs.length := by rw [← hl]; exact (List.getElem?_eq_some_iff.mp hi).1
      have hq : qs[i]? = some qs[i] := List.getElem?_eq_getElem li
      have nx := (hN i x _ hi hq).ex (e.trans e')
      refine ⟨.ref r, rfl, x, rfl, hr'.ins, nx.alt, r, x, _, _, rfl, hr', nx, sp i, sz _ (List.getElem_mem li), fun p3 H3 e3 hp3 => ?_⟩
      refine ⟨p3, some x, rfl, e'.trans e3, ?_⟩
      rw [take_one hq, sumR_snoc]
      exact hp3
    · rintro σ' H' ⟨r, y2, rfl, e', hr'⟩
      refine ⟨.ref r, rfl, k r H' (e.trans e') ?_⟩
      rw [hl, List.take_length] at hr'
      exact hr'
abbrev s_least : Stmt := topS 21
theorem sc_least : FnScope ["numbers", "best", "number"] ["numbers"] (defScope s_least) := ⟨rfl, rfl, rfl, by decide +kernel, rfl, by decide +kernel, by decide +kernel⟩
theorem ok_least {f : Addr} {fd : FuncData} (F : Fun K "least" "least" s_least f fd) (T : RTxt K mg C) (c_as_ratio : CalX P w K mg base 4 "as_ratio" (spAsR K C CB) []) (m_below : MetX P w K mg base 5 C "below" (spLess C) []) : FnOk P w K mg base (L2.CX P w) 6 f fd ["numbers"] (spPick K C minR) := by
  refine F.okX sc_least (fun vs H Q E h => ?_) (fun cdv A outer s H vs Q E hr h => ?_)
  · obtain ⟨v, qs, rfl, _⟩ := h
    rfl
  · obtain ⟨v, qs, rfl, ⟨a, xs, rfl, hS, hl, hN⟩, ne, sz, k⟩ := h
    refine ⟨_, (pss_cons (ps_set (i := 1) sc_least.nd rfl (Or.inl rfl) (pe_cX c_as_ratio passN hr (by decide) rfl (pa_cons (pe_ix ix_seq (pv 0) pe_int (fun _ _ => rfl)) pa_nil)))
      (pss_cons (ps_for (passes_of rfl) rfl (pi_seq (pv 0)) (pg_name (i := 2) sc_least.nd rfl (Or.inl rfl))
        (pss_one (ps_if (pt_val (pe_mtX m_below passN hr (by decide) (pe_cX c_as_ratio passN hr (by decide) rfl (pa_cons (pv 2) pa_nil)) (pa_cons (pv 1) pa_nil)))
          (pss_one (ps_set (i := 1) sc_least.nd rfl (Or.inl rfl) (pe_cX c_as_ratio passN hr (by decide) rfl (pa_cons (pv 2) pa_nil))))
          pss_nil)))
      (pss_one (ps_ret (pv 1))))), ?_⟩
    obtain ⟨q0, qt, rfl⟩ : ∃ q0 qt, qs = q0 :: qt := by
      cases qs with
      | nil => exact (ne rfl).elim
      | cons q0 qt => exact ⟨q0, qt, rfl⟩
    obtain ⟨x0, xt, rfl⟩ : ∃ x0 xt, xs = x0 :: xt := by
      cases xs with
      | nil => cases hl
      | cons x0 xt => exact ⟨x0, xt, rfl⟩
    have big : ∀ i, Sz 4000 (minF ((q0 :: qt).take i) q0) := fun i => (minF_mem _ _).elim (fun h => by rw [h]; exact sz _ (.head _)) fun h => sz _ (List.mem_of_mem_take h)
    have s0 := sz q0 (.head _)
    refine x_seq (x_set ((ev_op (ev_var rfl) ev_c (rv_ixS hS rfl)) H (Ex.refl H) _ fun H1 e1 => ⟨x0, rfl, .inl ⟨q0, (hN 0 x0 q0 rfl rfl).ex e1, s0.mono (by decide), fun p H2 e2 hp => ?_⟩⟩))
    have e := e1.trans e2
    have hp : RatAt C H2 p (minF ((q0 :: qt).take 0) q0) := hp
    refine q_forS (ev_var rfl) (hS.ex e) (fun i σ H' => ∃ r y2, σ = [some (.ref a), some (.ref r), y2] ∧ Ex H2 H' ∧ RatAt C H' r (minF ((q0 :: qt).take i) q0)) (fun H3 e3 => ⟨p, none, rfl, e3, hp.ex e3⟩) (fun i σ' H' _ ⟨_, _, _, h, _⟩ => h) ?_ ?_
    · rintro i x σ' H' hi ⟨r, y2, rfl, e', hr'⟩
      have li : i < (q0 :: qt).length := by rw [← hl]; exact (List.getElem?_eq_some_iff.mp hi).1
      have hq : (q0 :: qt)[i]? = some (q0 :: qt)[i] := List.getElem?_eq_getElem li
      have nx := (hN i x _ hi hq).ex (e.trans e')
      have sx := sz _ (List.getElem_mem li)
      rw [take_one hq, minF_snoc]
      refine ⟨x, rfl, x, rfl, .inl ⟨_, nx, sx.mono (by decide), fun p1 H3 e3 hp1 => ?_⟩⟩
      obtain ⟨d1, hp1'⟩ := id hp1
      refine ⟨p1, d1, _, rfl, hp1', ratF_no _ (by decide +kernel) (by decide +kernel), .ref r, rfl, p1, .ref r, _, _, rfl, hp1, .inr ⟨r, rfl, hr'.ex e3⟩, sx, big i, fun H4 e4 => ⟨_, rfl, ?_⟩⟩
      by_cases l : (q0 :: qt)[i] < minF ((q0 :: qt).take i) q0
      · rw [if_pos l, decide_eq_true l]
        refine iteT ⟨x, rfl, x, rfl, .inl ⟨_, (nx.ex e3).ex e4, sx.mono (by decide), fun p2 H5 e5 hp2 => ?_⟩⟩
        exact ⟨p2, some x, rfl, ((e'.trans e3).trans e4).trans e5, hp2⟩
      · rw [if_neg l, decide_eq_false l]
        refine iteF ?_
        exact ⟨r, some x, rfl, (e'.trans e3).trans e4, (hr'.ex e3).ex e4⟩
    · rintro σ' H' ⟨r, y2, rfl, e', hr'⟩
      refine ⟨.ref r, rfl, k r H' (e.trans e') ?_⟩
      rw [hl, List.take_length] at hr'
      have h0 : minR (q0 :: qt) = minF (q0 :: qt) q0 := rfl
      rw [h0]
      exact hr'
abbrev s_greatest : Stmt := topS 22
theorem sc_greatest : FnScope ["numbers", "best", "number"] ["numbers"] (defScope s_greatest) := ⟨rfl, rfl, rfl, by decide +kernel, rfl, by decide +kernel, by decide +kernel⟩
theorem ok_greatest {f : Addr} {fd : FuncData} (F : Fun K "greatest" "greatest" s_greatest f fd) (T : RTxt K mg C) (c_as_ratio : CalX P w K mg base 4 "as_ratio" (spAsR K C CB) []) (m_below : MetX P w K mg base 5 C "below" (spLess C) []) : FnOk P w K mg base (L2.CX P w) 6 f fd ["numbers"] (spPick K C maxR) := by
  refine F.okX sc_greatest (fun vs H Q E h => ?_) (fun cdv A outer s H vs Q E hr h => ?_)
  · obtain ⟨v, qs, rfl, _⟩ := h
    rfl
  · obtain ⟨v, qs, rfl, ⟨a, xs, rfl, hS, hl, hN⟩, ne, sz, k⟩ := h
    refine ⟨_, (pss_cons (ps_set (i := 1) sc_greatest.nd rfl (Or.inl rfl) (pe_cX c_as_ratio passN hr (by decide) rfl (pa_cons (pe_ix ix_seq (pv 0) pe_int (fun _ _ => rfl)) pa_nil)))
      (pss_cons (ps_for (passes_of rfl) rfl (pi_seq (pv 0)) (pg_name (i := 2) sc_greatest.nd rfl (Or.inl rfl))
        (pss_one (ps_if (pt_val (pe_mtX m_below passN hr (by decide) (pv 1) (pa_cons (pv 2) pa_nil)))
          (pss_one (ps_set (i := 1) sc_greatest.nd rfl (Or.inl rfl) (pe_cX c_as_ratio passN hr (by decide) rfl (pa_cons (pv 2) pa_nil))))
          pss_nil)))
      (pss_one (ps_ret (pv 1))))), ?_⟩
    obtain ⟨q0, qt, rfl⟩ : ∃ q0 qt, qs = q0 :: qt := by
      cases qs with
      | nil => exact (ne rfl).elim
      | cons q0 qt => exact ⟨q0, qt, rfl⟩
    obtain ⟨x0, xt, rfl⟩ : ∃ x0 xt, xs = x0 :: xt := by
      cases xs with
      | nil => cases hl
      | cons x0 xt => exact ⟨x0, xt, rfl⟩
    have big : ∀ i, Sz 4000 (maxF ((q0 :: qt).take i) q0) := fun i => (maxF_mem _ _).elim (fun h => by rw [h]; exact sz _ (.head _)) fun h => sz _ (List.mem_of_mem_take h)
    have s0 := sz q0 (.head _)
    refine x_seq (x_set ((ev_op (ev_var rfl) ev_c (rv_ixS hS rfl)) H (Ex.refl H) _ fun H1 e1 => ⟨x0, rfl, .inl ⟨q0, (hN 0 x0 q0 rfl rfl).ex e1, s0.mono (by decide), fun p H2 e2 hp => ?_⟩⟩))
    have e := e1.trans e2
    have hp : RatAt C H2 p (maxF ((q0 :: qt).take 0) q0) := hp
    refine q_forS (ev_var rfl) (hS.ex e) (fun i σ H' => ∃ r y2, σ = [some (.ref a), some (.ref r), y2] ∧ Ex H2 H' ∧ RatAt C H' r (maxF ((q0 :: qt).take i) q0)) (fun H3 e3 => ⟨p, none, rfl, e3, hp.ex e3⟩) (fun i σ' H' _ ⟨_, _, _, h, _⟩ => h) ?_ ?_
    · rintro i x σ' H' hi ⟨r, y2, rfl, e', hr'⟩
      have li : i < (q0 :: qt).length := by rw [← hl]; exact (List.getElem?_eq_some_iff.mp hi).1
      have hq : (q0 :: qt)[i]? = some (q0 :: qt)[i] := List.getElem?_eq_getElem li
      have nx := (hN i x _ hi hq).ex (e.trans e')
      have sx := sz _ (List.getElem_mem li)
      rw [take_one hq, maxF_snoc]
      obtain ⟨d1, hr''⟩ := id hr'
      refine ⟨.ref r, rfl, r, d1, _, rfl, hr'', ratF_no _ (by decide +kernel) (by decide +kernel), x, rfl, r, x, _, _, rfl, hr', nx, big i, sx, fun H4 e4 => ⟨_, rfl, ?_⟩⟩
      by_cases l : maxF ((q0 :: qt).take i) q0 < (q0 :: qt)[i]
      · rw [if_pos l, decide_eq_true l]
        refine iteT ⟨x, rfl, x, rfl, .inl ⟨_, nx.ex e4, sx.mono (by decide), fun p2 H5 e5 hp2 => ?_⟩⟩
        exact ⟨p2, some x, rfl, (e'.trans e4).trans e5, hp2⟩
      · rw [if_neg l, decide_eq_false l]
        refine iteF ?_
        exact ⟨r, some x, rfl, e'.trans e4, hr'.ex e4⟩
    · rintro σ' H' ⟨r, y2, rfl, e', hr'⟩
      refine ⟨.ref r, rfl, k r H' (e.trans e') ?_⟩
      rw [hl, List.take_length] at hr'
      have h0 : maxR (q0 :: qt) = maxF (q0 :: qt) q0 := rfl
      rw [h0]
      exact hr'
end

/-! ### pairs: drawn, in lowest terms, held against a Ratio -/
section
variable {P : Program} {w : World} {K : PySem.W.Frag} {mg : Str → Option Value} {base : Heap} {C CZ CB : Addr}
abbrev s__law_lowest : Stmt := topS 27
theorem sc__law_lowest : FnScope ["_law_pair_here", "_law_one", "_law_two", "_law_sign"] ["_law_pair_here"] (defScope s__law_lowest) := ⟨rfl, rfl, rfl, by decide +kernel, rfl, by decide +kernel, by decide +kernel⟩
theorem ok_low {f : Addr} {fd : FuncData} (F : Fun K "_law_lowest" "_law_lowest" s__law_lowest f fd) (T : RTxt K mg C) : FnOk P w K mg base (L2.CX P w) 1 f fd ["_law_pair_here"] spLow := by
  refine F.okX sc__law_lowest (fun vs H Q E h => ?_) (fun cdv A outer s H vs Q E hr h => ?_)
  · obtain ⟨a, t, b, rfl, _⟩ := h
    rfl
  · obtain ⟨a, t, b, rfl, hp, pb, k⟩ := h
    refine ⟨_, (pss_cons (ps_par (i := 1) (j := 2) (by rfl) sc__law_lowest.nd rfl rfl (by decide) rfl rfl (pa_cons (pe_callB call_abs (by rfl) T.z_abs (by decide +kernel) (pa_cons (pe_ix ix_tup (pv 0) pe_int (fun _ _ => rfl)) pa_nil)) (pa_cons (pe_callB call_abs (by rfl) T.z_abs (by decide +kernel) (pa_cons (pe_ix ix_tup (pv 0) pe_int (fun _ _ => rfl)) pa_nil)) pa_nil)) (by rfl))
      (pss_cons (ps_while (passes_of rfl) (pt_cmpR op_ne (pv 2) pe_int (nomark _))
        (pss_one (ps_par (i := 1) (j := 2) (by rfl) sc__law_lowest.nd rfl rfl (by decide) rfl rfl (pa_cons (pv 2) (pa_cons (pe_op op_mod (pv 1) (pv 2)) pa_nil)) (by rfl))))
      (pss_cons (ps_set (i := 3) sc__law_lowest.nd rfl (Or.inl rfl) (pe_ifExp (pt_cmpR op_gt (pe_ix ix_tup (pv 0) pe_int (fun _ _ => rfl)) pe_int (nomark _)) pe_int (pe_un un_neg pe_int)))
      (pss_one (ps_ret (pe_tup (pa_cons (pe_op op_fdivZ (pe_op op_mulW (pv 3) (pe_ix ix_tup (pv 0) pe_int (fun _ _ => rfl))) (pv 1)) (pa_cons (pe_op op_fdivZ (pe_op op_mulW (pv 3) (pe_ix ix_tup (pv 0) pe_int (fun _ _ => rfl))) (pv 1)) pa_nil)))))))), ?_⟩
    have p0 := ev_p0 (K := K) (te := tVar 0) (σ := [some (.ref a), none, none, none]) (ev_var rfl) hp
    have p1 := ev_p1 (K := K) (te := tVar 0) (σ := [some (.ref a), none, none, none]) (ev_var rfl) hp
    refine q_par (ea_cons (ev_absI p0) (ea_cons (ev_absI p1) ea_nil)) fun H1 e1 => ?_
    rw [absI_nat, absI_nat]
    refine x_seq (s_while (fun m σ' H' => ∃ o : Nat, σ' = [some (.ref a), some (.int o), some (.int (m : Int)), none] ∧ Ex H H' ∧ Nat.gcd o m = Nat.gcd t.natAbs b.natAbs) b.natAbs ⟨t.natAbs, rfl, e1, rfl⟩ ?_)
    rintro m σ' H' ⟨o, rfl, e', hg⟩
    refine ⟨!decide (V.int (m : Int) = V.int 0), et_test (ev_op (ev_var rfl) ev_c (rv_ne rfl)), fun hb H2 e2 => ?_, fun hb H2 e2 => ?_⟩
    · have m0 : m ≠ 0 := fun z => by rw [z] at hb; simp at hb
      refine ⟨fun σ' H' => ∃ m', m' < m ∧ ∃ o : Nat, σ' = [some (.ref a), some (.int o), some (.int (m' : Int)), none] ∧ Ex H H' ∧ Nat.gcd o m' = Nat.gcd t.natAbs b.natAbs, fun σ2 H2 h => h, ?_⟩
      refine s_par (ea_cons (ev_var rfl) (ea_cons (ev_op (ev_var rfl) (ev_var rfl) (rv_I (by omega))) ea_nil)) fun H3 e3 => ?_
      refine ⟨o % m, Nat.mod_lt _ (by omega), m, rfl, (e'.trans e2).trans e3, ?_⟩
      rw [← hg, Nat.gcd_comm m, ← Nat.gcd_rec, Nat.gcd_comm]
    · have m0 : m = 0 := by
        by_cases z : m = 0
        · exact z
        · have : ¬ (V.int (m : Int) = V.int 0) := fun q => z (by have := V.int.inj q; omega)
          rw [decide_eq_false this] at hb
          cases hb
      subst m0
      rw [Nat.gcd_zero_right] at hg
      subst hg
      have hp2 := hp.ex (e'.trans e2)
      refine q_asg (v := .int (if b > 0 then 1 else -1)) (ev_if (b := decide (b > 0)) (et_test (ev_op (ev_p1 (ev_var rfl) hp2) ev_c rv_I0)) (fun h => by rw [if_pos (of_decide_eq_true h)]; exact ev_c) (fun h => by rw [if_neg (of_decide_eq_false h)]; exact ev_un ev_c ru_neg)) fun H3 e3 => ?_
      have hp3 := hp2.ex e3
      have sl : (if b > 0 then (1 : Int) else -1).natAbs < 2 ^ 4000 := by
        have : (if b > 0 then (1 : Int) else -1).natAbs = 1 := by split <;> rfl
        rw [this]
        decide +kernel
      have g0 := gcd_pos (t := t) pb.nz
      have gl : Nat.gcd t.natAbs b.natAbs ≤ b.natAbs := Nat.le_of_dvd (by have := pb.nz; omega) (Nat.gcd_dvd_right t.natAbs b.natAbs)
      have cd : ∀ k, CDivZ k ((Nat.gcd t.natAbs b.natAbs : Nat) : Int) := fun k => ⟨by omega, by
        rw [Int.natAbs_natCast]
        exact Nat.lt_of_lt_of_le (PySem.Flt.log2_lt_of (by omega) (Nat.lt_of_le_of_lt gl pb.lo)) (by decide)⟩
      refine s_retU (eu_tup (ea_cons (ev_is (ev_op (ev_op (ev_var rfl) (ev_p0 (ev_var rfl) hp3) (rv_mulW (sz_mul sl pb.up))) (ev_var rfl) (rv_divZ (cd _))) (congrArg V.int (low_num pb.nz))) (ea_cons (ev_is (ev_op (ev_op (ev_var rfl) (ev_p1 (ev_var rfl) hp3) (rv_mulW (sz_mul sl pb.lo))) (ev_var rfl) (rv_divZ (cd _))) (congrArg V.int (low_den pb.nz))) ea_nil)) (by show 2 ≤ 100000; decide)) fun q H4 nq e4 hq => ?_
      have ee := ((e'.trans e2).trans e3)
      exact k q H4 (fresh_back ee nq) (ee.trans e4) hq
abbrev s__law_is : Stmt := topS 28
theorem sc__law_is : FnScope ["_law_ratio", "_law_pair_here"] ["_law_ratio", "_law_pair_here"] (defScope s__law_is) := ⟨rfl, rfl, rfl, by decide +kernel, rfl, by decide +kernel, by decide +kernel⟩
theorem ok_is {f : Addr} {fd : FuncData} (F : Fun K "_law_is" "_law_is" s__law_is f fd) (T : RTxt K mg C) (c__law_lowest : CalX P w K mg base 1 "_law_lowest" spLow [])
    (p_top : ProX P w K mg base 1 C "top" (spTop C)) (p_bottom : ProX P w K mg base 1 C "bottom" (spBot C)) : FnOk P w K mg base (L2.CX P w) 3 f fd ["_law_ratio", "_law_pair_here"] (spIs C) := by
  refine F.okX sc__law_is (fun vs H Q E h => ?_) (fun cdv A outer s H vs Q E hr h => ?_)
  · obtain ⟨r, a, t, b, rfl, _⟩ := h
    rfl
  · obtain ⟨r, a, t, b, rfl, hr1, hp, pb, k⟩ := h
    refine ⟨_, (pss_one (ps_ret (pe_and (pe_callB call_isi (by rfl) T.z_isinstance (by decide +kernel) (pa_cons (pv 0) (pa_cons (pe_k0 rfl T.g_Ratio) pa_nil))) (pe_one (pe_cmpR (op_eqD hr.units) (pe_tup (pa_cons (pe_prX p_top hr (by decide) (pv 0)) (pa_cons (pe_prX p_bottom hr (by decide) (pv 0)) pa_nil))) (pe_cX c__law_lowest passN hr (by decide) rfl (pa_cons (pv 1) pa_nil)) (nomark _)))))), ?_⟩
    refine s_ret (v := .bl (true && true)) (ev_andV (ev_cb (ea_cons (ev_var rfl) (ea_cons ev_c ea_nil)) fun H1 e1 Q' q' => ⟨.ref r, .ref C, .ref C, .ref C, true, rfl, .own C, (hr1.ex e1).ty T.r, T.r.kc, q' H1 (Ex.refl H1)⟩) fun _ => ?_) fun H1 e1 => k H1 e1
    intro H1 e1 Q' q'
    refine eu_tup (ea_cons (ev_top (ev_var rfl) hr1) (ea_cons (ev_bot (ev_var rfl) hr1) ea_nil)) (by show 2 ≤ 100000; decide) H1 e1 _ fun p H2 _ e2 hp2 => ?_
    refine ep_low (ep_v (ev_var rfl) hp) pb H2 (e1.trans e2) _ fun a2 H3 e3 ha => ?_
    refine ⟨.tuple [.int (Rat.divInt t b).num, .int (Rat.divInt t b).den], .tuple [.int (Rat.divInt t b).num, .int (Rat.divInt t b).den], .tup (.inl (.inl (e3 _ _ hp2))) (.cons (.int _) (.cons (.int _) .nil)), .tup ha.sq (.cons (.int _) (.cons (.int _) .nil)), by rfl, by rfl, ?_⟩
    rw [SeqAt.eqv_refl]
    · exact q' H3 (e2.trans e3)
    · rfl
abbrev s__law_pair : Stmt := topS 26
theorem sc__law_pair : FnScope ["_law_state", "_law_size", "_law_times", "_law_low"] ["_law_state"] (defScope s__law_pair) := ⟨rfl, rfl, rfl, by decide +kernel, rfl, by decide +kernel, by decide +kernel⟩
theorem ok_pair {f : Addr} {fd : FuncData} (F : Fun K "_law_pair" "_law_pair" s__law_pair f fd) (T : RTxt K mg C) (c__law_draw : CalF P w K mg base 1 "_law_draw" spDraw []) : FnOk P w K mg base CX0 2 f fd ["_law_state"] spPair := by
  refine F.ok sc__law_pair (fun vs H Q E h => ?_) (fun cdv A outer s H vs Q E hr h => ?_)
  · obtain ⟨p, G, m, rfl, _⟩ := h
    rfl
  · obtain ⟨p, G, m, rfl, hm, S, k⟩ := h
    refine ⟨_, (pss_cons (ps_set (i := 1) sc__law_pair.nd rfl (Or.inl rfl) (pe_ix ix_list (pe_lst (pa_cons pe_int (pa_cons pe_int (pa_cons pe_int (pa_cons (pe_op op_pow pe_int pe_int) (pa_cons (pe_op op_pow pe_int pe_int) pa_nil)))))) (pe_cF c__law_draw hr (by decide) rfl (pa_cons (pv 0) (pa_cons pe_int pa_nil))) (fun _ _ => rfl)))
      (pss_cons (ps_set (i := 2) sc__law_pair.nd rfl (Or.inl rfl) (pe_ix ix_list (pe_lst (pa_cons pe_int (pa_cons pe_int (pa_cons pe_int (pa_cons pe_int (pa_cons pe_int pa_nil)))))) (pe_cF c__law_draw hr (by decide) rfl (pa_cons (pv 0) (pa_cons pe_int pa_nil))) (fun _ _ => rfl)))
      (pss_cons (ps_set (i := 3) sc__law_pair.nd rfl (Or.inl rfl) (pe_op op_add pe_int (pe_cF c__law_draw hr (by decide) rfl (pa_cons (pv 0) (pa_cons (pv 1) pa_nil)))))
      (pss_one (ps_ret (pe_tup (pa_cons (pe_op op_mulW (pe_op op_sub (pe_cF c__law_draw hr (by decide) rfl (pa_cons (pv 0) (pa_cons (pe_op op_mulW pe_int (pv 1)) pa_nil))) (pv 1)) (pv 2)) (pa_cons (pe_op op_mulW (pe_op op_mulW (pv 3) (pv 2)) (pe_ix ix_list (pe_lst (pa_cons pe_int (pa_cons (pe_un un_neg pe_int) pa_nil))) (pe_cF c__law_draw hr (by decide) rfl (pa_cons (pv 0) (pa_cons pe_int pa_nil))) (fun _ _ => rfl))) pa_nil)))))))), ?_⟩
    have lz : ∀ z : Int, 0 ≤ z → z < 100000000000000000000000000000000000000000 → z.natAbs < 2 ^ 137 := fun z h1 h2 => by
      have e : (2 : Nat) ^ 137 = 174224571863520493293247799005065324265472 := by decide
      omega
    refine q_pick S (n := 5) (xs := [.int 3, .int 9, .int 60, .int (10 ^ 12), .int (10 ^ 38)]) (el_lst (ea_cons ev_c (ea_cons ev_c (ea_cons ev_c (ea_cons (ev_op ev_c ev_c (rv_I ⟨by decide, by decide, by decide⟩)) (ea_cons (ev_op ev_c ev_c (rv_I ⟨by decide, by decide, by decide⟩)) ea_nil))))) (by show 5 ≤ 100000; decide)) rfl (i := 0) rfl ev_c (by decide) (by decide) (by omega) fun cs vs H1 hs S1 => ?_
    obtain ⟨sz, rfl, z0, z1⟩ : ∃ z : Int, vs = .int z ∧ 0 < z ∧ z ≤ 100000000000000000000000000000000000000 := by
      have hc := (List.getElem?_eq_some_iff.mp hs).1
      match cs, hc, hs with
      | 0, _, h => cases h; exact ⟨_, rfl, by decide, by decide⟩
      | 1, _, h => cases h; exact ⟨_, rfl, by decide, by decide⟩
      | 2, _, h => cases h; exact ⟨_, rfl, by decide, by decide⟩
      | 3, _, h => cases h; exact ⟨_, rfl, by decide, by decide⟩
      | 4, _, h => cases h; exact ⟨_, rfl, by decide, by decide⟩
    refine q_pick S1 (n := 5) (xs := [.int 1, .int 1, .int 2, .int 6, .int 15]) (el_lst (ea_cons ev_c (ea_cons ev_c (ea_cons ev_c (ea_cons ev_c (ea_cons ev_c ea_nil))))) (by show 5 ≤ 100000; decide)) rfl (i := 0) rfl ev_c (by decide) (by decide) (by omega) fun ct vt H2 ht S2 => ?_
    obtain ⟨tm, rfl, m0, m1⟩ : ∃ z : Int, vt = .int z ∧ 0 < z ∧ z ≤ 15 := by
      have hc := (List.getElem?_eq_some_iff.mp ht).1
      match ct, hc, ht with
      | 0, _, h => cases h; exact ⟨_, rfl, by decide, by decide⟩
      | 1, _, h => cases h; exact ⟨_, rfl, by decide, by decide⟩
      | 2, _, h => cases h; exact ⟨_, rfl, by decide, by decide⟩
      | 3, _, h => cases h; exact ⟨_, rfl, by decide, by decide⟩
      | 4, _, h => cases h; exact ⟨_, rfl, by decide, by decide⟩
    have lgz : ∀ z : Int, 0 ≤ z → z < 100000000000000000000000000000000000000000 → z.natAbs.log2 < 9000 := fun z h1 h2 => lg_of (lz z h1 h2) (by decide) (by decide)
    refine x_seq (x_set (x_opc ?_))
    refine u_draw S2 (i := 0) rfl (ev_var (i := 1) (v := .int sz) rfl) z0 (lgz sz (by omega) (by omega)) (by omega) fun lo H3 l0 l1 S3 => ?_
    refine ⟨_, _, rfl, rfl, ?_⟩
    dsimp only [gName]
    -- the top
    have wm : ∀ x y : Int, x.natAbs < 2 ^ 137 → y.natAbs < 2 ^ 137 → CMulW x y := fun x y h1 h2 => sz_mul (Nat.lt_of_lt_of_le h1 (Nat.pow_le_pow_right (by decide) (by decide))) (Nat.lt_of_lt_of_le h2 (Nat.pow_le_pow_right (by decide) (by decide)))
    have e137 : (2 : Nat) ^ 137 = 174224571863520493293247799005065324265472 := by decide
    have e140 : (2 : Nat) ^ 140 = 1393796574908163946345982392040522594123776 := by decide
    refine x_ret (x_tup (x_cons (x_op (x_op ?_))))
    refine u_draw S3 (i := 0) rfl (ev_op ev_c (ev_var (i := 1) (v := .int sz) rfl) (rv_mulW (wm _ _ (by decide) (lz sz (by omega) (by omega))))) (by omega) (lgz _ (by omega) (by omega)) (by omega) fun up H4 u0 u1 S4 => ?_
    refine ⟨.int sz, rfl, up, sz, rfl, rfl, ?_⟩
    refine ⟨.int tm, rfl, up - sz, tm, rfl, rfl, wm _ _ (by omega) (by omega), ?_⟩
    refine ⟨.int (1 + lo), rfl, .int tm, rfl, 1 + lo, tm, rfl, rfl, wm _ _ (by omega) (by omega), ?_⟩
    refine u_pick S4 (n := 2) (xs := [.int 1, .int (-1)]) (el_lst (ea_cons ev_c (ea_cons (ev_un ev_c ru_neg) ea_nil)) (by show 2 ≤ 100000; decide)) rfl (i := 0) rfl ev_c (by decide) (by decide) (by omega) fun cg vg H5 hg S5 => ?_
    obtain ⟨sg, rfl, sgo⟩ : ∃ z : Int, vg = .int z ∧ (z = 1 ∨ z = -1) := by
      have hc := (List.getElem?_eq_some_iff.mp hg).1
      match cg, hc, hg with
      | 0, _, h => cases h; exact ⟨_, rfl, .inl rfl⟩
      | 1, _, h => cases h; exact ⟨_, rfl, .inr rfl⟩
    have bt : ((up - sz) * tm).natAbs < 2 ^ 140 := by
      rw [Int.natAbs_mul]
      have h1 : (up - sz).natAbs ≤ 100000000000000000000000000000000000000 := by omega
      have h2 : tm.natAbs ≤ 15 := by omega
      have := Nat.mul_le_mul h1 h2
      omega
    have bl : ((1 + lo) * tm).natAbs ≤ 100000000000000000000000000000000000000 * 15 := by
      rw [Int.natAbs_mul]
      exact Nat.mul_le_mul (by omega) (by omega)
    have b0 : (1 + lo) * tm ≠ 0 := Int.mul_ne_zero (by omega) (by omega)
    refine ⟨_, _, rfl, rfl, wm _ _ (by omega) (by omega), ?_⟩
    refine ⟨by show 2 ≤ sizeLine; decide, fun q nq => ?_⟩
    have S6 := S5.grow (Ex.new (o := .tup [.int ((up - sz) * tm), .int ((1 + lo) * tm * sg)]) nq)
    refine k q _ _ _ _ (grow_ex S5.ex) (S6.le (by omega)) (by show grow _ _ _ q = _; rw [grow_new nq, upd_same]) ⟨bt, ?_, ?_⟩
    · rw [Int.natAbs_mul]
      have : sg.natAbs = 1 := by omega
      rw [this]
      omega
    · exact Int.mul_ne_zero b0 (by omega)
end

/-! ### two numbers: every operation -/
section
variable {P : Program} {w : World} {K : PySem.W.Frag} {mg : Str → Option Value} {base : Heap} {C CZ CB : Addr}
def spTwo (C : Addr) : Sp := fun vs H Q _ => ∃ p1 p2 v a b c d, vs = [.ref p1, .ref p2, v] ∧ PairAt H p1 a b ∧ PairAt H p2 c d ∧ PB 140 a b ∧ PB 140 c d ∧ NumV C H v (Rat.divInt c d) ∧ ∀ H2, Ex H H2 → Q (.bl true) H2
abbrev s__law_two_right : Stmt := topS 29
theorem sc__law_two_right : FnScope ["_law_one", "_law_other", "_law_thing", "_law_first", "_law_a", "_law_b", "_law_c", "_law_d", "_law_gap", "_law_told", "_law_inside"] ["_law_one", "_law_other", "_law_thing"] (defScope s__law_two_right) := ⟨rfl, rfl, rfl, by decide +kernel, rfl, by decide +kernel, by decide +kernel⟩
theorem ok_two {f : Addr} {fd : FuncData} (F : Fun K "_law_two_right" "_law_two_right" s__law_two_right f fd) (T : RTxt K mg C) (O : ROps K C) (Z : ZTxt K mg CZ) (z_repr : mg "repr" = none) (c__law_is : CalX P w K mg base 3 "_law_is" (spIs C) [])
    (c_is_chance : CalX P w K mg base 6 "is_chance" (spIsCh K C) []) (c_is_number : CalX P w K mg base 2 "is_number" (spIsNum K C) []) (c_Ratio : MakX P w K mg base 1 "Ratio" C (spInit C CZ) [])
    (m_below : MetX P w K mg base 5 C "below" (spLess C) []) (m_size : MetX P w K mg base 5 C "size" (spUn C absR) []) (m_over : MetX P w K mg base 5 C "over" (spOver C CZ) [])
    (d_add : DunX P w K mg base 5 C "__add__" (spBin C fun a b => a + b)) (d_sub : DunX P w K mg base 5 C "__sub__" (spBin C fun a b => a - b)) (d_mul : DunX P w K mg base 5 C "__mul__" (spBin C fun a b => a * b))
    (d_neg : DunX P w K mg base 5 C "__neg__" (spUn C fun a => -a)) (d_eq : DunX P w K mg base 3 C "__eq__" (spEq K C)) : FnG P w K mg base CX0 8 f fd ["_law_one", "_law_other", "_law_thing"] (spTwo C) := by
  refine F.okG sc__law_two_right (fun vs H Q E h => ?_) (fun cdv A outer s H vs Q E gA hr h => ?_)
  · obtain ⟨p1, p2, v, a, b, c, d, rfl, _⟩ := h
    rfl
  · obtain ⟨p1, p2, v, a, b, c, d, rfl, h1, h2, b1, b2, hN, k⟩ := h
    obtain ⟨f_add, ⟨fd_add, ps_add, ds_add, F_add, b_add, dv_add⟩, h_add, hf_add⟩ := d_add.is
    cases dv_add
    obtain ⟨f_sub, ⟨fd_sub, ps_sub, ds_sub, F_sub, b_sub, dv_sub⟩, h_sub, hf_sub⟩ := d_sub.is
    cases dv_sub
    obtain ⟨f_mul, ⟨fd_mul, ps_mul, ds_mul, F_mul, b_mul, dv_mul⟩, h_mul, hf_mul⟩ := d_mul.is
    cases dv_mul
    obtain ⟨f_neg, ⟨fd_neg, ps_neg, ds_neg, F_neg, b_neg, dv_neg⟩, h_neg, hf_neg⟩ := d_neg.is
    cases dv_neg
    obtain ⟨f_eq, ⟨fd_eq, ps_eq, ds_eq, F_eq, b_eq, dv_eq⟩, h_eq, hf_eq⟩ := d_eq.is
    cases dv_eq
    refine ⟨_, (pss_cons (ps_asg (pe_tup (pa_cons (pe_mkX c_Ratio passN hr (by decide) rfl (pa_cons (pe_ix ix_tup (pv 0) pe_int (fun _ _ => rfl)) (pa_cons (pe_ix ix_tup (pv 0) pe_int (fun _ _ => rfl)) pa_nil))) (pa_cons (pv 0) (pa_cons (pv 1) pa_nil)))) (pg_tup (by rfl) (pgs_cons (pg_name (i := 3) sc__law_two_right.nd rfl (Or.inl rfl)) (pgs_cons (pg_tup (by rfl) (pgs_cons (pg_name (i := 4) sc__law_two_right.nd rfl (Or.inl rfl)) (pgs_cons (pg_name (i := 5) sc__law_two_right.nd rfl (Or.inl rfl)) pgs_nil))) (pgs_cons (pg_tup (by rfl) (pgs_cons (pg_name (i := 6) sc__law_two_right.nd rfl (Or.inl rfl)) (pgs_cons (pg_name (i := 7) sc__law_two_right.nd rfl (Or.inl rfl)) pgs_nil))) pgs_nil)))))
      (pss_cons (ps_if (PW.pt (pw_or (pt_not (pt_val (pe_cX c__law_is passN hr (by decide) rfl (pa_cons (pe_op (op_ownAr OwnR.on_add O.sf h_add O.na hf_add O.si F_add (hr.mono (by decide)) b_add passX) (pv 3) (pv 2)) (pa_cons (pe_tup (pa_cons (pe_op op_add (pe_op op_mulW (pv 4) (pv 7)) (pe_op op_mulW (pv 6) (pv 5))) (pa_cons (pe_op op_mulW (pv 5) (pv 7)) pa_nil))) pa_nil))))) (pw_or1 (pt_not (pt_val (pe_cX c__law_is passN hr (by decide) rfl (pa_cons (pe_op (op_ownAr OwnR.on_sub O.sf h_sub O.ns hf_sub O.si F_sub (hr.mono (by decide)) b_sub passX) (pv 3) (pv 2)) (pa_cons (pe_tup (pa_cons (pe_op op_sub (pe_op op_mulW (pv 4) (pv 7)) (pe_op op_mulW (pv 6) (pv 5))) (pa_cons (pe_op op_mulW (pv 5) (pv 7)) pa_nil))) pa_nil))))))))
        (pss_one (ps_ret pe_bl))
        pss_nil)
      (pss_cons (ps_if (PW.pt (pw_or (pt_not (pt_val (pe_cX c__law_is passN hr (by decide) rfl (pa_cons (pe_op (op_ownAr OwnR.on_mul O.sf h_mul O.nm hf_mul O.si F_mul (hr.mono (by decide)) b_mul passX) (pv 3) (pv 2)) (pa_cons (pe_tup (pa_cons (pe_op op_mulW (pv 4) (pv 6)) (pa_cons (pe_op op_mulW (pv 5) (pv 7)) pa_nil))) pa_nil))))) (pw_or1 (pt_not (pt_val (pe_cX c__law_is passN hr (by decide) rfl (pa_cons (pe_un (un_ownNeg h_neg hf_neg F_neg (hr.mono (by decide)) b_neg passX) (pv 3)) (pa_cons (pe_tup (pa_cons (pe_un un_neg (pv 4)) (pa_cons (pv 5) pa_nil))) pa_nil))))))))
        (pss_one (ps_ret pe_bl))
        pss_nil)
      (pss_cons (ps_set (i := 8) sc__law_two_right.nd rfl (Or.inl rfl) (pe_op op_mulW (pe_op op_sub (pe_op op_mulW (pv 4) (pv 7)) (pe_op op_mulW (pv 6) (pv 5))) (pe_op op_mulW (pv 5) (pv 7))))
      (pss_cons (ps_set (i := 9) sc__law_two_right.nd rfl (Or.inl rfl) (pe_lst (pa_cons (pe_cmpR (op_ownEq h_eq hf_eq F_eq (hr.mono (by decide)) b_eq passX) (pv 3) (pv 2) (nomark _)) (pa_cons (pe_cmpR (op_ownNe T.r.cm O.nn h_eq hf_eq F_eq (hr.mono (by decide)) b_eq passX) (pv 3) (pv 2) (nomark _)) (pa_cons (pe_mtX m_below passN hr (by decide) (pv 3) (pa_cons (pv 2) pa_nil)) (pa_cons (pe_cmpR (op_alt (op_ownEq h_eq hf_eq F_eq (hr.mono (by decide)) b_eq passX) (op_intEq h_eq hf_eq O.is F_eq (hr.mono (by decide)) b_eq passX)) (pv 2) (pv 3) (nomark _)) pa_nil))))))
      (pss_cons (ps_if (PW.pt (pw_or (pt_cmpR op_ne (pe_callB (cr_repr hr.units gA) (by rfl) T.z_repr (by decide +kernel) (pa_cons (pv 9) pa_nil)) (pe_callB (cr_repr hr.units gA) (by rfl) T.z_repr (by decide +kernel) (pa_cons (pe_lst (pa_cons (pe_cmpR op_eq (pv 8) pe_int (nomark _)) (pa_cons (pe_cmpR op_ne (pv 8) pe_int (nomark _)) (pa_cons (pe_cmpR op_lt (pv 8) pe_int (nomark _)) (pa_cons (pe_cmpR op_eq (pv 8) pe_int (nomark _)) pa_nil))))) pa_nil)) (nomark _)) (pw_or1 (pt_not (pt_val (pe_cX c__law_is passN hr (by decide) rfl (pa_cons (pe_mtX0 m_size passN hr (by decide) (pv 3)) (pa_cons (pe_tup (pa_cons (pe_callB call_abs (by rfl) T.z_abs (by decide +kernel) (pa_cons (pv 4) pa_nil)) (pa_cons (pe_callB call_abs (by rfl) T.z_abs (by decide +kernel) (pa_cons (pv 5) pa_nil)) pa_nil))) pa_nil))))))))
        (pss_one (ps_ret pe_bl))
        pss_nil)
      (pss_cons (ps_set (i := 10) sc__law_two_right.nd rfl (Or.inl rfl) (pe_and (pe_cmpR op_ge (pe_op op_mulW (pv 4) (pv 5)) pe_int (nomark _)) (pe_one (pe_cmpR op_le (pe_callB call_abs (by rfl) T.z_abs (by decide +kernel) (pa_cons (pv 4) pa_nil)) (pe_callB call_abs (by rfl) T.z_abs (by decide +kernel) (pa_cons (pv 5) pa_nil)) (nomark _)))))
      (pss_cons (ps_if (pt_cmpR op_ne (pe_callB (cr_repr hr.units gA) (by rfl) T.z_repr (by decide +kernel) (pa_cons (pe_lst (pa_cons (pe_cX c_is_chance passN hr (by decide) rfl (pa_cons (pv 3) pa_nil)) (pa_cons (pe_cX c_is_number passN hr (by decide) rfl (pa_cons (pv 3) pa_nil)) pa_nil))) pa_nil)) (pe_callB (cr_repr hr.units gA) (by rfl) T.z_repr (by decide +kernel) (pa_cons (pe_lst (pa_cons (pv 10) (pa_cons pe_bl pa_nil))) pa_nil)) (nomark _))
        (pss_one (ps_ret pe_bl))
        pss_nil)
      (pss_one (ps_try_only rfl rfl ⟨rfl, by decide, .inl Z.gZ⟩ takes0 (fun W pn xe tk _ =>
        (pss_one (ps_ret (pe_and (pe_cX c__law_is passN hr (by decide) rfl (pa_cons (pe_mtX m_over (fun σ => passAt tk σ) hr (by decide) (pv 3) (pa_cons (pv 2) pa_nil)) (pa_cons (pe_tup (pa_cons (pe_op op_mulW (pv 4) (pv 7)) (pa_cons (pe_op op_mulW (pv 5) (pv 6)) pa_nil))) pa_nil))) (pe_one (pe_cmpR op_ne (pv 6) pe_int (nomark _)))))))
        (fun a oe cls d pn hz hf => (pss_one (ps_ret (pe_cmpR op_eq (pv 6) pe_int (nomark _))))))))))))))), ?_⟩
    have sA := b1.sz.mono (m := 4000) (by decide)
    have sB := b2.sz.mono (m := 4000) (by decide)
    have B1 := b1.mono (m := 4000) (by decide)
    refine x_seq (x_asg (x_tup (x_cons ?_)))
    refine u_new (ev_p0 (ev_var rfl) h1) (ev_p1 (ev_var rfl) h1) (b1.mono (by decide)).up (b1.mono (by decide)).lo b1.nz fun r H1 e1 r1 => ?_
    refine ⟨.ref p1, rfl, .ref p2, rfl, by show 3 ≤ sizeLine; decide, fun q nq => ?_⟩
    have e2 := Ex.new (o := .tup [.ref r, .ref p1, .ref p2]) nq
    refine ⟨q, _, rfl, .inl (.inl upd_same), rfl, ?_⟩
    have e12 := e1.trans e2
    refine ⟨.ref r, [.ref p1, .ref p2], rfl, .ref p1, [.ref p2], rfl, p1, [.int a, .int b], rfl, (h1.ex e12).sq, rfl, .int a, [.int b], rfl, .int b, [], rfl, rfl, ?_⟩
    refine ⟨.ref p2, [], rfl, p2, [.int c, .int d], rfl, (h2.ex e12).sq, rfl, .int c, [.int d], rfl, .int d, [], rfl, rfl, rfl, ?_⟩
    have r2 := r1.ex e2
    have N2 := hN.ex e12
    generalize upd H1 q (.tup [.ref r, .ref p1, .ref p2]) = H2 at e2 e12 r2 N2
    clear e2
    dsimp only
    have ad := ml b1.up b2.lo
    have cb := ml b2.up b1.lo
    have bd := ml b1.lo b2.lo
    have bd0 : b * d ≠ 0 := Int.mul_ne_zero b1.nz b2.nz
    -- sums and differences
    refine q_when (b := false) ?_ (fun h => by cases h) (fun _ H3 e3 => ?_)
    · refine et_is (et_or (et_not (et_B (ev_isr (er_ar (ev_var (i := 3) rfl) (ev_var (i := 2) rfl) r2 N2 sA sB) (ep_tup (ev_op (ev_op (ev_var (i := 4) rfl) (ev_var (i := 7) rfl) (rv_mulW (wm b1.up b2.lo (by decide) (by decide)))) (ev_op (ev_var (i := 6) rfl) (ev_var (i := 5) rfl) (rv_mulW (wm b2.up b1.lo (by decide) (by decide)))) rv_I0) (ev_op (ev_var (i := 5) rfl) (ev_var (i := 7) rfl) (rv_mulW (wm b1.lo b2.lo (by decide) (by decide))))) ⟨up (al ad cb) (by decide), up bd (by decide), bd0⟩ (Rat.divInt_add_divInt a c b1.nz b2.nz)))) fun _ =>
        et_not (et_B (ev_isr (er_ar (ev_var (i := 3) rfl) (ev_var (i := 2) rfl) r2 N2 sA sB) (ep_tup (ev_op (ev_op (ev_var (i := 4) rfl) (ev_var (i := 7) rfl) (rv_mulW (wm b1.up b2.lo (by decide) (by decide)))) (ev_op (ev_var (i := 6) rfl) (ev_var (i := 5) rfl) (rv_mulW (wm b2.up b1.lo (by decide) (by decide)))) rv_I0) (ev_op (ev_var (i := 5) rfl) (ev_var (i := 7) rfl) (rv_mulW (wm b1.lo b2.lo (by decide) (by decide))))) ⟨up (sl ad cb) (by decide), up bd (by decide), bd0⟩ (Rat.divInt_sub_divInt a c b1.nz b2.nz)))) rfl
    have r3 := r2.ex e3
    have N3 := N2.ex e3
    -- products, the opposite
    refine q_when (b := false) ?_ (fun h => by cases h) (fun _ H4 e4 => ?_)
    · refine et_is (et_or (et_not (et_B (ev_isr (er_ar (ev_var (i := 3) rfl) (ev_var (i := 2) rfl) r3 N3 sA sB) (ep_tup (ev_op (ev_var (i := 4) rfl) (ev_var (i := 6) rfl) (rv_mulW (wm b1.up b2.up (by decide) (by decide)))) (ev_op (ev_var (i := 5) rfl) (ev_var (i := 7) rfl) (rv_mulW (wm b1.lo b2.lo (by decide) (by decide))))) ⟨up (ml b1.up b2.up) (by decide), up bd (by decide), bd0⟩ (Rat.divInt_mul_divInt a c)))) fun _ =>
        et_not (et_B (ev_isr (er_neg (ev_var (i := 3) rfl) r3 sA) (ep_tup (ev_un (ev_var (i := 4) rfl) ru_neg) (ev_var (i := 5) rfl)) ⟨by rw [Int.natAbs_neg]; exact B1.up, B1.lo, b1.nz⟩ (Rat.neg_divInt a b)))) rfl
    have r4 := r3.ex e4
    have N4 := N3.ex e4
    -- how they compare
    have lt := lt_is (a := a) (c := c) b1.nz b2.nz
    have eq := eq_is (a := a) (c := c) b1.nz b2.nz
    refine q_asg (v := .int ((a * d - c * b) * (b * d))) (ev_op (ev_op (ev_op (ev_var (i := 4) rfl) (ev_var (i := 7) rfl) (rv_mulW (wm b1.up b2.lo (by decide) (by decide)))) (ev_op (ev_var (i := 6) rfl) (ev_var (i := 5) rfl) (rv_mulW (wm b2.up b1.lo (by decide) (by decide)))) rv_I0) (ev_op (ev_var (i := 5) rfl) (ev_var (i := 7) rfl) (rv_mulW (wm b1.lo b2.lo (by decide) (by decide)))) (rv_mulW (wm (sl ad cb) bd (by decide) (by decide)))) fun H5 e5 => ?_
    have r5 := r4.ex e5
    have N5 := N4.ex e5
    generalize (a * d - c * b) * (b * d) = gap at lt eq
    have t0 : decide (Rat.divInt a b = Rat.divInt c d) = decide (gap = 0) := decide_eq_decide.mpr eq
    have t1 : decide (Rat.divInt a b < Rat.divInt c d) = decide (gap < 0) := decide_eq_decide.mpr lt
    have oq := ev_oeq (EE := E0) (ta := tVar 3) (tb := tVar 2) (σ := [some (.ref p1), some (.ref p2), some v, some (.ref r), some (.int a), some (.int b), some (.int c), some (.int d), some (.int gap), none, none]) (ev_var rfl) (ev_var rfl) r5 N5 T.r O.si
    have on := ev_one (EE := E0) (ta := tVar 3) (tb := tVar 2) (σ := [some (.ref p1), some (.ref p2), some v, some (.ref r), some (.int a), some (.int b), some (.int c), some (.int d), some (.int gap), none, none]) (ev_var rfl) (ev_var rfl) r5 N5 T.r O.si
    have ol := ev_less (E := E00) (ta := tVar 3) (tb := tVar 2) (σ := [some (.ref p1), some (.ref p2), some v, some (.ref r), some (.int a), some (.int b), some (.int c), some (.int d), some (.int gap), none, none]) (ev_var rfl) (ev_var rfl) r5 N5 sA sB
    have or := ev_oeqR (EE := E0) (ta := tVar 2) (tb := tVar 3) (σ := [some (.ref p1), some (.ref p2), some v, some (.ref r), some (.int a), some (.int b), some (.int c), some (.int d), some (.int gap), none, none]) (ev_var rfl) (ev_var rfl) r5 N5 T.r O.si
    rw [t0] at oq on or
    rw [t1] at ol
    refine s_asgL (D := _) (xs := [.bl (decide (gap = 0)), .bl (!decide (gap = 0)), .bl (decide (gap < 0)), .bl (decide (gap = 0))]) (el_lst (ea_cons oq (ea_cons on (ea_cons ol (ea_cons or ea_nil)))) (by show 4 ≤ 100000; decide)) fun l H6 nl e6 hl => ?_
    dsimp only
    have r6 := r5.ex e6
    have N6 := N5.ex e6
    refine q_when (b := false) ?_ (fun h => by cases h) (fun _ H7 e7 => ?_)
    · refine et_is (et_or (et_test (b := false) (ev_is (ev_op (ev_repr4 (ev_var (i := 9) rfl) hl) (ev_reprB4 (x1 := decide (gap = 0)) (x2 := !decide (gap = 0)) (x3 := decide (gap < 0)) (x4 := decide (gap = 0)) (el_lst (ea_cons (ev_is (ev_op (ev_var (i := 8) rfl) ev_c (rv_eq rfl)) (by rw [dec0])) (ea_cons (ev_is (ev_op (ev_var (i := 8) rfl) ev_c (rv_ne rfl)) (by rw [dec0])) (ea_cons (ev_op (ev_var (i := 8) rfl) ev_c rv_I0) (ea_cons (ev_is (ev_op (ev_var (i := 8) rfl) ev_c (rv_eq rfl)) (by rw [dec0])) ea_nil)))) (by show 4 ≤ 100000; decide))) (rv_ne rfl)) (by simp))) fun _ =>
        et_not (et_B (ev_isr (er_mun (ev_var (i := 3) rfl) r6 sA (by decide +kernel) (by decide +kernel)) (ep_tup (ev_absI (ev_var (i := 4) rfl)) (ev_absI (ev_var (i := 5) rfl))) ⟨absI_lt B1.up, absI_lt B1.lo, absI_nz b1.nz⟩ (abs_is b1.nz)))) rfl
    have r7 := r6.ex e7
    have N7 := N6.ex e7
    -- what is a chance
    refine q_asg (v := .bl (decide (0 ≤ a * b) && decide (absI a ≤ absI b))) (ev_andV (ev_op (ev_op (ev_var (i := 4) rfl) (ev_var (i := 5) rfl) (rv_mulW (wm b1.up b1.lo (by decide) (by decide)))) ev_c rv_I0) fun _ => ev_op (ev_absI (ev_var (i := 4) rfl)) (ev_absI (ev_var (i := 5) rfl)) rv_I0) fun H8 e8 => ?_
    have r8 := r7.ex e8
    have N8 := N7.ex e8
    refine q_when (b := false) ?_ (fun h => by cases h) (fun _ H9 e9 => ?_)
    · have ic := in_is (a := a) b1.nz
      refine et_test (ev_is (ev_op (ev_reprB2 (x1 := decide (0 ≤ a * b) && decide (absI a ≤ absI b)) (x2 := true) (el_lst (ea_cons (ev_is (ev_ischa (ev_var (i := 3) rfl) (.inr ⟨r, rfl, r8⟩) sA) (congrArg V.bl ic)) (ea_cons (ev_isnum (ev_var (i := 3) rfl) (.inr ⟨r, rfl, r8⟩)) ea_nil)) (by show 2 ≤ 100000; decide))) (ev_reprB2 (x1 := decide (0 ≤ a * b) && decide (absI a ≤ absI b)) (x2 := true) (el_lst (ea_cons (ev_var (i := 10) rfl) (ea_cons ev_c ea_nil)) (by show 2 ≤ 100000; decide))) (rv_ne rfl)) (by simp))
    have r9 := r8.ex e9
    have N9 := N8.ex e9
    have kk : ∀ H', Ex H9 H' → Q (.bl true) H' := fun H' e => k H' ((((((((e12.trans e3).trans e4).trans e5).trans e6).trans e7).trans e8).trans e9).trans e)
    by_cases c0 : c = 0
    · have q0 : Rat.divInt c d = 0 := (zero_iff b2.nz).mpr c0
      obtain ⟨dr, hr9⟩ := id r9
      refine ⟨.ref r, rfl, r, dr, _, rfl, hr9, ratF_no _ (by decide +kernel) (by decide +kernel), v, rfl, r, v, _, _, rfl, r9, N9, sA, sB, fun _ H10 e10 => ?_, fun n0 => (n0 q0).elim⟩
      refine ⟨true, Z.eZ, fun _ ax hax => ?_, fun h => by cases h⟩
      exact s_ret (v := .bl true) (ev_is (ev_op (ev_var (i := 6) rfl) ev_c (rv_eq rfl)) (by rw [dec0, decide_eq_true c0])) fun H11 e11 => kk H11 (e10.trans e11)
    · have q0 : Rat.divInt c d ≠ 0 := fun z => c0 ((zero_iff b2.nz).mp z)
      exact s_ret (v := .bl (true && true)) (ev_andV (ev_isr (er_over (ev_var (i := 3) rfl) (ev_var (i := 2) rfl) r9 N9 sA sB q0) (ep_tup (ev_op (ev_var (i := 4) rfl) (ev_var (i := 7) rfl) (rv_mulW (wm b1.up b2.lo (by decide) (by decide)))) (ev_op (ev_var (i := 5) rfl) (ev_var (i := 6) rfl) (rv_mulW (wm b1.lo b2.up (by decide) (by decide))))) ⟨up ad (by decide), up (ml b1.lo b2.up) (by decide), Int.mul_ne_zero b1.nz c0⟩ div_pair) fun _ => ev_is (ev_op (ev_var (i := 6) rfl) ev_c (rv_ne rfl)) (by rw [dec0, decide_eq_false c0]; rfl)) kk
end

end K05
set_option Elab.async false
set_option linter.all false
set_option maxRecDepth 100000
set_option maxHeartbeats 2000000
namespace K05
open PySem PySem.Spec PyProof.Rows L2 Evl LawK RatK
/-! ### refusals, lists, the law -/
section
variable {P : Program} {w : World} {K : PySem.W.Frag} {mg : Str → Option Value} {base : Heap} {C CZ CB fB : Addr}
def spZero : Sp := fun vs H Q _ => ∃ n : Int, vs = [.int n] ∧ n.natAbs < 2 ^ 8900 ∧ ∀ H2, Ex H H2 → Q (.bl true) H2
abbrev s__law_zero_right : Stmt := topS 31
theorem sc__law_zero_right : FnScope ["_law_number"] ["_law_number"] (defScope s__law_zero_right) := ⟨rfl, rfl, rfl, by decide +kernel, rfl, by decide +kernel, by decide +kernel⟩
theorem ok_zero {f : Addr} {fd : FuncData} (F : Fun K "_law_zero_right" "_law_zero_right" s__law_zero_right f fd) (Z : ZTxt K mg CZ) (c_Ratio : MakX P w K mg base 1 "Ratio" C (spInit C CZ) []) : FnOk P w K mg base CX0 4 f fd ["_law_number"] spZero := by
  refine F.ok sc__law_zero_right (fun vs H Q E h => ?_) (fun cdv A outer s H vs Q E hr h => ?_)
  · obtain ⟨n, rfl, _⟩ := h
    rfl
  · obtain ⟨n, rfl, l, k⟩ := h
    refine ⟨_, (pss_cons (ps_try_only rfl rfl ⟨rfl, by decide, .inl Z.gZ⟩ takes0 (fun W pn xe tk _ =>
        (pss_one (ps_expr (pe_mkX c_Ratio (fun σ => passAt tk σ) hr (by decide) rfl (pa_cons (pv 0) (pa_cons pe_int pa_nil))))))
        (fun a oe cls d pn hz hf => (pss_one (ps_ret pe_bl))))
      (pss_one (ps_ret pe_bl))), ?_⟩
    refine x_seq ?_
    show tMakeSD C (spInit C CZ) [] (WE _) (tCons (tVar 0) (tCons (tC (.int 0)) tNil)) _ H _
    refine u_new0 (ev_var rfl) ev_c l (by decide +kernel) (fun n0 => (n0 rfl).elim) fun _ H2 e2 => ?_
    exact ⟨true, Z.eZ, fun _ ax hax => k H2 e2, fun h => by cases h⟩
def spRef (K : PySem.W.Frag) (C : Addr) : Sp := fun vs H Q _ => ∃ v z, vs = [v] ∧ NoNum K C H v ∧ (∀ H2, Ex H H2 → Rep K H2 v z) ∧ ∀ H2, Ex H H2 → Q (.bl true) H2
abbrev s__law_refused : Stmt := topS 30
theorem sc__law_refused : FnScope ["_law_thing", "e"] ["_law_thing"] (defScope s__law_refused) := ⟨rfl, rfl, rfl, by decide +kernel, rfl, by decide +kernel, by decide +kernel⟩
theorem ok_refused {f : Addr} {fd : FuncData} (F : Fun K "_law_refused" "_law_refused" s__law_refused f fd) (T : RTxt K mg C) (B : PySem.LowX_BadNumber.LowTxt_BadNumber K mg CB fB) (c_as_ratio_kw : CalKX P w K mg base 4 "as_ratio" ["value"] (spAsR K C CB) (fun _ zs => zs)) : FnG P w K mg base CX0 6 f fd ["_law_thing"] (spRef K C) := by
  refine F.okG sc__law_refused (fun vs H Q E h => ?_) (fun cdv A outer s H vs Q E gA hr h => ?_)
  · obtain ⟨v, z, rfl, _⟩ := h
    rfl
  · obtain ⟨v, z, rfl, no, rp, k⟩ := h
    refine ⟨_, (pss_cons (ps_try_as (i := 1) rfl rfl sc__law_refused.nd rfl rfl ⟨rfl, by decide, .inl B.gC⟩ takes0 (fun W pn xe tk _ =>
        (pss_one (ps_expr (pe_kwX c_as_ratio_kw (fun σ => passAt tk σ) hr (by decide) rfl (pk_cons (pv 0) pk_nil)))))
        (fun a oe cls d pn hz hf => (pss_one (ps_ret (pe_cmpR op_eq (pe_callB (cr_reprK (K := K) (by exact hr.units) (by exact gA) (by rfl)) (by rfl) T.z_repr (by decide +kernel) (pa_cons (pe_byLow_BadNumber B hz hf (pv 1)) pa_nil)) (pe_callB (cr_reprK (K := K) (by exact hr.units) (by exact gA) (by rfl)) (by rfl) T.z_repr (by decide +kernel) (pa_cons (pv 0) pa_nil)) (nomark _))))))
      (pss_one (ps_ret pe_bl))), ?_⟩
    refine x_seq ?_
    refine ⟨v, rfl, rfl, v, rfl, .inr ⟨no, fun d hd => ?_⟩⟩
    refine ⟨true, B.te, fun _ ax hax => ?_, fun h => by cases h⟩
    have e1 := Ex.new (o := .xd [("value", v)]) hd
    refine ⟨.ref ax, rfl, rfl, rfl, d, v, rfl, upd_same, v, z, rfl, rp _ e1, v, rfl, v, z, rfl, rp _ e1, rfl, ?_⟩
    rw [decide_eq_true rfl]
    exact k _ e1
/-- a list at l of these pairs -/
def PairsAt (K : PySem.W.Frag) (H : Hp) (l : Addr) (xs : List V) (ps : List (Int × Int)) : Prop := SqL K H l xs ∧ xs.length = ps.length ∧ ∀ (i : Nat) (x : V) (p : Int × Int), xs[i]? = some x → ps[i]? = some p → ∃ a, x = .ref a ∧ PairAt H a p.1 p.2
theorem PairsAt.ex {K : PySem.W.Frag} {H H2 : Hp} {l : Addr} {xs : List V} {ps : List (Int × Int)} (h : PairsAt K H l xs ps) (e : Ex H H2) : PairsAt K H2 l xs ps := ⟨ex_l e h.1, h.2.1, fun i x p h1 h2 => (h.2.2 i x p h1 h2).elim fun a h => ⟨a, h.1, h.2.ex e⟩⟩
def spLists (K : PySem.W.Frag) : Sp := fun vs H Q _ => ∃ (l : Addr) (xs : List V) (ps : List (Int × Int)), vs = [.ref l] ∧ PairsAt K H l xs ps ∧ (∀ p ∈ ps, PB 140 p.1 p.2) ∧ 0 < ps.length ∧ ps.length ≤ 20 ∧ ∀ H2, Ex H H2 → Q (.bl true) H2
abbrev s__law_lists_right : Stmt := topS 32
theorem sc__law_lists_right : FnScope ["_law_pairs", "_law_numbers", "_law_pair_here", "_law_shown", "_law_whole", "_law_most", "_law_low", "_law_gap"] ["_law_pairs"] (defScope s__law_lists_right) := ⟨rfl, rfl, rfl, by decide +kernel, rfl, by decide +kernel, by decide +kernel⟩
theorem ok_lists {f : Addr} {fd : FuncData} (F : Fun K "_law_lists_right" "_law_lists_right" s__law_lists_right f fd) (T : RTxt K mg C) (c__law_is : CalX P w K mg base 3 "_law_is" (spIs C) []) (c__law_lowest : CalX P w K mg base 1 "_law_lowest" spLow [])
    (c_Ratio : MakX P w K mg base 1 "Ratio" C (spInit C CZ) []) (c_total : CalX P w K mg base 6 "total" (spTotal K C) []) (c_greatest : CalX P w K mg base 6 "greatest" (spPick K C maxR) []) (c_least : CalX P w K mg base 6 "least" (spPick K C minR) []) : FnOk P w K mg base CX0 8 f fd ["_law_pairs"] (spLists K) := by
  refine F.ok sc__law_lists_right (fun vs H Q E h => ?_) (fun cdv A outer s H vs Q E hr h => ?_)
  · obtain ⟨l, xs, ps, rfl, _⟩ := h
    rfl
  · obtain ⟨l, xs, ps, rfl, hP, pb, l0, l1, k⟩ := h
    refine ⟨_, (pss_cons (ps_setLc (i := 1) (own := [("_law_pair_here", 2)]) rfl sc__law_lists_right.nd rfl rfl (sw_true rfl rfl rfl (by decide +kernel)) (pi_list (pv 0)) (blkOk_by (own := [("_law_pair_here", 2)]) (N := ["_law_pairs", "_law_numbers", "_law_pair_here", "_law_shown", "_law_whole", "_law_most", "_law_low", "_law_gap"]) (sc := defScope s__law_lists_right) (by decide +kernel)) (fun _ _ _ _ _ => (pg_name (i := 2) sc__law_lists_right.nd rfl (Or.inl rfl))) (fun _ _ _ _ _ => pts_nil) (fun _ _ _ _ _ => (pe_ifExp (pt_cmpR op_ne (pe_ix (ix_tupK (K := K) (by rfl)) (pv 2) pe_int (fun _ _ => rfl)) pe_int (nomark _)) (pe_mkX c_Ratio passN hr (by decide) rfl (pa_cons (pe_ix (ix_tupK (K := K) (by rfl)) (pv 2) pe_int (fun _ _ => rfl)) (pa_cons (pe_ix (ix_tupK (K := K) (by rfl)) (pv 2) pe_int (fun _ _ => rfl)) pa_nil))) (pe_ix (ix_tupK (K := K) (by rfl)) (pv 2) pe_int (fun _ _ => rfl)))))
      (pss_cons (ps_set (i := 3) sc__law_lists_right.nd rfl (Or.inl rfl) (pe_callTy call_list_of (by rfl) T.z_list (by decide +kernel) (pa_cons (pv 1) pa_nil)))
      (pss_cons (ps_par3 (i := 4) (j := 5) (l := 6) (by rfl) sc__law_lists_right.nd rfl rfl rfl (by decide) (by decide) (by decide) rfl rfl rfl (pa_cons (pe_tup (pa_cons pe_int (pa_cons pe_int pa_nil))) (pa_cons (pe_ix ix_list (pv 0) pe_int (fun _ _ => rfl)) (pa_cons (pe_ix ix_list (pv 0) pe_int (fun _ _ => rfl)) pa_nil))) (by rfl))
      (pss_cons (ps_for PassesOwn.never rfl (pi_list (pv 0)) (pg_name (i := 2) sc__law_lists_right.nd rfl (Or.inl rfl))
        (pss_cons (ps_set (i := 4) sc__law_lists_right.nd rfl (Or.inl rfl) (pe_cX c__law_lowest passN hr (by decide) rfl (pa_cons (pe_tup (pa_cons (pe_op op_add (pe_op op_mulW (pe_ix ix_tup (pv 4) pe_int (fun _ _ => rfl)) (pe_ix (ix_tupK (K := K) (by rfl)) (pv 2) pe_int (fun _ _ => rfl))) (pe_op op_mulW (pe_ix (ix_tupK (K := K) (by rfl)) (pv 2) pe_int (fun _ _ => rfl)) (pe_ix ix_tup (pv 4) pe_int (fun _ _ => rfl)))) (pa_cons (pe_op op_mulW (pe_ix ix_tup (pv 4) pe_int (fun _ _ => rfl)) (pe_ix (ix_tupK (K := K) (by rfl)) (pv 2) pe_int (fun _ _ => rfl))) pa_nil))) pa_nil)))
        (pss_cons (ps_set (i := 7) sc__law_lists_right.nd rfl (Or.inl rfl) (pe_op op_sub (pe_op op_mulW (pe_ix (ix_tupK (K := K) (by rfl)) (pv 2) pe_int (fun _ _ => rfl)) (pe_ix ix_tup (pv 5) pe_int (fun _ _ => rfl))) (pe_op op_mulW (pe_ix ix_tup (pv 5) pe_int (fun _ _ => rfl)) (pe_ix (ix_tupK (K := K) (by rfl)) (pv 2) pe_int (fun _ _ => rfl)))))
        (pss_cons (ps_if (pt_cmpR op_gt (pe_op op_mulW (pe_op op_mulW (pv 7) (pe_ix (ix_tupK (K := K) (by rfl)) (pv 2) pe_int (fun _ _ => rfl))) (pe_ix ix_tup (pv 5) pe_int (fun _ _ => rfl))) pe_int (nomark _))
          (pss_one (ps_set (i := 5) sc__law_lists_right.nd rfl (Or.inl rfl) (pv 2)))
          pss_nil)
        (pss_one (ps_if (pt_cmpR op_lt (pe_op op_mulW (pe_op op_mulW (pe_op op_sub (pe_op op_mulW (pe_ix (ix_tupK (K := K) (by rfl)) (pv 2) pe_int (fun _ _ => rfl)) (pe_ix ix_tup (pv 6) pe_int (fun _ _ => rfl))) (pe_op op_mulW (pe_ix ix_tup (pv 6) pe_int (fun _ _ => rfl)) (pe_ix (ix_tupK (K := K) (by rfl)) (pv 2) pe_int (fun _ _ => rfl)))) (pe_ix (ix_tupK (K := K) (by rfl)) (pv 2) pe_int (fun _ _ => rfl))) (pe_ix ix_tup (pv 6) pe_int (fun _ _ => rfl))) pe_int (nomark _))
          (pss_one (ps_set (i := 6) sc__law_lists_right.nd rfl (Or.inl rfl) (pv 2)))
          pss_nil))))))
      (pss_cons (ps_if (PW.pt (pw_or (pt_not (pt_val (pe_cX c__law_is passN hr (by decide) rfl (pa_cons (pe_cX c_total passN hr (by decide) rfl (pa_cons (pv 1) pa_nil)) (pa_cons (pv 4) pa_nil))))) (pw_or1 (pt_not (pt_val (pe_cX c__law_is passN hr (by decide) rfl (pa_cons (pe_cX c_greatest passN hr (by decide) rfl (pa_cons (pe_callTy call_tuple_of (by rfl) T.z_tuple (by decide +kernel) (pa_cons (pv 1) pa_nil)) pa_nil)) (pa_cons (pv 5) pa_nil))))))))
        (pss_one (ps_ret pe_bl))
        pss_nil)
      (pss_cons (ps_if (PW.pt (pw_or (pt_not (pt_val (pe_cX c__law_is passN hr (by decide) rfl (pa_cons (pe_cX c_least passN hr (by decide) rfl (pa_cons (pv 1) pa_nil)) (pa_cons (pv 6) pa_nil))))) (pw_or1 (pt_not (pt_val (pe_cX c__law_is passN hr (by decide) rfl (pa_cons (pe_cX c_total passN hr (by decide) rfl (pa_cons (pe_callTy call_tuple_of (by rfl) T.z_tuple (by decide +kernel) (pa_cons (pv 1) pa_nil)) pa_nil)) (pa_cons (pv 4) pa_nil))))))))
        (pss_one (ps_ret pe_bl))
        pss_nil)
      (pss_one (ps_ret (pe_and (pe_cmpR (op_eqV (by exact hr.units)) (pv 1) (pv 3) (nomark _)) (pe_one (pe_cX c__law_is passN hr (by decide) rfl (pa_cons (pe_cX c_total passN hr (by decide) rfl (pa_cons (pe_lst pa_nil) pa_nil)) (pa_cons (pe_tup (pa_cons pe_int (pa_cons pe_int pa_nil))) pa_nil))))))))))))), ?_⟩
    obtain ⟨p0, hp0⟩ : ∃ p0, ps[0]? = some p0 := ⟨ps[0], List.getElem?_eq_getElem l0⟩
    have lx : xs.length = ps.length := hP.2.1
    obtain ⟨x0, hx0⟩ : ∃ x0, xs[0]? = some x0 := ⟨xs[0], List.getElem?_eq_getElem (by omega)⟩
    obtain ⟨a0, rfl, _⟩ := hP.2.2 0 x0 p0 hx0 hp0
    -- the numbers
    refine x_seq (x_set ?_)
    refine ⟨.ref l, rfl, l, rfl, ⟨_, hP.1⟩, fun D hD => ?_⟩
    have xD : Ex H (upd H D (.lst [])) := Ex.new hD
    refine lc_list (K := K) (a := l) (xs := xs) (fun i H' => Ex H H' ∧ ∃ ys : List V, ys.length = i ∧ H' D = some (.lst ys) ∧ ∀ (j : Nat) y p, ys[j]? = some y → ps[j]? = some p → NumV C H' y (qOf p)) ⟨xD, [], rfl, upd_same, fun j y p h => by cases h⟩ (fun i H' _ h => ex_l h.1 hP.1) (fun i x H' hi h => ?_) (fun H' h => ?_)
    · obtain ⟨xe, ys, hyl, hy, hn⟩ := h
      have li : i < ps.length := by rw [← lx]; exact (List.getElem?_eq_some_iff.mp hi).1
      have hp : ps[i]? = some ps[i] := List.getElem?_eq_getElem li
      obtain ⟨a, rfl, ha⟩ := hP.2.2 i x _ hi hp
      have ha' := ha.ex xe
      have pbi := pb _ (List.getElem_mem li)
      have fin : ∀ (y : V) (H4 : Hp), Ex H' H4 → NumV C H4 y (qOf ps[i]) → ∃ acc, H4 D = some (.lst acc) ∧ acc.length < sizeLine ∧ (Ex H (upd H4 D (.lst (acc ++ [y]))) ∧ ∃ zs : List V, zs.length = i + 1 ∧ (upd H4 D (.lst (acc ++ [y]))) D = some (.lst zs) ∧ ∀ (j : Nat) y' p, zs[j]? = some y' → ps[j]? = some p → NumV C (upd H4 D (.lst (acc ++ [y]))) y' (qOf p)) := fun y H4 e4 hn4 => by
        have hD4 := e4 _ _ hy
        refine ⟨ys, hD4, small1000 (by omega), (xe.trans e4).mut hD, ys ++ [y], by rw [List.length_append, hyl]; rfl, upd_same, fun j y' p g1 g2 => ?_⟩
        by_cases hj : j < ys.length
        · rw [List.getElem?_append_left hj] at g1
          exact ((hn j y' p g1 g2).ex e4).upd hD4
        · have hj2 := (List.getElem?_eq_some_iff.mp g1).1
          rw [List.length_append, List.length_singleton] at hj2
          have ej : j = i := by omega
          subst ej
          rw [← hyl] at g1
          rw [List.getElem?_concat_length] at g1
          cases g1
          rw [hp] at g2
          cases g2
          exact hn4.upd hD4
      refine ⟨rfl, ?_⟩
      unfold tYes
      dsimp only
      rw [if_pos rfl]
      refine x_ifE ?_
      refine u_t (et_test (ev_op (ev_p1 (ev_var (i := 2) rfl) ha') ev_c (rv_ne rfl))) fun H2 e2 => ?_
      have ha2 := ha'.ex e2
      by_cases b1 : ps[i].2 = 1
      · rw [b1, decide_eq_true rfl]
        refine iteF (u_v (ev_p0 (ev_var (i := 2) rfl) ha2) fun H3 e3 => fin _ H3 (e2.trans e3) (.inl ⟨_, rfl, ?_⟩))
        show Rat.divInt _ _ = _
        rw [b1, one_is]
      · have nb : decide (V.int ps[i].2 = V.int 1) = false := decide_eq_false fun h => b1 (V.int.inj h)
        rw [nb]
        exact iteT (u_new (ev_p0 (ev_var (i := 2) rfl) ha2) (ev_p1 (ev_var (i := 2) rfl) ha2) (pbi.mono (by decide)).up (pbi.mono (by decide)).lo pbi.nz fun r H3 e3 hr3 => fin _ H3 (e2.trans e3) (.inr ⟨r, rfl, hr3⟩))
    · obtain ⟨xe, ys, hyl, hy, hn⟩ := h
      -- shown beside
      dsimp only
      refine x_seq (x_set ?_)
      refine ⟨.ref D, rfl, D, ys, rfl, .inl (sq_of hy), fun l2 nl2 => ?_⟩
      dsimp only
      have e2 := Ex.new (o := .lst ys) nl2
      have hl2 : (upd H' l2 (.lst ys)) l2 = some (.lst ys) := upd_same
      have xe2 := xe.trans e2
      have hD2 := e2 _ _ hy
      have hn2 : ∀ (j : Nat) y p, ys[j]? = some y → ps[j]? = some p → NumV C (upd H' l2 (.lst ys)) y (qOf p) := fun j y p g1 g2 => (hn j y p g1 g2).ex e2
      generalize upd H' l2 (.lst ys) = H2 at xe2 hD2 hn2 hl2
      clear e2 hn hy xe
      have hP2 := hP.ex xe2
      -- whole, most, low
      refine x_seq ?_
      refine ⟨by show 2 ≤ sizeLine; decide, fun w nw => ?_⟩
      have e3 := Ex.new (o := .tup [.int 0, .int 1]) nw
      have hw : PairAt (upd H2 w (.tup [.int 0, .int 1])) w 0 1 := upd_same
      have hP3 := hP2.ex e3
      generalize upd H2 w (.tup [.int 0, .int 1]) = H3 at e3 hw hP3
      refine ⟨.ref l, rfl, l, xs, 0, .ref a0, rfl, rfl, hP3.1, atI_nat (j := 0) hx0, .ref l, rfl, l, xs, 0, .ref a0, rfl, rfl, hP3.1, atI_nat (j := 0) hx0, _, _, _, rfl, ?_⟩
      dsimp only
      obtain ⟨_, ea, ha0⟩ := hP3.2.2 0 _ p0 hx0 hp0
      cases ea
      have pb0 := pb p0 (List.mem_of_getElem? hp0)
      have s4 := sum_sz4 pb l1
      refine q_forLn (j := 2) (ev_var (i := 0) rfl) hP3.1 (fun i σ H' => ∃ y2 y7 w m o t1 b1 t2 b2, σ = [some (.ref l), some (.ref D), y2, some (.ref l2), some (.ref w), some (.ref m), some (.ref o), y7] ∧ Ex H3 H' ∧ PairAt H' w (sumR ((ps.map qOf).take i)).num ((sumR ((ps.map qOf).take i)).den : Int)
          ∧ PairAt H' m t1 b1 ∧ PB 140 t1 b1 ∧ Rat.divInt t1 b1 = maxF ((ps.map qOf).take i) (qOf p0) ∧ PairAt H' o t2 b2 ∧ PB 140 t2 b2 ∧ Rat.divInt t2 b2 = minF ((ps.map qOf).take i) (qOf p0))
        (fun H4 e4 => ⟨_, _, w, a0, a0, p0.1, p0.2, p0.1, p0.2, rfl, e4, hw.ex e4, ha0.ex e4, pb0, rfl, ha0.ex e4, pb0, rfl⟩) (fun i σ' H' _ ⟨_, _, _, _, _, _, _, _, _, _, e, _⟩ => ex_l e hP3.1) ?_ ?_
      · rintro i x σ' H' hi ⟨y2, y7, w, m, o, t1, b1, t2, b2, rfl, e4, hw, hm, pm, em, ho, po, eo⟩
        have li : i < ps.length := by rw [← lx]; exact (List.getElem?_eq_some_iff.mp hi).1
        have hp : ps[i]? = some ps[i] := List.getElem?_eq_getElem li
        obtain ⟨a, rfl, ha⟩ := (hP3.ex e4).2.2 i x _ hi hp
        have pbi := pb _ (List.getElem_mem li)
        have hq : (ps.map qOf)[i]? = some (qOf ps[i]) := by rw [List.getElem?_map, hp]; rfl
        rw [take_one hq, sumR_snoc, maxF_snoc, minF_snoc, ← em, ← eo]
        have si := s4 i
        have ss := sum_sz pb i (by omega)
        obtain ⟨ap, ae⟩ := add_step ss pbi
        generalize sumR ((ps.map qOf).take i) = S at hw ss ap ae si
        clear em eo
        refine x_seq (x_set ?_)
        refine ep_low (ep_tup (ev_op (ev_op (ev_p0 (ev_var (i := 4) rfl) hw) (ev_p1 (ev_var (i := 2) rfl) ha) (rv_mulW (wm si.1 pbi.lo (by decide) (by decide)))) (ev_op (ev_p0 (ev_var (i := 2) rfl) ha) (ev_p1 (ev_var (i := 4) rfl) hw) (rv_mulW (wm pbi.up (den_abs S si.2) (by decide) (by decide)))) rv_I0) (ev_op (ev_p1 (ev_var (i := 4) rfl) hw) (ev_p1 (ev_var (i := 2) rfl) ha) (rv_mulW (wm (den_abs S si.2) pbi.lo (by decide) (by decide))))) (ap.mono (by omega)) H' (Ex.refl H') _ fun w2 H5 e5 hw2 => ?_
        dsimp only
        rw [ae] at hw2
        have ha5 := ha.ex e5
        have hm5 := hm.ex e5
        have ho5 := ho.ex e5
        -- the most
        refine q_asg (v := .int (ps[i].1 * b1 - t1 * ps[i].2)) (ev_op (ev_op (ev_p0 (ev_var (i := 2) rfl) ha5) (ev_p1 (ev_var (i := 5) rfl) hm5) (rv_mulW (wm pbi.up pm.lo (by decide) (by decide)))) (ev_op (ev_p0 (ev_var (i := 5) rfl) hm5) (ev_p1 (ev_var (i := 2) rfl) ha5) (rv_mulW (wm pm.up pbi.lo (by decide) (by decide)))) rv_I0) fun H6 e6 => ?_
        have gl : (ps[i].1 * b1 - t1 * ps[i].2).natAbs < 2 ^ 281 := sl (ml pbi.up pm.lo) (ml pm.up pbi.lo)
        refine q_ifset (b := decide (0 < (ps[i].1 * b1 - t1 * ps[i].2) * ps[i].2 * b1)) (v := .ref a) (x := .ref m) (et_test (ev_op (ev_op (ev_op (ev_var (i := 7) rfl) (ev_p1 (ev_var (i := 2) rfl) (ha5.ex e6)) (rv_mulW (wm gl pbi.lo (by decide) (by decide)))) (ev_p1 (ev_var (i := 5) rfl) (hm5.ex e6)) (rv_mulW (wm (ml gl pbi.lo) pm.lo (by decide) (by decide)))) ev_c rv_I0)) (ev_var (i := 2) rfl) rfl fun H7 e7 => ?_
        have e57 := e6.trans e7
        obtain ⟨m', t1', b1', em', hm', pm', eq'⟩ : ∃ m' t1' b1', (if decide (0 < (ps[i].1 * b1 - t1 * ps[i].2) * ps[i].2 * b1) = true then V.ref a else V.ref m) = .ref m' ∧ PairAt H7 m' t1' b1' ∧ PB 140 t1' b1' ∧ Rat.divInt t1' b1' = if Rat.divInt t1 b1 < qOf ps[i] then qOf ps[i] else Rat.divInt t1 b1 := by
          have lt := lt_is (a := t1) (c := ps[i].1) pm.nz pbi.nz
          have ee : (t1 * ps[i].2 - ps[i].1 * b1) * (b1 * ps[i].2) = -((ps[i].1 * b1 - t1 * ps[i].2) * ps[i].2 * b1) := by
            rw [← Int.neg_sub, Int.neg_mul, Int.mul_assoc, Int.mul_comm b1]
          rw [ee] at lt
          by_cases g : 0 < (ps[i].1 * b1 - t1 * ps[i].2) * ps[i].2 * b1
          · rw [if_pos (decide_eq_true g), if_pos (show Rat.divInt t1 b1 < qOf ps[i] from lt.mpr (by omega))]
            exact ⟨a, _, _, rfl, ha5.ex e57, pbi, rfl⟩
          · rw [if_neg (by rw [decide_eq_false g]; decide), if_neg (show ¬ Rat.divInt t1 b1 < qOf ps[i] from fun z => g (by have := lt.mp z; omega))]
            exact ⟨m, _, _, rfl, hm5.ex e57, pm, rfl⟩
        rw [em', ← eq']
        have ha7 := ha5.ex e57
        have ho7 := ho5.ex e57
        -- the least
        have hl : (ps[i].1 * b2 - t2 * ps[i].2).natAbs < 2 ^ 281 := sl (ml pbi.up po.lo) (ml po.up pbi.lo)
        refine s_ifset (b := decide ((ps[i].1 * b2 - t2 * ps[i].2) * ps[i].2 * b2 < 0)) (v := .ref a) (x := .ref o) (et_test (ev_op (ev_op (ev_op (ev_op (ev_op (ev_p0 (ev_var (i := 2) rfl) ha7) (ev_p1 (ev_var (i := 6) rfl) ho7) (rv_mulW (wm pbi.up po.lo (by decide) (by decide)))) (ev_op (ev_p0 (ev_var (i := 6) rfl) ho7) (ev_p1 (ev_var (i := 2) rfl) ha7) (rv_mulW (wm po.up pbi.lo (by decide) (by decide)))) rv_I0) (ev_p1 (ev_var (i := 2) rfl) ha7) (rv_mulW (wm hl pbi.lo (by decide) (by decide)))) (ev_p1 (ev_var (i := 6) rfl) ho7) (rv_mulW (wm (ml hl pbi.lo) po.lo (by decide) (by decide)))) ev_c rv_I0)) (ev_var (i := 2) rfl) rfl fun H8 e8 => ?_
        obtain ⟨o', t2', b2', eo', ho', po', eq2'⟩ : ∃ m' t1' b1', (if decide ((ps[i].1 * b2 - t2 * ps[i].2) * ps[i].2 * b2 < 0) = true then V.ref a else V.ref o) = .ref m' ∧ PairAt H8 m' t1' b1' ∧ PB 140 t1' b1' ∧ Rat.divInt t1' b1' = if qOf ps[i] < Rat.divInt t2 b2 then qOf ps[i] else Rat.divInt t2 b2 := by
          have lt := lt_is (a := ps[i].1) (c := t2) pbi.nz po.nz
          rw [← Int.mul_assoc] at lt
          by_cases g : (ps[i].1 * b2 - t2 * ps[i].2) * ps[i].2 * b2 < 0
          · rw [if_pos (decide_eq_true g), if_pos (show qOf ps[i] < Rat.divInt t2 b2 from lt.mpr g)]
            exact ⟨a, _, _, rfl, ha7.ex e8, pbi, rfl⟩
          · rw [if_neg (by rw [decide_eq_false g]; decide), if_neg (show ¬ qOf ps[i] < Rat.divInt t2 b2 from fun z => g (lt.mp z))]
            exact ⟨o, _, _, rfl, ho7.ex e8, po, rfl⟩
        rw [eo', ← eq2']
        exact ⟨_, _, w2, m', o', t1', b1', t2', b2', rfl, ((e4.trans e5).trans e57).trans e8, (hw2.ex e57).ex e8, hm'.ex e8, pm', rfl, ho', po', rfl⟩
      · rintro σ' H' ⟨y2, y7, w, m, o, t1, b1, t2, b2, rfl, e4, hw, hm, pm, em, ho, po, eo⟩
        have lq : (ps.map qOf).length = ps.length := List.length_map _
        rw [lx, ← lq, List.take_length] at hw em eo
        have ssz : Sz 4000 (sumR (ps.map qOf)) := by
          have := s4 ps.length
          rw [← lq, List.take_length] at this
          exact this
        have az := all_sz pb
        have ne : ps.map qOf ≠ [] := fun z => by
          have := congrArg List.length z
          rw [lq] at this
          exact absurd this (by show ¬ ps.length = 0; omega)
        have hd : (ps.map qOf).headD 0 = qOf p0 := by
          cases ps with
          | nil => cases hp0
          | cons p r => cases hp0; rfl
        have emx : maxR (ps.map qOf) = Rat.divInt t1 b1 := by rw [em]; unfold maxR; rw [hd]; rfl
        have emn : minR (ps.map qOf) = Rat.divInt t2 b2 := by rw [eo]; unfold minR; rw [hd]; rfl
        have PW : PB 4000 (sumR (ps.map qOf)).num ((sumR (ps.map qOf)).den : Int) := ⟨ssz.1, den_abs _ ssz.2, den_nz _⟩
        have e24 := e3.trans e4
        have hD4 : SqL K H' D ys := sq_of (e24 _ _ hD2)
        have hl4 : SqL K H' l2 ys := sq_of (e24 _ _ hl2)
        have yl : ys.length = (ps.map qOf).length := by rw [lq, hyl, lx]
        have hnn : ∀ (i : Nat) x q, ys[i]? = some x → (ps.map qOf)[i]? = some q → NumV C H' x q := fun i x q g1 g2 => by
          rw [List.getElem?_map] at g2
          cases hpi : ps[i]? with
          | none => rw [hpi] at g2; cases g2
          | some p =>
            rw [hpi] at g2
            cases g2
            exact (hn2 i x p g1 hpi).ex e24
        have sq : SeqN K C H' (.ref D) (ps.map qOf) := ⟨D, ys, rfl, .inl hD4, yl, hnn⟩
        have kk : ∀ H2, Ex H' H2 → Q (.bl true) H2 := fun H2 e => k H2 ((xe2.trans e24).trans e)
        have rk : Rat.divInt (sumR (ps.map qOf)).num ((sumR (ps.map qOf)).den : Int) = sumR (ps.map qOf) := divInt_nd _
        refine q_when (b := false) ?_ (fun h => by cases h) (fun _ H5 e5 => ?_)
        · refine et_is (et_or (et_not (et_B (ev_isr (er_total (es_v (ev_var (i := 1) rfl) sq) az (fun i => s4 i)) (ep_v (ev_var (i := 4) rfl) hw) PW rk.symm))) fun _ =>
            et_not (et_B (ev_isr (er_pick (es_t (ev_var (i := 1) rfl) hD4 yl hnn) ne az) (ep_v (ev_var (i := 5) rfl) hm) (pm.mono (by decide)) emx))) rfl
        refine q_when (b := false) ?_ (fun h => by cases h) (fun _ H6 e6 => ?_)
        · refine et_is (et_or (et_not (et_B (ev_isr (er_pick (es_v (ev_var (i := 1) rfl) (sq.ex e5)) ne az) (ep_v (ev_var (i := 6) rfl) (ho.ex e5)) (po.mono (by decide)) emn))) fun _ =>
            et_not (et_B (ev_isr (er_total (es_t (ev_var (i := 1) rfl) (ex_l e5 hD4) yl fun i x q g1 g2 => (hnn i x q g1 g2).ex e5) az (fun i => s4 i)) (ep_v (ev_var (i := 4) rfl) (hw.ex e5)) PW rk.symm))) rfl
        have e56 := e5.trans e6
        refine s_ret (v := .bl (true && true)) (ev_andV (ev_op (ev_var (i := 1) rfl) (ev_var (i := 3) rfl) (rv_val fun H7 e7 Q' q' => ⟨1, by decide, .inl ⟨D, l2, ys, ys, rfl, rfl, ex_l (e56.trans e7) hD4, ex_l (e56.trans e7) hl4, eqv_self ys fun y hy => ?_⟩, q'⟩)) fun _ => ev_isr (er_total es_nil (fun q h => by cases h) (fun i => ?_)) (ep_tup ev_c ev_c) ⟨by decide +kernel, by decide +kernel, by decide⟩ rfl) fun H7 e7 => kk H7 (e56.trans e7)
        · obtain ⟨j, hj, rfl⟩ := List.getElem_of_mem hy
          have hpj : ps[j]? = some ps[j] := List.getElem?_eq_getElem (by omega)
          exact (hn2 j _ _ (List.getElem?_eq_getElem hj) hpj).elim (fun ⟨i, h, _⟩ => .inl ⟨i, h⟩) fun ⟨a, h, _⟩ => .inr ⟨a, h⟩
        · rw [List.take_nil]
          exact ⟨by decide +kernel, by decide +kernel⟩
/-! readings of the helpers -/
def EvN (C : Addr) (te : TE) (σ : L2.St) (H : Hp) (q : Rat) : Prop := ∀ H1, Ex H H1 → ∀ Q : VK, (∀ v H2, Ex H1 H2 → NumV C H2 v q → Q v H2) → te σ H1 Q
theorem en_r {te : TE} {σ : L2.St} {H : Hp} {q : Rat} (h : EvR C te σ H q) : EvN C te σ H q := fun H1 e Q k => h H1 e Q fun p H2 e2 hp => k _ H2 e2 (.inr ⟨p, rfl, hp⟩)
theorem en_v {te : TE} {σ : L2.St} {H : Hp} {q : Rat} {v : V} (h : Ev te σ H v) (n : NumV C H v q) : EvN C te σ H q := fun H1 e Q k => h H1 e Q fun H2 e2 => k v H2 e2 (n.ex (e.trans e2))
theorem ev_two {ta tb tc : TE} {σ : L2.St} {H : Hp} {a b c d : Int} {E : XK} (h1 : EvP ta σ H a b) (h2 : EvP tb σ H c d) (h3 : EvN C tc σ H (Rat.divInt c d)) (b1 : PB 140 a b) (b2 : PB 140 c d) : Ev (tCall (spTwo C) [] E (tCons ta (tCons tb (tCons tc tNil)))) σ H (.bl true) := fun H1 e1 Q k =>
  h1 H1 e1 _ fun p H2 e2 hp => h2 H2 (e1.trans e2) _ fun r H3 e3 hr => h3 H3 ((e1.trans e2).trans e3) _ fun v H4 e4 hv => ⟨p, r, v, a, b, c, d, rfl, (hp.ex e3).ex e4, hr.ex e4, b1, b2, hv, fun H5 e5 => k H5 (((e2.trans e3).trans e4).trans e5)⟩
theorem ev_zero {ta : TE} {σ : L2.St} {H : Hp} {n : Int} {E : XK} (h : Ev ta σ H (.int n)) (l : n.natAbs < 2 ^ 8900) : Ev (tCall spZero [] E (tCons ta tNil)) σ H (.bl true) := fun H1 e1 Q k => h H1 e1 _ fun H2 e2 => ⟨n, rfl, l, fun H3 e3 => k H3 (e2.trans e3)⟩
theorem ev_refused {ta : TE} {σ : L2.St} {H : Hp} {v : V} {z : Str} {E : XK} (h : Ev ta σ H v) (no : ∀ H1, Ex H H1 → NoNum K C H1 v) (rp : ∀ H1, Ex H H1 → Rep K H1 v z) : Ev (tCall (spRef K C) [] E (tCons ta tNil)) σ H (.bl true) := fun H1 e1 Q k =>
  h H1 e1 _ fun H2 e2 => ⟨v, z, rfl, no H2 (e1.trans e2), fun H3 e3 => rp H3 ((e1.trans e2).trans e3), fun H3 e3 => k H3 (e2.trans e3)⟩
theorem ev_lists {ta : TE} {σ : L2.St} {H : Hp} {l : Addr} {xs : List V} {ps : List (Int × Int)} {E : XK} (h : Ev ta σ H (.ref l)) (hp : PairsAt K H l xs ps) (pb : ∀ p ∈ ps, PB 140 p.1 p.2) (l0 : 0 < ps.length) (l1 : ps.length ≤ 20) : Ev (tCall (spLists K) [] E (tCons ta tNil)) σ H (.bl true) := fun H1 e1 Q k =>
  h H1 e1 _ fun H2 e2 => ⟨l, xs, ps, rfl, hp.ex (e1.trans e2), pb, l0, l1, fun H3 e3 => k H3 (e2.trans e3)⟩
theorem pair_upd {H : Hp} {a D : Addr} {t b : Int} {ys : List V} {o : HO} (h : PairAt H a t b) (hD : H D = some (.lst ys)) : PairAt (L2.upd H D o) a t b := by
  have ne : a ≠ D := fun e => by
    unfold PairAt at h
    rw [e, hD] at h
    cases h
  unfold PairAt
  rw [upd_ne ne]
  exact h
/-- the pairs that stand at these places -/
def Pts (H : Hp) (xs : List V) (ps : List (Int × Int)) : Prop := xs.length = ps.length ∧ ∀ (j : Nat) x pr, xs[j]? = some x → ps[j]? = some pr → ∃ a, x = .ref a ∧ PairAt H a pr.1 pr.2
theorem Pts.ex {H H2 : Hp} {xs : List V} {ps : List (Int × Int)} (h : Pts H xs ps) (e : Ex H H2) : Pts H2 xs ps := ⟨h.1, fun j x pr g1 g2 => (h.2 j x pr g1 g2).elim fun a h => ⟨a, h.1, h.2.ex e⟩⟩
theorem Pts.upd {H : Hp} {D : Addr} {xs ys : List V} {ps : List (Int × Int)} {o : HO} (h : Pts H xs ps) (hD : H D = some (.lst ys)) : Pts (L2.upd H D o) xs ps := ⟨h.1, fun j x pr g1 g2 => (h.2 j x pr g1 g2).elim fun a h => ⟨a, h.1, pair_upd h.2 hD⟩⟩
theorem Pts.nil {H : Hp} : Pts H [] [] := ⟨rfl, fun j x pr g1 g2 => by cases g1⟩
theorem Pts.app {H : Hp} {xs ys : List V} {ps qs : List (Int × Int)} (h1 : Pts H xs ps) (h2 : Pts H ys qs) : Pts H (xs ++ ys) (ps ++ qs) := by
  refine ⟨by rw [List.length_append, List.length_append, h1.1, h2.1], fun j x pr g1 g2 => ?_⟩
  by_cases hj : j < xs.length
  · rw [List.getElem?_append_left hj] at g1
    rw [List.getElem?_append_left (by rw [← h1.1]; exact hj)] at g2
    exact h1.2 j x pr g1 g2
  · rw [List.getElem?_append_right (by omega)] at g1
    rw [List.getElem?_append_right (by have := h1.1; omega), ← h1.1] at g2
    exact h2.2 _ x pr g1 g2
theorem Pts.cons {H : Hp} {a : Addr} {t b : Int} {xs : List V} {ps : List (Int × Int)} (h : PairAt H a t b) (h2 : Pts H xs ps) : Pts H (.ref a :: xs) ((t, b) :: ps) := by
  refine ⟨by rw [List.length_cons, List.length_cons, h2.1], fun j x pr g1 g2 => ?_⟩
  cases j with
  | zero => cases g1; cases g2; exact ⟨a, rfl, h⟩
  | succ j => exact h2.2 j x pr g1 g2
abbrev s_law : Stmt := topS 33
theorem sc_law : FnScope ["_law_script", "_law_state", "_law_pairs", "_law_turn", "_law_pair_here", "_law_other", "_law_whole", "_law_ratio", "_law_odd", "_law_told", "_law_thing"] ["_law_script"] (defScope s_law) := ⟨rfl, rfl, rfl, by decide +kernel, rfl, by decide +kernel, by decide +kernel⟩
theorem ok_law {f : Addr} {fd : FuncData} (F : Fun K "law" "law" s_law f fd) (T : RTxt K mg C) (O : ROps K C) (OT : OddT K C) (c__law_start : CalF P w K mg base 1 "_law_start" (spStart K) []) (c__law_draw : CalF P w K mg base 1 "_law_draw" spDraw [])
    (c__law_pair : CalX P w K mg base 2 "_law_pair" spPair []) (c__law_is : CalX P w K mg base 3 "_law_is" (spIs C) []) (c__law_two_right : CalG P w K mg base 8 "_law_two_right" (spTwo C) []) (c__law_zero_right : CalF P w K mg base 4 "_law_zero_right" spZero [])
    (c__law_refused : CalG P w K mg base 6 "_law_refused" (spRef K C) []) (c__law_lists_right : CalF P w K mg base 8 "_law_lists_right" (spLists K) []) (c_as_ratio : CalX P w K mg base 4 "as_ratio" (spAsR K C CB) [])
    (c_is_number : CalX P w K mg base 2 "is_number" (spIsNum K C) []) (c_is_chance : CalX P w K mg base 6 "is_chance" (spIsCh K C) []) (c_Ratio : MakX P w K mg base 1 "Ratio" C (spInit C CZ) []) (c_Ratio1 : MakX P w K mg base 1 "Ratio" C (spInit C CZ) [.int 1])
    (c_Ratio_kw : MakK P w K mg base 1 "Ratio" C ["bottom", "top"] (spInit C CZ) (fun vs zs => vs ++ (zs.drop 1 ++ zs.take 1))) (d_eq : DunX P w K mg base 3 C "__eq__" (spEq K C)) : FnG P w K mg base CX0 9 f fd ["_law_script"] (LawK.spLaw K) := by
  refine F.okG sc_law (fun vs H Q E h => ?_) (fun cdv A outer s H vs Q E gA hr h => ?_)
  · obtain ⟨a, ns, rfl, _⟩ := h
    rfl
  · obtain ⟨a, ns, rfl, hS, hl, q⟩ := h
    obtain ⟨f_eq, ⟨fd_eq, ps_eq, ds_eq, F_eq, b_eq, dv_eq⟩, h_eq, hf_eq⟩ := d_eq.is
    cases dv_eq
    refine ⟨_, PSs.nox (pss_cons (ps_set (i := 1) sc_law.nd rfl (Or.inr rfl) (pe_cF c__law_start hr (by decide) rfl (pa_cons (pv 0) pa_nil)))
      (pss_cons (ps_setLc (i := 2) (own := [("_law_turn", 3)]) rfl sc_law.nd rfl rfl (sw_true rfl rfl rfl (by decide +kernel)) (pi_range1 rfl T.z_range (pa_cons (pe_op op_add pe_int (pe_cF c__law_draw hr (by decide) rfl (pa_cons (pv 1) (pa_cons pe_int pa_nil)))) pa_nil)) (blkOk_by (own := [("_law_turn", 3)]) (N := ["_law_script", "_law_state", "_law_pairs", "_law_turn", "_law_pair_here", "_law_other", "_law_whole", "_law_ratio", "_law_odd", "_law_told", "_law_thing"]) (sc := defScope s_law) (by decide +kernel)) (fun _ _ _ _ _ => (pg_name (i := 3) sc_law.nd rfl (Or.inl rfl))) (fun _ _ _ _ _ => pts_nil) (fun _ _ _ _ _ => (pe_cX c__law_pair passN hr (by decide) rfl (pa_cons (pv 1) pa_nil))))
      (pss_cons (ps_set (i := 2) sc_law.nd rfl (Or.inl rfl) (pe_op op_cat (pv 2) (pe_slice sl_list (pe_lst (pa_cons (pe_tup (pa_cons pe_int (pa_cons pe_int pa_nil))) (pa_cons (pe_tup (pa_cons pe_int (pa_cons pe_int pa_nil))) (pa_cons (pe_tup (pa_cons (pe_un un_neg pe_int) (pa_cons pe_int pa_nil))) pa_nil)))) (po_some (pe_cF c__law_draw hr (by decide) rfl (pa_cons (pv 1) (pa_cons pe_int pa_nil)))) po_none)))
      (pss_cons (ps_for PassesOwn.never rfl (pi_list (pv 2)) (pg_name (i := 4) sc_law.nd rfl (Or.inl rfl))
        (pss_cons (ps_if (PW.pt (pw_or (pt_not (pt_val (pe_cX c__law_is passN hr (by decide) rfl (pa_cons (pe_mkX c_Ratio passN hr (by decide) rfl (pa_cons (pe_ix ix_tup (pv 4) pe_int (fun _ _ => rfl)) (pa_cons (pe_ix ix_tup (pv 4) pe_int (fun _ _ => rfl)) pa_nil))) (pa_cons (pv 4) pa_nil))))) (pw_or1 (pt_not (pt_val (pe_cX c__law_is passN hr (by decide) rfl (pa_cons (pe_mkK c_Ratio_kw hr (by decide) rfl (pk_cons (pe_ix ix_tup (pv 4) pe_int (fun _ _ => rfl)) (pk_cons (pe_ix ix_tup (pv 4) pe_int (fun _ _ => rfl)) pk_nil))) (pa_cons (pv 4) pa_nil))))))))
          (pss_one (ps_ret pe_bl))
          pss_nil)
        (pss_cons (ps_set (i := 5) sc_law.nd rfl (Or.inl rfl) (pe_ix ix_list (pv 2) (pe_cF c__law_draw hr (by decide) rfl (pa_cons (pv 1) (pa_cons (pe_callB call_len_seq (by rfl) T.z_len (by decide +kernel) (pa_cons (pv 2) pa_nil)) pa_nil))) (fun _ _ => rfl)))
        (pss_cons (ps_if (pt_not (pt_val (pe_cG c__law_two_right gA hr (by decide) rfl (pa_cons (pv 4) (pa_cons (pv 5) (pa_cons (pe_mkX c_Ratio passN hr (by decide) rfl (pa_cons (pe_ix ix_tup (pv 5) pe_int (fun _ _ => rfl)) (pa_cons (pe_ix ix_tup (pv 5) pe_int (fun _ _ => rfl)) pa_nil))) pa_nil))))))
          (pss_one (ps_ret pe_bl))
          pss_nil)
        (pss_cons (ps_set (i := 6) sc_law.nd rfl (Or.inl rfl) (pe_ix ix_list (pe_lst (pa_cons pe_int (pa_cons pe_int (pa_cons (pe_un un_neg pe_int) (pa_cons (pe_ix ix_tup (pv 4) pe_int (fun _ _ => rfl)) (pa_cons (pe_op op_sub (pe_cF c__law_draw hr (by decide) rfl (pa_cons (pv 1) (pa_cons pe_int pa_nil))) pe_int) pa_nil)))))) (pe_cF c__law_draw hr (by decide) rfl (pa_cons (pv 1) (pa_cons pe_int pa_nil))) (fun _ _ => rfl)))
        (pss_cons (ps_if (PW.pt (pw_or (pt_not (pt_val (pe_cG c__law_two_right gA hr (by decide) rfl (pa_cons (pv 4) (pa_cons (pe_tup (pa_cons (pv 6) (pa_cons pe_int pa_nil))) (pa_cons (pv 6) pa_nil)))))) (pw_or1 (pt_not (pt_val (pe_cF c__law_zero_right hr (by decide) rfl (pa_cons (pv 6) pa_nil)))))))
          (pss_one (ps_ret pe_bl))
          pss_nil)
        (pss_cons (ps_set (i := 7) sc_law.nd rfl (Or.inl rfl) (pe_mkX c_Ratio passN hr (by decide) rfl (pa_cons (pe_ix ix_tup (pv 4) pe_int (fun _ _ => rfl)) (pa_cons (pe_ix ix_tup (pv 4) pe_int (fun _ _ => rfl)) pa_nil))))
        (pss_cons (ps_if (PW.pt (pw_or (pt_cmpR (op_ownNe T.r.cm O.nn h_eq hf_eq F_eq (hr.mono (by decide)) b_eq passX) (pe_cX c_as_ratio passN hr (by decide) rfl (pa_cons (pv 7) pa_nil)) (pv 7) (nomark _)) (pw_or1 (pt_not (pt_val (pe_cX c__law_is passN hr (by decide) rfl (pa_cons (pe_cX c_as_ratio passN hr (by decide) rfl (pa_cons (pv 6) pa_nil)) (pa_cons (pe_tup (pa_cons (pv 6) (pa_cons pe_int pa_nil))) pa_nil))))))))
          (pss_one (ps_ret pe_bl))
          pss_nil)
        (pss_one (ps_if (pt_not (pt_val (pe_cX c__law_is passN hr (by decide) rfl (pa_cons (pe_mkX c_Ratio1 passN hr (by decide) rfl (pa_cons (pv 6) pa_nil)) (pa_cons (pe_tup (pa_cons (pv 6) (pa_cons pe_int pa_nil))) pa_nil)))))
          (pss_one (ps_ret pe_bl))
          pss_nil))))))))))
      (pss_cons (ps_set (i := 8) sc_law.nd rfl (Or.inl rfl) (pe_ix ix_list (pe_lst (pa_cons pe_non (pa_cons pe_bl (pa_cons pe_bl (pa_cons pe_str (pa_cons pe_str (pa_cons (pe_lst (pa_cons pe_int pa_nil)) (pa_cons (pe_tup (pa_cons pe_int (pa_cons pe_int pa_nil))) (pa_cons pe_dnewK pa_nil))))))))) (pe_cF c__law_draw hr (by decide) rfl (pa_cons (pv 1) (pa_cons pe_int pa_nil))) (fun _ _ => rfl)))
      (pss_cons (ps_set (i := 9) sc_law.nd rfl (Or.inl rfl) (pe_lst (pa_cons (pe_cX c_is_number passN hr (by decide) rfl (pa_cons (pv 8) pa_nil)) (pa_cons (pe_cX c_is_chance passN hr (by decide) rfl (pa_cons (pv 8) pa_nil)) (pa_cons (pe_cX c_is_chance passN hr (by decide) rfl (pa_cons pe_int pa_nil)) (pa_cons (pe_cX c_is_chance passN hr (by decide) rfl (pa_cons pe_int pa_nil)) (pa_cons (pe_cX c_is_chance passN hr (by decide) rfl (pa_cons pe_int pa_nil)) pa_nil)))))))
      (pss_cons (ps_if (pt_cmpR op_ne (pe_callB (cr_repr hr.units gA) (by rfl) T.z_repr (by decide +kernel) (pa_cons (pv 9) pa_nil)) (pe_callB (cr_repr hr.units gA) (by rfl) T.z_repr (by decide +kernel) (pa_cons (pe_lst (pa_cons pe_bl (pa_cons pe_bl (pa_cons pe_bl (pa_cons pe_bl (pa_cons pe_bl pa_nil)))))) pa_nil)) (nomark _))
        (pss_one (ps_ret pe_bl))
        pss_nil)
      (pss_cons (ps_if (PW.pt (pw_or (pt_not (pt_val (pe_cG c__law_refused gA hr (by decide) rfl (pa_cons (pv 8) pa_nil)))) (pw_or1 (pt_cmpR (op_neD hr.units) (pe_lc (own := [("_law_thing", 10)]) rfl sc_law.nd (pi_list (pe_lst (pa_cons pe_non (pa_cons pe_str (pa_cons (pe_lst (pa_cons pe_int pa_nil)) (pa_cons (pe_tup (pa_cons pe_int (pa_cons pe_int pa_nil))) (pa_cons pe_bl pa_nil))))))) (blkOk_by (own := [("_law_thing", 10)]) (N := ["_law_script", "_law_state", "_law_pairs", "_law_turn", "_law_pair_here", "_law_other", "_law_whole", "_law_ratio", "_law_odd", "_law_told", "_law_thing"]) (sc := defScope s_law) (by decide +kernel)) (fun _ _ _ _ _ => (pg_name (i := 10) sc_law.nd rfl (Or.inl rfl))) (fun _ _ _ _ _ => (pts_one (pt_cmpR (op_ownEqK (K := K) (by rfl) (op_ownEq h_eq hf_eq F_eq (hr.mono (by decide)) b_eq passX)) (pe_mkX c_Ratio1 passN hr (by decide) rfl (pa_cons pe_int pa_nil)) (pv 10) (nomark _)))) (fun _ _ _ _ _ => (pv 10))) (pe_lst pa_nil) (nomark _)))))
        (pss_one (ps_ret pe_bl))
        pss_nil)
      (pss_one (ps_ret (pe_cF c__law_lists_right hr (by decide) rfl (pa_cons (pv 2) pa_nil)))))))))))), ?_⟩
    refine ⟨.ref a, rfl, a, ns, rfl, hS, hl, fun p H1 S0 => ?_⟩
    dsimp only [gName]
    -- the pairs
    refine x_seq (x_set ?_)
    show tCall spDraw [] E0 (tCons (tVar 1) (tCons (tC (.int 6)) tNil)) _ H1 _
    refine u_draw S0 (i := 1) rfl ev_c (k := 6) (by decide) (by decide +kernel) (by decide) fun n H2 n0 n1 S1 => ?_
    refine ⟨1, n, rfl, rfl, 1 + n, rfl, by omega, by omega, fun D hD => ?_⟩
    refine lc_range (lo := 0) (n := (1 + n).toNat) (fun i H' => ∃ G' acc ps, G' D = some (.lst acc) ∧ acc.length = i ∧ SB G' H' p (1 + 6 * i) ∧ (∀ pr ∈ ps, PB 140 pr.1 pr.2) ∧ Pts G' acc ps) ⟨_, [], [], ?_, rfl, S1.grow (Ex.new hD), (fun pr h => by cases h), Pts.nil⟩ (fun i H' hi h => ?_) (fun H' h => ?_)
    · rw [grow_new hD, upd_same]
    · obtain ⟨G', acc, ps, hGD, hlen, S, pb, pts⟩ := h
      refine ⟨rfl, ?_⟩
      unfold tYes
      dsimp only
      rw [if_pos rfl]
      refine ⟨.ref p, rfl, p, G', _, rfl, by omega, S, fun qa t b G2 H2 eG S2 hq pb' => ?_⟩
      have hD2 := eG _ _ hGD
      refine ⟨acc, S2.ex _ _ hD2, small1000 (by omega), _, acc ++ [.ref qa], ps ++ [(t, b)], upd_same, by rw [List.length_append, hlen]; rfl, (S2.mutD hD2).le (by omega), fun pr hpr => ?_, ((pts.ex eG).upd hD2).app (Pts.cons (pair_upd hq hD2) Pts.nil)⟩
      rcases List.mem_append.mp hpr with h | h
      · exact pb pr h
      · cases List.mem_singleton.mp h
        exact pb'
    obtain ⟨G2, acc, ps, hGD, hlen, S2, pb, pts⟩ := h
    dsimp only
    -- some more
    refine x_seq (x_set ?_)
    refine ⟨.ref D, rfl, by show 2 ≤ sizeLine; decide, fun t1 m1 => ⟨by show 2 ≤ sizeLine; decide, fun t2 m2 => ⟨2, rfl, by show 2 ≤ sizeLine; decide, fun t3 m3 => ⟨by show 3 ≤ sizeLine; decide, fun L mL => ?_⟩⟩⟩⟩
    have e1 := Ex.new (o := .tup [.int 0, .int 1]) m1
    have e2 := Ex.new (o := .tup [.int 3, .int 1]) m2
    have e3 := Ex.new (o := .tup [.int (-2), .int 1]) m3
    have e4 := Ex.new (o := .lst [.ref t1, .ref t2, .ref t3]) mL
    have g1 := e4 _ _ (e3 _ _ (e2 _ _ (upd_same (H := H') (a := t1) (o := .tup [.int 0, .int 1]))))
    have g2 := e4 _ _ (e3 _ _ (upd_same (H := upd H' t1 (.tup [.int 0, .int 1])) (a := t2) (o := .tup [.int 3, .int 1])))
    have g3 := e4 _ _ (upd_same (H := upd (upd H' t1 (.tup [.int 0, .int 1])) t2 (.tup [.int 3, .int 1])) (a := t3) (o := .tup [.int (-2), .int 1]))
    have g4 := upd_same (H := upd (upd (upd H' t1 (.tup [.int 0, .int 1])) t2 (.tup [.int 3, .int 1])) t3 (.tup [.int (-2), .int 1])) (a := L) (o := .lst [.ref t1, .ref t2, .ref t3])
    have n2' := fresh_back e1 m2
    have n3' := fresh_back (e1.trans e2) m3
    have n4' := fresh_back ((e1.trans e2).trans e3) mL
    have SF := S2.grow (((e1.trans e2).trans e3).trans e4)
    have k1 := grow_new (G := G2) (H2 := upd (upd (upd (upd H' t1 (.tup [.int 0, .int 1])) t2 (.tup [.int 3, .int 1])) t3 (.tup [.int (-2), .int 1])) L (.lst [.ref t1, .ref t2, .ref t3])) m1
    have k2 := grow_new (G := G2) (H2 := upd (upd (upd (upd H' t1 (.tup [.int 0, .int 1])) t2 (.tup [.int 3, .int 1])) t3 (.tup [.int (-2), .int 1])) L (.lst [.ref t1, .ref t2, .ref t3])) n2'
    have k3 := grow_new (G := G2) (H2 := upd (upd (upd (upd H' t1 (.tup [.int 0, .int 1])) t2 (.tup [.int 3, .int 1])) t3 (.tup [.int (-2), .int 1])) L (.lst [.ref t1, .ref t2, .ref t3])) n3'
    have k4 := grow_new (G := G2) (H2 := upd (upd (upd (upd H' t1 (.tup [.int 0, .int 1])) t2 (.tup [.int 3, .int 1])) t3 (.tup [.int (-2), .int 1])) L (.lst [.ref t1, .ref t2, .ref t3])) n4'
    rw [g1] at k1
    rw [g2] at k2
    rw [g3] at k3
    rw [g4] at k4
    have eG := grow_ex (H2 := upd (upd (upd (upd H' t1 (.tup [.int 0, .int 1])) t2 (.tup [.int 3, .int 1])) t3 (.tup [.int (-2), .int 1])) L (.lst [.ref t1, .ref t2, .ref t3])) S2.ex
    have hGD' := eG _ _ hGD
    have pts' := pts.ex eG
    show tCall spDraw [] E0 (tCons (tVar 1) (tCons (tC (.int 4)) tNil)) _ (upd (upd (upd (upd H' t1 (.tup [.int 0, .int 1])) t2 (.tup [.int 3, .int 1])) t3 (.tup [.int (-2), .int 1])) L (.lst [.ref t1, .ref t2, .ref t3])) _
    generalize grow G2 H' (upd (upd (upd (upd H' t1 (.tup [.int 0, .int 1])) t2 (.tup [.int 3, .int 1])) t3 (.tup [.int (-2), .int 1])) L (.lst [.ref t1, .ref t2, .ref t3])) = G3 at SF k1 k2 k3 k4 hGD' pts'
    generalize upd (upd (upd (upd H' t1 (.tup [.int 0, .int 1])) t2 (.tup [.int 3, .int 1])) t3 (.tup [.int (-2), .int 1])) L (.lst [.ref t1, .ref t2, .ref t3]) = H3 at SF
    clear e1 e2 e3 e4 g1 g2 g3 g4 n2' n3' n4' m1 m2 m3 mL eG pts hGD S2
    refine u_draw SF (i := 1) rfl ev_c (k := 4) (by decide) (by decide +kernel) (by omega) fun r H4 r0 r1 S4 => ?_
    obtain ⟨zs, qs, hz, hzq, pbz⟩ : ∃ zs qs, cutV [V.ref t1, V.ref t2, V.ref t3] (some r) none = zs ∧ Pts G3 zs qs ∧ (qs.length ≤ 3 ∧ ∀ pr ∈ qs, PB 140 pr.1 pr.2) := by
      have b0 : PB 140 0 1 := ⟨by decide +kernel, by decide +kernel, by decide⟩
      have b3 : PB 140 3 1 := ⟨by decide +kernel, by decide +kernel, by decide⟩
      have b2 : PB 140 (-2) 1 := ⟨by decide +kernel, by decide +kernel, by decide⟩
      have rr : r = 0 ∨ r = 1 ∨ r = 2 ∨ r = 3 := by omega
      rcases rr with rfl | rfl | rfl | rfl
      · refine ⟨_, [(0, 1), (3, 1), (-2, 1)], rfl, Pts.cons k1 (Pts.cons k2 (Pts.cons k3 Pts.nil)), by decide, fun pr h => ?_⟩
        simp only [List.mem_cons, List.not_mem_nil, or_false] at h
        rcases h with rfl | rfl | rfl
        · exact b0
        · exact b3
        · exact b2
      · refine ⟨_, [(3, 1), (-2, 1)], rfl, Pts.cons k2 (Pts.cons k3 Pts.nil), by decide, fun pr h => ?_⟩
        simp only [List.mem_cons, List.not_mem_nil, or_false] at h
        rcases h with rfl | rfl
        · exact b3
        · exact b2
      · refine ⟨_, [(-2, 1)], rfl, Pts.cons k3 Pts.nil, by decide, fun pr h => ?_⟩
        simp only [List.mem_cons, List.not_mem_nil, or_false] at h
        rcases h with rfl
        exact b2
      · exact ⟨_, [], rfl, Pts.nil, by decide, fun pr h => by cases h⟩
    refine ⟨r, rfl, L, [.ref t1, .ref t2, .ref t3], rfl, sq_of (S4.ex _ _ k4), fun M nM => ?_⟩
    rw [hz]
    have lz : zs.length ≤ 3 := by rw [hzq.1]; exact pbz.1
    have eM := Ex.new (o := .lst zs) nM
    refine ⟨D, M, acc, zs, rfl, rfl, eM _ _ (S4.ex _ _ hGD'), upd_same, sz_of (by omega), fun N nN => ?_⟩
    have eN := Ex.new (o := .lst (acc ++ zs)) nN
    have S5 := S4.grow (eM.trans eN)
    have kN := grow_new (G := G3) (H2 := upd (upd H4 M (.lst zs)) N (.lst (acc ++ zs))) (fresh_back eM nN)
    rw [upd_same] at kN
    have eG := grow_ex (H2 := upd (upd H4 M (.lst zs)) N (.lst (acc ++ zs))) S4.ex
    have ptsN : Pts (grow G3 H4 (upd (upd H4 M (.lst zs)) N (.lst (acc ++ zs)))) (acc ++ zs) (ps ++ qs) := (pts'.ex eG).app (hzq.ex eG)
    have lps : (ps ++ qs).length = (acc ++ zs).length := ptsN.1.symm
    have pbN : ∀ pr ∈ ps ++ qs, PB 140 pr.1 pr.2 := fun pr h => (List.mem_append.mp h).elim (pb pr) (pbz.2 pr)
    have l0 : 0 < (ps ++ qs).length := by rw [lps, List.length_append, hlen]; omega
    have l1 : (ps ++ qs).length ≤ 20 := by rw [lps, List.length_append, hlen]; omega
    dsimp only
    generalize upd (upd H4 M (.lst zs)) N (.lst (acc ++ zs)) = H5 at S5 kN ptsN
    generalize grow G3 H4 H5 = GG at S5 kN ptsN
    generalize acc ++ zs = XS at ptsN kN lps
    generalize ps ++ qs = PS at ptsN pbN l0 l1 lps
    have S6 := S5.le (k := 40) (by omega)
    have PP : PairsAt K GG N XS PS := ⟨sq_of kN, ptsN.1, ptsN.2⟩
    clear S5 SF S4 eG eM eN nM nN k1 k2 k3 k4 hGD' pts' hzq pbz pb
    -- each pair
    refine q_forLn (j := 4) (ev_var (i := 2) rfl) (ex_l S6.ex PP.1) (fun i σ' H' => ∃ t3 t4 t5 t6 t7, σ' = [some (.ref a), some (.ref p), some (.ref N), t3, t4, t5, t6, t7, none, none, none] ∧ SB GG H' p (40 + 3 * i))
      (fun H1 e1 => ⟨_, _, _, _, _, rfl, S6.ext e1⟩) (fun i σ' H' _ ⟨_, _, _, _, _, _, S⟩ => ex_l S.ex PP.1) ?_ ?_
    · rintro i x σ' H' hi ⟨t3, t4, t5, t6, t7, rfl, S⟩
      have li : i < PS.length := by rw [lps]; exact (List.getElem?_eq_some_iff.mp hi).1
      obtain ⟨ap, rfl, hap⟩ := PP.2.2 i x PS[i] hi (List.getElem?_eq_getElem li)
      have pbi := pbN _ (List.getElem_mem li)
      generalize PS[i].1 = tt at hap pbi
      generalize PS[i].2 = bb at hap pbi
      have pbi4 := pbi.mono (m := 4000) (by decide)
      have pbi8 := pbi.mono (m := 8900) (by decide)
      -- in lowest terms
      have hA := hap.ex S.ex
      refine q_when (b := false) ?_ (fun h => by cases h) (fun _ H7 e7 => ?_)
      · refine et_is (et_or (et_not (et_B (ev_isr (er_new (ev_p0 (ev_var (i := 4) rfl) hA) (ev_p1 (ev_var (i := 4) rfl) hA) pbi8.up pbi8.lo pbi8.nz) (ep_v (ev_var (i := 4) rfl) hA) pbi4 rfl))) fun _ =>
          et_not (et_B (ev_isr (er_kw rfl (ev_p1 (ev_var (i := 4) rfl) hA) (ev_p0 (ev_var (i := 4) rfl) hA) pbi8.up pbi8.lo pbi8.nz) (ep_v (ev_var (i := 4) rfl) hA) pbi4 rfl))) rfl
      have S7 := S.ext e7
      -- another one
      refine x_seq (x_set ?_)
      refine ⟨.ref N, rfl, ?_⟩
      refine u_pickL S7 kN (n := XS.length) rfl (i := 1) rfl (ev_cb (ea_cons (ev_var (i := 2) rfl) ea_nil) fun H8 e8 Q' q' => ⟨N, XS, rfl, .inl (sq_of (e8 _ _ kN)), q' H8 (Ex.refl H8)⟩) (by omega) (by omega) (by omega) fun co vo H8 ho S8 => ?_
      have lo : co < PS.length := by rw [lps]; exact (List.getElem?_eq_some_iff.mp ho).1
      obtain ⟨ao, rfl, hao⟩ := PP.2.2 co vo PS[co] ho (List.getElem?_eq_getElem lo)
      have pbo := pbN _ (List.getElem_mem lo)
      generalize PS[co].1 = cc at hao pbo
      generalize PS[co].2 = dd at hao pbo
      have pbo8 := pbo.mono (m := 8900) (by decide)
      have hA8 := hap.ex S8.ex
      have hO8 := hao.ex S8.ex
      dsimp only
      refine q_when (b := false) ?_ (fun h => by cases h) (fun _ H9 e9 => ?_)
      · exact et_is (et_not (et_B (ev_two (ep_v (ev_var (i := 4) rfl) hA8) (ep_v (ev_var (i := 5) rfl) hO8) (en_r (er_new (ev_p0 (ev_var (i := 5) rfl) hO8) (ev_p1 (ev_var (i := 5) rfl) hO8) pbo8.up pbo8.lo pbo8.nz)) pbi pbo))) rfl
      have S9 := S8.ext e9
      have hA9 := hap.ex S9.ex
      -- a whole number
      refine x_seq (x_set (x_op ?_))
      refine ⟨1, rfl, .ref ap, rfl, ap, [.int tt, .int bb], 0, .int tt, rfl, rfl, hA9.sq, atI_nat (j := 0) rfl, ?_⟩
      show tCall spDraw [] E0 (tCons (tVar 1) (tCons (tC (.int 60)) tNil)) _ H9 _
      refine u_draw S9 (i := 1) rfl ev_c (k := 60) (by decide) (by decide +kernel) (by omega) fun y H10 y0 y1 S10 => ?_
      refine ⟨y, 30, rfl, rfl, by show 5 ≤ sizeLine; decide, fun L nL => ?_⟩
      have kL := grow_new (G := GG) (H2 := upd H10 L (.lst [.int 0, .int 1, .int (-1), .int tt, .int (y - 30)])) nL
      rw [upd_same] at kL
      refine u_pickL (S10.grow (Ex.new nL)) kL (n := 5) rfl (i := 1) rfl ev_c (by decide) (by decide) (by omega) fun cw vw H11 hw S11' => ?_
      have S11 := S11'.weak (grow_ex S10.ex)
      obtain ⟨w, rfl, wl⟩ : ∃ w : Int, vw = .int w ∧ w.natAbs < 2 ^ 140 := by
        have e140 : (2 : Nat) ^ 140 = 1393796574908163946345982392040522594123776 := by decide
        have hc := (List.getElem?_eq_some_iff.mp hw).1
        match cw, hc, hw with
        | 0, _, h => cases h; exact ⟨_, rfl, by decide +kernel⟩
        | 1, _, h => cases h; exact ⟨_, rfl, by decide +kernel⟩
        | 2, _, h => cases h; exact ⟨_, rfl, by decide +kernel⟩
        | 3, _, h => cases h; exact ⟨_, rfl, pbi.up⟩
        | 4, _, h => cases h; exact ⟨_, rfl, by omega⟩
      have pw : PB 140 w 1 := ⟨wl, by decide +kernel, by decide⟩
      have pw4 := pw.mono (m := 4000) (by decide)
      have pw8 := pw.mono (m := 8900) (by decide)
      have sw8 : Sz 8900 (w : Rat) := by rw [← one_is]; exact pw8.sz
      have hA11 := hap.ex S11.ex
      have nw : ∀ H, NumV C H (.int w) (Rat.divInt w 1) := fun H => .inl ⟨w, rfl, one_is w⟩
      dsimp only
      refine q_when (b := false) ?_ (fun h => by cases h) (fun _ H12 e12 => ?_)
      · refine et_is (et_or (et_not (et_B (ev_two (ep_v (ev_var (i := 4) rfl) hA11) (ep_tup (ev_var (i := 6) rfl) ev_c) (en_v (ev_var (i := 6) rfl) (nw _)) pbi pw))) fun _ => et_not (et_B (ev_zero (ev_var (i := 6) rfl) pw8.up))) rfl
      have S12 := S11.ext e12
      have hA12 := hap.ex S12.ex
      -- a Ratio is its own Ratio
      refine x_seq (x_set ?_)
      refine u_new (ev_p0 (ev_var (i := 4) rfl) hA12) (ev_p1 (ev_var (i := 4) rfl) hA12) pbi8.up pbi8.lo pbi8.nz fun rr H13 e13 hr13 => ?_
      have S13 := S12.ext e13
      dsimp only
      refine q_when (b := false) ?_ (fun h => by cases h) (fun _ H14 e14 => ?_)
      · refine et_is (et_or (et_test (b := false) (ev_is (ev_rone (er_asr (ev_var (i := 7) rfl) (.inr ⟨rr, rfl, hr13⟩) pbi8.sz) (ev_var (i := 7) rfl) (.inr ⟨rr, rfl, hr13⟩) T.r O.si) (by simp))) fun _ =>
          et_not (et_B (ev_isr (er_asr (ev_var (i := 6) rfl) (nw _) pw8.sz) (ep_tup (ev_var (i := 6) rfl) ev_c) pw4 rfl))) rfl
      have S14 := S13.ext e14
      refine s_when (b := false) ?_ (fun h => by cases h) (fun _ H15 e15 => ⟨_, _, _, _, _, rfl, (S14.ext e15).le (by omega)⟩)
      exact et_is (et_not (et_B (ev_isr (er_mk1 (ev_var (i := 6) rfl) pw8.up) (ep_tup (ev_var (i := 6) rfl) ev_c) pw4 (one_is w).symm))) rfl
    · rintro σ' H' ⟨t3, t4, t5, t6, t7, rfl, S⟩
      have lXS : XS.length ≤ 20 := by omega
      -- things that are no numbers
      refine x_seq (x_set (x_op ?_))
      refine ⟨by show 1 ≤ sizeLine; decide, fun l1' n1 => ⟨by show 2 ≤ sizeLine; decide, fun l2 n2 d n3 => ⟨by show 8 ≤ sizeLine; decide, fun L n5 => ?_⟩⟩⟩
      have o1 : (upd H' l1' (.lst [.int 1])) l1' = some (.lst [.int 1]) := upd_same
      have x1 := Ex.new (o := .lst [.int 1]) n1
      have x2 := Ex.new (o := .tup [.int 1, .int 2]) n2
      have x3 := Ex.new (o := .dK []) n3
      have x5 := Ex.new (o := .lst [.non, .bl true, .bl false, .str "1", .str "1/2", .ref l1', .ref l2, .ref d]) n5
      have g1 := x5 _ _ (x3 _ _ (x2 _ _ o1))
      have g2 := x5 _ _ (x3 _ _ (upd_same (H := upd H' l1' (.lst [.int 1])) (a := l2) (o := .tup [.int 1, .int 2])))
      have g3 := x5 _ _ (upd_same (H := upd (upd H' l1' (.lst [.int 1])) l2 (.tup [.int 1, .int 2])) (a := d) (o := .dK []))
      have g5 := upd_same (H := upd (upd (upd H' l1' (.lst [.int 1])) l2 (.tup [.int 1, .int 2])) d (.dK [])) (a := L) (o := .lst [.non, .bl true, .bl false, .str "1", .str "1/2", .ref l1', .ref l2, .ref d])
      have xx := ((x1.trans x2).trans x3).trans x5
      show tCall spDraw [] E0 (tCons (tVar 1) (tCons (tC (.int 8)) tNil)) _ (upd (upd (upd (upd H' l1' (.lst [.int 1])) l2 (.tup [.int 1, .int 2])) d (.dK [])) L (.lst [.non, .bl true, .bl false, .str "1", .str "1/2", .ref l1', .ref l2, .ref d])) _
      have m2 := fresh_back x1 n2
      have m3 := fresh_back (x1.trans x2) n3
      have m5 := fresh_back ((x1.trans x2).trans x3) n5
      generalize upd (upd (upd (upd H' l1' (.lst [.int 1])) l2 (.tup [.int 1, .int 2])) d (.dK [])) L (.lst [.non, .bl true, .bl false, .str "1", .str "1/2", .ref l1', .ref l2, .ref d]) = HF at g1 g2 g3 g5 xx
      have k1 := (grow_new (G := GG) (H2 := HF) n1).trans g1
      have k2 := (grow_new (G := GG) (H2 := HF) m2).trans g2
      have k3 := (grow_new (G := GG) (H2 := HF) m3).trans g3
      have k5 := (grow_new (G := GG) (H2 := HF) m5).trans g5
      have SF := S.grow xx
      have PF := PP.ex (grow_ex (H2 := HF) S.ex)
      generalize grow GG H' HF = GF at k1 k2 k3 k5 SF PF
      refine u_pickL SF k5 (n := 8) rfl (i := 1) rfl ev_c (by decide) (by decide) (by omega) fun co vo H6 ho S6' => ?_
      have rs : ∀ z : Str, (reprText z).length ≤ sizeLine → ∀ H, Rep K H (.str z) (reprText z) := fun z h _ => .str z h
      obtain ⟨no, zz, rp⟩ : (∀ H1, Ex GF H1 → NoNum K C H1 vo) ∧ ∃ z, ∀ H1, Ex GF H1 → Rep K H1 vo z := by
        have hc := (List.getElem?_eq_some_iff.mp ho).1
        match co, hc, ho with
        | 0, _, h => cases h; exact ⟨fun H1 _ => no_non OT, _, fun H1 _ => .non⟩
        | 1, _, h => cases h; exact ⟨fun H1 _ => no_bl OT _, _, fun H1 _ => .bl _⟩
        | 2, _, h => cases h; exact ⟨fun H1 _ => no_bl OT _, _, fun H1 _ => .bl _⟩
        | 3, _, h => cases h; exact ⟨fun H1 _ => no_str OT _, _, fun H1 _ => .str _ (by decide +kernel)⟩
        | 4, _, h => cases h; exact ⟨fun H1 _ => no_str OT _, _, fun H1 _ => .str _ (by decide +kernel)⟩
        | 5, _, h => cases h; exact ⟨fun H1 e => no_lst OT (e _ _ k1), _, fun H1 e => .dat (.lst (sq_of (e _ _ k1)) (.cons (.int 1) .nil)) (by decide) (by decide) (by decide) (by decide +kernel)⟩
        | 6, _, h => cases h; exact ⟨fun H1 e => no_tup OT (e _ _ k2), _, fun H1 e => .dat (.tup (.inl (.inl (e _ _ k2))) (.cons (.int 1) (.cons (.int 2) .nil))) (by decide) (by decide) (by decide) (by decide +kernel)⟩
        | 7, _, h => cases h; exact ⟨fun H1 e => no_dic OT (e _ _ k3), _, fun H1 e => .emp (e _ _ k3)⟩
      have e6 := S6'.ex
      have P6 := PF.ex e6
      have no6 : ∀ H1, Ex H6 H1 → NoNum K C H1 vo := fun H1 e => no H1 (e6.trans e)
      have rp6 : ∀ H1, Ex H6 H1 → Rep K H1 vo zz := fun H1 e => rp H1 (e6.trans e)
      dsimp only
      have c1 : (!decide (((1 : Int) : Rat) < 0) && !decide (1 < ((1 : Int) : Rat))) = true := by decide +kernel
      have c0 : (!decide (((0 : Int) : Rat) < 0) && !decide (1 < ((0 : Int) : Rat))) = true := by decide +kernel
      have c2 : (!decide (((2 : Int) : Rat) < 0) && !decide (1 < ((2 : Int) : Rat))) = false := by decide +kernel
      have z1 : Sz 4000 ((1 : Int) : Rat) := ⟨by decide +kernel, by decide +kernel⟩
      have z0 : Sz 4000 ((0 : Int) : Rat) := ⟨by decide +kernel, by decide +kernel⟩
      have z2 : Sz 4000 ((2 : Int) : Rat) := ⟨by decide +kernel, by decide +kernel⟩
      refine q_asgL (xs := [.bl false, .bl false, .bl true, .bl true, .bl false]) (el_lst (ea_cons (ev_isnum0 (ev_var (i := 8) rfl) no6) (ea_cons (ev_ischa0 (ev_var (i := 8) rfl) no6) (ea_cons (ev_is (ev_ischa ev_c (.inl ⟨1, rfl, rfl⟩) z1) (congrArg V.bl c1)) (ea_cons (ev_is (ev_ischa ev_c (.inl ⟨0, rfl, rfl⟩) z0) (congrArg V.bl c0)) (ea_cons (ev_is (ev_ischa ev_c (.inl ⟨2, rfl, rfl⟩) z2) (congrArg V.bl c2)) ea_nil))))) (by show 5 ≤ 100000; decide)) fun lt H7 nlt e7 hlt => ?_
      refine q_when (b := false) ?_ (fun h => by cases h) (fun _ H8 e8 => ?_)
      · refine et_test (ev_is (ev_op (ev_reprV (ds := [.bool false, .bool false, .bool true, .bool true, .bool false]) (ev_var (i := 9) rfl) hlt (fun _ _ => .cons (.bl _) (.cons (.bl _) (.cons (.bl _) (.cons (.bl _) (.cons (.bl _) .nil))))) (by rfl) (by rfl) (by decide) (by decide +kernel))
          (ev_reprL (ds := [.bool false, .bool false, .bool true, .bool true, .bool false]) (el_lst (ea_cons ev_c (ea_cons ev_c (ea_cons ev_c (ea_cons ev_c (ea_cons ev_c ea_nil))))) (by show 5 ≤ 100000; decide)) (fun _ _ => .cons (.bl _) (.cons (.bl _) (.cons (.bl _) (.cons (.bl _) (.cons (.bl _) .nil))))) (by rfl) (by rfl) (by decide) (by decide +kernel)) (rv_ne rfl)) (by simp))
      have e78 := e7.trans e8
      have P8 := P6.ex e78
      refine q_when (b := false) ?_ (fun h => by cases h) (fun _ H9 e9 => s_ret (ev_lists (ev_var (i := 2) rfl) (P8.ex e9) pbN l0 l1) fun H10 _ => q H10)
      refine et_is (et_or (et_not (et_B (ev_refused (ev_var (i := 8) rfl) (fun H1 e => no6 H1 (e78.trans e)) (fun H1 e => rp6 H1 (e78.trans e))))) fun _ => ?_) (b := false) rfl
      intro H9 e9 QT kT
      refine ⟨by show 1 ≤ sizeLine; decide, fun l1' n1 => ⟨by show 2 ≤ sizeLine; decide, fun l2 n2 => ⟨by show 5 ≤ sizeLine; decide, fun L nL => ?_⟩⟩⟩
      have y1 := Ex.new (o := .lst [.int 1]) n1
      have y2 := Ex.new (o := .tup [.int 1, .int 1]) n2
      have y3 := Ex.new (o := .lst [.non, .str "1", .ref l1', .ref l2, .bl true]) nL
      have h1 := y3 _ _ (y2 _ _ (upd_same (H := H9) (a := l1') (o := .lst [.int 1])))
      have h2 := y3 _ _ (upd_same (H := upd H9 l1' (.lst [.int 1])) (a := l2) (o := .tup [.int 1, .int 1]))
      have h3 := upd_same (H := upd (upd H9 l1' (.lst [.int 1])) l2 (.tup [.int 1, .int 1])) (a := L) (o := .lst [.non, .str "1", .ref l1', .ref l2, .bl true])
      have yy := (y1.trans y2).trans y3
      refine ⟨L, rfl, ⟨_, sq_of h3⟩, fun D hD => ?_⟩
      generalize upd (upd (upd H9 l1' (.lst [.int 1])) l2 (.tup [.int 1, .int 1])) L (.lst [.non, .str "1", .ref l1', .ref l2, .bl true]) = HL at h1 h2 h3 yy hD
      refine lc_list (K := K) (a := L) (xs := [.non, .str "1", .ref l1', .ref l2, .bl true]) (fun i H' => Ex HL H' ∧ H' D = some (.lst [])) ⟨Ex.new hD, upd_same⟩ (fun i H' _ h => sq_of (h.1 _ _ h3)) (fun i x H' hi h => ?_) (fun H' h => ?_)
      · obtain ⟨eL, hD'⟩ := h
        refine ⟨rfl, ?_⟩
        have ne : ∀ H1, Ex H' H1 → NoEq K C H1 x := by
          intro H1 e1
          have e := eL.trans e1
          have hc := (List.getElem?_eq_some_iff.mp hi).1
          match i, hc, hi with
          | 0, _, h => cases h; exact ⟨no_non OT, .type "NoneType", .base .non, nf_sub OT.sN⟩
          | 1, _, h => cases h; exact ⟨no_str OT _, .type "str", .base (.str _), nf_sub OT.sS⟩
          | 2, _, h => cases h; exact ⟨no_lst OT (e _ _ h1), .type "list", .base (.lst (e _ _ h1)), nf_sub OT.sL⟩
          | 3, _, h => cases h; exact ⟨no_tup OT (e _ _ h2), .type "tuple", .base (.tup (e _ _ h2)), nf_sub OT.sT⟩
          | 4, _, h => cases h; exact ⟨no_bl OT _, .type "bool", .base (.bl _), nf_sub OT.sB⟩
        refine et_test (ev_roeq (er_mk1 ev_c (by decide +kernel)) (ev_var (i := 10) rfl) ne) H' (Ex.refl H') _ fun H3 e3 => ?_
        exact iteF ⟨eL.trans e3, e3 _ _ hD'⟩
      · obtain ⟨eL, hD'⟩ := h
        refine ⟨Nat.zero_le _, fun m hm => ?_⟩
        have em := Ex.new (o := .lst []) hm
        exact ⟨.list [], .list [], .lst (sq_of (em _ _ hD')) .nil, .lst (sq_of upd_same) .nil, by decide, by decide, _, rfl, kT _ ((yy.trans eL).trans em)⟩
end

theorem exm_self {K : PySem.W.Frag} {S : Addr} (h1 : PySem.W.subIn K (.ref S) (.type "BaseException") = some true) (h2 : PySem.W.isClsIn K S = true) (h3 : PySem.W.typeIn K (.ref S) = some (.type "type")) (h4 : PySem.W.subIn K (.ref S) (.ref S) = some true) :
    PySem.W.exmOne K (.ref S) (.ref S) = some true := by
  have h2' : (PySem.W.clsIn K S).isSome = true := h2
  have e2 : ((PySem.W.clsIn K S).isSome && PySem.W.typeIn K (.ref S) == some (.type "type")) = true := by rw [h2', h3] <;> rfl
  unfold PySem.W.exmOne PySem.W.kitCls
  rw [h1]
  dsimp only
  rw [e2]
  exact h4
theorem all_mk {l : PySem.W.OpenLaw} {w : World} {K : PySem.W.Frag} {h : Heap} {mg : Str → Option Value} {fa f_is_integer f_is_number f_is_chance f_as_ratio f_total f_least f_greatest f__law_start f__law_draw f__law_pair f__law_lowest f__law_is f__law_two_right f__law_refused f__law_zero_right f__law_lists_right f_law C f_Ratio_init t_Ratio_init f_Ratio_top p_Ratio_top f_Ratio_bottom p_Ratio_bottom f_Ratio_add f_Ratio_sub f_Ratio_mul f_Ratio_neg f_Ratio_eq f_Ratio_over f_Ratio_below f_Ratio_size C_BadNumber fi_BadNumber R_BadNumber C_ByZero : Addr} (X : K.In h) (G : h.Ns mainGlobals mg) (hfa : mg "law" = some (.ref fa))
    {od_is_integer an_is_integer : Option Addr} {sl_is_integer : Array (Option Value)} {oc_is_integer kV_is_integer dc_is_integer pm_is_integer cd_is_integer ct_is_integer : Value} {od_is_number an_is_number : Option Addr} {sl_is_number : Array (Option Value)} {oc_is_number kV_is_number dc_is_number pm_is_number cd_is_number ct_is_number : Value} {od_is_chance an_is_chance : Option Addr} {sl_is_chance : Array (Option Value)} {oc_is_chance kV_is_chance dc_is_chance pm_is_chance cd_is_chance ct_is_chance : Value} {od_as_ratio an_as_ratio : Option Addr} {sl_as_ratio : Array (Option Value)} {oc_as_ratio kV_as_ratio dc_as_ratio pm_as_ratio cd_as_ratio ct_as_ratio : Value} {od_total an_total : Option Addr} {sl_total : Array (Option Value)} {oc_total kV_total dc_total pm_total cd_total ct_total : Value} {od_least an_least : Option Addr} {sl_least : Array (Option Value)} {oc_least kV_least dc_least pm_least cd_least ct_least : Value} {od_greatest an_greatest : Option Addr} {sl_greatest : Array (Option Value)} {oc_greatest kV_greatest dc_greatest pm_greatest cd_greatest ct_greatest : Value} {od__law_start an__law_start : Option Addr} {sl__law_start : Array (Option Value)} {oc__law_start kV__law_start dc__law_start pm__law_start cd__law_start ct__law_start : Value} {od__law_draw an__law_draw : Option Addr} {sl__law_draw : Array (Option Value)} {oc__law_draw kV__law_draw dc__law_draw pm__law_draw cd__law_draw ct__law_draw : Value} {od__law_pair an__law_pair : Option Addr} {sl__law_pair : Array (Option Value)} {oc__law_pair kV__law_pair dc__law_pair pm__law_pair cd__law_pair ct__law_pair : Value} {od__law_lowest an__law_lowest : Option Addr} {sl__law_lowest : Array (Option Value)} {oc__law_lowest kV__law_lowest dc__law_lowest pm__law_lowest cd__law_lowest ct__law_lowest : Value} {od__law_is an__law_is : Option Addr} {sl__law_is : Array (Option Value)} {oc__law_is kV__law_is dc__law_is pm__law_is cd__law_is ct__law_is : Value} {od__law_two_right an__law_two_right : Option Addr} {sl__law_two_right : Array (Option Value)} {oc__law_two_right kV__law_two_right dc__law_two_right pm__law_two_right cd__law_two_right ct__law_two_right : Value} {od__law_refused an__law_refused : Option Addr} {sl__law_refused : Array (Option Value)} {oc__law_refused kV__law_refused dc__law_refused pm__law_refused cd__law_refused ct__law_refused : Value} {od__law_zero_right an__law_zero_right : Option Addr} {sl__law_zero_right : Array (Option Value)} {oc__law_zero_right kV__law_zero_right dc__law_zero_right pm__law_zero_right cd__law_zero_right ct__law_zero_right : Value} {od__law_lists_right an__law_lists_right : Option Addr} {sl__law_lists_right : Array (Option Value)} {oc__law_lists_right kV__law_lists_right dc__law_lists_right pm__law_lists_right cd__law_lists_right ct__law_lists_right : Value} {od_law an_law : Option Addr} {sl_law : Array (Option Value)} {oc_law kV_law dc_law pm_law cd_law ct_law : Value} {od_Ratio_init an_Ratio_init : Option Addr} {sl_Ratio_init : Array (Option Value)} {oc_Ratio_init kV_Ratio_init dc_Ratio_init pm_Ratio_init cd_Ratio_init ct_Ratio_init : Value} {tk_Ratio_init : Tok} {dd_Ratio_init : Option Addr} {n_Ratio_init : Nat} {st_Ratio_init : Array (Option Value)} {ot_Ratio_init : Value} {od_Ratio_top an_Ratio_top : Option Addr} {sl_Ratio_top : Array (Option Value)} {oc_Ratio_top kV_Ratio_top dc_Ratio_top pm_Ratio_top cd_Ratio_top ct_Ratio_top : Value} {rr_Ratio_top : List Value} {od_Ratio_bottom an_Ratio_bottom : Option Addr} {sl_Ratio_bottom : Array (Option Value)} {oc_Ratio_bottom kV_Ratio_bottom dc_Ratio_bottom pm_Ratio_bottom cd_Ratio_bottom ct_Ratio_bottom : Value} {rr_Ratio_bottom : List Value} {od_Ratio_add an_Ratio_add : Option Addr} {sl_Ratio_add : Array (Option Value)} {oc_Ratio_add kV_Ratio_add dc_Ratio_add pm_Ratio_add cd_Ratio_add ct_Ratio_add : Value} {od_Ratio_sub an_Ratio_sub : Option Addr} {sl_Ratio_sub : Array (Option Value)} {oc_Ratio_sub kV_Ratio_sub dc_Ratio_sub pm_Ratio_sub cd_Ratio_sub ct_Ratio_sub : Value} {od_Ratio_mul an_Ratio_mul : Option Addr} {sl_Ratio_mul : Array (Option Value)} {oc_Ratio_mul kV_Ratio_mul dc_Ratio_mul pm_Ratio_mul cd_Ratio_mul ct_Ratio_mul : Value} {od_Ratio_neg an_Ratio_neg : Option Addr} {sl_Ratio_neg : Array (Option Value)} {oc_Ratio_neg kV_Ratio_neg dc_Ratio_neg pm_Ratio_neg cd_Ratio_neg ct_Ratio_neg : Value} {od_Ratio_eq an_Ratio_eq : Option Addr} {sl_Ratio_eq : Array (Option Value)} {oc_Ratio_eq kV_Ratio_eq dc_Ratio_eq pm_Ratio_eq cd_Ratio_eq ct_Ratio_eq : Value} {od_Ratio_over an_Ratio_over : Option Addr} {sl_Ratio_over : Array (Option Value)} {oc_Ratio_over kV_Ratio_over dc_Ratio_over pm_Ratio_over cd_Ratio_over ct_Ratio_over : Value} {od_Ratio_below an_Ratio_below : Option Addr} {sl_Ratio_below : Array (Option Value)} {oc_Ratio_below kV_Ratio_below dc_Ratio_below pm_Ratio_below cd_Ratio_below ct_Ratio_below : Value} {od_Ratio_size an_Ratio_size : Option Addr} {sl_Ratio_size : Array (Option Value)} {oc_Ratio_size kV_Ratio_size dc_Ratio_size pm_Ratio_size cd_Ratio_size ct_Ratio_size : Value} {nm_BadNumber q_BadNumber : Str} {N_BadNumber : Addr} {bs_BadNumber : List Value} {sn_BadNumber : List Str} {sub_BadNumber : List Value} {ab_BadNumber : Bool} {col_BadNumber : Option Bool} {dd_BadNumber : Option Addr} {m0_BadNumber m1_BadNumber m2_BadNumber m3_BadNumber m5_BadNumber : Option Value} {od_BadNumber an_BadNumber : Option Addr} {sl_BadNumber : Array (Option Value)} {oc_BadNumber dc_BadNumber pm_BadNumber cd_BadNumber ct_BadNumber : Value}
    (a_is_integer : PySem.W.nsIn K mainGlobals "is_integer" = some (some (.ref f_is_integer)))
    (l_is_integer : K.lookup f_is_integer = some ⟨oc_is_integer, od_is_integer, .func (PySem.W.fnOf "is_integer" "is_integer" (defArgs s_is_integer) (defBody s_is_integer) (defScope s_is_integer) .none kV_is_integer dc_is_integer pm_is_integer an_is_integer cd_is_integer ct_is_integer), sl_is_integer⟩)
    (c_is_integer : PySem.W.codeIn K cd_is_integer "is_integer" = true)
    (k_is_integer : PySem.W.keepIn K (.ref f_is_integer) = true)
    (a_is_number : PySem.W.nsIn K mainGlobals "is_number" = some (some (.ref f_is_number)))
    (l_is_number : K.lookup f_is_number = some ⟨oc_is_number, od_is_number, .func (PySem.W.fnOf "is_number" "is_number" (defArgs s_is_number) (defBody s_is_number) (defScope s_is_number) .none kV_is_number dc_is_number pm_is_number an_is_number cd_is_number ct_is_number), sl_is_number⟩)
    (c_is_number : PySem.W.codeIn K cd_is_number "is_number" = true)
    (k_is_number : PySem.W.keepIn K (.ref f_is_number) = true)
    (a_is_chance : PySem.W.nsIn K mainGlobals "is_chance" = some (some (.ref f_is_chance)))
    (l_is_chance : K.lookup f_is_chance = some ⟨oc_is_chance, od_is_chance, .func (PySem.W.fnOf "is_chance" "is_chance" (defArgs s_is_chance) (defBody s_is_chance) (defScope s_is_chance) .none kV_is_chance dc_is_chance pm_is_chance an_is_chance cd_is_chance ct_is_chance), sl_is_chance⟩)
    (c_is_chance : PySem.W.codeIn K cd_is_chance "is_chance" = true)
    (k_is_chance : PySem.W.keepIn K (.ref f_is_chance) = true)
    (a_as_ratio : PySem.W.nsIn K mainGlobals "as_ratio" = some (some (.ref f_as_ratio)))
    (l_as_ratio : K.lookup f_as_ratio = some ⟨oc_as_ratio, od_as_ratio, .func (PySem.W.fnOf "as_ratio" "as_ratio" (defArgs s_as_ratio) (defBody s_as_ratio) (defScope s_as_ratio) .none kV_as_ratio dc_as_ratio pm_as_ratio an_as_ratio cd_as_ratio ct_as_ratio), sl_as_ratio⟩)
    (c_as_ratio : PySem.W.codeIn K cd_as_ratio "as_ratio" = true)
    (k_as_ratio : PySem.W.keepIn K (.ref f_as_ratio) = true)
    (a_total : PySem.W.nsIn K mainGlobals "total" = some (some (.ref f_total)))
    (l_total : K.lookup f_total = some ⟨oc_total, od_total, .func (PySem.W.fnOf "total" "total" (defArgs s_total) (defBody s_total) (defScope s_total) .none kV_total dc_total pm_total an_total cd_total ct_total), sl_total⟩)
    (c_total : PySem.W.codeIn K cd_total "total" = true)
    (k_total : PySem.W.keepIn K (.ref f_total) = true)
    (a_least : PySem.W.nsIn K mainGlobals "least" = some (some (.ref f_least)))
    (l_least : K.lookup f_least = some ⟨oc_least, od_least, .func (PySem.W.fnOf "least" "least" (defArgs s_least) (defBody s_least) (defScope s_least) .none kV_least dc_least pm_least an_least cd_least ct_least), sl_least⟩)
    (c_least : PySem.W.codeIn K cd_least "least" = true)
    (k_least : PySem.W.keepIn K (.ref f_least) = true)
    (a_greatest : PySem.W.nsIn K mainGlobals "greatest" = some (some (.ref f_greatest)))
    (l_greatest : K.lookup f_greatest = some ⟨oc_greatest, od_greatest, .func (PySem.W.fnOf "greatest" "greatest" (defArgs s_greatest) (defBody s_greatest) (defScope s_greatest) .none kV_greatest dc_greatest pm_greatest an_greatest cd_greatest ct_greatest), sl_greatest⟩)
    (c_greatest : PySem.W.codeIn K cd_greatest "greatest" = true)
    (k_greatest : PySem.W.keepIn K (.ref f_greatest) = true)
    (a__law_start : PySem.W.nsIn K mainGlobals "_law_start" = some (some (.ref f__law_start)))
    (l__law_start : K.lookup f__law_start = some ⟨oc__law_start, od__law_start, .func (PySem.W.fnOf "_law_start" "_law_start" (defArgs s__law_start) (defBody s__law_start) (defScope s__law_start) .none kV__law_start dc__law_start pm__law_start an__law_start cd__law_start ct__law_start), sl__law_start⟩)
    (c__law_start : PySem.W.codeIn K cd__law_start "_law_start" = true)
    (k__law_start : PySem.W.keepIn K (.ref f__law_start) = true)
    (a__law_draw : PySem.W.nsIn K mainGlobals "_law_draw" = some (some (.ref f__law_draw)))
    (l__law_draw : K.lookup f__law_draw = some ⟨oc__law_draw, od__law_draw, .func (PySem.W.fnOf "_law_draw" "_law_draw" (defArgs s__law_draw) (defBody s__law_draw) (defScope s__law_draw) .none kV__law_draw dc__law_draw pm__law_draw an__law_draw cd__law_draw ct__law_draw), sl__law_draw⟩)
    (c__law_draw : PySem.W.codeIn K cd__law_draw "_law_draw" = true)
    (k__law_draw : PySem.W.keepIn K (.ref f__law_draw) = true)
    (a__law_pair : PySem.W.nsIn K mainGlobals "_law_pair" = some (some (.ref f__law_pair)))
    (l__law_pair : K.lookup f__law_pair = some ⟨oc__law_pair, od__law_pair, .func (PySem.W.fnOf "_law_pair" "_law_pair" (defArgs s__law_pair) (defBody s__law_pair) (defScope s__law_pair) .none kV__law_pair dc__law_pair pm__law_pair an__law_pair cd__law_pair ct__law_pair), sl__law_pair⟩)
    (c__law_pair : PySem.W.codeIn K cd__law_pair "_law_pair" = true)
    (k__law_pair : PySem.W.keepIn K (.ref f__law_pair) = true)
    (a__law_lowest : PySem.W.nsIn K mainGlobals "_law_lowest" = some (some (.ref f__law_lowest)))
    (l__law_lowest : K.lookup f__law_lowest = some ⟨oc__law_lowest, od__law_lowest, .func (PySem.W.fnOf "_law_lowest" "_law_lowest" (defArgs s__law_lowest) (defBody s__law_lowest) (defScope s__law_lowest) .none kV__law_lowest dc__law_lowest pm__law_lowest an__law_lowest cd__law_lowest ct__law_lowest), sl__law_lowest⟩)
    (c__law_lowest : PySem.W.codeIn K cd__law_lowest "_law_lowest" = true)
    (k__law_lowest : PySem.W.keepIn K (.ref f__law_lowest) = true)
    (a__law_is : PySem.W.nsIn K mainGlobals "_law_is" = some (some (.ref f__law_is)))
    (l__law_is : K.lookup f__law_is = some ⟨oc__law_is, od__law_is, .func (PySem.W.fnOf "_law_is" "_law_is" (defArgs s__law_is) (defBody s__law_is) (defScope s__law_is) .none kV__law_is dc__law_is pm__law_is an__law_is cd__law_is ct__law_is), sl__law_is⟩)
    (c__law_is : PySem.W.codeIn K cd__law_is "_law_is" = true)
    (k__law_is : PySem.W.keepIn K (.ref f__law_is) = true)
    (a__law_two_right : PySem.W.nsIn K mainGlobals "_law_two_right" = some (some (.ref f__law_two_right)))
    (l__law_two_right : K.lookup f__law_two_right = some ⟨oc__law_two_right, od__law_two_right, .func (PySem.W.fnOf "_law_two_right" "_law_two_right" (defArgs s__law_two_right) (defBody s__law_two_right) (defScope s__law_two_right) .none kV__law_two_right dc__law_two_right pm__law_two_right an__law_two_right cd__law_two_right ct__law_two_right), sl__law_two_right⟩)
    (c__law_two_right : PySem.W.codeIn K cd__law_two_right "_law_two_right" = true)
    (k__law_two_right : PySem.W.keepIn K (.ref f__law_two_right) = true)
    (a__law_refused : PySem.W.nsIn K mainGlobals "_law_refused" = some (some (.ref f__law_refused)))
    (l__law_refused : K.lookup f__law_refused = some ⟨oc__law_refused, od__law_refused, .func (PySem.W.fnOf "_law_refused" "_law_refused" (defArgs s__law_refused) (defBody s__law_refused) (defScope s__law_refused) .none kV__law_refused dc__law_refused pm__law_refused an__law_refused cd__law_refused ct__law_refused), sl__law_refused⟩)
    (c__law_refused : PySem.W.codeIn K cd__law_refused "_law_refused" = true)
    (k__law_refused : PySem.W.keepIn K (.ref f__law_refused) = true)
    (a__law_zero_right : PySem.W.nsIn K mainGlobals "_law_zero_right" = some (some (.ref f__law_zero_right)))
    (l__law_zero_right : K.lookup f__law_zero_right = some ⟨oc__law_zero_right, od__law_zero_right, .func (PySem.W.fnOf "_law_zero_right" "_law_zero_right" (defArgs s__law_zero_right) (defBody s__law_zero_right) (defScope s__law_zero_right) .none kV__law_zero_right dc__law_zero_right pm__law_zero_right an__law_zero_right cd__law_zero_right ct__law_zero_right), sl__law_zero_right⟩)
    (c__law_zero_right : PySem.W.codeIn K cd__law_zero_right "_law_zero_right" = true)
    (k__law_zero_right : PySem.W.keepIn K (.ref f__law_zero_right) = true)
    (a__law_lists_right : PySem.W.nsIn K mainGlobals "_law_lists_right" = some (some (.ref f__law_lists_right)))
    (l__law_lists_right : K.lookup f__law_lists_right = some ⟨oc__law_lists_right, od__law_lists_right, .func (PySem.W.fnOf "_law_lists_right" "_law_lists_right" (defArgs s__law_lists_right) (defBody s__law_lists_right) (defScope s__law_lists_right) .none kV__law_lists_right dc__law_lists_right pm__law_lists_right an__law_lists_right cd__law_lists_right ct__law_lists_right), sl__law_lists_right⟩)
    (c__law_lists_right : PySem.W.codeIn K cd__law_lists_right "_law_lists_right" = true)
    (k__law_lists_right : PySem.W.keepIn K (.ref f__law_lists_right) = true)
    (a_law : PySem.W.nsIn K mainGlobals "law" = some (some (.ref f_law)))
    (l_law : K.lookup f_law = some ⟨oc_law, od_law, .func (PySem.W.fnOf "law" "law" (defArgs s_law) (defBody s_law) (defScope s_law) .none kV_law dc_law pm_law an_law cd_law ct_law), sl_law⟩)
    (c_law : PySem.W.codeIn K cd_law "law" = true)
    (k_law : PySem.W.keepIn K (.ref f_law) = true)
    (a_Ratio : PySem.W.nsIn K mainGlobals "Ratio" = some (some (.ref C)))
    (pg_Ratio : PySem.W.plainGet K C Str.empty = true)
    (hd_Ratio : PySem.W.hasDictIn K C = true)
    (po_Ratio : PySem.W.plainOver K C = true)
    (sa_Ratio : PySem.W.findIn K (.ref C) "__setattr__" = some (some (.builtin "object.__setattr__")))
    (mk_Ratio : PySem.W.makesIn K C = true)
    (kc_Ratio : PySem.W.keepIn K (.ref C) = true)
    (at_Ratio_init : PySem.W.findIn K (.ref C) "__init__" = some (some (.ref f_Ratio_init)))
    (l_Ratio_init : K.lookup f_Ratio_init = some ⟨oc_Ratio_init, od_Ratio_init, .func (PySem.W.fnOf "__init__" "Ratio.__init__" (defArgs s_Ratio___init__) (defBody s_Ratio___init__) (defScope s_Ratio___init__) (.ref t_Ratio_init) kV_Ratio_init dc_Ratio_init pm_Ratio_init an_Ratio_init cd_Ratio_init ct_Ratio_init), sl_Ratio_init⟩)
    (lt_Ratio_init : K.lookup t_Ratio_init = some ⟨ot_Ratio_init, dd_Ratio_init, .seq #[.int 1 tk_Ratio_init] n_Ratio_init, st_Ratio_init⟩)
    (c_Ratio_init : PySem.W.codeIn K cd_Ratio_init "Ratio.__init__" = true)
    (k_Ratio_init : PySem.W.keepIn K (.ref f_Ratio_init) = true)
    (i_Ratio_init : PySem.W.isFn K (.ref f_Ratio_init) = true)
    (at_Ratio_top : PySem.W.findIn K (.ref C) "top" = some (some (.ref p_Ratio_top)))
    (rc_Ratio_top : PySem.W.recIn K p_Ratio_top "property" = some (.ref f_Ratio_top :: rr_Ratio_top))
    (gt_Ratio_top : PySem.W.specialIn K (.ref p_Ratio_top) "__get__" = some (some (.builtin "property.__get__")))
    (tk_Ratio_top : PySem.W.takesIn K (.ref p_Ratio_top) = some true)
    (l_Ratio_top : K.lookup f_Ratio_top = some ⟨oc_Ratio_top, od_Ratio_top, .func (PySem.W.fnOf "top" "Ratio.top" (defArgs s_Ratio_top) (defBody s_Ratio_top) (defScope s_Ratio_top) .none kV_Ratio_top dc_Ratio_top pm_Ratio_top an_Ratio_top cd_Ratio_top ct_Ratio_top), sl_Ratio_top⟩)
    (c_Ratio_top : PySem.W.codeIn K cd_Ratio_top "Ratio.top" = true)
    (k_Ratio_top : PySem.W.keepIn K (.ref f_Ratio_top) = true)
    (i_Ratio_top : PySem.W.isFn K (.ref f_Ratio_top) = true)
    (at_Ratio_bottom : PySem.W.findIn K (.ref C) "bottom" = some (some (.ref p_Ratio_bottom)))
    (rc_Ratio_bottom : PySem.W.recIn K p_Ratio_bottom "property" = some (.ref f_Ratio_bottom :: rr_Ratio_bottom))
    (gt_Ratio_bottom : PySem.W.specialIn K (.ref p_Ratio_bottom) "__get__" = some (some (.builtin "property.__get__")))
    (tk_Ratio_bottom : PySem.W.takesIn K (.ref p_Ratio_bottom) = some true)
    (l_Ratio_bottom : K.lookup f_Ratio_bottom = some ⟨oc_Ratio_bottom, od_Ratio_bottom, .func (PySem.W.fnOf "bottom" "Ratio.bottom" (defArgs s_Ratio_bottom) (defBody s_Ratio_bottom) (defScope s_Ratio_bottom) .none kV_Ratio_bottom dc_Ratio_bottom pm_Ratio_bottom an_Ratio_bottom cd_Ratio_bottom ct_Ratio_bottom), sl_Ratio_bottom⟩)
    (c_Ratio_bottom : PySem.W.codeIn K cd_Ratio_bottom "Ratio.bottom" = true)
    (k_Ratio_bottom : PySem.W.keepIn K (.ref f_Ratio_bottom) = true)
    (i_Ratio_bottom : PySem.W.isFn K (.ref f_Ratio_bottom) = true)
    (at_Ratio_add : PySem.W.findIn K (.ref C) "__add__" = some (some (.ref f_Ratio_add)))
    (l_Ratio_add : K.lookup f_Ratio_add = some ⟨oc_Ratio_add, od_Ratio_add, .func (PySem.W.fnOf "__add__" "Ratio.__add__" (defArgs s_Ratio___add__) (defBody s_Ratio___add__) (defScope s_Ratio___add__) .none kV_Ratio_add dc_Ratio_add pm_Ratio_add an_Ratio_add cd_Ratio_add ct_Ratio_add), sl_Ratio_add⟩)
    (c_Ratio_add : PySem.W.codeIn K cd_Ratio_add "Ratio.__add__" = true)
    (k_Ratio_add : PySem.W.keepIn K (.ref f_Ratio_add) = true)
    (i_Ratio_add : PySem.W.isFn K (.ref f_Ratio_add) = true)
    (at_Ratio_sub : PySem.W.findIn K (.ref C) "__sub__" = some (some (.ref f_Ratio_sub)))
    (l_Ratio_sub : K.lookup f_Ratio_sub = some ⟨oc_Ratio_sub, od_Ratio_sub, .func (PySem.W.fnOf "__sub__" "Ratio.__sub__" (defArgs s_Ratio___sub__) (defBody s_Ratio___sub__) (defScope s_Ratio___sub__) .none kV_Ratio_sub dc_Ratio_sub pm_Ratio_sub an_Ratio_sub cd_Ratio_sub ct_Ratio_sub), sl_Ratio_sub⟩)
    (c_Ratio_sub : PySem.W.codeIn K cd_Ratio_sub "Ratio.__sub__" = true)
    (k_Ratio_sub : PySem.W.keepIn K (.ref f_Ratio_sub) = true)
    (i_Ratio_sub : PySem.W.isFn K (.ref f_Ratio_sub) = true)
    (at_Ratio_mul : PySem.W.findIn K (.ref C) "__mul__" = some (some (.ref f_Ratio_mul)))
    (l_Ratio_mul : K.lookup f_Ratio_mul = some ⟨oc_Ratio_mul, od_Ratio_mul, .func (PySem.W.fnOf "__mul__" "Ratio.__mul__" (defArgs s_Ratio___mul__) (defBody s_Ratio___mul__) (defScope s_Ratio___mul__) .none kV_Ratio_mul dc_Ratio_mul pm_Ratio_mul an_Ratio_mul cd_Ratio_mul ct_Ratio_mul), sl_Ratio_mul⟩)
    (c_Ratio_mul : PySem.W.codeIn K cd_Ratio_mul "Ratio.__mul__" = true)
    (k_Ratio_mul : PySem.W.keepIn K (.ref f_Ratio_mul) = true)
    (i_Ratio_mul : PySem.W.isFn K (.ref f_Ratio_mul) = true)
    (at_Ratio_neg : PySem.W.findIn K (.ref C) "__neg__" = some (some (.ref f_Ratio_neg)))
    (l_Ratio_neg : K.lookup f_Ratio_neg = some ⟨oc_Ratio_neg, od_Ratio_neg, .func (PySem.W.fnOf "__neg__" "Ratio.__neg__" (defArgs s_Ratio___neg__) (defBody s_Ratio___neg__) (defScope s_Ratio___neg__) .none kV_Ratio_neg dc_Ratio_neg pm_Ratio_neg an_Ratio_neg cd_Ratio_neg ct_Ratio_neg), sl_Ratio_neg⟩)
    (c_Ratio_neg : PySem.W.codeIn K cd_Ratio_neg "Ratio.__neg__" = true)
    (k_Ratio_neg : PySem.W.keepIn K (.ref f_Ratio_neg) = true)
    (i_Ratio_neg : PySem.W.isFn K (.ref f_Ratio_neg) = true)
    (at_Ratio_eq : PySem.W.findIn K (.ref C) "__eq__" = some (some (.ref f_Ratio_eq)))
    (l_Ratio_eq : K.lookup f_Ratio_eq = some ⟨oc_Ratio_eq, od_Ratio_eq, .func (PySem.W.fnOf "__eq__" "Ratio.__eq__" (defArgs s_Ratio___eq__) (defBody s_Ratio___eq__) (defScope s_Ratio___eq__) .none kV_Ratio_eq dc_Ratio_eq pm_Ratio_eq an_Ratio_eq cd_Ratio_eq ct_Ratio_eq), sl_Ratio_eq⟩)
    (c_Ratio_eq : PySem.W.codeIn K cd_Ratio_eq "Ratio.__eq__" = true)
    (k_Ratio_eq : PySem.W.keepIn K (.ref f_Ratio_eq) = true)
    (i_Ratio_eq : PySem.W.isFn K (.ref f_Ratio_eq) = true)
    (at_Ratio_over : PySem.W.findIn K (.ref C) "over" = some (some (.ref f_Ratio_over)))
    (l_Ratio_over : K.lookup f_Ratio_over = some ⟨oc_Ratio_over, od_Ratio_over, .func (PySem.W.fnOf "over" "Ratio.over" (defArgs s_Ratio_over) (defBody s_Ratio_over) (defScope s_Ratio_over) .none kV_Ratio_over dc_Ratio_over pm_Ratio_over an_Ratio_over cd_Ratio_over ct_Ratio_over), sl_Ratio_over⟩)
    (c_Ratio_over : PySem.W.codeIn K cd_Ratio_over "Ratio.over" = true)
    (k_Ratio_over : PySem.W.keepIn K (.ref f_Ratio_over) = true)
    (i_Ratio_over : PySem.W.isFn K (.ref f_Ratio_over) = true)
    (at_Ratio_below : PySem.W.findIn K (.ref C) "below" = some (some (.ref f_Ratio_below)))
    (l_Ratio_below : K.lookup f_Ratio_below = some ⟨oc_Ratio_below, od_Ratio_below, .func (PySem.W.fnOf "below" "Ratio.below" (defArgs s_Ratio_below) (defBody s_Ratio_below) (defScope s_Ratio_below) .none kV_Ratio_below dc_Ratio_below pm_Ratio_below an_Ratio_below cd_Ratio_below ct_Ratio_below), sl_Ratio_below⟩)
    (c_Ratio_below : PySem.W.codeIn K cd_Ratio_below "Ratio.below" = true)
    (k_Ratio_below : PySem.W.keepIn K (.ref f_Ratio_below) = true)
    (i_Ratio_below : PySem.W.isFn K (.ref f_Ratio_below) = true)
    (at_Ratio_size : PySem.W.findIn K (.ref C) "size" = some (some (.ref f_Ratio_size)))
    (l_Ratio_size : K.lookup f_Ratio_size = some ⟨oc_Ratio_size, od_Ratio_size, .func (PySem.W.fnOf "size" "Ratio.size" (defArgs s_Ratio_size) (defBody s_Ratio_size) (defScope s_Ratio_size) .none kV_Ratio_size dc_Ratio_size pm_Ratio_size an_Ratio_size cd_Ratio_size ct_Ratio_size), sl_Ratio_size⟩)
    (c_Ratio_size : PySem.W.codeIn K cd_Ratio_size "Ratio.size" = true)
    (k_Ratio_size : PySem.W.keepIn K (.ref f_Ratio_size) = true)
    (i_Ratio_size : PySem.W.isFn K (.ref f_Ratio_size) = true)
    (a_BadNumber : PySem.W.nsIn K mainGlobals "BadNumber" = some (some (.ref C_BadNumber)))
    (x_BadNumber : K.lookup C_BadNumber = some (excClassObj nm_BadNumber q_BadNumber C_BadNumber N_BadNumber bs_BadNumber [.ref R_BadNumber, .type "ValueError", .type "Exception", .type "BaseException", .type "object"] true sn_BadNumber sub_BadNumber ab_BadNumber col_BadNumber dd_BadNumber m0_BadNumber m1_BadNumber m2_BadNumber m3_BadNumber m5_BadNumber "ValueError.__new__"))
    (sa_BadNumber : PySem.W.findIn K (.ref C_BadNumber) "__setattr__" = some (some (.builtin "object.__setattr__")))
    (ga_BadNumber : PySem.W.findIn K (.ref C_BadNumber) "__getattribute__" = some (some (.builtin "BaseException.__getattribute__")))
    (gg_BadNumber : PySem.W.findIn K (.ref C_BadNumber) "__getattr__" = some none)
    (nb_BadNumber : PySem.W.findIn K (.ref C_BadNumber) "value" = some none)
    (at_BadNumber : PySem.W.findIn K (.ref C_BadNumber) "__init__" = some (some (.ref fi_BadNumber)))
    (t_BadNumber : PySem.W.typeIn K (.ref fi_BadNumber) = some (.type "function"))
    (l_BadNumber : K.lookup fi_BadNumber = some ⟨oc_BadNumber, od_BadNumber, .func (PySem.W.fnOf "__init__" "BadNumber.__init__" (PySem.LowX_BadNumber.iA ⟨32, 17, 32, 21⟩ ⟨32, 23, 32, 28⟩) (PySem.LowX_BadNumber.iB ⟨33, 8, 33, 12⟩ ⟨33, 8, 33, 18⟩ ⟨33, 21, 33, 26⟩ ⟨33, 8, 33, 26⟩) PySem.LowX_BadNumber.iS .none .none dc_BadNumber pm_BadNumber an_BadNumber cd_BadNumber ct_BadNumber), sl_BadNumber⟩)
    (c_BadNumber : PySem.W.codeIn K cd_BadNumber "BadNumber.__init__" = true)
    (kc_BadNumber : PySem.W.keepIn K (.ref C_BadNumber) = true)
    (e_BadNumber : PySem.W.subIn K (.ref C_BadNumber) (.type "BaseException") = some true)
    (ty_BadNumber : PySem.W.typeIn K (.ref C_BadNumber) = some (.type "type"))
    (hd_BadNumber : PySem.W.hasDictIn K C_BadNumber = true)
    (ic_BadNumber : PySem.W.isClsIn K C_BadNumber = true)
    (ss_BadNumber : PySem.W.subIn K (.ref C_BadNumber) (.ref C_BadNumber) = some true)
    (a_ByZero : PySem.W.nsIn K mainGlobals "ByZero" = some (some (.ref C_ByZero)))
    (x_ByZero : PySem.W.excIn K C_ByZero [.type "ValueError", .type "Exception", .type "BaseException", .type "object"] "ValueError.__new__" = true)
    (kc_ByZero : PySem.W.keepIn K (.ref C_ByZero) = true)
    (e_ByZero : PySem.W.subIn K (.ref C_ByZero) (.type "BaseException") = some true)
    (ty_ByZero : PySem.W.typeIn K (.ref C_ByZero) = some (.type "type"))
    (ic_ByZero : PySem.W.isClsIn K C_ByZero = true)
    (ss_ByZero : PySem.W.subIn K (.ref C_ByZero) (.ref C_ByZero) = some true)
    (q_ca : PySem.W.findIn K (.ref C) "__class__" = some (some (.builtin "object.__class__")))
    (q_cn : PySem.W.specialIn K (.builtin "object.__class__") "__get__" = some (some (.builtin "getset_descriptor.__get__")))
    (q_ct : PySem.W.takesIn K (.builtin "object.__class__") = some true)
    (q_cm : PySem.W.mroIn K C (.type "object") = some true)
    (q_ki : PySem.W.kitOne K (.ref C) (.type "int") = some false)
    (q_kc : PySem.W.kitOne K (.ref C) (.ref C) = some true)
    (q_ti : PySem.W.kitOne K (.type "int") (.ref C) = some false)
    (q_nT : PySem.W.findIn K (.ref C) "_top" = some none)
    (q_nB : PySem.W.findIn K (.ref C) "_bottom" = some none)
    (q_gcd : PySem.W.nsIn K mainGlobals "gcd" = some (some (.builtin "math.gcd")))
    (q_sf : PySem.W.selfFirst K C = true)
    (q_na : PySem.W.findIn K (.ref C) "__radd__" = some none)
    (q_ns : PySem.W.findIn K (.ref C) "__rsub__" = some none)
    (q_nm : PySem.W.findIn K (.ref C) "__rmul__" = some none)
    (q_nn : PySem.W.findIn K (.ref C) "__ne__" = some (some (.builtin "object.__ne__")))
    (q_si : PySem.W.subIn K (.type "int") (.ref C) = some false)
    (q_is : PySem.W.subIn K (.ref C) (.type "int") = some false)
    (q_oN : PySem.W.kitOne K (.type "NoneType") (.ref C) = some false)
    (q_oB : PySem.W.kitOne K (.type "bool") (.ref C) = some false)
    (q_oS : PySem.W.kitOne K (.type "str") (.ref C) = some false)
    (q_oL : PySem.W.kitOne K (.type "list") (.ref C) = some false)
    (q_oT : PySem.W.kitOne K (.type "tuple") (.ref C) = some false)
    (q_oD : PySem.W.kitOne K (.type "dict") (.ref C) = some false)
    (q_sN : PySem.W.subIn K (.type "NoneType") (.ref C) = some false)
    (q_sB : PySem.W.subIn K (.type "bool") (.ref C) = some false)
    (q_sS : PySem.W.subIn K (.type "str") (.ref C) = some false)
    (q_sL : PySem.W.subIn K (.type "list") (.ref C) = some false)
    (q_sT : PySem.W.subIn K (.type "tuple") (.ref C) = some false)
    (z_isinstance : PySem.W.nsIn K mainGlobals "isinstance" = some none)
    (z_int : PySem.W.nsIn K mainGlobals "int" = some none)
    (z_bool : PySem.W.nsIn K mainGlobals "bool" = some none)
    (z_abs : PySem.W.nsIn K mainGlobals "abs" = some none)
    (z_repr : PySem.W.nsIn K mainGlobals "repr" = some none)
    (z_list : PySem.W.nsIn K mainGlobals "list" = some none)
    (z_tuple : PySem.W.nsIn K mainGlobals "tuple" = some none)
    (z_sum : PySem.W.nsIn K mainGlobals "sum" = some none)
    (z_len : PySem.W.nsIn K mainGlobals "len" = some none)
    (z_range : PySem.W.nsIn K mainGlobals "range" = some none)
    : ∃ fd : FuncData, (∀ (s : Shared) (v : Value), BindsTo s fd ⟨[v], []⟩ [("_law_script", v)]) ∧ ∀ base : Heap, K.In base → base.Ns mainGlobals mg → FnG l.prog w K mg base CX0 9 fa fd ["_law_script"] (LawK.spLaw K) := by
  have e := hfa.symm.trans (PySem.W.mg_of X G a_law)
  cases e
  have F_is_integer := fun_mk (st := s_is_integer) l_is_integer c_is_integer k_is_integer
  have b_is_integer := F_is_integer.binds (ps := ["value"]) fun _ _ _ _ _ _ us hl => match us, hl with | [_], _ => rfl
  have F_is_number := fun_mk (st := s_is_number) l_is_number c_is_number k_is_number
  have b_is_number := F_is_number.binds (ps := ["value"]) fun _ _ _ _ _ _ us hl => match us, hl with | [_], _ => rfl
  have F_is_chance := fun_mk (st := s_is_chance) l_is_chance c_is_chance k_is_chance
  have b_is_chance := F_is_chance.binds (ps := ["value"]) fun _ _ _ _ _ _ us hl => match us, hl with | [_], _ => rfl
  have F_as_ratio := fun_mk (st := s_as_ratio) l_as_ratio c_as_ratio k_as_ratio
  have b_as_ratio := F_as_ratio.binds (ps := ["value"]) fun _ _ _ _ _ _ us hl => match us, hl with | [_], _ => rfl
  have F_total := fun_mk (st := s_total) l_total c_total k_total
  have b_total := F_total.binds (ps := ["numbers"]) fun _ _ _ _ _ _ us hl => match us, hl with | [_], _ => rfl
  have F_least := fun_mk (st := s_least) l_least c_least k_least
  have b_least := F_least.binds (ps := ["numbers"]) fun _ _ _ _ _ _ us hl => match us, hl with | [_], _ => rfl
  have F_greatest := fun_mk (st := s_greatest) l_greatest c_greatest k_greatest
  have b_greatest := F_greatest.binds (ps := ["numbers"]) fun _ _ _ _ _ _ us hl => match us, hl with | [_], _ => rfl
  have F__law_start := fun_mk (st := s__law_start) l__law_start c__law_start k__law_start
  have b__law_start := F__law_start.binds (ps := ["_law_script"]) fun _ _ _ _ _ _ us hl => match us, hl with | [_], _ => rfl
  have F__law_draw := fun_mk (st := s__law_draw) l__law_draw c__law_draw k__law_draw
  have b__law_draw := F__law_draw.binds (ps := ["_law_state", "_law_size"]) fun _ _ _ _ _ _ us hl => match us, hl with | [_, _], _ => rfl
  have F__law_pair := fun_mk (st := s__law_pair) l__law_pair c__law_pair k__law_pair
  have b__law_pair := F__law_pair.binds (ps := ["_law_state"]) fun _ _ _ _ _ _ us hl => match us, hl with | [_], _ => rfl
  have F__law_lowest := fun_mk (st := s__law_lowest) l__law_lowest c__law_lowest k__law_lowest
  have b__law_lowest := F__law_lowest.binds (ps := ["_law_pair_here"]) fun _ _ _ _ _ _ us hl => match us, hl with | [_], _ => rfl
  have F__law_is := fun_mk (st := s__law_is) l__law_is c__law_is k__law_is
  have b__law_is := F__law_is.binds (ps := ["_law_ratio", "_law_pair_here"]) fun _ _ _ _ _ _ us hl => match us, hl with | [_, _], _ => rfl
  have F__law_two_right := fun_mk (st := s__law_two_right) l__law_two_right c__law_two_right k__law_two_right
  have b__law_two_right := F__law_two_right.binds (ps := ["_law_one", "_law_other", "_law_thing"]) fun _ _ _ _ _ _ us hl => match us, hl with | [_, _, _], _ => rfl
  have F__law_refused := fun_mk (st := s__law_refused) l__law_refused c__law_refused k__law_refused
  have b__law_refused := F__law_refused.binds (ps := ["_law_thing"]) fun _ _ _ _ _ _ us hl => match us, hl with | [_], _ => rfl
  have F__law_zero_right := fun_mk (st := s__law_zero_right) l__law_zero_right c__law_zero_right k__law_zero_right
  have b__law_zero_right := F__law_zero_right.binds (ps := ["_law_number"]) fun _ _ _ _ _ _ us hl => match us, hl with | [_], _ => rfl
  have F__law_lists_right := fun_mk (st := s__law_lists_right) l__law_lists_right c__law_lists_right k__law_lists_right
  have b__law_lists_right := F__law_lists_right.binds (ps := ["_law_pairs"]) fun _ _ _ _ _ _ us hl => match us, hl with | [_], _ => rfl
  have F_law := fun_mk (st := s_law) l_law c_law k_law
  have b_law := F_law.binds (ps := ["_law_script"]) fun _ _ _ _ _ _ us hl => match us, hl with | [_], _ => rfl
  have cls_Ratio : Cls K C := ⟨pg_Ratio, hd_Ratio, po_Ratio, sa_Ratio⟩
  have F_Ratio_init : FunD K "__init__" "Ratio.__init__" (defArgs s_Ratio___init__) (defBody s_Ratio___init__) (defScope s_Ratio___init__) [.int 1] [] f_Ratio_init _ := ⟨⟨_, _, _, _, _, _, _, _, _, _, rfl, l_Ratio_init, c_Ratio_init, .inr ⟨by simp, _, _, [.int 1 tk_Ratio_init], _, rfl, lt_Ratio_init, rfl, .cons ⟨_, rfl⟩ .nil⟩, .inl rfl⟩, k_Ratio_init⟩
  have F_Ratio_top := fun_mk (st := s_Ratio_top) l_Ratio_top c_Ratio_top k_Ratio_top
  have b_Ratio_top := F_Ratio_top.binds (ps := ["self"]) fun _ _ _ _ _ _ us hl => match us, hl with | [_], _ => rfl
  have F_Ratio_bottom := fun_mk (st := s_Ratio_bottom) l_Ratio_bottom c_Ratio_bottom k_Ratio_bottom
  have b_Ratio_bottom := F_Ratio_bottom.binds (ps := ["self"]) fun _ _ _ _ _ _ us hl => match us, hl with | [_], _ => rfl
  have F_Ratio_add := fun_mk (st := s_Ratio___add__) l_Ratio_add c_Ratio_add k_Ratio_add
  have b_Ratio_add := F_Ratio_add.binds (ps := ["self", "other"]) fun _ _ _ _ _ _ us hl => match us, hl with | [_, _], _ => rfl
  have F_Ratio_sub := fun_mk (st := s_Ratio___sub__) l_Ratio_sub c_Ratio_sub k_Ratio_sub
  have b_Ratio_sub := F_Ratio_sub.binds (ps := ["self", "other"]) fun _ _ _ _ _ _ us hl => match us, hl with | [_, _], _ => rfl
  have F_Ratio_mul := fun_mk (st := s_Ratio___mul__) l_Ratio_mul c_Ratio_mul k_Ratio_mul
  have b_Ratio_mul := F_Ratio_mul.binds (ps := ["self", "other"]) fun _ _ _ _ _ _ us hl => match us, hl with | [_, _], _ => rfl
  have F_Ratio_neg := fun_mk (st := s_Ratio___neg__) l_Ratio_neg c_Ratio_neg k_Ratio_neg
  have b_Ratio_neg := F_Ratio_neg.binds (ps := ["self"]) fun _ _ _ _ _ _ us hl => match us, hl with | [_], _ => rfl
  have F_Ratio_eq := fun_mk (st := s_Ratio___eq__) l_Ratio_eq c_Ratio_eq k_Ratio_eq
  have b_Ratio_eq := F_Ratio_eq.binds (ps := ["self", "other"]) fun _ _ _ _ _ _ us hl => match us, hl with | [_, _], _ => rfl
  have F_Ratio_over := fun_mk (st := s_Ratio_over) l_Ratio_over c_Ratio_over k_Ratio_over
  have b_Ratio_over := F_Ratio_over.binds (ps := ["self", "number"]) fun _ _ _ _ _ _ us hl => match us, hl with | [_, _], _ => rfl
  have F_Ratio_below := fun_mk (st := s_Ratio_below) l_Ratio_below c_Ratio_below k_Ratio_below
  have b_Ratio_below := F_Ratio_below.binds (ps := ["self", "number"]) fun _ _ _ _ _ _ us hl => match us, hl with | [_, _], _ => rfl
  have F_Ratio_size := fun_mk (st := s_Ratio_size) l_Ratio_size c_Ratio_size k_Ratio_size
  have b_Ratio_size := F_Ratio_size.binds (ps := ["self"]) fun _ _ _ _ _ _ us hl => match us, hl with | [_], _ => rfl
  have B_BadNumber : PySem.LowX_BadNumber.LowTxt_BadNumber K mg C_BadNumber fi_BadNumber := { gC := PySem.W.mg_of X G a_BadNumber, cls := ⟨_, _, _, _, _, _, _, _, _, _, _, _, _, _, _, x_BadNumber, by rfl⟩, sa := sa_BadNumber, ga := ga_BadNumber, gg := gg_BadNumber, noN := nb_BadNumber, iC := at_BadNumber, tC := t_BadNumber, kC := kc_BadNumber, exC := e_BadNumber, tyC := ty_BadNumber, hdC := hd_BadNumber, te := exm_self e_BadNumber ic_BadNumber ty_BadNumber ss_BadNumber, fn := ⟨_, _, _, _, _, _, _, _, _, _, _, _, _, _, l_BadNumber, c_BadNumber⟩ }
  have Z_ByZero : ZTxt K mg C_ByZero := ⟨PySem.W.mg_of X G a_ByZero, x_ByZero, kc_ByZero, e_ByZero, ty_ByZero, exm_self e_ByZero ic_ByZero ty_ByZero ss_ByZero⟩
  have ris : RIs K C := ⟨cls_Ratio, q_ca, q_cn, q_ct, q_cm, q_ki, q_kc, q_ti⟩
  have T : RTxt K mg C := ⟨ris, q_nT, q_nB, ⟨_, PySem.W.mg_of X G a_Ratio, rfl⟩, PySem.W.mg_of X G q_gcd, PySem.W.mg_none_of X G z_isinstance, PySem.W.mg_none_of X G z_int, PySem.W.mg_none_of X G z_bool, PySem.W.mg_none_of X G z_abs, PySem.W.mg_none_of X G z_repr, PySem.W.mg_none_of X G z_list, PySem.W.mg_none_of X G z_tuple, PySem.W.mg_none_of X G z_sum, PySem.W.mg_none_of X G z_len, PySem.W.mg_none_of X G z_range⟩
  have O : ROps K C := ⟨q_sf, q_na, q_ns, q_nm, q_nn, q_si, q_is⟩
  have OT : OddT K C := ⟨q_oN, q_oB, q_oS, q_oL, q_oT, q_oD, q_sN, q_sB, q_sS, q_sL, q_sT⟩
  refine ⟨PySem.W.fnOf "law" "law" (defArgs s_law) (defBody s_law) (defScope s_law) .none kV_law dc_law pm_law an_law cd_law ct_law, fun s v => .of_eq rfl, fun base _ _ => ?_⟩
  have MkR : Mk K C f_Ratio_init := ⟨mk_Ratio, at_Ratio_init, i_Ratio_init, kc_Ratio⟩
  have gR := PySem.W.mg_of X G a_Ratio
  have OI := ok_init (P := l.prog) (w := w) (base := base) F_Ratio_init T Z_ByZero
  obtain ⟨d0, v0, bI0⟩ := F_Ratio_init.binds1 (ps := ["self", "top", "bottom"]) 3 1 (by simp) rfl (fun T kV doc pm an cdv ct us its h1 h2 => match us, its, h1, h2 with | [_, _, _], [_], _, _ => ⟨_, rfl, rfl⟩)
  obtain ⟨d1, v1, bI1⟩ := F_Ratio_init.binds1 (ps := ["self", "top", "bottom"]) 2 0 (by simp) rfl (fun T kV doc pm an cdv ct us its h1 h2 => match us, its, h1, h2 with | [_, _], [_], _, _ => ⟨_, rfl, rfl⟩)
  have cR : MakX l.prog w K mg base 1 "Ratio" C (spInit C C_ByZero) [] := ⟨_, ⟨_, _, d0, OI, bI0, v0⟩, MkR, gR⟩
  have cR1 : MakX l.prog w K mg base 1 "Ratio" C (spInit C C_ByZero) [.int 1] := ⟨_, ⟨_, _, d1, OI, bI1, v1⟩, MkR, gR⟩
  obtain ⟨its, kb⟩ := F_Ratio_init.kbindsD (ps := ["self", "top", "bottom"]) 1 ["bottom", "top"] (fun vs ds zs => vs ++ (zs.drop 1 ++ zs.take 1)) (by simp)
    (fun hv _ hz => hv.append ((by cases hz with | nil => exact .nil | cons a r => exact r : Vals _ _).append (by cases hz with | nil => exact .nil | cons a r => exact .cons a .nil)))
    (fun T kV doc pm an cdv ct us its ws h1 h2 h3 => match us, its, ws, h1, h2, h3 with | [_], [_], [_, _], _, _, _ => ⟨_, rfl, rfl⟩)
  have cK : MakK l.prog w K mg base 1 "Ratio" C ["bottom", "top"] (spInit C C_ByZero) (fun vs zs => vs ++ (zs.drop 1 ++ zs.take 1)) := ⟨_, _, _, _, OI, MkR, gR, kb⟩
  have pT : ProX l.prog w K mg base 1 C "top" (spTop C) := ⟨_, _, ⟨_, _, [], (ok_top F_Ratio_top T).up, b_Ratio_top, .nil⟩, cls_Ratio, ⟨at_Ratio_top, gt_Ratio_top, tk_Ratio_top, ⟨_, rc_Ratio_top⟩⟩⟩
  have pB : ProX l.prog w K mg base 1 C "bottom" (spBot C) := ⟨_, _, ⟨_, _, [], (ok_bottom F_Ratio_bottom T).up, b_Ratio_bottom, .nil⟩, cls_Ratio, ⟨at_Ratio_bottom, gt_Ratio_bottom, tk_Ratio_bottom, ⟨_, rc_Ratio_bottom⟩⟩⟩
  have cI : CalX l.prog w K mg base 1 "is_integer" (spIsInt K) [] := ⟨_, ⟨_, _, [], (ok_is_integer F_is_integer T).up, b_is_integer, .nil⟩, PySem.W.mg_of X G a_is_integer, k_is_integer⟩
  have oA := ok_as_ratio (P := l.prog) (w := w) (base := base) F_as_ratio T B_BadNumber cI cR1
  have cA : CalX l.prog w K mg base 4 "as_ratio" (spAsR K C C_BadNumber) [] := ⟨_, ⟨_, _, [], oA, b_as_ratio, .nil⟩, PySem.W.mg_of X G a_as_ratio, k_as_ratio⟩
  have cAk : CalKX l.prog w K mg base 4 "as_ratio" ["value"] (spAsR K C C_BadNumber) (fun _ zs => zs) := ⟨_, _, _, _, oA, PySem.W.mg_of X G a_as_ratio, k_as_ratio, F_as_ratio.kbn (fun ws => ws) (fun zs => zs) (fun _ _ _ _ _ _ ws hl => match ws, hl with | [_], _ => rfl) (fun _ _ r => r)⟩
  have dA : DunX l.prog w K mg base 5 C "__add__" (spBin C fun a b => a + b) := ⟨_, ⟨_, _, [], ok_add F_Ratio_add T cA cR pT pB, b_Ratio_add, .nil⟩, at_Ratio_add, i_Ratio_add⟩
  have dS : DunX l.prog w K mg base 5 C "__sub__" (spBin C fun a b => a - b) := ⟨_, ⟨_, _, [], ok_sub F_Ratio_sub T cA cR pT pB, b_Ratio_sub, .nil⟩, at_Ratio_sub, i_Ratio_sub⟩
  have dM : DunX l.prog w K mg base 5 C "__mul__" (spBin C fun a b => a * b) := ⟨_, ⟨_, _, [], ok_mul F_Ratio_mul T cA cR pT pB, b_Ratio_mul, .nil⟩, at_Ratio_mul, i_Ratio_mul⟩
  have dN : DunX l.prog w K mg base 5 C "__neg__" (spUn C fun a => -a) := ⟨_, ⟨_, _, [], ok_neg F_Ratio_neg T cR, b_Ratio_neg, .nil⟩, at_Ratio_neg, i_Ratio_neg⟩
  have dE : DunX l.prog w K mg base 3 C "__eq__" (spEq K C) := ⟨_, ⟨_, _, [], ok_eq F_Ratio_eq T cI pT pB, b_Ratio_eq, .nil⟩, at_Ratio_eq, i_Ratio_eq⟩
  have mO : MetX l.prog w K mg base 5 C "over" (spOver C C_ByZero) [] := ⟨_, ⟨_, _, [], ok_over F_Ratio_over T cA cR pT pB, b_Ratio_over, .nil⟩, cls_Ratio, ⟨at_Ratio_over, i_Ratio_over, k_Ratio_over⟩⟩
  have mB : MetX l.prog w K mg base 5 C "below" (spLess C) [] := ⟨_, ⟨_, _, [], ok_below F_Ratio_below T cA pT pB, b_Ratio_below, .nil⟩, cls_Ratio, ⟨at_Ratio_below, i_Ratio_below, k_Ratio_below⟩⟩
  have mS : MetX l.prog w K mg base 5 C "size" (spUn C absR) [] := ⟨_, ⟨_, _, [], ok_size F_Ratio_size T cR, b_Ratio_size, .nil⟩, cls_Ratio, ⟨at_Ratio_size, i_Ratio_size, k_Ratio_size⟩⟩
  have cN : CalX l.prog w K mg base 2 "is_number" (spIsNum K C) [] := ⟨_, ⟨_, _, [], ok_is_number F_is_number T cI, b_is_number, .nil⟩, PySem.W.mg_of X G a_is_number, k_is_number⟩
  have cC : CalX l.prog w K mg base 6 "is_chance" (spIsCh K C) [] := ⟨_, ⟨_, _, [], ok_is_chance F_is_chance T cN cA cR1 mB, b_is_chance, .nil⟩, PySem.W.mg_of X G a_is_chance, k_is_chance⟩
  have cT : CalX l.prog w K mg base 6 "total" (spTotal K C) [] := ⟨_, ⟨_, _, [], ok_total F_total T cR1 dA O, b_total, .nil⟩, PySem.W.mg_of X G a_total, k_total⟩
  have cL : CalX l.prog w K mg base 6 "least" (spPick K C minR) [] := ⟨_, ⟨_, _, [], ok_least F_least T cA mB, b_least, .nil⟩, PySem.W.mg_of X G a_least, k_least⟩
  have cG : CalX l.prog w K mg base 6 "greatest" (spPick K C maxR) [] := ⟨_, ⟨_, _, [], ok_greatest F_greatest T cA mB, b_greatest, .nil⟩, PySem.W.mg_of X G a_greatest, k_greatest⟩
  have wS : CalF l.prog w K mg base 1 "_law_start" (spStart K) [] := ⟨_, _, _, [], ok_start F__law_start T, PySem.W.mg_of X G a__law_start, k__law_start, b__law_start, .nil⟩
  have wD : CalF l.prog w K mg base 1 "_law_draw" spDraw [] := ⟨_, _, _, [], ok_draw F__law_draw T, PySem.W.mg_of X G a__law_draw, k__law_draw, b__law_draw, .nil⟩
  have wP : CalX l.prog w K mg base 2 "_law_pair" spPair [] := ⟨_, ⟨_, _, [], (ok_pair F__law_pair T wD).up, b__law_pair, .nil⟩, PySem.W.mg_of X G a__law_pair, k__law_pair⟩
  have wL : CalX l.prog w K mg base 1 "_law_lowest" spLow [] := ⟨_, ⟨_, _, [], ok_low F__law_lowest T, b__law_lowest, .nil⟩, PySem.W.mg_of X G a__law_lowest, k__law_lowest⟩
  have wI : CalX l.prog w K mg base 3 "_law_is" (spIs C) [] := ⟨_, ⟨_, _, [], ok_is F__law_is T wL pT pB, b__law_is, .nil⟩, PySem.W.mg_of X G a__law_is, k__law_is⟩
  have wT : CalG l.prog w K mg base 8 "_law_two_right" (spTwo C) [] := ⟨_, _, _, [], ok_two F__law_two_right T O Z_ByZero (PySem.W.mg_none_of X G z_repr) wI cC cN cR mB mS mO dA dS dM dN dE, PySem.W.mg_of X G a__law_two_right, k__law_two_right, b__law_two_right, .nil⟩
  have wZ : CalF l.prog w K mg base 4 "_law_zero_right" spZero [] := ⟨_, _, _, [], ok_zero F__law_zero_right Z_ByZero cR, PySem.W.mg_of X G a__law_zero_right, k__law_zero_right, b__law_zero_right, .nil⟩
  have wR : CalG l.prog w K mg base 6 "_law_refused" (spRef K C) [] := ⟨_, _, _, [], ok_refused F__law_refused T B_BadNumber cAk, PySem.W.mg_of X G a__law_refused, k__law_refused, b__law_refused, .nil⟩
  have wM : CalF l.prog w K mg base 8 "_law_lists_right" (spLists K) [] := ⟨_, _, _, [], ok_lists F__law_lists_right T wI wL cR cT cG cL, PySem.W.mg_of X G a__law_lists_right, k__law_lists_right, b__law_lists_right, .nil⟩
  exact ok_law F_law T O OT wS wD wP wI wT wZ wR wM cA cN cC cR cR1 cK dE

end K05
open PySem PySem.W PyProof.Rows
set_option maxHeartbeats 0 in
theorem PySem.Challenge.cw_saidchances_k05_ratios_holds : PySem.Challenge.rw_saidchances_k05_ratios.Holds := by
  w_on; o_law; k_head; (case hw => w_witness2)
  k_fill
  refine L2.walk_ofG (l := PySem.Challenge.rw_saidchances_k05_ratios) (n := 63) (k := 9) (x := "_law_script") (sp := fun w => LawK.spLaw _) rfl (by decide) rfl ⟨rfl, by decide, by decide⟩ (fun w h Y => PySem.W.kIn_of Y) ?F (fun _ _ a ns hl _ _ hS => ⟨a, ns, rfl, hS, hl, fun _ => rfl⟩)
  case F =>
    intro w mg fa h KX G hmg
    refine' K05.all_mk KX G hmg ?a_is_integer ?l_is_integer ?c_is_integer ?k_is_integer ?a_is_number ?l_is_number ?c_is_number ?k_is_number ?a_is_chance ?l_is_chance ?c_is_chance ?k_is_chance ?a_as_ratio ?l_as_ratio ?c_as_ratio ?k_as_ratio ?a_total ?l_total ?c_total ?k_total ?a_least ?l_least ?c_least ?k_least ?a_greatest ?l_greatest ?c_greatest ?k_greatest ?a__law_start ?l__law_start ?c__law_start ?k__law_start ?a__law_draw ?l__law_draw ?c__law_draw ?k__law_draw ?a__law_pair ?l__law_pair ?c__law_pair ?k__law_pair ?a__law_lowest ?l__law_lowest ?c__law_lowest ?k__law_lowest ?a__law_is ?l__law_is ?c__law_is ?k__law_is ?a__law_two_right ?l__law_two_right ?c__law_two_right ?k__law_two_right ?a__law_refused ?l__law_refused ?c__law_refused ?k__law_refused ?a__law_zero_right ?l__law_zero_right ?c__law_zero_right ?k__law_zero_right ?a__law_lists_right ?l__law_lists_right ?c__law_lists_right ?k__law_lists_right ?a_law ?l_law ?c_law ?k_law ?a_Ratio ?pg_Ratio ?hd_Ratio ?po_Ratio ?sa_Ratio ?mk_Ratio ?kc_Ratio ?at_Ratio_init ?l_Ratio_init ?lt_Ratio_init ?c_Ratio_init ?k_Ratio_init ?i_Ratio_init ?at_Ratio_top ?rc_Ratio_top ?gt_Ratio_top ?tk_Ratio_top ?l_Ratio_top ?c_Ratio_top ?k_Ratio_top ?i_Ratio_top ?at_Ratio_bottom ?rc_Ratio_bottom ?gt_Ratio_bottom ?tk_Ratio_bottom ?l_Ratio_bottom ?c_Ratio_bottom ?k_Ratio_bottom ?i_Ratio_bottom ?at_Ratio_add ?l_Ratio_add ?c_Ratio_add ?k_Ratio_add ?i_Ratio_add ?at_Ratio_sub ?l_Ratio_sub ?c_Ratio_sub ?k_Ratio_sub ?i_Ratio_sub ?at_Ratio_mul ?l_Ratio_mul ?c_Ratio_mul ?k_Ratio_mul ?i_Ratio_mul ?at_Ratio_neg ?l_Ratio_neg ?c_Ratio_neg ?k_Ratio_neg ?i_Ratio_neg ?at_Ratio_eq ?l_Ratio_eq ?c_Ratio_eq ?k_Ratio_eq ?i_Ratio_eq ?at_Ratio_over ?l_Ratio_over ?c_Ratio_over ?k_Ratio_over ?i_Ratio_over ?at_Ratio_below ?l_Ratio_below ?c_Ratio_below ?k_Ratio_below ?i_Ratio_below ?at_Ratio_size ?l_Ratio_size ?c_Ratio_size ?k_Ratio_size ?i_Ratio_size ?a_BadNumber ?x_BadNumber ?sa_BadNumber ?ga_BadNumber ?gg_BadNumber ?nb_BadNumber ?at_BadNumber ?t_BadNumber ?l_BadNumber ?c_BadNumber ?kc_BadNumber ?e_BadNumber ?ty_BadNumber ?hd_BadNumber ?ic_BadNumber ?ss_BadNumber ?a_ByZero ?x_ByZero ?kc_ByZero ?e_ByZero ?ty_ByZero ?ic_ByZero ?ss_ByZero ?q_ca ?q_cn ?q_ct ?q_cm ?q_ki ?q_kc ?q_ti ?q_nT ?q_nB ?q_gcd ?q_sf ?q_na ?q_ns ?q_nm ?q_nn ?q_si ?q_is ?q_oN ?q_oB ?q_oS ?q_oL ?q_oT ?q_oD ?q_sN ?q_sB ?q_sS ?q_sL ?q_sT ?z_isinstance ?z_int ?z_bool ?z_abs ?z_repr ?z_list ?z_tuple ?z_sum ?z_len ?z_range
    case a_is_integer => first | k_is | rfl | decide
    case l_is_integer => first | k_is | rfl | decide
    case c_is_integer => first | k_is | rfl | decide
    case k_is_integer => first | k_is | rfl | decide
    case a_is_number => first | k_is | rfl | decide
    case l_is_number => first | k_is | rfl | decide
    case c_is_number => first | k_is | rfl | decide
    case k_is_number => first | k_is | rfl | decide
    case a_is_chance => first | k_is | rfl | decide
    case l_is_chance => first | k_is | rfl | decide
    case c_is_chance => first | k_is | rfl | decide
    case k_is_chance => first | k_is | rfl | decide
    case a_as_ratio => first | k_is | rfl | decide
    case l_as_ratio => first | k_is | rfl | decide
    case c_as_ratio => first | k_is | rfl | decide
    case k_as_ratio => first | k_is | rfl | decide
    case a_total => first | k_is | rfl | decide
    case l_total => first | k_is | rfl | decide
    case c_total => first | k_is | rfl | decide
    case k_total => first | k_is | rfl | decide
    case a_least => first | k_is | rfl | decide
    case l_least => first | k_is | rfl | decide
    case c_least => first | k_is | rfl | decide
    case k_least => first | k_is | rfl | decide
    case a_greatest => first | k_is | rfl | decide
    case l_greatest => first | k_is | rfl | decide
    case c_greatest => first | k_is | rfl | decide
    case k_greatest => first | k_is | rfl | decide
    case a__law_start => first | k_is | rfl | decide
    case l__law_start => first | k_is | rfl | decide
    case c__law_start => first | k_is | rfl | decide
    case k__law_start => first | k_is | rfl | decide
    case a__law_draw => first | k_is | rfl | decide
    case l__law_draw => first | k_is | rfl | decide
    case c__law_draw => first | k_is | rfl | decide
    case k__law_draw => first | k_is | rfl | decide
    case a__law_pair => first | k_is | rfl | decide
    case l__law_pair => first | k_is | rfl | decide
    case c__law_pair => first | k_is | rfl | decide
    case k__law_pair => first | k_is | rfl | decide
    case a__law_lowest => first | k_is | rfl | decide
    case l__law_lowest => first | k_is | rfl | decide
    case c__law_lowest => first | k_is | rfl | decide
    case k__law_lowest => first | k_is | rfl | decide
    case a__law_is => first | k_is | rfl | decide
    case l__law_is => first | k_is | rfl | decide
    case c__law_is => first | k_is | rfl | decide
    case k__law_is => first | k_is | rfl | decide
    case a__law_two_right => first | k_is | rfl | decide
    case l__law_two_right => first | k_is | rfl | decide
    case c__law_two_right => first | k_is | rfl | decide
    case k__law_two_right => first | k_is | rfl | decide
    case a__law_refused => first | k_is | rfl | decide
    case l__law_refused => first | k_is | rfl | decide
    case c__law_refused => first | k_is | rfl | decide
    case k__law_refused => first | k_is | rfl | decide
    case a__law_zero_right => first | k_is | rfl | decide
    case l__law_zero_right => first | k_is | rfl | decide
    case c__law_zero_right => first | k_is | rfl | decide
    case k__law_zero_right => first | k_is | rfl | decide
    case a__law_lists_right => first | k_is | rfl | decide
    case l__law_lists_right => first | k_is | rfl | decide
    case c__law_lists_right => first | k_is | rfl | decide
    case k__law_lists_right => first | k_is | rfl | decide
    case a_law => first | k_is | rfl | decide
    case l_law => first | k_is | rfl | decide
    case c_law => first | k_is | rfl | decide
    case k_law => first | k_is | rfl | decide
    case a_Ratio => first | k_is | rfl | decide
    case pg_Ratio => first | k_is | rfl | decide
    case hd_Ratio => first | k_is | rfl | decide
    case po_Ratio => first | k_is | rfl | decide
    case sa_Ratio => first | k_is | rfl | decide
    case mk_Ratio => first | k_is | rfl | decide
    case kc_Ratio => first | k_is | rfl | decide
    case at_Ratio_init => first | k_is | rfl | decide
    case l_Ratio_init => first | k_is | rfl | decide
    case lt_Ratio_init => first | k_is | rfl | decide
    case c_Ratio_init => first | k_is | rfl | decide
    case k_Ratio_init => first | k_is | rfl | decide
    case i_Ratio_init => first | k_is | rfl | decide
    case at_Ratio_top => first | k_is | rfl | decide
    case rc_Ratio_top => first | k_is | rfl | decide
    case gt_Ratio_top => first | k_is | rfl | decide
    case tk_Ratio_top => first | k_is | rfl | decide
    case l_Ratio_top => first | k_is | rfl | decide
    case c_Ratio_top => first | k_is | rfl | decide
    case k_Ratio_top => first | k_is | rfl | decide
    case i_Ratio_top => first | k_is | rfl | decide
    case at_Ratio_bottom => first | k_is | rfl | decide
    case rc_Ratio_bottom => first | k_is | rfl | decide
    case gt_Ratio_bottom => first | k_is | rfl | decide
    case tk_Ratio_bottom => first | k_is | rfl | decide
    case l_Ratio_bottom => first | k_is | rfl | decide
    case c_Ratio_bottom => first | k_is | rfl | decide
    case k_Ratio_bottom => first | k_is | rfl | decide
    case i_Ratio_bottom => first | k_is | rfl | decide
    case at_Ratio_add => first | k_is | rfl | decide
    case l_Ratio_add => first | k_is | rfl | decide
    case c_Ratio_add => first | k_is | rfl | decide
    case k_Ratio_add => first | k_is | rfl | decide
    case i_Ratio_add => first | k_is | rfl | decide
    case at_Ratio_sub => first | k_is | rfl | decide
    case l_Ratio_sub => first | k_is | rfl | decide
    case c_Ratio_sub => first | k_is | rfl | decide
    case k_Ratio_sub => first | k_is | rfl | decide
    case i_Ratio_sub => first | k_is | rfl | decide
    case at_Ratio_mul => first | k_is | rfl | decide
    case l_Ratio_mul => first | k_is | rfl | decide
    case c_Ratio_mul => first | k_is | rfl | decide
    case k_Ratio_mul => first | k_is | rfl | decide
    case i_Ratio_mul => first | k_is | rfl | decide
    case at_Ratio_neg => first | k_is | rfl | decide
    case l_Ratio_neg => first | k_is | rfl | decide
    case c_Ratio_neg => first | k_is | rfl | decide
    case k_Ratio_neg => first | k_is | rfl | decide
    case i_Ratio_neg => first | k_is | rfl | decide
    case at_Ratio_eq => first | k_is | rfl | decide
    case l_Ratio_eq => first | k_is | rfl | decide
    case c_Ratio_eq => first | k_is | rfl | decide
    case k_Ratio_eq => first | k_is | rfl | decide
    case i_Ratio_eq => first | k_is | rfl | decide
    case at_Ratio_over => first | k_is | rfl | decide
    case l_Ratio_over => first | k_is | rfl | decide
    case c_Ratio_over => first | k_is | rfl | decide
    case k_Ratio_over => first | k_is | rfl | decide
    case i_Ratio_over => first | k_is | rfl | decide
    case at_Ratio_below => first | k_is | rfl | decide
    case l_Ratio_below => first | k_is | rfl | decide
    case c_Ratio_below => first | k_is | rfl | decide
    case k_Ratio_below => first | k_is | rfl | decide
    case i_Ratio_below => first | k_is | rfl | decide
    case at_Ratio_size => first | k_is | rfl | decide
    case l_Ratio_size => first | k_is | rfl | decide
    case c_Ratio_size => first | k_is | rfl | decide
    case k_Ratio_size => first | k_is | rfl | decide
    case i_Ratio_size => first | k_is | rfl | decide
    case a_BadNumber => first | k_is | rfl | decide
    case x_BadNumber => first | k_is | rfl | decide
    case sa_BadNumber => first | k_is | rfl | decide
    case ga_BadNumber => first | k_is | rfl | decide
    case gg_BadNumber => first | k_is | rfl | decide
    case nb_BadNumber => first | k_is | rfl | decide
    case at_BadNumber => first | k_is | rfl | decide
    case t_BadNumber => first | k_is | rfl | decide
    case l_BadNumber => first | k_is | rfl | decide
    case c_BadNumber => first | k_is | rfl | decide
    case kc_BadNumber => first | k_is | rfl | decide
    case e_BadNumber => first | k_is | rfl | decide
    case ty_BadNumber => first | k_is | rfl | decide
    case hd_BadNumber => first | k_is | rfl | decide
    case ic_BadNumber => first | k_is | rfl | decide
    case ss_BadNumber => first | k_is | rfl | decide
    case a_ByZero => first | k_is | rfl | decide
    case x_ByZero => k_exc
    case kc_ByZero => first | k_is | rfl | decide
    case e_ByZero => first | k_is | rfl | decide
    case ty_ByZero => first | k_is | rfl | decide
    case ic_ByZero => first | k_is | rfl | decide
    case ss_ByZero => first | k_is | rfl | decide
    case q_ca => first | k_is | rfl | decide
    case q_cn => first | k_is | rfl | decide
    case q_ct => first | k_is | rfl | decide
    case q_cm => first | k_is | rfl | decide
    case q_ki => first | k_is | rfl | decide
    case q_kc => first | k_is | rfl | decide
    case q_ti => first | k_is | rfl | decide
    case q_nT => first | k_is | rfl | decide
    case q_nB => first | k_is | rfl | decide
    case q_gcd => first | k_is | rfl | decide
    case q_sf => first | k_is | rfl | decide
    case q_na => first | k_is | rfl | decide
    case q_ns => first | k_is | rfl | decide
    case q_nm => first | k_is | rfl | decide
    case q_nn => first | k_is | rfl | decide
    case q_si => first | k_is | rfl | decide
    case q_is => first | k_is | rfl | decide
    case q_oN => first | k_is | rfl | decide
    case q_oB => first | k_is | rfl | decide
    case q_oS => first | k_is | rfl | decide
    case q_oL => first | k_is | rfl | decide
    case q_oT => first | k_is | rfl | decide
    case q_oD => first | k_is | rfl | decide
    case q_sN => first | k_is | rfl | decide
    case q_sB => first | k_is | rfl | decide
    case q_sS => first | k_is | rfl | decide
    case q_sL => first | k_is | rfl | decide
    case q_sT => first | k_is | rfl | decide
    case z_isinstance => first | k_is | rfl | decide
    case z_int => first | k_is | rfl | decide
    case z_bool => first | k_is | rfl | decide
    case z_abs => first | k_is | rfl | decide
    case z_repr => first | k_is | rfl | decide
    case z_list => first | k_is | rfl | decide
    case z_tuple => first | k_is | rfl | decide
    case z_sum => first | k_is | rfl | decide
    case z_len => first | k_is | rfl | decide
    case z_range => first | k_is | rfl | decide
