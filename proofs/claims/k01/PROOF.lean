import PyProof.Rows.All
import Wide.All
import OpenK.AllK
import Wide.FinOn
import PyProof.ReprRoads
import HandS.ForMost
import HandS.Evl
import HandS.EndBits
import HandS.Wide
import HandS.IsInst
import HandS.Style
import HandS.Codes
import HandS.Walk
import HandS.Defaults
import HandS.Property
import HandS.ForExc
import HandS.Small
import HandS.SlotsOwn
import HandS.MakeKw
import HandS.MakeKwOnly
import HandS.Gcd
import HandS.ClsMeth
import HandS.FStr
import HandS.CallSlots
import HandS.DeepEq
import HandS.ExcValue
import KE.KExcIs
import PySem.Challenge.RW_saidchances_k01_errors
set_option Elab.async false
set_option linter.all false
set_option maxRecDepth 100000
set_option maxHeartbeats 2000000
namespace L2
open PySem PySem.Spec PyProof.Rows
section
variable {X : Cx}
/-- repr of data without dicts -/
def rRepr (K : PySem.W.Frag) : List V → Hp → VK → Prop := fun vs H Q => ∃ v d, vs = [v] ∧ Dp K H v d ∧ (∃ a, v = .ref a) ∧ d.showable = true ∧ d.hasDict = false ∧ d.depth ≤ 60 ∧ d.shown.length ≤ sizeLine ∧ Q (.str d.shown) H
theorem cr_repr (hu : X.A.units + 64 < cLine) (hgd : X.A.guards = some []) : CallR X (.builtin "repr") (rRepr X.K) := by
  intro pins s σ H vs us Q I r h
  obtain ⟨v, d, rfl, hd, ⟨a, rfl⟩, hs, hn, hdp, hl, q⟩ := h
  obtain ⟨u, rfl, ru⟩ := vals1 r
  obtain ⟨as, hr⟩ := Dp.reads I d _ u hd ru
  cases ru
  refine repr_of_reads' hr hs (PyData.noDict_hsm hn) hgd (by omega) (fun b o e => e) (fun h' u tk hk => ?_) hl
  refine ⟨.str _, H, I.kept fun b o eo => hk b o eo, ⟨_, rfl⟩, q⟩
end
end L2
/-! ### defs that may show lists: no repr runs around them -/
namespace L2
open PySem PySem.Spec PyProof.Rows
structure FnG (P : Program) (w : World) (K : PySem.W.Frag) (mg : Str → Option Value) (base : Heap) (CX : CXT) (k : Nat) (f : Addr) (fd : FuncData) (ps : List Str) (sp : Sp) : Prop where
  size : ∀ vs H Q E, sp vs H Q E → vs.length = ps.length
  goes : ∀ (A : Around) (o : List Env) (s : Shared) (H : Hp) (ar : Args) (us : List Value) (vs : List V) (Q : VK) (E : XK), A.guards = some [] → Room k A →
    Env0 P w K mg base A o s H → BindsTo s fd ar (ps.zip us) → Vals vs us → sp vs H Q E → codeAny (model P w) A (.call (.ref f) ar) (CR CX o P w H s Q E) s
section
variable {P : Program} {w : World} {K : PySem.W.Frag} {mg : Str → Option Value} {base : Heap} {CX : CXT} {k : Nat} {f : Addr} {fd : FuncData} {ps : List Str} {sp : Sp}
theorem FnOk.g (F : FnOk P w K mg base CX k f fd ps sp) : FnG P w K mg base CX k f fd ps sp := ⟨F.len, fun A o s H ar us vs Q E _ => F.run A o s H ar us vs Q E⟩
theorem FnG.up {j : Nat} (F : FnG P w K mg base CX j f fd ps sp) (h : j ≤ k) : FnG P w K mg base CX k f fd ps sp := ⟨F.size, fun A o s H ar us vs Q E g hr => F.goes A o s H ar us vs Q E g (hr.mono h)⟩
theorem Fun.okG {x qual : Str} {st : Stmt} {N : List Str} (F : Fun K x qual st f fd) (S : FnScope N ps (defScope st)) (len : ∀ vs H Q E, sp vs H Q E → vs.length = ps.length)
    (hb : ∀ (cv : Value) (A : Around) (o : List Env) (s : Shared) (H : Hp) (vs : List V) (Q : VK) (E : XK), A.guards = some [] → Room k (A.deeper (envOfC qual (defScope st) s.heap.objs.size f cv)) → sp vs H Q E →
      ∃ t, PSs (cxOf CX P w K mg base N qual (defScope st) f cv A o s H E) (defBody st) t ∧ t { nx := fun _ H' => Q .non H', rt := Q } (start N vs) H) : FnG P w K mg base CX (k + 1) f fd ps sp := by
  obtain ⟨oc, od, kV, doc, pm, an, cv, ct, sl, rfl, lk, cd⟩ := F.ex
  refine ⟨len, fun A o s H ar us vs Q E g hr e hbi rv hs => ?_⟩
  have in0 := e.mod.kin.keeps fun b u z => (e.bs b u z).1
  have nl := e.mod.nolimit.keeps fun b u z => (e.bs b u z).1
  have sz := len _ _ _ _ hs
  have kinds : ∀ y ∈ ps.zip us, (defScope st).names.lookup y.1 = some .local ∨ ((defScope st).names.lookup y.1 = some .cell ∧ ((cellsFrom (s.heap.objs.size + 1) (defScope st).names []).lookup y.1).isSome = true) := by
    rintro ⟨n, v⟩ hy
    cases S.par n (List.of_mem_zip hy).1 with
    | inl q => exact Or.inl q
    | inr q => exact Or.inr (And.intro q (PySem.W.cellsFrom_some _ _ _ (Or.inl q)))
  refine codeAny_call_function hr.depth (in0 _ _ lk) rfl S.co S.gen rfl (PySem.W.codeRec_of in0 cd) (hbi _ _ _ _ (wpAny_newFunctionEnv_cells S.kind kinds ?_))
  rintro env rfl s1 x
  obtain ⟨t, ht, hq⟩ := hb cv A o s H vs Q E g (Room.deeper hr _) hs
  have J : Inv (cxOf CX P w K mg base N qual (defScope st) f cv A o s H E) [] (start N vs) H s1 := inv_start S hr.hd e sz rv x
  refine And.intro (nl.keeps x.toInCall.keep) (codeAny_func (wpAny_mono (PSs.run ht [] s1 (start N vs) H _ J hq) (fun fl s' z => ?_) (fun _ _ z => z)))
  have fin {σ' : St} {H' : Hp} {v : V} {u : Value} (I : Inv (cxOf CX P w K mg base N qual (defScope st) f cv A o s H E) [] σ' H' s') (rv : RelV v u) (q : Q v H') : CE o P w H s Q u s' :=
    Exists.intro v (Exists.intro H' (And.intro I.os (And.intro I.bare (And.intro I.base (And.intro I.hok (And.intro rv q))))))
  match fl, z with
  | .ret u, ⟨v, σ', H', I, rv, q⟩ => exact fin I rv q
  | .next, ⟨σ', H', I, q⟩ => exact fin (v := .non) (u := .none) I rfl q
  | .brk, ⟨_, _, _, q⟩ => exact q.elim
  | .cont, ⟨_, _, _, q⟩ => exact q.elim
end
section
variable {X : Cx} {CX : CXT} {k : Nat} {f : Addr} {fd : FuncData} {ps : List Str} {sp : Sp} {dvs : List V} {ds : List Value} {E : XK} {x : Str} {p pos : Pos} {e : Expr} {es : List Expr} {t : TA}
theorem goesG {pins : List (Addr × Obj)} {σ : St} {H : Hp} {s : Shared} {Q : VK} {us : List Value} {vs : List V} (F : FnG X.prog X.w X.K X.mg X.base CX k f fd ps sp) (g : X.A.guards = some []) (hr : Room k X.A) (hb : Binds X.K fd ps ds) (hd : Vals dvs ds) (hx : Passes CX X E)
    (I : Inv X pins σ H s) (r : Vals vs us) (h : sp (vs ++ dvs) H Q E) : wpAny (model X.prog X.w) X.A (call (.ref f) us) (EP X pins σ Q) X.xe s := by
  have rr := Vals.append r hd
  have sz : (us ++ ds).length = ps.length := (rr.length).symm.trans (F.size _ _ _ _ h)
  refine wpAny_call (codeAny_mono (F.goes X.A X.stack s H _ (us ++ ds) (vs ++ dvs) Q E g hr I.env0 (hb s us I.kIn sz) rr h) ?_)
  intro r s' hq
  match r, hq with
  | .error er, hq => exact hx pins σ H s er s' I hq
  | .ok (.ret u), hq => exact Inv.after I hq
theorem pe_callG (F : FnG X.prog X.w X.K X.mg X.base CX k f fd ps sp) (g : X.A.guards = some []) (hr : Room k X.A) (hg : Gl X x) (hm : X.mg x = some (.ref f)) (hk : PySem.W.keepIn X.K (.ref f) = true) (hb : Binds X.K fd ps ds) (hd : Vals dvs ds) (hx : Passes CX X E)
    (ha : PA X (e :: es) t) (nd : (x == ("__debug__" : Str)) = false := by decide) (he : starEach (e :: es) X.env = (false, eval e X.env) :: starEach es X.env := by rfl) (hpl : (backTo pos (starEach es X.env)).any (·.1) = false := by rfl) :
    PE X (.Call (.Name x p) (e :: es) [] pos) (tCall sp dvs E t) := .mk fun pins s σ H Q I h =>
  wpAny_Call_Name_kw (ld_glob I hg hm (PySem.W.callWith_K (h₀ := X.base) I.ok.mod.kin hk (thn (ha.run pos pins s σ H _ I h) fun us s1 ⟨vs, H1, I1, r, q⟩ => ⟨I1.kIn, goesG F g hr hb hd hx I1 r q⟩) he hpl) nd)
end
end L2

namespace L2
open PySem PySem.Spec PyProof.Rows
theorem hp_no {H : Hp} {h : Heap} {a b : Addr} {vs : List Value} (only : ∀ b, H b ≠ none → b = a) (ha : h.get? a = some { cls := .type "list", data := .seq vs.toArray }) {o : Obj} (e : h.get? b = some o) (ne : ∀ n, o.data ≠ .seq vs.toArray n) : H b = none := by
  by_cases z : H b = none
  · exact z
  · have q := only b z
    rw [q, ha] at e
    cases e
    exact (ne _ rfl).elim
theorem env_start {P : Program} {w : World} {K : PySem.W.Frag} {mg mb : Str → Option Value} {a : Addr} {s : Shared} {vs : List Value} {H : Hp} (KX : K.In s.heap) (hm : s.heap.Ns mainGlobals mg) (hb : s.heap.Ns builtinsNs mb)
    (boot : ∀ x : Str, x ≠ "__name__" → mb x = bootBuiltins x) (nl : s.heap.NoLimit) (hg : s.gens = #[]) (ha : s.heap.get? a = some { cls := .type "list", data := .seq vs.toArray })
    (hok : HOk P w H s.heap) (only : ∀ b, H b ≠ none → b = a) (nK : H a ≠ none → K.lookup a = none) : K.In (hidT s.heap H) ∧ (hidT s.heap H).Ns mainGlobals mg ∧ Env0 P w K mg (hidT s.heap H) callerA [] s H := by
  have dn {c : Addr} {m : Str → Option Value} (n : s.heap.Ns c m) : (hidT s.heap H).Ns c m := by
    obtain ⟨o, es, ep, e, d, r⟩ := n
    refine Exists.intro o (Exists.intro es (Exists.intro ep (And.intro (hidT_get e (hp_no only ha e fun n q => ?_)) (And.intro d r))))
    rw [d] at q
    cases q
  have kx : K.In (hidT s.heap H) := by
    intro b o e
    refine hidT_get (KX b o e) ?_
    by_cases z : H b = none
    · exact z
    · have q := only b z
      subst q
      rw [nK z] at e
      cases e
  obtain ⟨mc, l1, l2⟩ := nl
  exact And.intro kx (And.intro (dn hm) { frames := rfl, mod := ⟨kx, dn hm, ⟨mb, dn hb, boot⟩, ⟨mc, dn l1, l2⟩⟩, bs := fun b o e => of_hidT e, bsz := Nat.le_of_eq (hidT_size _ _), funs := trivial, frf := (fun b hb => by cases hb), hok := hok, bare := .of_eq hg })
theorem law_goG {P : Program} {w : World} {K : PySem.W.Frag} {mg mb : Str → Option Value} {k : Nat} {fa a : Addr} {fd : FuncData} {x : Str} {sp : Sp} {s : Shared} {vs : List Value} {ns : List Int} (KX : K.In s.heap) (hm : s.heap.Ns mainGlobals mg) (hb : s.heap.Ns builtinsNs mb)
    (boot : ∀ x : Str, x ≠ "__name__" → mb x = bootBuiltins x) (nl : s.heap.NoLimit) (hg : s.gens = #[]) (ha : s.heap.get? a = some { cls := .type "list", data := .seq vs.toArray }) (hi : IntsAre vs ns) (hl : ns.length ≤ sizeLine) (hr : Room k callerA)
    (F : ∀ base : Heap, K.In base → base.Ns mainGlobals mg → FnG P w K mg base CX0 k fa fd [x] sp) (bind : ∀ (s : Shared) (u : Value), BindsTo s fd ⟨[u], []⟩ [(x, u)])
    (hsp : ∀ H : Hp, Only H → SqL K H a (ns.map V.int) → sp [.ref a] H (fun v _ => v = .bl true) fun _ _ _ => False) :
    codeAny (model P w) callerA (.call (.ref fa) ⟨[.ref a], []⟩) (fun r s' => r = .ok (.ret (.bool true)) ∧ OldK s.heap s'.heap ∧ s'.os = s.os ∧ AllBare s'.gens) s := by
  have rv := vals_ints hi
  have go (H : Hp) (hO : Only H) (hS : SqL K H a (ns.map V.int)) (hok : HOk P w H s.heap) (only : ∀ b, H b ≠ none → b = a) (nK : H a ≠ none → K.lookup a = none) :
      codeAny (model P w) callerA (.call (.ref fa) ⟨[.ref a], []⟩) (fun r s' => r = .ok (.ret (.bool true)) ∧ OldK s.heap s'.heap ∧ s'.os = s.os ∧ AllBare s'.gens) s := by
    obtain ⟨kx, nm, e0⟩ := env_start KX hm hb boot nl hg ha hok only nK
    refine codeAny_mono ((F _ kx nm).goes callerA [] s H _ [.ref a] [.ref a] _ _ rfl hr e0 (bind s (.ref a)) (.cons rfl .nil) (hsp H hO hS)) ?_
    intro r s' h
    match r, h with
    | .ok (.ret u), ⟨v, H', os, bare, un, hok', ru, qv⟩ =>
      have hv : v = V.bl true := qv
      rw [hv] at ru
      have hu : u = Value.bool true := ru
      rw [hu]
      refine And.intro rfl (And.intro (OldK.of_keep fun b o e => ?_) (And.intro os bare))
      by_cases z : H b = none
      · exact un.keep b o e z (fun z => by cases z) (fun z => by cases z)
      · cases hO b with
        | inl q => exact (z q).elim
        | inr q =>
          obtain ⟨ob, xs, q⟩ := q
          have o1 := (hok b _ q).1
          have o2 := (hok' b _ (un.frzs b ob _ q)).1
          rw [e] at o1
          cases o1
          exact o2
  by_cases hk : K.lookup a = none
  · refine go (fun b => if b = a then some (.frz { cls := .type "list", data := .seq vs.toArray } (.lst (ns.map V.int))) else none) (fun b => ?_) (Or.inl (Or.inr (Exists.intro _ (if_pos rfl)))) (fun b u z => ?_) (fun b z => ?_) (fun _ => hk)
    · by_cases e : b = a
      · exact Or.inr (Exists.intro _ (Exists.intro _ (if_pos e)))
      · exact Or.inl (if_neg e)
    · by_cases e : b = a
      · replace z := (if_pos e).symm.trans z
        cases z
        subst e
        exact And.intro ha (And.intro (by rw [List.length_map]; exact hl) (Exists.intro vs (Exists.intro _ (And.intro rv ha))))
      · replace z := (if_neg e).symm.trans z
        cases z
    · by_cases e : b = a
      · exact e
      · exact (z (if_neg e)).elim
  · obtain ⟨o, e⟩ := Option.ne_none_iff_exists'.mp hk
    have e2 := KX a o e
    rw [ha] at e2
    cases e2
    refine go (fun _ => none) (fun _ => Or.inl rfl) (Or.inr ⟨_, vs.toArray, _, e, rfl, rfl, rfl, ?_, by simpa using rv⟩) (fun b u z => by cases z) (fun b z => (z rfl).elim) (fun z => (z rfl).elim)
    rw [List.size_toArray, hi.length]
    exact hl
theorem walk_ofG {l : PySem.W.OpenLaw} {n k : Nat} {q : Program} {loose : List Str} {XP : (Str → Option Value) → Heap → Prop} {YP : World → Heap → Prop} {d : DefRec} {K : Params → PySem.W.Frag} {sp : World → Sp} {x : Str} (hn : l.most = some n) (hn2 : n ≤ sizeLine)
    (hdf : d.params.defaults = []) (hr : Room k callerA) (hY : ∀ (w : World) (h : Heap), YP w h → (K w.params).In h)
    (F : ∀ (w : World) (mg : Str → Option Value) (fa : Addr) (h : Heap), (K w.params).In h → h.Ns mainGlobals mg → mg d.name = some (.ref fa) → ∃ fd : FuncData, (∀ (s : Shared) (u : Value), BindsTo s fd ⟨[u], []⟩ [(x, u)]) ∧
      ∀ base : Heap, (K w.params).In base → base.Ns mainGlobals mg → FnG l.prog w (K w.params) mg base CX0 k fa fd [x] (sp w))
    (hsp : ∀ (w : World) (H : Hp) (a : Addr) (ns : List Int), ns.length ≤ n → (∀ z ∈ ns, Builtin.Int.intBits z ≤ 1048576) → Only H → SqL (K w.params) H a (ns.map V.int) → sp w [.ref a] H (fun v _ => v = .bl true) fun _ _ _ => False) :
    PySem.W.WalkO q loose XP YP l.row.toRowW d [] (fun f vs => PySem.call f vs) := by
  refine Att.attach_callB hn hdf ?_
  intro w s0 s1 mg mb fa o pm cd doc a vs ns G Y ho hd hcd hmg hobj hints hlen hbits hg
  have KX := hY w _ Y
  obtain ⟨fd, hb, hF⟩ := F w mg fa _ KX G.T.g hmg
  exact law_goG KX G.T.g G.T.b G.T.builtins G.T.nolimit hg hobj hints (Nat.le_trans hlen hn2) hr hF hb (fun H hO hS => hsp w H a ns hlen hbits hO hS)
end L2
set_option Elab.async false
set_option linter.all false
set_option maxRecDepth 100000
set_option maxHeartbeats 2000000
namespace LawK
open PySem PySem.Spec PyProof.Rows L2 Evl
/-! ### data -/
theorem dp_ints {K : PySem.W.Frag} {H : Hp} : ∀ xs : List Int, DpAll K H (xs.map V.int) (xs.map PyData.int)
  | [] => .nil
  | x :: r => .cons (.int x) (dp_ints r)
theorem lay_ints : ∀ xs : List Int, PyData.canLayAll0 (xs.map PyData.int) = true
  | [] => rfl
  | x :: r => by
    show (PyData.canLay0 (.int x) && PyData.canLayAll0 (r.map PyData.int)) = true
    rw [lay_ints r]
    rfl
theorem dep_ints : ∀ xs : List Int, PyData.depthAll (xs.map PyData.int) ≤ 1
  | [] => by decide
  | x :: r => by
    have h := dep_ints r
    show max (PyData.depth (.int x)) (PyData.depthAll (r.map PyData.int)) ≤ 1
    have : PyData.depth (.int x) ≤ 1 := by show 0 ≤ 1; decide
    omega
theorem shaped_ints (xs : List Int) : SeqAt.shaped (.list (xs.map PyData.int)) = true := by
  unfold SeqAt.shaped
  rw [Bool.and_eq_true]
  refine ⟨lay_ints xs, decide_eq_true ?_⟩
  have h := dep_ints xs
  show PyData.depthAll (xs.map PyData.int) + 1 ≤ 64
  omega
theorem eqv_nil : ∀ xs : List Int, PyData.eqv (.list (xs.map PyData.int)) (.list []) = xs.isEmpty
  | [] => rfl
  | x :: r => rfl
end LawK
/-! ### the law's state: a list at p of a list at a, a list at b, and a count; G is what else is known -/
namespace LawK
open PySem PySem.Spec PyProof.Rows L2 Evl
structure SBe (G H : Hp) (p a b : Addr) (xs ys : List Int) (n : Int) : Prop where
  ex : Ex G H
  hp : H p = some (.lst [.ref a, .ref b, .int n])
  ha : H a = some (.lst (xs.map V.int))
  hb : H b = some (.lst (ys.map V.int))
  gp : G p = none
  ga : G a = none
  gb : G b = none
  ap : a ≠ p
  bp : b ≠ p
  ab : a ≠ b
theorem SBe.ext {G H H2 : Hp} {p a b : Addr} {xs ys : List Int} {n : Int} (S : SBe G H p a b xs ys n) (e : Ex H H2) : SBe G H2 p a b xs ys n :=
  ⟨S.ex.trans e, e _ _ S.hp, e _ _ S.ha, e _ _ S.hb, S.gp, S.ga, S.gb, S.ap, S.bp, S.ab⟩
theorem SBe.setn {G H : Hp} {p a b : Addr} {xs ys : List Int} {n k : Int} (S : SBe G H p a b xs ys n) : SBe G (upd H p (.lst [.ref a, .ref b, .int k])) p a b xs ys k :=
  ⟨S.ex.mut S.gp, upd_same, by rw [upd_ne S.ap]; exact S.ha, by rw [upd_ne S.bp]; exact S.hb, S.gp, S.ga, S.gb, S.ap, S.bp, S.ab⟩
theorem SBe.seta {G H : Hp} {p a b : Addr} {xs zs ys : List Int} {n : Int} (S : SBe G H p a b xs ys n) : SBe G (upd H a (.lst (zs.map V.int))) p a b zs ys n :=
  ⟨S.ex.mut S.ga, by rw [upd_ne S.ap.symm]; exact S.hp, upd_same, by rw [upd_ne S.ab.symm]; exact S.hb, S.gp, S.ga, S.gb, S.ap, S.bp, S.ab⟩
theorem SBe.newa {G H : Hp} {p a b q : Addr} {xs zs ys : List Int} {n : Int} (S : SBe G H p a b xs ys n) (hq : H q = none) : SBe G (upd (upd H q (.lst (zs.map V.int))) p (.lst [.ref q, .ref b, .int n])) p q b zs ys n := by
  have qp : q ≠ p := fun e => by rw [e, S.hp] at hq; cases hq
  have qb : q ≠ b := fun e => by rw [e, S.hb] at hq; cases hq
  refine ⟨(S.ex.trans (Ex.new hq)).mut S.gp, upd_same, ?_, ?_, S.gp, fresh_back S.ex hq, S.gb, qp, S.bp, qb⟩
  · rw [upd_ne qp, upd_same]
  · rw [upd_ne S.bp, upd_ne qb.symm]
    exact S.hb
/-- at most m draws so far -/
def SB (G H : Hp) (p : Addr) (m : Nat) : Prop := ∃ a b xs ys n, SBe G H p a b xs ys n ∧ 0 ≤ n ∧ n ≤ (m : Int) ∧ ys ≠ []
theorem SB.ext {G H H2 : Hp} {p : Addr} {m : Nat} (S : SB G H p m) (e : Ex H H2) : SB G H2 p m := by
  obtain ⟨a, b, xs, ys, n, s, r⟩ := S
  exact ⟨a, b, xs, ys, n, s.ext e, r⟩
theorem SB.le {G H : Hp} {p : Addr} {m k : Nat} (S : SB G H p m) (h : m ≤ k) : SB G H p k := by
  obtain ⟨a, b, xs, ys, n, s, h0, h1, h2⟩ := S
  exact ⟨a, b, xs, ys, n, s, h0, by omega, h2⟩
theorem SB.ex {G H : Hp} {p : Addr} {m : Nat} (S : SB G H p m) : Ex G H := by
  obtain ⟨a, b, xs, ys, n, s, _⟩ := S
  exact s.ex
/-- what is new is known from now on -/
def grow (G H H2 : Hp) : Hp := fun x => match H x with | none => H2 x | some _ => G x
theorem grow_ex {G H H2 : Hp} (e : Ex G H) : Ex G (grow G H H2) := fun x o h => by
  unfold grow
  rw [e x o h]
  exact h
theorem grow_new {G H H2 : Hp} {q : Addr} (h : H q = none) : grow G H H2 q = H2 q := by
  unfold grow
  rw [h]
theorem SB.grow {G H H2 : Hp} {p : Addr} {m : Nat} (S : SB G H p m) (e : Ex H H2) : SB (grow G H H2) H2 p m := by
  obtain ⟨a, b, xs, ys, n, s, r⟩ := S
  have old : ∀ {c : Addr} {o : HO}, H c = some o → G c = none → LawK.grow G H H2 c = none := fun {c o} h g => by
    unfold LawK.grow
    rw [h]
    exact g
  refine ⟨a, b, xs, ys, n, ⟨fun x o h => ?_, e _ _ s.hp, e _ _ s.ha, e _ _ s.hb, old s.hp s.gp, old s.ha s.ga, old s.hb s.gb, s.ap, s.bp, s.ab⟩, r⟩
  unfold LawK.grow at h
  cases z : H x with
  | none => rw [z] at h; exact h
  | some u => rw [z] at h; exact e _ _ (s.ex _ _ h)
/-- a draw below a size -/
def spDraw : Sp := fun vs H Q _ => ∃ (p : Addr) (k : Int) (G : Hp) (m : Nat), vs = [.ref p, .int k] ∧ 0 < k ∧ k.natAbs.log2 < 9000 ∧ m < 1000000 ∧ SB G H p m ∧
  ∀ (r : Int) (H2 : Hp), 0 ≤ r → r < k → SB G H2 p (m + 1) → Q (.int r) H2
def spStart (K : PySem.W.Frag) : Sp := fun vs H Q _ => ∃ (a : Addr) (ns : List Int), vs = [.ref a] ∧ SqL K H a (ns.map V.int) ∧ ns.length ≤ 63 ∧ ∀ (p : Addr) (H2 : Hp), SB H H2 p 0 → Q (.ref p) H2
def spLaw (K : PySem.W.Frag) : Sp := fun vs H Q _ => ∃ (a : Addr) (ns : List Int), vs = [.ref a] ∧ SqL K H a (ns.map V.int) ∧ ns.length ≤ 63 ∧ ∀ H', Q (.bl true) H'
end LawK
/-! ### defs as constants of the module, where lists may be shown -/
namespace L2
open PySem PySem.Spec PyProof.Rows
structure CalG (P : Program) (w : World) (K : PySem.W.Frag) (mg : Str → Option Value) (base : Heap) (k : Nat) (x : Str) (sp : Sp) (dvs : List V) : Prop where
  is : ∃ (f : Addr) (fd : FuncData) (ps : List Str) (ds : List Value), FnG P w K mg base CX0 k f fd ps sp ∧ mg x = some (.ref f) ∧ PySem.W.keepIn K (.ref f) = true ∧ Binds K fd ps ds ∧ Vals dvs ds
section
variable {X : Cx} {k j : Nat} {x : Str} {sp : Sp} {dvs : List V} {p pos : Pos} {e : Expr} {es : List Expr} {t : TA}
theorem pe_cG (c : CalG X.prog X.w X.K X.mg X.base k x sp dvs) (g : X.A.guards = some []) (hr : Room j X.A) (hk : k ≤ j) (hg : Gl X x) (ha : PA X (e :: es) t)
    (nd : (x == ("__debug__" : Str)) = false := by decide) (he : starEach (e :: es) X.env = (false, eval e X.env) :: starEach es X.env := by rfl) (hpl : (backTo pos (starEach es X.env)).any (·.1) = false := by rfl) :
    PE X (.Call (.Name x p) (e :: es) [] pos) (tCall sp dvs E0 t) := by
  obtain ⟨f, fd, ps, ds, F, hm, kp, b, d⟩ := c.is
  exact pe_callG F g (hr.mono hk) hg hm kp b d pass0 ha nd he hpl
end
end L2
namespace L2
open PySem PySem.Spec PyProof.Rows
def rModA : R2 := fun x y H Q => ∃ i j, x = .int i ∧ y = .int j ∧ 0 < j ∧ ∀ r, 0 ≤ r → r < j → r = i % j → Q (.int r) H
theorem op_modA {X : Cx} : OpR X (binaryOp .Mod) rModA := by
  intro pins s σ H x y v u Q I rx ry h
  obtain ⟨i, j, rfl, rfl, c, q⟩ := h
  exact op_mod pins s σ H _ _ v u Q I rx ry ⟨i, j, rfl, rfl, c, q _ (Int.emod_nonneg _ (by omega)) (Int.emod_lt_of_pos _ c) rfl⟩
end L2
/-! ### f(k = v, ..) alone -/
namespace L2
open PySem PySem.Spec PyProof.Rows
structure CalKw (P : Program) (w : World) (K : PySem.W.Frag) (mg : Str → Option Value) (base : Heap) (k : Nat) (x : Str) (ks : List Str) (sp : Sp) (gV : List V → List V → List V) : Prop where
  is : ∃ (f : Addr) (fd : FuncData) (ps : List Str) (g : List Value → List Value → List Value), FnOk P w K mg base CX0 k f fd ps sp ∧ mg x = some (.ref f) ∧ PySem.W.keepIn K (.ref f) = true ∧ KBn K fd ps 0 ks g gV
def tCallKw (ks : List Str) (sp : Sp) (gV : List V → List V → List V) (tk : TA) : TE := fun σ H Q => tk σ H fun zs H2 => zs.length = ks.length ∧ sp (gV [] zs) H2 Q E0
section
variable {X : Cx} {k j : Nat} {x : Str} {ks : List Str} {sp : Sp} {gV : List V → List V → List V} {p pos : Pos} {kws : List Keyword} {tk : TA}
theorem pe_kw (c : CalKw X.prog X.w X.K X.mg X.base k x ks sp gV) (hr : Room j X.A) (hk : k ≤ j) (hg : Gl X x) (ha : PK X kws tk)
    (hall : (backToKw pos (keywordEach kws X.env)).all (·.1.isSome) = true := by rfl) (hks : (backToKw pos (keywordEach kws X.env)).filterMap (·.1) = ks := by rfl) (nd : (x == ("__debug__" : Str)) = false := by decide)
    (hpl : ((backTo pos (starEach [] X.env)).any (·.1) || (backToKw pos (keywordEach kws X.env)).any (·.1.isNone)) = false := by rfl) : PE X (.Call (.Name x p) [] kws pos) (tCallKw ks sp gV tk) := by
  obtain ⟨f, fd, ps, g, F, hm, kp, b⟩ := c.is
  refine .mk fun pins s σ H Q I h => wpAny_Call_Name_kw (ld_glob I hg hm (PySem.W.callWith_KW0 (h₀ := X.base) I.ok.mod.kin kp hall (thn (ha.run pos pins s σ H _ I h) ?_) hpl) nd)
  rintro ws s2 ⟨zs, H2, I2, rz, sz, q⟩
  refine And.intro I2.kIn ?_
  rw [hks]
  have r0 : Vals ([] : List V) ([] : List Value) := .nil
  have rr := b.rel r0 rz
  refine wpAny_call (codeAny_mono (F.run X.A X.stack s2 H2 ⟨[], ks.zip ws⟩ (g [] ws) (gV [] zs) Q E0 (hr.mono hk) I2.env0 (b.to s2 [] ws I2.kIn rfl (rz.length.symm.trans sz)) rr q) ?_)
  intro r s' hq
  match r, hq with
  | .ok (.ret u), hq => exact Inv.after I2 hq
end
end L2
/-! ### comprehensions over texts -/
namespace LawK
open PySem PySem.Spec PyProof.Rows L2 Evl
theorem el_lcS {σ : L2.St} {H : Hp} {te tl : TE} {t : TT} {z : Str} {j : Nat} {vs : List Nat} (f : Nat → Bool) (v : Nat → V) (h : Ev tl σ H (.str z)) (hz : z.cps.size ≤ 40000) (hw : ∀ x, wipe ((wipe σ vs).set j (some x)) vs = wipe σ vs)
    (ht : ∀ (i c : Nat) H1, Ex H H1 → z.cps[i]? = some c → EvT t ((wipe σ vs).set j (some (.str ⟨#[c]⟩))) H1 (f i)) (he : ∀ (i c : Nat) H1, Ex H H1 → z.cps[i]? = some c → f i = true → Ev te ((wipe σ vs).set j (some (.str ⟨#[c]⟩))) H1 (v i)) :
    EvL (tLc (iStr tl) (gName j) t te vs) σ H (given z.cps.size f v) := by
  intro H0 e Q q
  refine h H0 e _ fun H1 e1 => ⟨z, rfl, fun D hD => ?_⟩
  refine lc_it walk_str (Cw H1 f v D) ⟨hD, Ex.new hD, upd_same⟩ (fun _ _ _ _ => trivial) ?_ (fun H' p => q D H' (fresh_back e1 p.1) (e1.trans p.2.1) p.2.2)
  rintro i x H2 H' hi p ⟨rfl, c, hc, rfl⟩
  exact ⟨hw _, cw_turn p (by omega) (ht i c H1 (e.trans e1) hc) (fun hf => he i c H1 (e.trans e1) hc hf)⟩
theorem et_yes {σ : L2.St} {H : Hp} : EvT tYes σ H true := fun H1 _ _ q => q H1 (Ex.refl H1)
theorem given_all (n : Nat) (v : Nat → V) : given n (fun _ => true) v = (List.range n).map v := by
  unfold given
  rw [List.filter_eq_self.mpr (fun _ _ => rfl)]
theorem map_getD {α β : Type} (f : α → β) (d : α) : ∀ l : List α, (List.range l.length).map (fun i => f (l.getD i d)) = l.map f
  | [] => rfl
  | a :: l => by
    rw [List.length_cons, List.range_succ_eq_map, List.map_cons, List.map_map, List.map_cons, ← map_getD f d l]
    rfl
theorem getD_of {l : Array Nat} {i c : Nat} (h : l[i]? = some c) : l.toList.getD i 0 = c := by
  rw [List.getD_eq_getElem?_getD, Array.getElem?_toList, h]
  rfl
end LawK
namespace L2
open PySem PySem.Spec PyProof.Rows
theorem pe_k0 {X : Cx} {x : Str} {v : V} {pos : Pos} (hg : Gl X x) (h : ∃ u, X.mg x = some u ∧ RelV v u) (nd : (x == ("__debug__" : Str)) = false := by decide) : PE X (.Name x pos) (tC v) := by
  obtain ⟨u, hm, r⟩ := h
  exact pe_glob hg hm r nd
structure CalF (P : Program) (w : World) (K : PySem.W.Frag) (mg : Str → Option Value) (base : Heap) (k : Nat) (x : Str) (sp : Sp) (dvs : List V) : Prop where
  is : ∃ (f : Addr) (fd : FuncData) (ps : List Str) (ds : List Value), FnOk P w K mg base CX0 k f fd ps sp ∧ mg x = some (.ref f) ∧ PySem.W.keepIn K (.ref f) = true ∧ Binds K fd ps ds ∧ Vals dvs ds
section
variable {X : Cx} {k j : Nat} {x : Str} {sp : Sp} {dvs : List V} {p pos : Pos} {e : Expr} {es : List Expr} {t : TA}
theorem pe_cF (c : CalF X.prog X.w X.K X.mg X.base k x sp dvs) (hr : Room j X.A) (hk : k ≤ j) (hg : Gl X x) (ha : PA X (e :: es) t)
    (nd : (x == ("__debug__" : Str)) = false := by decide) (he : starEach (e :: es) X.env = (false, eval e X.env) :: starEach es X.env := by rfl) (hpl : (backTo pos (starEach es X.env)).any (·.1) = false := by rfl) :
    PE X (.Call (.Name x p) (e :: es) [] pos) (tCall sp dvs E0 t) := by
  obtain ⟨f, fd, ps, ds, F, hm, kp, b, d⟩ := c.is
  exact pe_call F (hr.mono hk) hg hm kp b d pass0 ha nd he hpl
end
end L2
/-! ### readings, opened one at a time -/
namespace LawK
open PySem PySem.Spec PyProof.Rows L2 Evl
section
variable {σ : L2.St} {H : Hp} {te ta tb tc : TE} {t : TT} {D : L2.Ends} {Q : VK} {r : R2} {g : TG} {tu tw : TS} {v : V} {xs : List V} {QT : Bool → Hp → Prop} {m : List V → Hp → VK → Prop} {tl : TA} {QA : List V → Hp → Prop}
theorem x_nx (h : D.nx σ H) : tNext D σ H := h
theorem x_ret (h : te σ H D.rt) : tRet te D σ H := h
theorem x_seq (h : tu { D with nx := tw D } σ H) : tSeq tu tw D σ H := h
theorem x_asg (h : te σ H fun x H1 => g x σ H1 D.nx) : tAsg te g D σ H := h
theorem x_set {i : Nat} (h : te σ H fun x H1 => D.nx (σ.set i (some x)) H1) : tAsg te (gName i) D σ H := h
theorem x_if (h : t σ H fun b H1 => if b = true then tu D σ H1 else tw D σ H1) : tIfS t tu tw D σ H := h
theorem x_cb (h : tl σ H fun vs H1 => m vs H1 Q) : tCB m tl σ H Q := h
theorem x_cons (h : te σ H fun x H1 => tl σ H1 fun ys H2 => QA (x :: ys) H2) : tCons te tl σ H QA := h
theorem x_nil (h : QA [] H) : tNil σ H QA := h
theorem x_op (h : ta σ H fun x H1 => tb σ H1 fun y H2 => r x y H2 Q) : tOp r ta tb σ H Q := h
theorem x_test (h : te σ H fun x H1 => ∃ b, x = .bl b ∧ QT b H1) : tTest te σ H QT := h
theorem x_call {sp : Sp} {dvs : List V} {E : XK} (h : tl σ H fun vs H1 => sp (vs ++ dvs) H1 Q E) : tCall sp dvs E tl σ H Q := h
theorem x_kw {ks : List Str} {sp : Sp} {gV : List V → List V → List V} (h : tl σ H fun zs H2 => zs.length = ks.length ∧ sp (gV [] zs) H2 Q E0) : tCallKw ks sp gV tl σ H Q := h
theorem x_lst (h : tl σ H fun xs H1 => xs.length ≤ sizeLine ∧ ∀ p, H1 p = none → Q (.ref p) (upd H1 p (.lst xs))) : tLst tl σ H Q := h
theorem x_not (h : t σ H fun c H1 => QT (!c) H1) : tNot t σ H QT := h
theorem x_or {u : TT} (h : t σ H fun c H1 => if c = true then QT true H1 else u σ H1 QT) : tOr t u σ H QT := h
theorem x_and {u : TT} (h : t σ H fun c H1 => if c = true then u σ H1 QT else QT false H1) : tAnd t u σ H QT := h
theorem u_v (h : Ev te σ H v) (k : ∀ H2, Ex H H2 → Q v H2) : te σ H Q := h H (Ex.refl H) Q k
theorem u_l (h : EvL te σ H xs) (k : ∀ p H2, H p = none → Ex H H2 → H2 p = some (.lst xs) → Q (.ref p) H2) : te σ H Q := h H (Ex.refl H) Q k
theorem u_t {b : Bool} (h : EvT t σ H b) (k : ∀ H2, Ex H H2 → QT b H2) : t σ H QT := h H (Ex.refl H) QT k
/-- what is pure, where G is known -/
theorem g_v {G : Hp} (x : Ex G H) (h : Ev te σ G v) (k : ∀ H2, Ex H H2 → Q v H2) : te σ H Q := h H x Q k
theorem g_t {G : Hp} {b : Bool} (x : Ex G H) (h : EvT t σ G b) (k : ∀ H2, Ex H H2 → QT b H2) : t σ H QT := h H x QT k
theorem g_l {G : Hp} (x : Ex G H) (h : EvL te σ G xs) (k : ∀ p H2, H p = none → Ex H H2 → H2 p = some (.lst xs) → Q (.ref p) H2) : te σ H Q := h H x Q k
end
end LawK
/-! ### draws in readings -/
namespace LawK
open PySem PySem.Spec PyProof.Rows L2 Evl
theorem lg_of {k : Int} {n : Nat} (h : k.natAbs < 2 ^ n) (n0 : 0 < n) (n1 : n ≤ 9000) : k.natAbs.log2 < 9000 := Nat.lt_of_lt_of_le (PySem.Flt.log2_lt_of n0 h) n1
theorem lg64 {k : Int} (h0 : 0 ≤ k) (h : k < 18446744073709551616) : k.natAbs.log2 < 9000 := by
  have e : (2 : Nat) ^ 64 = 18446744073709551616 := by decide
  exact lg_of (n := 64) (by omega) (by decide) (by decide)
theorem SB.weak {G G' H : Hp} {p : Addr} {m : Nat} (e : Ex G G') (S : SB G' H p m) : SB G H p m := by
  obtain ⟨a, b, xs, ys, n, s, r⟩ := S
  exact ⟨a, b, xs, ys, n, ⟨e.trans s.ex, s.hp, s.ha, s.hb, fresh_back e s.gp, fresh_back e s.ga, fresh_back e s.gb, s.ap, s.bp, s.ab⟩, r⟩
section
variable {K : PySem.W.Frag} {σ : L2.St} {G H : Hp} {te tl ta tb tc : TE} {D : L2.Ends} {Q : VK} {p : Addr} {m i j : Nat} {k : Int} {E : XK} {tz : TS} {xs : List V} {r r' : R2} {x y z : V}
theorem u_draw (S : SB G H p m) (hi : σ[i]? = some (some (.ref p))) (he : Ev te σ G (.int k)) (k0 : 0 < k) (kb : k.natAbs.log2 < 9000) (hm : m < 1000000) (q : ∀ r H2, 0 ≤ r → r < k → SB G H2 p (m + 1) → Q (.int r) H2) :
    tCall spDraw [] E (tCons (tVar i) (tCons te tNil)) σ H Q :=
  ⟨.ref p, hi, he H S.ex _ fun H2 e2 => ⟨p, k, G, m, rfl, k0, kb, hm, S.ext e2, q⟩⟩
theorem q_draw (S : SB G H p m) (hi : σ[i]? = some (some (.ref p))) (he : Ev te σ G (.int k)) (k0 : 0 < k) (kb : k.natAbs.log2 < 9000) (hm : m < 1000000)
    (q : ∀ r H2, 0 ≤ r → r < k → SB G H2 p (m + 1) → tz D (σ.set j (some (.int r))) H2) : tSeq (tAsg (tCall spDraw [] E (tCons (tVar i) (tCons te tNil))) (gName j)) tz D σ H := u_draw S hi he k0 kb hm q
/-- [..][draw] -/
theorem u_pick {n : Nat} (S : SB G H p m) (hl : EvL tl σ G xs) (hn : xs.length = n) (hi : σ[i]? = some (some (.ref p))) (he : Ev te σ G (.int (n : Int))) (k0 : 0 < n) (kb : n < 1000) (hm : m < 1000000)
    (q : ∀ (c : Nat) (v : V) (H2 : Hp), xs[c]? = some v → SB G H2 p (m + 1) → Q v H2) : tOp (rIxL K) tl (tCall spDraw [] E (tCons (tVar i) (tCons te tNil))) σ H Q := by
  refine hl H S.ex _ fun l H1 hl e1 h1 => ?_
  have S1 := S.grow e1
  refine u_draw S1 hi (he.mono (grow_ex S.ex)) (by omega) (lg64 (by omega) (by omega)) hm fun r H2 r0 r1 S2 => ?_
  have hL : H2 l = some (.lst xs) := S2.ex _ _ (by rw [grow_new hl]; exact h1)
  have hr : r.toNat < xs.length := by omega
  exact ⟨l, xs, r, xs[r.toNat], rfl, rfl, sq_of hL, at_of (Int.toNat_of_nonneg r0).symm (List.getElem?_eq_getElem hr), q r.toNat _ H2 (List.getElem?_eq_getElem hr) (S2.weak (grow_ex S.ex))⟩
theorem q_pick {n : Nat} (S : SB G H p m) (hl : EvL tl σ G xs) (hn : xs.length = n) (hi : σ[i]? = some (some (.ref p))) (he : Ev te σ G (.int (n : Int))) (k0 : 0 < n) (kb : n < 1000) (hm : m < 1000000)
    (q : ∀ (c : Nat) (v : V) (H2 : Hp), xs[c]? = some v → SB G H2 p (m + 1) → tz D (σ.set j (some v)) H2) : tSeq (tAsg (tOp (rIxL K) tl (tCall spDraw [] E (tCons (tVar i) (tCons te tNil)))) (gName j)) tz D σ H := u_pick S hl hn hi he k0 kb hm q
theorem ev_chain {k l : Bool} (ha : Ev ta σ H x) (hb : Ev tb σ H y) (hr : RV r x y H (.bl k)) (hc : k = true → Ev tc σ H z) (hr' : k = true → RV r' y z H (.bl l)) : Ev (tChain r r' ta tb tc) σ H (.bl (k && l)) := by
  intro H1 e1 Q q
  refine ha H1 e1 _ fun H2 e2 => hb H2 (e1.trans e2) _ fun H3 e3 => hr H3 ((e1.trans e2).trans e3) _ fun H4 e4 => ⟨k, rfl, ?_⟩
  have e14 := (e2.trans e3).trans e4
  cases k with
  | true => exact iteT (hc rfl H4 (e1.trans e14) _ fun H5 e5 => hr' rfl H5 ((e1.trans e14).trans e5) Q fun H6 e6 => q H6 ((e14.trans e5).trans e6))
  | false => exact iteF (q H4 e14)
theorem ev_slS {tl th : TO} {w : Str} {lo hi : Option Int} (h : Ev te σ H (.str w)) (h1 : EvO tl σ H lo) (h2 : EvO th σ H hi) (hz : w.length ≤ 100000) : Ev (tSl rSlS te tl th) σ H (.str (cutS w lo hi)) := fun H1 e Q q =>
  h H1 e _ fun H2 e2 => h1 H2 (e.trans e2) _ fun H3 e3 => h2 H3 ((e.trans e2).trans e3) _ fun H4 e4 => ⟨w, rfl, sz_of hz, q H4 ((e2.trans e3).trans e4)⟩
def rAddT : R2 := fun x y H Q => ∃ i j, x = .str i ∧ y = .str j ∧ i.length + j.length ≤ sizeLine ∧ Q (.str (i ++ j)) H
theorem rv_addS {a b : Str} (h : a.length + b.length ≤ 100000) : RV rAddT (.str a) (.str b) H (.str (a ++ b)) := fun H1 _ _ q => ⟨a, b, rfl, rfl, sz_of h, q H1 (Ex.refl H1)⟩
theorem rv_notB {a b : Bool} : RV rNotB (.bl a) (.bl b) H (.bl (!decide (a = b))) := fun H1 _ _ q => ⟨a, b, rfl, rfl, q H1 (Ex.refl H1)⟩
theorem ev_reprL {ds : List PyData} (h : EvL te σ H xs) (hd : ∀ H1, Ex H H1 → DpAll K H1 xs ds) (h1 : PyData.showable (.list ds) = true) (h2 : PyData.hasDict (.list ds) = false) (h3 : PyData.depth (.list ds) ≤ 60) (h4 : (PyData.shown (.list ds)).length ≤ sizeLine) :
    Ev (tCB (rRepr K) (tCons te tNil)) σ H (.str (PyData.shown (.list ds))) := fun H1 e Q q =>
  h H1 e _ fun l H2 _ e2 hl => ⟨.ref l, .list ds, rfl, .lst (sq_of hl) (hd H2 (e.trans e2)), ⟨l, rfl⟩, h1, h2, h3, h4, q H2 e2⟩
end
end LawK
namespace L2
open PySem PySem.Spec PyProof.Rows
theorem Fun.kbn {K : PySem.W.Frag} {x qual : Str} {st : Stmt} {f : Addr} {fd : FuncData} {ps ks : List Str} (g : List Value → List Value) (gV : List V → List V) (F : Fun K x qual st f fd)
    (h : ∀ (kV doc pm : Value) (an : Option Addr) (cv ct : Value) (ws : List Value), ws.length = ks.length → bindArgs (PySem.W.fnOf x qual (defArgs st) (defBody st) (defScope st) .none kV doc pm an cv ct) ⟨[], ks.zip ws⟩ = pure (ps.zip (g ws)))
    (rel : ∀ zs ws, Vals zs ws → Vals (gV zs) (g ws)) : KBn K fd ps 0 ks (fun _ ws => g ws) (fun _ zs => gV zs) := by
  obtain ⟨oc, od, kV, doc, pm, an, cv, ct, sl, rfl, lk, cd⟩ := F.ex
  refine ⟨fun s us ws _ l1 l2 => ?_, fun _ r => rel _ _ r⟩
  cases us with
  | nil => exact .of_eq (h kV doc pm an cv ct ws l2)
  | cons u r => cases l1
end L2
set_option Elab.async false
set_option linter.all false
set_option maxRecDepth 100000
set_option maxHeartbeats 2000000
/-! ### own operators of instances, at the library's level -/
namespace OwnR
open PySem PySem.W PySem.Calls PyProof.Rows
section
variable {prog : Program} {w : World} {A : Around} {E : Value → Shared → Prop} {s : Shared} {K : Frag} {x C f : Addr} {ox : Obj} {od : Option Obj} {nm : String} {b : Value}
/-- what the int on the right must be known for -/
structure IntOn (nm : String) : Prop where
  fl : fillsNumberSlot (.type "int") nm = pure true
  rl : ∃ z, typeLookup (.type "int") (dunderR nm) = pure z
theorem on_add : IntOn "add" := ⟨PySem.F.fills_int_add, ⟨some (.builtin "int.__radd__"), by rw [typeLookup_type, builtinLookup_eq_fast]; kernel_rfl⟩⟩
theorem on_sub : IntOn "sub" := ⟨PySem.F.fills_int_sub, ⟨some (.builtin "int.__rsub__"), by rw [typeLookup_type, builtinLookup_eq_fast]; kernel_rfl⟩⟩
theorem on_mul : IntOn "mul" := ⟨PySem.F.fills_int_mul, ⟨some (.builtin "int.__rmul__"), by rw [typeLookup_type, builtinLookup_eq_fast]; kernel_rfl⟩⟩
theorem py_slot {M : Model} {h : Heap} (X : K.In h) (hs : findIn K (.ref C) (PySem.dunder nm) = some (some (.ref f))) (hr : findIn K (.ref C) (dunderR nm) = some none) : Looks M h (numberSlotInPython (.ref C) nm) true := by
  intro A Q E s k q
  unfold numberSlotInPython
  refine wpAny_bind (looks_findIn X hs A _ E s k ?_)
  refine wpAny_bind (wpAny_pure ?_)
  refine wpAny_bind (looks_findIn X hr A _ E s k ?_)
  refine wpAny_bind (wpAny_pure ?_)
  exact wpAny_pure q
theorem no_slot {M : Model} {h : Heap} : Looks M h (numberSlotInPython (.type "int") nm) false := Looks.of_pure rfl
/-- x op i, i an int -/
theorem bin_int {op : Operator} {i : Int} {u : Tok} {Q : Value → Shared → Prop} (on : IntOn op.info.2) (X : K.In s.heap) (I : InstAt s.heap x ox C od) (hc : selfFirst K C = true) (hs : findIn K (.ref C) (PySem.dunder op.info.2) = some (some (.ref f)))
    (hr : findIn K (.ref C) (dunderR op.info.2) = some none) (hf : isFn K (.ref f) = true) (sb : subIn K (.type "int") (.ref C) = some false) (h : wpAny (model prog w) A (call (.ref f) [.ref x, .int i u]) (PySem.W.CmpBack Q) E s) :
    wpAny (model prog w) A (binaryOp op (.ref x) (.int i u)) Q E s := by
  obtain ⟨cd, hcd, hm⟩ := any_some hc
  obtain ⟨rest, hm⟩ : ∃ rest, cd.mro = .ref C :: rest := by
    cases q : cd.mro with
    | nil => rw [q] at hm; cases hm
    | cons a r => rw [q] at hm; exact ⟨r, by rw [List.head?_cons] at hm; cases (beq_iff_eq.mp hm); rfl⟩
  obtain ⟨z, rl⟩ := on.rl
  unfold binaryOp
  generalize op.info = inf at *
  obtain ⟨sym, nm⟩ := inf
  refine wpAny_holding (wpAny_bind ?_)
  unfold binaryOp1
  have ht : (Value.ref C == Value.type "int") = false := rfl
  refine wpAny_bind (I.type.here (wpAny_bind (wpAny_typeOf (show s.TypeIs (.int i u) "int" from rfl) (wpAny_bind ((fills_K X hcd hm hs).here ?_)))))
  rw [ht]
  simp only [Bool.false_eq_true, if_false]
  refine wpAny_bind (wpAny_of_eq on.fl ?_)
  simp only [Bool.and_self, if_true]
  refine wpAny_bind ((looks_subIn X sb).here ?_)
  simp only [Bool.false_eq_true, if_false, Bool.not_false]
  refine wpAny_bind ((py_slot X hs hr).here ?_)
  simp only [if_true]
  refine wpAny_bind (no_slot.here ?_)
  simp only [Bool.not_false, if_true]
  refine wpAny_bind (wpAny_of_eq rl ?_)
  refine wpAny_bind (m := tryMethod (.ref x) _ _) ?_
  unfold tryMethod
  refine wpAny_bind (special_fn X I hs (beq_iff_eq.mp hf) (wpAny_mono h (fun v s' hv => ?_) fun _ _ e => e))
  cases v <;> first | exact hv.elim | exact wpAny_pure (wpAny_pure (wpAny_pure hv))
/-! != by an own __eq__ -/
theorem ne_body {Q : Fin → Shared → Prop} (hu : A.units < cLine) (X : K.In s.heap) (I : InstAt s.heap x ox C od) (hs : findIn K (.ref C) "__eq__" = some (some (.ref f))) (hf : isFn K (.ref f) = true)
    (h : wpAny (model prog w) A (call (.ref f) [.ref x, b]) (fun v s' => ∃ k, v = .bool k ∧ Q (.done (.ret (.bool (!k)))) s') E s) : wpAny (model prog w) A (Builtin.«object.__ne__» ⟨[.ref x, b], []⟩) Q E s := by
  unfold Builtin.«object.__ne__»
  repeat (first
    | with_reducible refine wpAny_cRoomFor hu ?_
    | (refine wpAny_bind (m := callSpecialIfBound? (.ref x) (Str.ofString "__eq__") [b]) (ifBound_K X I hs hf (wpAny_mono h (fun r s' z => ?_) fun _ _ e => e)))
    | wp_step)
  obtain ⟨k, rfl, q⟩ := z
  repeat (first | exact q | exact wpAny_pure q | exact wpAny_truthy_bool q | (refine wpAny_bind (m := truthy (.bool _)) (wpAny_truthy_bool ?_)) | wp_step)
theorem bound_ne {args : List Value} {Q : Option Value → Shared → Prop} {M : Model} (X : K.In s.heap) (I : InstAt s.heap x ox C od) (hs : findIn K (.ref C) "__ne__" = some (some (.builtin "object.__ne__")))
    (h : wpAny M A (call (.builtin "object.__ne__") (.ref x :: args)) (fun v => Q (some v)) E s) : wpAny M A (callSpecialIfBound? (.ref x) "__ne__" args) Q E s := by
  have go : wpAny M A (call (.builtin "object.__ne__") ([.ref x] ++ args) >>= fun v => pure (some v)) Q E s := wpAny_bind (wpAny_mono h (fun v s' z => wpAny_pure z) fun _ _ z => z)
  simp only [callSpecialIfBound?, bindSpecialIfBound?]
  refine wpAny_holding (wpAny_bind (wpAny_bind (wpAny_bind (I.type.here ((looks_findIn X hs).here (wpAny_bind (wpAny_askSetting (wpAny_ite ?_))))))))
  split
  · exact wpAny_bind (wpAny_of_eq (F.cmp_object.ne.bind _) (wpAny_pure (by exact go)))
  · exact wpAny_tryCatch (wpAny_bind (wpAny_of_eq (F.cmp_object.ne.bind _) (wpAny_pure (by exact go))))
theorem ne_own {tb : Value} {Q : Value → Shared → Prop} (hu : A.units + 1 < cLine) (X : K.In s.heap) (I : InstAt s.heap x ox C od) (hm : mroIn K C (.type "object") = some true) (hn : findIn K (.ref C) "__ne__" = some (some (.builtin "object.__ne__")))
    (hs : findIn K (.ref C) "__eq__" = some (some (.ref f))) (hf : isFn K (.ref f) = true) (hb : Looks (model prog w) s.heap (typeOf b) tb) (nf : notFirst K C tb = true)
    (h : wpAny (model prog w) A.in1 (call (.ref f) [.ref x, b]) (fun v s' => ∃ k, v = .bool k ∧ Q (.bool (!k)) s') E s) : wpAny (model prog w) A (richCompare .NotEq (.ref x) b) Q E s := by
  have one : wpAny (model prog w) A (tryCompare (.ref x) "__ne__" b) (fun r s' => ∃ v, r = some v ∧ Q v s') E s := by
    unfold tryCompare
    refine wpAny_bind (bound_ne X I hn (wpAny_call (codeAny_call_builtin F.cmp_object.ne.plain F.cmpEntry_ne (check_slot F.cmpKind_ne F.cmpSplit_ne (I.type.andThen (looks_mroIn X hm)) (F.cmpArgs_ne _ _) ?_))))
    refine ne_body (A := A.in1) hu X I hs hf (wpAny_mono h (fun v s' z => ?_) fun _ _ e => e)
    obtain ⟨k, rfl, q⟩ := z
    first
      | exact ⟨k, rfl, wpAny_pure ⟨_, rfl, q⟩⟩
      | exact ⟨k, rfl, ⟨_, rfl, q⟩⟩
  unfold richCompare
  simp only [oneThing_ref]
  refine wpAny_holding (wpAny_bind (wpAny_cRoomFor (Nat.lt_of_succ_lt hu) ?_))
  refine wpAny_bind (I.type.here (wpAny_bind (hb.here ?_)))
  have tail : wpAny (model prog w) A (tryCompare (.ref x) (cmpInfo .NotEq).2.1 b) (fun r s' => ∃ v, r = some v ∧ Q v s') E s := one
  split
  · rename_i q
    have e : subIn K tb (.ref C) = some false := by
      cases Bool.or_eq_true_iff.mp nf with
      | inl e => rw [beq_iff_eq.mp e] at q; simp at q
      | inr e => exact beq_iff_eq.mp e
    refine wpAny_bind ((looks_subIn X e).here ?_)
    simp only [Bool.false_eq_true, if_false]
    refine wpAny_bind (wpAny_mono tail (fun r s' z => ?_) fun _ _ e => e)
    obtain ⟨v, rfl, hq⟩ := z
    exact wpAny_pure hq
  · refine wpAny_bind (wpAny_pure ?_)
    simp only [Bool.false_eq_true, if_false]
    refine wpAny_bind (wpAny_mono tail (fun r s' z => ?_) fun _ _ e => e)
    obtain ⟨v, rfl, hq⟩ := z
    exact wpAny_pure hq
/-! an int == x -/
theorem int_no_ins (i : Int) (u : Tok) (l : Addr) (dx : Addr) :
    Meets (Builtin.«int.__eq__» ⟨[.int i u, .ref l], []⟩) (fun _ R s => s.heap.get? l = some (instObj C dx) ∧ R (.ok (.ret .notImplemented)) s) :=
  .of_wp fun prog w A R s h => by
    obtain ⟨hp, g, d, tk, os⟩ := s
    obtain ⟨hl, h⟩ := h
    unfold instObj at hl
    wp_walk using AutoSeq1.wpAny_loadPart' hl, wpAny_load hl
    exact ⟨_, rfl, h⟩
theorem eq_int_own {i : Int} {u : Tok} {dx : Addr} {Q : Value → Shared → Prop} (hu : A.units < cLine) (X : K.In s.heap) (hx : s.heap.get? x = some (instObj C dx)) (I : InstAt s.heap x ox C od) (hs : findIn K (.ref C) "__eq__" = some (some (.ref f))) (hf : isFn K (.ref f) = true)
    (sb : subIn K (.ref C) (.type "int") = some false) (h : wpAny (model prog w) A (call (.ref f) [.ref x, .int i u]) (PySem.W.CmpBack Q) E s) : wpAny (model prog w) A (richCompare .Eq (.int i u) (.ref x)) Q E s := by
  have two : wpAny (model prog w) A (tryCompare (.ref x) "__eq__" (.int i u)) (fun r s' => ∃ v, r = some v ∧ Q v s') E s := by
    unfold tryCompare
    refine wpAny_bind (ifBound_K X I hs hf (wpAny_mono h (fun v s' hv => ?_) fun _ _ e => e))
    cases v <;> first | exact hv.elim | exact wpAny_pure ⟨_, rfl, hv⟩
  have one : wpAny (model prog w) A (tryCompare (.int i u) "__eq__" (.ref x)) (fun r s' => r = none ∧ s' = s) E s :=
    wpAny_tryCompare_declines (typeIs_int s i u) F.slot_int_eq (call_meets F.slot_int_eq (typeIs_int s i u) F.entry_int_eq (F.args_int_eq_2 _ _) (int_no_ins i u x dx) ⟨hx, rfl, rfl, rfl⟩)
  unfold richCompare
  simp only [oneThing_ref]
  refine wpAny_holding (wpAny_bind (wpAny_cRoomFor hu ?_))
  refine wpAny_bind (wpAny_typeOf (typeIs_int s i u) (wpAny_bind (I.type.here ?_)))
  have ne : (Value.type "int" != Value.ref C) = true := rfl
  rw [if_pos ne]
  refine wpAny_bind ((looks_subIn X sb).here ?_)
  simp only [Bool.false_eq_true, if_false, Bool.not_false, if_true]
  refine wpAny_bind (m := tryCompare (.int i u) _ (.ref x)) (wpAny_mono one (fun r s1 z => ?_) fun _ _ e => e)
  obtain ⟨rfl, rfl⟩ := z
  refine wpAny_bind (m := tryCompare (.ref x) _ (.int i u)) (wpAny_mono two (fun r s1 z => ?_) fun _ _ e => e)
  obtain ⟨v, rfl, q⟩ := z
  exact wpAny_pure q
end
end OwnR
/-! ### the same over the layer -/
namespace L2
open PySem PySem.Spec PyProof.Rows
theorem passX {X : Cx} {P : Program} {w : World} : Passes (L2.CX P w) X E0 := fun _ _ _ _ _ _ _ h => by
  obtain ⟨_, _, _, _, _, _, _, _, _, _, _, _, h⟩ := h
  exact h.elim
theorem FnOk.up {P : Program} {w : World} {K : PySem.W.Frag} {mg : Str → Option Value} {base : Heap} {CX : CXT} {k : Nat} {f : Addr} {fd : FuncData} {ps : List Str} {sp : Sp} (F : FnOk P w K mg base CX0 k f fd ps sp) : FnOk P w K mg base CX k f fd ps sp :=
  ⟨F.len, fun A o s H ar us vs Q E hr e b r h => codeAny_mono (F.run A o s H ar us vs Q E hr e b r h) fun r s' z => by
    cases r with
    | ok fl => cases fl <;> exact z
    | error er => exact False.elim z⟩
/-- an instance of the class at C -/
def InsAt (C : Addr) (H : Hp) (x : V) : Prop := ∃ a dx fs, x = .ref a ∧ H a = some (.ins C dx fs)
section
variable {X : Cx} {CX : CXT} {C f : Addr} {fd : FuncData} {ps : List Str} {sp : Sp} {E : XK} {k : Nat}
theorem ins_at {pins : List (Addr × Obj)} {σ : St} {H : Hp} {s : Shared} {a dx : Addr} {fs : List (Str × V)} (I : Inv X pins σ H s) (h : H a = some (.ins C dx fs)) :
    s.heap.get? a = some (PySem.W.instObj C dx) ∧ ∃ ox od, PySem.W.InstAt s.heap a ox C (some od) := by
  have o : ObjOk X.prog X.w H s.heap a (.ins C dx fs) := I.hok a _ h
  obtain ⟨_, _, _, e, _⟩ := o
  obtain ⟨mA, O, _⟩ := ins_get I.hok h
  obtain ⟨od, J, _⟩ := O.look
  exact ⟨e, _, _, J⟩
def rOwnAr (C : Addr) (sp : Sp) (E : XK) : R2 := fun x y H Q => InsAt C H x ∧ ((∃ i, y = .int i) ∨ InsAt C H y) ∧ sp [x, y] H Q E
theorem op_ownAr {op : Operator} (on : OwnR.IntOn op.info.2) (hc : PySem.W.selfFirst X.K C = true) (hs : PySem.W.findIn X.K (.ref C) (PySem.dunder op.info.2) = some (some (.ref f))) (nr : PySem.W.findIn X.K (.ref C) (dunderR op.info.2) = some none)
    (hf : PySem.W.isFn X.K (.ref f) = true) (sb : PySem.W.subIn X.K (.type "int") (.ref C) = some false) (F : FnOk X.prog X.w X.K X.mg X.base CX k f fd ps sp) (hr : Room k X.A) (hb : Binds X.K fd ps []) (hx : Passes CX X E) : OpR X (binaryOp op) (rOwnAr C sp E) := by
  intro pins s σ H x y v u Q I rx ry h
  obtain ⟨⟨a, dx, fs, rfl, ha⟩, hy, q⟩ := h
  cases (show v = Value.ref a from rx)
  obtain ⟨_, ox, od, J⟩ := ins_at I ha
  obtain ⟨m, hF⟩ := I.fr
  cases hy with
  | inl hy =>
    obtain ⟨i, rfl⟩ := hy
    obtain ⟨t, rfl⟩ := ry
    refine OwnR.bin_int on I.kIn J hc hs nr hf sb (wpAny_mono (run_fn (us := [.ref a, .int i t]) (vs := [.ref a, .int i]) F hr hb .nil hx I (.cons rfl (.cons ⟨t, rfl⟩ .nil)) q) (fun z s' hz => ?_) fun _ _ e => e)
    obtain ⟨z', H', I', rz, qz⟩ := hz
    exact SlX.cmpback rz ⟨z', H', I', rz, qz⟩
  | inr hy =>
    obtain ⟨b, dy, gs, rfl, hb2⟩ := hy
    cases (show u = Value.ref b from ry)
    obtain ⟨_, oy, oe, J2⟩ := ins_at I hb2
    refine PySem.W.binop_K hF I.ok.mod.kin J J2.type hc hs hf (wpAny_mono (run_fn (us := [.ref a, .ref b]) (vs := [.ref a, .ref b]) F hr hb .nil hx I (.cons rfl (.cons rfl .nil)) q) (fun z s' hz => ?_) fun _ _ e => e)
    obtain ⟨z', H', I', rz, qz⟩ := hz
    exact SlX.cmpback rz ⟨z', H', I', rz, qz⟩
def rOwnNeg (C : Addr) (sp : Sp) (E : XK) : V → Hp → VK → Prop := fun x H Q => InsAt C H x ∧ sp [x] H Q E
theorem un_ownNeg (hs : PySem.W.findIn X.K (.ref C) "__neg__" = some (some (.ref f))) (hf : PySem.W.isFn X.K (.ref f) = true) (F : FnOk X.prog X.w X.K X.mg X.base CX k f fd ps sp) (hr : Room k X.A) (hb : Binds X.K fd ps []) (hx : Passes CX X E) :
    UnR X (unaryOp .USub) (rOwnNeg C sp E) := by
  intro pins s σ H x v Q I rx h
  obtain ⟨⟨a, dx, fs, rfl, ha⟩, q⟩ := h
  cases (show v = Value.ref a from rx)
  obtain ⟨_, ox, od, J⟩ := ins_at I ha
  unfold unaryOp
  refine wpAny_holding ?_
  dsimp only
  rw [if_neg (by decide)]
  refine wpAny_bind (PySem.W.special_fn I.kIn J hs (beq_iff_eq.mp hf) (wpAny_mono (run_fn (us := [.ref a]) (vs := [.ref a]) F hr hb .nil hx I (.cons rfl .nil) q) (fun z s' hz => ?_) fun _ _ e => e))
  exact wpAny_pure hz
/-- == and != -/
def rOwnEq (K : PySem.W.Frag) (C : Addr) (sp : Sp) (E : XK) : R2 := fun x y H Q => InsAt C H x ∧ (∃ t, TyX K H y t ∧ PySem.W.notFirst K C t = true) ∧ sp [x, y] H Q E
theorem op_ownEq (hs : PySem.W.findIn X.K (.ref C) "__eq__" = some (some (.ref f))) (hf : PySem.W.isFn X.K (.ref f) = true) (F : FnOk X.prog X.w X.K X.mg X.base CX k f fd ps sp) (hr : Room k X.A) (hb : Binds X.K fd ps []) (hx : Passes CX X E) :
    OpR X (compareOp .Eq) (rOwnEq X.K C sp E) := by
  intro pins s σ H x y v u Q I rx ry h
  obtain ⟨⟨a, dx, fs, rfl, ha⟩, ⟨t, ty, nf⟩, q⟩ := h
  cases (show v = Value.ref a from rx)
  obtain ⟨_, ox, od, J⟩ := ins_at I ha
  obtain ⟨m, hF⟩ := I.fr
  obtain ⟨PP, Z, pz, _⟩ := kit_of I ry ty
  show wpAny (model X.prog X.w) X.A (richCompare .Eq (.ref a) u) (EP X pins σ Q) X.xe s
  refine PySem.W.cmp_K (op := .Eq) hr.units0 hF I.ok.mod.kin J (Z.ty _ _ I.kIn pz) nf hs hf (wpAny_mono (run_fn (us := [.ref a, u]) (vs := [.ref a, y]) F hr hb .nil hx I (.cons rfl (.cons ry .nil)) q) (fun z s' hz => ?_) fun _ _ e => e)
  obtain ⟨z', H', I', rz, qz⟩ := hz
  exact SlX.cmpback rz ⟨z', H', I', rz, qz⟩
def rOwnNe (K : PySem.W.Frag) (C : Addr) (sp : Sp) (E : XK) : R2 := fun x y H Q => InsAt C H x ∧ (∃ t, TyX K H y t ∧ PySem.W.notFirst K C t = true) ∧ sp [x, y] H (fun z H' => ∃ b, z = .bl b ∧ Q (.bl (!b)) H') E
theorem op_ownNe (hm : PySem.W.mroIn X.K C (.type "object") = some true) (hn : PySem.W.findIn X.K (.ref C) "__ne__" = some (some (.builtin "object.__ne__"))) (hs : PySem.W.findIn X.K (.ref C) "__eq__" = some (some (.ref f)))
    (hf : PySem.W.isFn X.K (.ref f) = true) (F : FnOk X.prog X.w X.K X.mg X.base CX k f fd ps sp) (hr : Room (k + 1) X.A) (hb : Binds X.K fd ps []) (hx : Passes CX X E) : OpR X (compareOp .NotEq) (rOwnNe X.K C sp E) := by
  intro pins s σ H x y v u Q I rx ry h
  obtain ⟨⟨a, dx, fs, rfl, ha⟩, ⟨t, ty, nf⟩, q⟩ := h
  cases (show v = Value.ref a from rx)
  obtain ⟨_, ox, od, J⟩ := ins_at I ha
  obtain ⟨PP, Z, pz, _⟩ := kit_of I ry ty
  show wpAny (model X.prog X.w) X.A (richCompare .NotEq (.ref a) u) (EP X pins σ Q) X.xe s
  have rr : Vals ([.ref a, y] : List V) [.ref a, u] := .cons rfl (.cons ry .nil)
  refine OwnR.ne_own (by have := hr.un; omega) I.kIn J hm hn hs hf (Z.ty _ _ I.kIn pz) nf ?_
  have sz : ([.ref a, u] ++ [] : List Value).length = ps.length := by rw [← F.len _ _ _ _ q]; rfl
  refine wpAny_call (codeAny_mono (F.run X.A.in1 X.stack s H ⟨[.ref a, u], []⟩ ([.ref a, u] ++ []) ([.ref a, y]) _ E hr.in1 I.env0.in1 (hb s [.ref a, u] I.kIn sz) rr q) ?_)
  intro r s' hq
  match r, hq with
  | .error er, hq => exact hx pins σ H s er s' I hq
  | .ok (.ret w), hq =>
    obtain ⟨z, H', I', rz, b, rfl, qz⟩ := Inv.after I hq
    cases (show w = Value.bool b from rz)
    exact ⟨b, rfl, .bl (!b), H', I', rfl, qz⟩
def rIntEq (C : Addr) (sp : Sp) (E : XK) : R2 := fun x y H Q => (∃ i, x = .int i) ∧ InsAt C H y ∧ sp [y, x] H Q E
theorem op_intEq (hs : PySem.W.findIn X.K (.ref C) "__eq__" = some (some (.ref f))) (hf : PySem.W.isFn X.K (.ref f) = true) (sb : PySem.W.subIn X.K (.ref C) (.type "int") = some false)
    (F : FnOk X.prog X.w X.K X.mg X.base CX k f fd ps sp) (hr : Room k X.A) (hb : Binds X.K fd ps []) (hx : Passes CX X E) : OpR X (compareOp .Eq) (rIntEq C sp E) := by
  intro pins s σ H x y v u Q I rx ry h
  obtain ⟨⟨i, rfl⟩, ⟨a, dx, fs, rfl, ha⟩, q⟩ := h
  cases (show u = Value.ref a from ry)
  obtain ⟨t, rfl⟩ := rx
  obtain ⟨ho, ox, od, J⟩ := ins_at I ha
  show wpAny (model X.prog X.w) X.A (richCompare .Eq (.int i t) (.ref a)) (EP X pins σ Q) X.xe s
  refine OwnR.eq_int_own hr.units0 I.kIn ho J hs hf sb (wpAny_mono (run_fn (us := [.ref a, .int i t]) (vs := [.ref a, .int i]) F hr hb .nil hx I (.cons rfl (.cons ⟨t, rfl⟩ .nil)) q) (fun z s' hz => ?_) fun _ _ e => e)
  obtain ⟨z', H', I', rz, qz⟩ := hz
  exact SlX.cmpback rz ⟨z', H', I', rz, qz⟩
/-- // by any divisor that is not 0 -/
def CDivZ (_ j : Int) : Prop := j ≠ 0 ∧ j.natAbs.log2 < 9000
theorem op_fdivZ : OpR X (binaryOp .FloorDiv) (rI CDivZ fun i j => .int (i.fdiv j)) := opI fun _ _ _ _ _ _ _ hc q => floordiv_int hc.1 q (.inl (PyProof.noPylong_of_log2 hc.2))
end
end L2
set_option Elab.async false
set_option linter.all false
set_option maxRecDepth 100000
set_option maxHeartbeats 2000000
/-! ### defs, methods, properties and makers that may raise, as constants of the module -/
namespace L2
open PySem PySem.Spec PyProof.Rows
def E00 : St → XK := fun _ => E0
theorem passN {X : Cx} {P : Program} {w : World} : ∀ σ, PassesAt (L2.CX P w) X σ (E00 σ) := fun _ _ _ _ _ _ _ h => by
  obtain ⟨_, _, _, _, _, _, _, _, _, _, _, _, h⟩ := h
  exact h.elim
/-- a def's exceptions are the caller's -/
theorem passE {X : Cx} {E : XK} (tk : Takes X (fun cls d _ H => E cls d H)) : ∀ σ, PassesAt (L2.CX X.prog X.w) X σ ((fun _ => E : St → XK) σ) := fun _ _ _ _ e s' I c => tk e s' (XE.of_call I (fun _ _ _ h => h) c)
structure Kn (P : Program) (w : World) (K : PySem.W.Frag) (mg : Str → Option Value) (base : Heap) (k : Nat) (f : Addr) (sp : Sp) (dvs : List V) : Prop where
  is : ∃ (fd : FuncData) (ps : List Str) (ds : List Value), FnOk P w K mg base (L2.CX P w) k f fd ps sp ∧ Binds K fd ps ds ∧ Vals dvs ds
structure CalX (P : Program) (w : World) (K : PySem.W.Frag) (mg : Str → Option Value) (base : Heap) (k : Nat) (x : Str) (sp : Sp) (dvs : List V) : Prop where
  is : ∃ f, Kn P w K mg base k f sp dvs ∧ mg x = some (.ref f) ∧ PySem.W.keepIn K (.ref f) = true
structure MetX (P : Program) (w : World) (K : PySem.W.Frag) (mg : Str → Option Value) (base : Heap) (k : Nat) (C : Addr) (m : Str) (sp : Sp) (dvs : List V) : Prop where
  is : ∃ f, Kn P w K mg base k f sp dvs ∧ Cls K C ∧ Meth K C m f
structure MakX (P : Program) (w : World) (K : PySem.W.Frag) (mg : Str → Option Value) (base : Heap) (k : Nat) (x : Str) (C : Addr) (sp : Sp) (dvs : List V) : Prop where
  is : ∃ f, Kn P w K mg base k f sp dvs ∧ Mk K C f ∧ mg x = some (.ref C)
structure ProX (P : Program) (w : World) (K : PySem.W.Frag) (mg : Str → Option Value) (base : Heap) (k : Nat) (C : Addr) (m : Str) (sp : Sp) : Prop where
  is : ∃ p g, Kn P w K mg base k g sp [] ∧ Cls K C ∧ PropOf K C m p g
/-- an operator's def -/
structure DunX (P : Program) (w : World) (K : PySem.W.Frag) (mg : Str → Option Value) (base : Heap) (k : Nat) (C : Addr) (m : Str) (sp : Sp) : Prop where
  is : ∃ f, Kn P w K mg base k f sp [] ∧ PySem.W.findIn K (.ref C) m = some (some (.ref f)) ∧ PySem.W.isFn K (.ref f) = true
def tMethSD (C : Addr) (m : Str) (sp : Sp) (dvs : List V) (E : St → XK) (ta : TE) (t : TA) : TE := fun σ H Q => ta σ H fun x H1 => ∃ a dx fs, x = .ref a ∧ H1 a = some (.ins C dx fs) ∧ fs.lookup m = none ∧ t σ H1 fun vs H2 => sp (x :: (vs ++ dvs)) H2 Q (E σ)
def tMakeSD (C : Addr) (sp : Sp) (dvs : List V) (E : St → XK) (t : TA) : TE := fun σ H Q => t σ H fun vs H1 => ∀ x dx, H1 x = none → H1 dx = none → dx ≠ x → sp (.ref x :: (vs ++ dvs)) (upd (upd H1 dx (.own x)) x (.ins C dx [])) (fun v H2 => v = .non ∧ Q (.ref x) H2) (E σ)
section
variable {X : Cx} {k j : Nat} {C f : Addr} {x m : Str} {sp : Sp} {dvs : List V} {E : St → XK} {p pos apos : Pos} {e o : Expr} {es : List Expr} {ta : TE} {t : TA}
theorem go_kn {pins : List (Addr × Obj)} {σ : St} {H : Hp} {s : Shared} {Q : VK} {us : List Value} {vs : List V} (c : Kn X.prog X.w X.K X.mg X.base k f sp dvs) (hr : Room k X.A) (hx : PassesAt (L2.CX X.prog X.w) X σ (E σ))
    (I : Inv X pins σ H s) (r : Vals vs us) (h : sp (vs ++ dvs) H Q (E σ)) : wpAny (model X.prog X.w) X.A (call (.ref f) us) (EP X pins σ Q) X.xe s := by
  obtain ⟨fd, ps, ds, F, b, d⟩ := c.is
  exact run_fnSD F hr b d hx I r h
theorem pe_cX (c : CalX X.prog X.w X.K X.mg X.base k x sp dvs) (hx : ∀ σ, PassesAt (L2.CX X.prog X.w) X σ (E σ)) (hr : Room j X.A) (hk : k ≤ j) (hg : Gl X x) (ha : PA X (e :: es) t)
    (nd : (x == ("__debug__" : Str)) = false := by decide) (he : starEach (e :: es) X.env = (false, eval e X.env) :: starEach es X.env := by rfl) (hpl : (backTo pos (starEach es X.env)).any (·.1) = false := by rfl) :
    PE X (.Call (.Name x p) (e :: es) [] pos) (tCallSD sp dvs E t) := by
  obtain ⟨f, ⟨fd, ps, ds, F, b, d⟩, hm, kp⟩ := c.is
  exact pe_callSD F (hr.mono hk) hg hm kp b d hx ha nd he hpl
theorem pe_mtX {pl : Sem Bool} (c : MetX X.prog X.w X.K X.mg X.base k C m sp dvs) (hx : ∀ σ, PassesAt (L2.CX X.prog X.w) X σ (E σ)) (hr : Room j X.A) (hk : k ≤ j) (ho : PE X o ta) (ha : PA X (e :: es) t)
    (he : starEach (e :: es) X.env = (false, eval e X.env) :: starEach es X.env := by rfl) (hpl : (backTo pos (starEach es X.env)).any (·.1) = false := by rfl)
    (ht : eval (.Call (.Attribute o m apos) (e :: es) [] pos) X.env = (do let ov ← eval o X.env; standAt apos.atName; let (f, first) ← holding [ov] (getMethod ov m pl); callWith pos f first (backTo pos (starEach (e :: es) X.env)) (backToKw pos (keywordEach [] X.env))) := by rfl) :
    PE X (.Call (.Attribute o m apos) (e :: es) [] pos) (tMethSD C m sp dvs E ta t) := by
  obtain ⟨f, kn, cl, me⟩ := c.is
  refine .mk fun pins s σ H Q I h => PySem.W.methodCall_KW (pl := pl) (thn (ho.run pins s σ H _ I h) ?_) ht
  rintro u s1 ⟨x, H1, I1, rx, a, dx, fs, rfl, ea, l, q⟩
  cases (show u = Value.ref a from rx)
  refine getmeth_ok I1 ea cl me l (PySem.W.callWith_K (first := [.ref a]) (h₀ := X.base) I.ok.mod.kin me.kp (thn (ha.run pos pins s1 σ H1 _ I1 q) ?_) he hpl)
  rintro us s2 ⟨vs, H2, I2, r, q2⟩
  exact And.intro I2.kIn (go_kn (us := .ref a :: us) (vs := .ref a :: vs) kn (hr.mono hk) (hx σ) I2 (.cons rfl r) q2)
theorem pe_mtX0 {pl : Sem Bool} (c : MetX X.prog X.w X.K X.mg X.base k C m sp dvs) (hx : ∀ σ, PassesAt (L2.CX X.prog X.w) X σ (E σ)) (hr : Room j X.A) (hk : k ≤ j) (ho : PE X o ta)
    (ht : eval (.Call (.Attribute o m apos) [] [] pos) X.env = (do let ov ← eval o X.env; standAt apos.atName; let (f, first) ← holding [ov] (getMethod ov m pl); callWith pos f first (backTo pos (starEach [] X.env)) (backToKw pos (keywordEach [] X.env))) := by rfl) :
    PE X (.Call (.Attribute o m apos) [] [] pos) (tMethSD C m sp dvs E ta tNil) := by
  obtain ⟨f, kn, cl, me⟩ := c.is
  refine .mk fun pins s σ H Q I h => PySem.W.methodCall_KW (pl := pl) (thn (ho.run pins s σ H _ I h) ?_) ht
  rintro u s1 ⟨x, H1, I1, rx, a, dx, fs, rfl, ea, l, q⟩
  cases (show u = Value.ref a from rx)
  exact getmeth_ok I1 ea cl me l (PySem.W.callWith_K0 (first := [.ref a]) I1.kIn me.kp (go_kn (us := [.ref a]) (vs := [.ref a]) kn (hr.mono hk) (hx σ) I1 (.cons rfl .nil) q))
theorem pe_prX (c : ProX X.prog X.w X.K X.mg X.base k C m sp) (hr : Room j X.A) (hk : k + 1 ≤ j) (ho : PE X o ta) (hab : attributeBase o m X.env (eval o X.env) = eval o X.env := by rfl) : PE X (.Attribute o m pos) (tProp C sp [] E0 ta) := by
  obtain ⟨p, g, ⟨fd, ps, ds, F, b, d⟩, cl, pr⟩ := c.is
  exact pe_prop ho cl pr F (hr.mono hk) b d passX hab
theorem pe_mkX (c : MakX X.prog X.w X.K X.mg X.base k x C sp dvs) (hx : ∀ σ, PassesAt (L2.CX X.prog X.w) X σ (E σ)) (hr : Room j X.A) (hk : k + 1 ≤ j) (hg : Gl X x) (ha : PA X (e :: es) t)
    (nd : (x == ("__debug__" : Str)) = false := by decide) (he : starEach (e :: es) X.env = (false, eval e X.env) :: starEach es X.env := by rfl) (hpl : (backTo pos (starEach es X.env)).any (·.1) = false := by rfl) :
    PE X (.Call (.Name x p) (e :: es) [] pos) (tMakeSD C sp dvs E t) := by
  obtain ⟨f, ⟨fd, ps, ds, F, b, d⟩, M, hm⟩ := c.is
  refine .mk fun pins s σ H Q I h => wpAny_Call_Name_kw (ld_glob I hg hm (PySem.W.callWith_K (h₀ := X.base) I.ok.mod.kin M.kp (thn (ha.run pos pins s σ H _ I h) ?_) he hpl) nd)
  rintro us s1 ⟨vs, H1, I1, r, q⟩
  refine And.intro I1.kIn ?_
  have hq := q (s1.heap.objs.size + 1) s1.heap.objs.size (I1.hok.fresh (Nat.le_succ _)) (I1.hok.fresh (Nat.le_refl _)) (Nat.ne_of_lt (Nat.lt_succ_self _))
  have I2 := Inv.made (C := C) I1
  have rr : Vals (V.ref (s1.heap.objs.size + 1) :: (vs ++ dvs)) (Value.ref (s1.heap.objs.size + 1) :: (us ++ ds)) := .cons rfl (r.append d)
  have sz : (Value.ref (s1.heap.objs.size + 1) :: us ++ ds).length = ps.length := by
    have z := rr.length
    rw [F.len _ _ _ _ hq] at z
    exact z.symm
  refine wpAny_call (make_map (f := f) I1.kIn M.makes M.init (beq_iff_eq.mp M.fn) (codeAny_mono (F.run _ X.stack _ _ ⟨Value.ref (s1.heap.objs.size + 1) :: us, []⟩ (Value.ref (s1.heap.objs.size + 1) :: (us ++ ds)) _ _ (E σ) ((hr.mono hk).make C us []) (I2.env0.make C us []) (b _ (Value.ref (s1.heap.objs.size + 1) :: us) I2.kIn sz) rr hq) ?_))
  intro r2 s' z
  match r2, z with
  | .error er, z => exact hx σ pins _ _ er s' I2 z
  | .ok (.ret u), z =>
    obtain ⟨v, H', I3, rv, ev, q3⟩ := Inv.after I2 z
    subst ev
    exact ⟨rv, ⟨V.ref (s1.heap.objs.size + 1), H', I3, rfl, q3⟩⟩
end
end L2
namespace L2
open PySem PySem.Spec PyProof.Rows
/-- X(), X an own exception class without an __init__ of its own -/
theorem pmk_own0 {X : Cx} {C : Addr} {bmB : List Value} {B newId initId : String} {x : Str} {p pos : Pos} (F : ExcBaseFacts B newId initId bmB) (q : PySem.W.excIn X.K C bmB newId = true) (gC : X.mg x = some (.ref C))
    (kC : PySem.W.keepIn X.K (.ref C) = true) (r : Raises X (.ref C)) (hg : Gl X x) (nd : (x == ("__debug__" : Str)) = false := by decide) : PMk X (.Call (.Name x p) [] [] pos) (fun _ H Q => Q (.ref C) none H) := by
  intro pins s σ H Q I h
  refine wpAny_Call_Name_kw (ld_glob I hg gC (PySem.W.callWith_K0 I.kIn kC ?_) nd)
  show wpAny _ _ (call (.ref C) []) _ _ _
  obtain ⟨bm, N, nm, qn, bs, hdct, sn, sub, ab, col, dd, k0, k1, k2, k3, k5, mN, hC, hN, hni, T⟩ := exc_obj I.kIn q
  exact wpAny_call_exc_subT F T hC hN hni (fun h' e hm => mk_of I hm r h (I.hok.gone hm.new)) (Nat.zero_le _)
end L2
set_option Elab.async false
set_option linter.all false
set_option maxRecDepth 100000
set_option maxHeartbeats 2000000
/-! ### exact quotients: the numbers behind the objects -/
namespace RatK
open PySem PySem.Spec PyProof.Rows L2 Evl
def sgn (b : Int) (g : Nat) : Int := if b < 0 then -(g : Int) else (g : Int)
theorem fdiv_neg {k : Int} {g : Nat} (hg : 0 < g) : ((g : Int) * k).fdiv (-(g : Int)) = -k := by
  have e : (g : Int) * k = (-(g : Int)) * (-k) := by rw [Int.neg_mul_neg]
  rw [e, Int.mul_fdiv_cancel_left _ (by omega)]
theorem gcd_pos {t b : Int} (hb : b ≠ 0) : 0 < Nat.gcd t.natAbs b.natAbs := Nat.gcd_pos_of_pos_right _ (by omega)
theorem num_is {t b : Int} (hb : b ≠ 0) : t.fdiv (sgn b (Nat.gcd t.natAbs b.natAbs)) = (Rat.divInt t b).num := by
  have gp := gcd_pos (t := t) hb
  rw [Rat.num_divInt]
  have eg : b.gcd t = Nat.gcd t.natAbs b.natAbs := Nat.gcd_comm _ _
  rw [eg]
  have dv : ((Nat.gcd t.natAbs b.natAbs : Nat) : Int) ∣ t := Int.ofNat_dvd_left.mpr (Nat.gcd_dvd_left _ _)
  obtain ⟨k, hk⟩ := dv
  generalize Nat.gcd t.natAbs b.natAbs = g at *
  unfold sgn
  by_cases h : b < 0
  · rw [if_pos h, hk, fdiv_neg gp, Int.sign_eq_neg_one_of_neg h]
    have e : -1 * ((g : Int) * k) = (g : Int) * (-k) := by rw [Int.mul_neg]; omega
    rw [e, Int.mul_ediv_cancel_left _ (by omega)]
  · rw [if_neg h, hk, Int.mul_fdiv_cancel_left _ (by omega), Int.sign_eq_one_of_pos (by omega), Int.one_mul, Int.mul_ediv_cancel_left _ (by omega)]
theorem den_is {t b : Int} (hb : b ≠ 0) : b.fdiv (sgn b (Nat.gcd t.natAbs b.natAbs)) = ((Rat.divInt t b).den : Int) := by
  have gp := gcd_pos (t := t) hb
  rw [Rat.den_divInt, if_neg hb]
  have eg : b.gcd t = Nat.gcd t.natAbs b.natAbs := Nat.gcd_comm _ _
  rw [eg]
  obtain ⟨m, hm⟩ := (Nat.gcd_dvd_right t.natAbs b.natAbs)
  generalize Nat.gcd t.natAbs b.natAbs = g at *
  rw [hm, Nat.mul_div_cancel_left _ gp]
  unfold sgn
  by_cases h : b < 0
  · have e : b = (g : Int) * (-(m : Int)) := by
      have : (b.natAbs : Int) = (g : Int) * (m : Int) := by rw [hm]; exact Int.natCast_mul _ _
      rw [Int.mul_neg]
      omega
    rw [if_pos h, e, fdiv_neg gp]
    omega
  · have e : b = (g : Int) * (m : Int) := by
      have : (b.natAbs : Int) = (g : Int) * (m : Int) := by rw [hm]; exact Int.natCast_mul _ _
      omega
    rw [if_neg h, e, Int.mul_fdiv_cancel_left _ (by omega)]
theorem sgn_ne {t b : Int} (hb : b ≠ 0) : sgn b (Nat.gcd t.natAbs b.natAbs) ≠ 0 := by
  have gp := gcd_pos (t := t) hb
  unfold sgn
  split <;> omega
theorem sgn_le {t b : Int} (hb : b ≠ 0) : (sgn b (Nat.gcd t.natAbs b.natAbs)).natAbs ≤ b.natAbs := by
  have h := Nat.le_of_dvd (by omega) (Nat.gcd_dvd_right t.natAbs b.natAbs)
  unfold sgn
  split <;> omega
theorem num_le {t b : Int} (hb : b ≠ 0) : (Rat.divInt t b).num.natAbs ≤ t.natAbs := by
  rw [← num_is hb]
  have gp := gcd_pos (t := t) hb
  obtain ⟨k, hk⟩ := (show ((Nat.gcd t.natAbs b.natAbs : Nat) : Int) ∣ t from Int.ofNat_dvd_left.mpr (Nat.gcd_dvd_left _ _))
  generalize Nat.gcd t.natAbs b.natAbs = g at *
  have e : t.natAbs = g * k.natAbs := by rw [hk, Int.natAbs_mul]; rfl
  have le : k.natAbs ≤ g * k.natAbs := Nat.le_mul_of_pos_left _ gp
  unfold sgn
  by_cases h : b < 0
  · rw [if_pos h]
    conv => lhs; rw [hk, fdiv_neg gp]
    omega
  · rw [if_neg h]
    conv => lhs; rw [hk, Int.mul_fdiv_cancel_left _ (by omega)]
    omega
theorem den_le {t b : Int} (hb : b ≠ 0) : (Rat.divInt t b).den ≤ b.natAbs := by
  rw [Rat.den_divInt, if_neg hb]
  exact Nat.div_le_self _ _
/-- how great -/
def Sz (n : Nat) (q : Rat) : Prop := q.num.natAbs < 2 ^ n ∧ q.den < 2 ^ n
theorem Sz.mono {n m : Nat} {q : Rat} (h : Sz n q) (l : n ≤ m) : Sz m q := ⟨Nat.lt_of_lt_of_le h.1 (Nat.pow_le_pow_right (by decide) l), Nat.lt_of_lt_of_le h.2 (Nat.pow_le_pow_right (by decide) l)⟩
theorem sz_div {n : Nat} {t b : Int} (hb : b ≠ 0) (h1 : t.natAbs < 2 ^ n) (h2 : b.natAbs < 2 ^ n) : Sz n (Rat.divInt t b) := ⟨Nat.lt_of_le_of_lt (num_le hb) h1, Nat.lt_of_le_of_lt (den_le hb) h2⟩
/-! ### the objects -/
def ratF (q : Rat) : List (Str × V) := putF "_bottom" (.int (q.den : Int)) (putF "_top" (.int q.num) [])
theorem tb : ¬ (("_top" : Str) = "_bottom") := by decide +kernel
theorem ratF_eq (q : Rat) : ratF q = ([("_top", V.int q.num), ("_bottom", V.int (q.den : Int))] : List (Str × V)) := by
  unfold ratF
  show (if ("_top" : Str) = "_bottom" then _ else (("_top" : Str), V.int q.num) :: putF "_bottom" (V.int (q.den : Int)) []) = _
  rw [if_neg tb]
  rfl
theorem ratF_top (q : Rat) : (ratF q).lookup ("_top" : Str) = some (.int q.num) := by
  unfold ratF
  rw [lookup_putF, if_neg tb, lookup_putF, if_pos rfl]
theorem ratF_bot (q : Rat) : (ratF q).lookup ("_bottom" : Str) = some (.int (q.den : Int)) := by
  unfold ratF
  rw [lookup_putF, if_pos rfl]
theorem ratF_no (q : Rat) {m : Str} (h1 : ¬ m = "_bottom") (h2 : ¬ m = "_top") : (ratF q).lookup m = none := by
  unfold ratF
  rw [lookup_putF, if_neg h1, lookup_putF, if_neg h2]
  rfl
def RatAt (C : Addr) (H : Hp) (a : Addr) (q : Rat) : Prop := ∃ dx, H a = some (.ins C dx (ratF q))
theorem RatAt.ex {C a : Addr} {H H2 : Hp} {q : Rat} (h : RatAt C H a q) (e : Ex H H2) : RatAt C H2 a q := h.elim fun dx h => ⟨dx, e _ _ h⟩
def NumV (C : Addr) (H : Hp) (v : V) (q : Rat) : Prop := (∃ i : Int, v = .int i ∧ q = (i : Rat)) ∨ (∃ a, v = .ref a ∧ RatAt C H a q)
theorem NumV.ex {C : Addr} {H H2 : Hp} {v : V} {q : Rat} (h : NumV C H v q) (e : Ex H H2) : NumV C H2 v q := h.imp id fun ⟨a, h1, h2⟩ => ⟨a, h1, h2.ex e⟩
def NoInt (K : PySem.W.Frag) (t : Value) : Prop := PySem.W.kitOne K t (.type "int") = some false ∨ (PySem.W.kitOne K t (.type "int") = some true ∧ PySem.W.kitOne K t (.type "bool") = some true)
def NoNum (K : PySem.W.Frag) (C : Addr) (H : Hp) (v : V) : Prop := ∃ t, TyX K H v t ∧ NoInt K t ∧ PySem.W.kitOne K t (.ref C) = some false
/-- what isinstance asks of the class -/
structure RIs (K : PySem.W.Frag) (C : Addr) : Prop where
  cl : Cls K C
  ca : PySem.W.findIn K (.ref C) "__class__" = some (some (.builtin "object.__class__"))
  cn : PySem.W.specialIn K (.builtin "object.__class__") "__get__" = some (some (.builtin "getset_descriptor.__get__"))
  ct : PySem.W.takesIn K (.builtin "object.__class__") = some true
  cm : PySem.W.mroIn K C (.type "object") = some true
  ki : PySem.W.kitOne K (.ref C) (.type "int") = some false
  kc : PySem.W.kitOne K (.ref C) (.ref C) = some true
  ti : PySem.W.kitOne K (.type "int") (.ref C) = some false
theorem RatAt.ty {K : PySem.W.Frag} {C a : Addr} {H : Hp} {q : Rat} (h : RatAt C H a q) (r : RIs K C) : TyX K H (.ref a) (.ref C) := h.elim fun dx h => .base (.ins h r.cl r.ca r.cn r.ct r.cm)
end RatK
namespace RatK
open PySem PySem.Spec PyProof.Rows L2 Evl
def spTop (C : Addr) : Sp := fun vs H Q _ => ∃ a q, vs = [.ref a] ∧ RatAt C H a q ∧ Q (.int q.num) H
def spBot (C : Addr) : Sp := fun vs H Q _ => ∃ a q, vs = [.ref a] ∧ RatAt C H a q ∧ Q (.int (q.den : Int)) H
def spInit (C CZ : Addr) : Sp := fun vs H Q E => ∃ (x dx : Addr) (t b : Int), vs = [.ref x, .int t, .int b] ∧ H x = some (.ins C dx []) ∧ t.natAbs < 2 ^ 8900 ∧ b.natAbs < 2 ^ 8900 ∧
  (b = 0 → E (.ref CZ) none H) ∧ (b ≠ 0 → Q .non (upd H x (.ins C dx (ratF (Rat.divInt t b)))))
def spIsInt (K : PySem.W.Frag) : Sp := fun vs H Q _ => ∃ v, vs = [v] ∧ ((∃ i : Int, v = .int i ∧ Q (.bl true) H) ∨ (∃ t, TyX K H v t ∧ NoInt K t ∧ Q (.bl false) H))
/-- as_ratio: the number's Ratio, or BadNumber -/
def spAsR (K : PySem.W.Frag) (C CB : Addr) : Sp := fun vs H Q E => ∃ v, vs = [v] ∧ ((∃ q, NumV C H v q ∧ Sz 8900 q ∧ ∀ p H2, Ex H H2 → RatAt C H2 p q → Q (.ref p) H2) ∨
  (NoNum K C H v ∧ ∀ d, H d = none → E (.ref CB) (some d) (upd H d (.xd [("value", v)]))))
/-- self op number: a new Ratio -/
def spBin (C : Addr) (g : Rat → Rat → Rat) : Sp := fun vs H Q _ => ∃ x y q1 q2, vs = [.ref x, y] ∧ RatAt C H x q1 ∧ NumV C H y q2 ∧ Sz 4000 q1 ∧ Sz 4000 q2 ∧ ∀ p H2, Ex H H2 → RatAt C H2 p (g q1 q2) → Q (.ref p) H2
def spUn (C : Addr) (g : Rat → Rat) : Sp := fun vs H Q _ => ∃ x q1, vs = [.ref x] ∧ RatAt C H x q1 ∧ Sz 4000 q1 ∧ ∀ p H2, Ex H H2 → RatAt C H2 p (g q1) → Q (.ref p) H2
def spOver (C CZ : Addr) : Sp := fun vs H Q E => ∃ x y q1 q2, vs = [.ref x, y] ∧ RatAt C H x q1 ∧ NumV C H y q2 ∧ Sz 4000 q1 ∧ Sz 4000 q2 ∧ (q2 = 0 → ∀ H2, Ex H H2 → E (.ref CZ) none H2) ∧ (q2 ≠ 0 → ∀ p H2, Ex H H2 → RatAt C H2 p (q1 / q2) → Q (.ref p) H2)
def spLess (C : Addr) : Sp := fun vs H Q _ => ∃ x y q1 q2, vs = [.ref x, y] ∧ RatAt C H x q1 ∧ NumV C H y q2 ∧ Sz 4000 q1 ∧ Sz 4000 q2 ∧ ∀ H2, Ex H H2 → Q (.bl (decide (q1 < q2))) H2
def spEq (K : PySem.W.Frag) (C : Addr) : Sp := fun vs H Q _ => ∃ x y q1, vs = [.ref x, y] ∧ RatAt C H x q1 ∧ ((∃ q2, NumV C H y q2 ∧ Q (.bl (decide (q1 = q2))) H) ∨ (NoNum K C H y ∧ Q (.bl false) H))
section
variable {K : PySem.W.Frag} {C CZ CB a x y : Addr} {σ : L2.St} {H : Hp} {ta tb te : TE} {t b : Int} {q q1 q2 : Rat} {Q : VK} {E : L2.St → XK} {dx : Addr} {fs : List (Str × V)} {f : Str} {v : V}
theorem made {p : Addr} (nx : H p = none) (nd : H dx = none) (ne : dx ≠ p) : Ex H (upd (upd (upd H dx (.own p)) p (.ins C dx [])) p (.ins C dx (ratF q))) ∧ RatAt C (upd (upd (upd H dx (.own p)) p (.ins C dx [])) p (.ins C dx (ratF q))) p q := by
  refine ⟨fun z o h => ?_, dx, upd_same⟩
  rw [upd_ne (ne_of_none h nx), upd_ne (ne_of_none h nx), upd_ne (ne_of_none h nd)]
  exact h
theorem half {p : Addr} (nx : H p = none) (nd : H dx = none) : Ex H (upd (upd H dx (.own p)) p (.ins C dx [])) := fun z o h => by
  rw [upd_ne (ne_of_none h nx), upd_ne (ne_of_none h nd)]
  exact h
theorem u_new (ha : Ev ta σ H (.int t)) (hb : Ev tb σ H (.int b)) (h1 : t.natAbs < 2 ^ 8900) (h2 : b.natAbs < 2 ^ 8900) (nb : b ≠ 0) (k : ∀ p H2, Ex H H2 → RatAt C H2 p (Rat.divInt t b) → Q (.ref p) H2) :
    tMakeSD C (spInit C CZ) [] E (tCons ta (tCons tb tNil)) σ H Q := ha H (Ex.refl H) _ fun H1 e1 => hb H1 e1 _ fun H2 e2 => fun p dx nx nd ne =>
  ⟨p, dx, t, b, rfl, upd_same, h1, h2, fun z => (nb z).elim, fun _ => ⟨rfl, k p _ ((e1.trans e2).trans (made nx nd ne).1) (made nx nd ne).2⟩⟩
theorem u_new0 (ha : Ev ta σ H (.int t)) (hb : Ev tb σ H (.int b)) (h1 : t.natAbs < 2 ^ 8900) (h2 : b.natAbs < 2 ^ 8900) (nb : b ≠ 0 → ∀ p H2, Ex H H2 → RatAt C H2 p (Rat.divInt t b) → Q (.ref p) H2) (z : b = 0 → ∀ H2, Ex H H2 → E σ (.ref CZ) none H2) :
    tMakeSD C (spInit C CZ) [] E (tCons ta (tCons tb tNil)) σ H Q := ha H (Ex.refl H) _ fun H1 e1 => hb H1 e1 _ fun H2 e2 => fun p dx nx nd ne =>
  ⟨p, dx, t, b, rfl, upd_same, h1, h2, fun z0 => z z0 _ ((e1.trans e2).trans (half nx nd)), fun n0 => ⟨rfl, nb n0 p _ ((e1.trans e2).trans (made nx nd ne).1) (made nx nd ne).2⟩⟩
theorem u_new1 (ha : Ev ta σ H (.int t)) (h1 : t.natAbs < 2 ^ 8900) (k : ∀ p H2, Ex H H2 → RatAt C H2 p (Rat.divInt t 1) → Q (.ref p) H2) : tMakeSD C (spInit C CZ) [.int 1] E (tCons ta tNil) σ H Q :=
  ha H (Ex.refl H) _ fun H1 e1 => fun p dx nx nd ne => ⟨p, dx, t, 1, rfl, upd_same, h1, (by decide +kernel), (fun z => absurd z (by decide)), fun _ => ⟨rfl, k p _ (e1.trans (made nx nd ne).1) (made nx nd ne).2⟩⟩
theorem ev_fld (h : Ev ta σ H (.ref a)) (ho : H a = some (.ins C dx fs)) (c : Cls K C) (n : NoAttr K C f) (l : fs.lookup f = some v) : Ev (tFld K ta f) σ H v := fun H1 e Q q =>
  h H1 e _ fun H2 e2 => ⟨a, C, dx, fs, v, rfl, e2 _ _ (e _ _ ho), c, n, l, q H2 e2⟩
theorem ev_top (h : Ev ta σ H (.ref a)) (r : RatAt C H a q) : Ev (tProp C (spTop C) [] E0 ta) σ H (.int q.num) := fun H1 e Q k => h H1 e _ fun H2 e2 => (r.ex (e.trans e2)).elim fun dx hd => ⟨a, dx, _, rfl, hd, a, q, rfl, ⟨dx, hd⟩, k H2 e2⟩
theorem ev_bot (h : Ev ta σ H (.ref a)) (r : RatAt C H a q) : Ev (tProp C (spBot C) [] E0 ta) σ H (.int (q.den : Int)) := fun H1 e Q k => h H1 e _ fun H2 e2 => (r.ex (e.trans e2)).elim fun dx hd => ⟨a, dx, _, rfl, hd, a, q, rfl, ⟨dx, hd⟩, k H2 e2⟩
theorem rv_mulW {i j : Int} (h : CMulW i j) : RV (rI CMulW fun i j => .int (i * j)) (.int i) (.int j) H (.int (i * j)) := rv_I h
theorem sz_mul {i j : Int} (h1 : i.natAbs < 2 ^ 4000) (h2 : j.natAbs < 2 ^ 4000) : CMulW i j := wide_mul h1 h2 (by decide) (by decide) (by decide)
theorem lt_mul {i j : Int} (h1 : i.natAbs < 2 ^ 4000) (h2 : j.natAbs < 2 ^ 4000) : (i * j).natAbs < 2 ^ 8000 := wide_lt h1 h2
theorem p81 : (2 : Nat) ^ 8000 + 2 ^ 8000 ≤ 2 ^ 8900 := by
  have e : (2 : Nat) ^ 8000 + 2 ^ 8000 = 2 ^ 8001 := by rw [← Nat.two_mul, ← Nat.pow_succ']
  rw [e]
  exact Nat.pow_le_pow_right (by decide) (by decide)
theorem lt_add {i j : Int} (h1 : i.natAbs < 2 ^ 8000) (h2 : j.natAbs < 2 ^ 8000) : (i + j).natAbs < 2 ^ 8900 := by
  have h := p81
  generalize (2 : Nat) ^ 8000 = M at *
  generalize (2 : Nat) ^ 8900 = N at *
  omega
theorem lt_sub {i j : Int} (h1 : i.natAbs < 2 ^ 8000) (h2 : j.natAbs < 2 ^ 8000) : (i - j).natAbs < 2 ^ 8900 := by
  have h := p81
  generalize (2 : Nat) ^ 8000 = M at *
  generalize (2 : Nat) ^ 8900 = N at *
  omega
theorem lt_up {i : Int} (h1 : i.natAbs < 2 ^ 8000) : i.natAbs < 2 ^ 8900 := Nat.lt_of_lt_of_le h1 (Nat.pow_le_pow_right (by decide) (by decide))
theorem den_nz (q : Rat) : (q.den : Int) ≠ 0 := by have := q.den_nz; omega
theorem den_abs (q : Rat) {n : Nat} (h : q.den < n) : ((q.den : Int)).natAbs < n := by omega
theorem divInt_nd (q : Rat) : Rat.divInt q.num q.den = q := Rat.num_divInt_den q
theorem add_is (p q : Rat) : Rat.divInt (p.num * q.den + q.num * p.den) (p.den * q.den) = p + q := by
  conv => rhs; rw [← divInt_nd p, ← divInt_nd q]
  rw [Rat.divInt_add_divInt _ _ (den_nz p) (den_nz q)]
theorem sub_is (p q : Rat) : Rat.divInt (p.num * q.den - q.num * p.den) (p.den * q.den) = p - q := by
  conv => rhs; rw [← divInt_nd p, ← divInt_nd q]
  rw [Rat.divInt_sub_divInt _ _ (den_nz p) (den_nz q)]
theorem mul_is (p q : Rat) : Rat.divInt (p.num * q.num) (p.den * q.den) = p * q := by
  conv => rhs; rw [← divInt_nd p, ← divInt_nd q]
  rw [Rat.divInt_mul_divInt]
theorem neg_is (p : Rat) : Rat.divInt (-p.num) p.den = -p := by
  conv => rhs; rw [← divInt_nd p]
  rw [Rat.neg_divInt]
theorem one_is (i : Int) : Rat.divInt i 1 = (i : Rat) := (Rat.mk_eq_divInt (num := i) (den := 1) (nz := by decide) (c := Nat.coprime_one_right _)).symm
theorem div_is (p q : Rat) : Rat.divInt (p.num * q.den) (p.den * q.num) = p / q := by
  rw [Rat.div_def]
  conv => rhs; rw [← divInt_nd p, ← divInt_nd q]
  rw [Rat.inv_divInt, Rat.divInt_mul_divInt]
end
end RatK
/-! ### lists or tuples of numbers -/
namespace RatK
open PySem PySem.Spec PyProof.Rows L2 Evl
def iSeq (K : PySem.W.Frag) (te : TE) : TI := fun σ H R => iList K te σ H R ∨ iTup K te σ H R
theorem pi_seq {X : Cx} {tg e : Expr} {te : TE} (he : PE X e te) : PI X tg e (iSeq X.K te) := .mk fun pins s σ H R I h => h.elim ((pi_list he).run pins s σ H R I) ((pi_tup he).run pins s σ H R I)
def Sq (K : PySem.W.Frag) (H : Hp) (a : Addr) (xs : List V) : Prop := SqL K H a xs ∨ SqT K H a xs
theorem Sq.ex {K : PySem.W.Frag} {H H2 : Hp} {a : Addr} {xs : List V} (h : Sq K H a xs) (e : Ex H H2) : Sq K H2 a xs := h.imp (ex_l e) (ex_t e)
section
variable {K : PySem.W.Frag} {C : Addr} {σ : L2.St} {H H2 : Hp} {tl : TE} {D : L2.Ends} {tu tz : TS} {a : Addr} {xs : List V} {j : Nat} {v : V}
theorem s_forS (h : Ev tl σ H (.ref a)) (hx : Sq K H a xs) (Pv : Nat → L2.St → Hp → Prop) (h0 : ∀ H1, Ex H H1 → Pv 0 σ H1) (hl : ∀ i σ' H', i ≤ xs.length → Pv i σ' H' → Ex H H')
    (hs : ∀ i x σ' H', xs[i]? = some x → Pv i σ' H' → tu { D with nx := Pv (i + 1), ct := Pv (i + 1), bk := D.nx } (σ'.set j (some x)) H') (hd : ∀ σ' H', Pv xs.length σ' H' → D.nx σ' H') : tFor (iSeq K tl) (gName j) tu D σ H :=
  hx.elim (fun hx => Or.inl (h H (Ex.refl H) _ fun H1 e => ⟨a, rfl, ⟨xs, ex_l e hx⟩, for_list Pv (h0 H1 e) (fun i σ' H' z p => ex_l (hl i σ' H' z p) hx) hs hd⟩))
    (fun hx => Or.inr (h H (Ex.refl H) _ fun H1 e => ⟨a, rfl, ⟨xs, ex_t e hx⟩, for_tup Pv (h0 H1 e) (fun i σ' H' z p => ex_t (hl i σ' H' z p) hx) hs hd⟩))
theorem q_forS (h : Ev tl σ H (.ref a)) (hx : Sq K H a xs) (Pv : Nat → L2.St → Hp → Prop) (h0 : ∀ H1, Ex H H1 → Pv 0 σ H1) (hl : ∀ i σ' H', i ≤ xs.length → Pv i σ' H' → Ex H H')
    (hs : ∀ i x σ' H', xs[i]? = some x → Pv i σ' H' → tu { D with nx := Pv (i + 1), ct := Pv (i + 1), bk := tz D } (σ'.set j (some x)) H') (hd : ∀ σ' H', Pv xs.length σ' H' → tz D σ' H') : tSeq (tFor (iSeq K tl) (gName j) tu) tz D σ H :=
  s_forS (D := { D with nx := tz D }) h hx Pv h0 hl hs hd
theorem rv_ixS (h : Sq K H a xs) (ha : xs[0]? = some v) : RV (rIx K) (.ref a) (.int 0) H v := fun H1 e _ q =>
  h.elim (fun h => Or.inl ⟨a, xs, 0, v, rfl, rfl, ex_l e h, atI_nat (j := 0) ha, q H1 (Ex.refl H1)⟩) (fun h => Or.inr (Or.inl ⟨a, xs, 0, v, rfl, rfl, ex_t e h, atI_nat (j := 0) ha, q H1 (Ex.refl H1)⟩))
/-- v is a list or tuple of the numbers qs -/
def SeqN (K : PySem.W.Frag) (C : Addr) (H : Hp) (v : V) (qs : List Rat) : Prop := ∃ a xs, v = .ref a ∧ Sq K H a xs ∧ xs.length = qs.length ∧ ∀ (i : Nat) x q, xs[i]? = some x → qs[i]? = some q → NumV C H x q
def sumR (l : List Rat) : Rat := l.foldl (fun a b => a + b) 0
def minR (l : List Rat) : Rat := l.foldl (fun a b => if b < a then b else a) (l.headD 0)
def maxR (l : List Rat) : Rat := l.foldl (fun a b => if a < b then b else a) (l.headD 0)
theorem take_one {α : Type} {l : List α} {i : Nat} {x : α} (h : l[i]? = some x) : l.take (i + 1) = l.take i ++ [x] := by
  rw [List.take_add_one, h]
  rfl
def spTotal (K : PySem.W.Frag) (C : Addr) : Sp := fun vs H Q _ => ∃ v qs, vs = [v] ∧ SeqN K C H v qs ∧ (∀ q ∈ qs, Sz 4000 q) ∧ (∀ i, Sz 4000 (sumR (qs.take i))) ∧ ∀ p H2, Ex H H2 → RatAt C H2 p (sumR qs) → Q (.ref p) H2
def spPick (K : PySem.W.Frag) (C : Addr) (g : List Rat → Rat) : Sp := fun vs H Q _ => ∃ v qs, vs = [v] ∧ SeqN K C H v qs ∧ qs ≠ [] ∧ (∀ q ∈ qs, Sz 4000 q) ∧ ∀ p H2, Ex H H2 → RatAt C H2 p (g qs) → Q (.ref p) H2
def spIsNum (K : PySem.W.Frag) (C : Addr) : Sp := fun vs H Q _ => ∃ v, vs = [v] ∧ ((∃ q, NumV C H v q ∧ Q (.bl true) H) ∨ (NoNum K C H v ∧ Q (.bl false) H))
def spIsCh (K : PySem.W.Frag) (C : Addr) : Sp := fun vs H Q _ => ∃ v, vs = [v] ∧ ((∃ q, NumV C H v q ∧ Sz 4000 q ∧ ∀ H2, Ex H H2 → Q (.bl (!decide (q < 0) && !decide (1 < q))) H2) ∨ (NoNum K C H v ∧ ∀ H2, Ex H H2 → Q (.bl false) H2))
def absR (q : Rat) : Rat := Rat.divInt (if q.num < 0 then -q.num else q.num) q.den
end
theorem sumR_snoc (l : List Rat) (x : Rat) : sumR (l ++ [x]) = sumR l + x := by
  unfold sumR
  rw [List.foldl_append]
  rfl
def minF (l : List Rat) (z : Rat) : Rat := l.foldl (fun a b => if b < a then b else a) z
def maxF (l : List Rat) (z : Rat) : Rat := l.foldl (fun a b => if a < b then b else a) z
theorem minF_snoc (l : List Rat) (z x : Rat) : minF (l ++ [x]) z = if x < minF l z then x else minF l z := by
  unfold minF
  rw [List.foldl_append]
  rfl
theorem maxF_snoc (l : List Rat) (z x : Rat) : maxF (l ++ [x]) z = if maxF l z < x then x else maxF l z := by
  unfold maxF
  rw [List.foldl_append]
  rfl
theorem minF_mem : ∀ (l : List Rat) (z : Rat), minF l z = z ∨ minF l z ∈ l
  | [], z => .inl rfl
  | x :: l, z => by
    show minF l (if x < z then x else z) = z ∨ minF l (if x < z then x else z) ∈ x :: l
    rcases minF_mem l (if x < z then x else z) with h | h
    · rw [h]
      split
      · exact .inr (.head _)
      · exact .inl rfl
    · exact .inr (.tail _ h)
theorem maxF_mem : ∀ (l : List Rat) (z : Rat), maxF l z = z ∨ maxF l z ∈ l
  | [], z => .inl rfl
  | x :: l, z => by
    show maxF l (if z < x then x else z) = z ∨ maxF l (if z < x then x else z) ∈ x :: l
    rcases maxF_mem l (if z < x then x else z) with h | h
    · rw [h]
      split
      · exact .inr (.head _)
      · exact .inl rfl
    · exact .inr (.tail _ h)
theorem NumV.alt {C : Addr} {H : Hp} {v : V} {q : Rat} (h : NumV C H v q) : (∃ i, v = .int i) ∨ InsAt C H v := h.elim (fun ⟨i, h, _⟩ => .inl ⟨i, h⟩) fun ⟨a, h, dx, ha⟩ => .inr ⟨a, dx, _, h, ha⟩
theorem RatAt.ins {C a : Addr} {H : Hp} {q : Rat} (h : RatAt C H a q) : InsAt C H (.ref a) := h.elim fun dx ha => ⟨a, dx, _, rfl, ha⟩
end RatK
set_option Elab.async false
set_option linter.all false
set_option maxRecDepth 100000
set_option maxHeartbeats 2000000
/-! ### repr of a thing of any of these kinds -/
namespace L2
open PySem PySem.Spec PyProof.Rows
inductive Rep (K : PySem.W.Frag) (H : Hp) : V → Str → Prop where
  | non : Rep K H .non (Str.ofString "None")
  | bl (b : Bool) : Rep K H (.bl b) (if b = true then Str.ofString "True" else Str.ofString "False")
  | int (i : Int) : i.natAbs.log2 < 1920 → Rep K H (.int i) (Str.ofString (toString i))
  | str (z : Str) : (reprText z).length ≤ sizeLine → Rep K H (.str z) (reprText z)
  | dat {a : Addr} {d : PyData} : Dp K H (.ref a) d → d.showable = true → d.hasDict = false → d.depth ≤ 60 → d.shown.length ≤ sizeLine → Rep K H (.ref a) d.shown
  | emp {a : Addr} : H a = some (.dK []) → Rep K H (.ref a) (PyData.shown (.dict []))
def rReprA (K : PySem.W.Frag) : List V → Hp → VK → Prop := fun vs H Q => ∃ v z, vs = [v] ∧ Rep K H v z ∧ Q (.str z) H
section
variable {X : Cx}
theorem emp_reads {pins : List (Addr × Obj)} {σ : St} {H : Hp} {s : Shared} {a : Addr} (I : Inv X pins σ H s) (h : H a = some (.dK [])) : Reads s.heap (.ref a) (.dict []) [a] ∧ (a == sysModules) = false := by
  have o : ObjOk X.prog X.w H s.heap a (.dK []) := I.hok a _ h
  obtain ⟨_, ns, vs, kv, ob, es, ep, g, ed, dt, kn, pr, _⟩ := o
  cases kv
  refine ⟨?_, ns⟩
  have ee : es.toList = [] := by
    generalize es.toList = l at pr
    cases pr
    rfl
  have e1 : ReadsAll s.heap (List.map (fun x => x.key) es.toList) (List.map (fun x => x.fst) ([] : List (PyData × PyData))) [] := by rw [ee]; exact .nil
  have e2 : ReadsAll s.heap (List.map (fun x => x.val) es.toList) (List.map (fun x => x.snd) ([] : List (PyData × PyData))) [] := by rw [ee]; exact .nil
  exact Reads.dict (as := []) (bs := []) g ed.1 dt e1 e2
theorem cr_reprA (hu : X.A.units + 64 < cLine) (hgd : X.A.guards = some []) : CallR X (.builtin "repr") (rReprA X.K) := by
  intro pins s σ H vs us Q I r h
  obtain ⟨v, z, rfl, hd, q⟩ := h
  cases hd with
  | non =>
    obtain ⟨u, rfl, ru⟩ := vals1 r
    cases (show u = Value.none from ru)
    exact PySem.P.repr_of_none ⟨.str _, H, I.kept fun b o e => e, ⟨_, rfl⟩, q⟩
  | bl b =>
    obtain ⟨u, rfl, ru⟩ := vals1 r
    cases (show u = Value.bool b from ru)
    exact PySem.P.repr_of_bool ⟨.str _, H, I.kept fun b o e => e, ⟨_, rfl⟩, q⟩
  | int i hi =>
    obtain ⟨u, rfl, ru⟩ := vals1 r
    obtain ⟨t, rfl⟩ := ru
    exact PySem.P.repr_of_int hi ⟨.str _, H, I.kept fun b o e => e, ⟨_, rfl⟩, q⟩
  | str x hx =>
    obtain ⟨u, rfl, ru⟩ := vals1 r
    obtain ⟨t, rfl⟩ := ru
    exact PySem.P.repr_of_str ⟨.str _, H, I.kept fun b o e => e, ⟨_, rfl⟩, q⟩ hx
  | dat h1 h2 h3 h4 h5 => exact cr_repr hu hgd pins s σ H _ us Q I r ⟨_, _, rfl, h1, ⟨_, rfl⟩, h2, h3, h4, h5, q⟩
  | emp h =>
    obtain ⟨u, rfl, ru⟩ := vals1 r
    cases ru
    obtain ⟨rd, ns⟩ := emp_reads I h
    refine repr_of_reads' rd (by decide) (fun _ hm => ?_) hgd (by show X.A.units + (_ + 1) < cLine; have : PyData.depth (.dict []) ≤ 1 := by decide
                                                                  omega) (fun b o e => e) (fun h' u tk hk => ?_) (by decide +kernel)
    · cases (List.mem_singleton.mp hm)
      simp at ns
    · exact ⟨.str _, H, I.kept fun b o eo => hk b o eo, ⟨_, rfl⟩, q⟩
theorem cr_reprK {K : PySem.W.Frag} (hu : X.A.units + 64 < cLine) (hgd : X.A.guards = some []) (hK : X.K = K) : CallR X (.builtin "repr") (rReprA K) := hK ▸ cr_reprA hu hgd
end
end L2
set_option Elab.async false
set_option linter.all false
set_option maxRecDepth 100000
set_option maxHeartbeats 2000000
/-! ### pairs of integers, and the quotients that they stand for -/
namespace RatK
open PySem PySem.Spec PyProof.Rows L2 Evl LawK
def PairAt (H : Hp) (a : Addr) (t b : Int) : Prop := H a = some (.tup [.int t, .int b])
theorem PairAt.ex {H H2 : Hp} {a : Addr} {t b : Int} (h : PairAt H a t b) (e : Ex H H2) : PairAt H2 a t b := e _ _ h
theorem PairAt.sq {K : PySem.W.Frag} {H : Hp} {a : Addr} {t b : Int} (h : PairAt H a t b) : SqT K H a [.int t, .int b] := .inl (.inl h)
structure PB (n : Nat) (t b : Int) : Prop where
  up : t.natAbs < 2 ^ n
  lo : b.natAbs < 2 ^ n
  nz : b ≠ 0
theorem PB.mono {n m : Nat} {t b : Int} (h : PB n t b) (l : n ≤ m) : PB m t b := ⟨Nat.lt_of_lt_of_le h.up (Nat.pow_le_pow_right (by decide) l), Nat.lt_of_lt_of_le h.lo (Nat.pow_le_pow_right (by decide) l), h.nz⟩
theorem PB.sz {n : Nat} {t b : Int} (h : PB n t b) : Sz n (Rat.divInt t b) := sz_div h.nz h.up h.lo
/-! the numbers -/
theorem parts {t b : Int} (hb : b ≠ 0) : ∃ g : Int, g ≠ 0 ∧ t = g * (Rat.divInt t b).num ∧ b = g * ((Rat.divInt t b).den : Int) := by
  refine ⟨sgn b (Nat.gcd t.natAbs b.natAbs), sgn_ne hb, ?_, ?_⟩
  · have dv : sgn b (Nat.gcd t.natAbs b.natAbs) ∣ t := by
      have : ((Nat.gcd t.natAbs b.natAbs : Nat) : Int) ∣ t := Int.ofNat_dvd_left.mpr (Nat.gcd_dvd_left _ _)
      unfold sgn
      split
      · exact Int.neg_dvd.mpr this
      · exact this
    rw [← num_is hb]
    exact (Int.mul_fdiv_cancel' dv).symm
  · have dv : sgn b (Nat.gcd t.natAbs b.natAbs) ∣ b := by
      have : ((Nat.gcd t.natAbs b.natAbs : Nat) : Int) ∣ b := Int.ofNat_dvd_left.mpr (Nat.gcd_dvd_right _ _)
      unfold sgn
      split
      · exact Int.neg_dvd.mpr this
      · exact this
    rw [← den_is hb]
    exact (Int.mul_fdiv_cancel' dv).symm
theorem sq_pos {g : Int} (h : g ≠ 0) : 0 < g * g := by
  rcases Int.lt_or_gt_of_ne h with h | h
  · exact Int.mul_pos_of_neg_of_neg h h
  · exact Int.mul_pos h h
theorem pos_mul {k x : Int} (hk : 0 < k) : k * x < 0 ↔ x < 0 := by
  constructor
  · intro h
    refine Int.not_le.mp fun z => ?_
    have := Int.mul_nonneg (Int.le_of_lt hk) z
    omega
  · intro h
    exact Int.mul_neg_of_pos_of_neg hk h
theorem lt_is {a b c d : Int} (hb : b ≠ 0) (hd : d ≠ 0) : Rat.divInt a b < Rat.divInt c d ↔ (a * d - c * b) * (b * d) < 0 := by
  obtain ⟨g, g0, ea, eb⟩ := parts (t := a) hb
  obtain ⟨k, k0, ec, ed⟩ := parts (t := c) hd
  have D1 := (Rat.divInt a b).den_pos
  have D2 := (Rat.divInt c d).den_pos
  rw [Rat.lt_iff]
  generalize (Rat.divInt a b).num = N1 at *
  generalize (Rat.divInt a b).den = M1 at *
  generalize (Rat.divInt c d).num = N2 at *
  generalize (Rat.divInt c d).den = M2 at *
  have p : 0 < (g * g) * (k * k) * ((M1 : Int) * (M2 : Int)) := Int.mul_pos (Int.mul_pos (sq_pos g0) (sq_pos k0)) (Int.mul_pos (by omega) (by omega))
  have e : (a * d - c * b) * (b * d) = ((g * g) * (k * k) * ((M1 : Int) * (M2 : Int))) * (N1 * (M2 : Int) - N2 * (M1 : Int)) := by
    rw [ea, eb, ec, ed]
    simp only [Int.mul_sub, Int.sub_mul]
    simp only [Int.mul_assoc, Int.mul_comm, Int.mul_left_comm]
  rw [e, pos_mul p]
  omega
theorem eq_is {a b c d : Int} (hb : b ≠ 0) (hd : d ≠ 0) : Rat.divInt a b = Rat.divInt c d ↔ (a * d - c * b) * (b * d) = 0 := by
  rw [Rat.divInt_eq_divInt_iff hb hd]
  constructor
  · intro h
    rw [h, Int.sub_self, Int.zero_mul]
  · intro h
    rcases Int.mul_eq_zero.mp h with h | h
    · omega
    · exact (Int.mul_ne_zero hb hd h).elim
theorem neg_fd {t g : Int} : (-t).fdiv g = t.fdiv (-g) := by
  have h := Int.neg_fdiv_neg t (-g)
  rw [Int.neg_neg] at h
  exact h
/-- as the law reckons it: the sign apart -/
theorem low_num {t b : Int} (hb : b ≠ 0) : ((if b > 0 then (1 : Int) else -1) * t).fdiv (Nat.gcd t.natAbs b.natAbs : Nat) = (Rat.divInt t b).num := by
  rw [← num_is hb]
  unfold sgn
  by_cases h : b < 0
  · rw [if_pos h, if_neg (by omega), Int.neg_mul, Int.one_mul, neg_fd]
  · rw [if_neg h, if_pos (by omega), Int.one_mul]
theorem low_den {t b : Int} (hb : b ≠ 0) : ((if b > 0 then (1 : Int) else -1) * b).fdiv (Nat.gcd t.natAbs b.natAbs : Nat) = ((Rat.divInt t b).den : Int) := by
  rw [← den_is hb]
  unfold sgn
  by_cases h : b < 0
  · rw [if_pos h, if_neg (by omega), Int.neg_mul, Int.one_mul, neg_fd]
  · rw [if_neg h, if_pos (by omega), Int.one_mul]
theorem abs_is {a b : Int} (hb : b ≠ 0) : absR (Rat.divInt a b) = Rat.divInt (if a < 0 then -a else a) (if b < 0 then -b else b) := by
  obtain ⟨g, g0, ea, eb⟩ := parts (t := a) hb
  have D1 := (Rat.divInt a b).den_pos
  unfold absR
  rw [Rat.divInt_eq_divInt_iff (by omega) (by split <;> omega)]
  generalize (Rat.divInt a b).num = N at *
  generalize (Rat.divInt a b).den = M at *
  have M0 : (0 : Int) < (M : Int) := by omega
  have sa : a < 0 ↔ (g < 0 ∧ 0 < N) ∨ (0 < g ∧ N < 0) := by
    rw [ea]
    constructor
    · intro h
      rcases Int.lt_trichotomy g 0 with h1 | h1 | h1
      · refine .inl ⟨h1, ?_⟩
        refine Int.not_le.mp fun z => ?_
        have := Int.mul_nonneg_of_nonpos_of_nonpos (Int.le_of_lt h1) z
        omega
      · exact (g0 h1).elim
      · refine .inr ⟨h1, ?_⟩
        refine Int.not_le.mp fun z => ?_
        have := Int.mul_nonneg (Int.le_of_lt h1) z
        omega
    · rintro (⟨h1, h2⟩ | ⟨h1, h2⟩)
      · exact Int.mul_neg_of_neg_of_pos h1 h2
      · exact Int.mul_neg_of_pos_of_neg h1 h2
  have sb : b < 0 ↔ g < 0 := by
    rw [eb]
    constructor
    · intro h
      refine Int.not_le.mp fun z => ?_
      have := Int.mul_nonneg z (Int.le_of_lt M0)
      omega
    · intro h
      exact Int.mul_neg_of_neg_of_pos h M0
  have key : N * b = a * (M : Int) := by
    rw [ea, eb]
    simp only [Int.mul_assoc, Int.mul_comm, Int.mul_left_comm]
  by_cases hg : g < 0
  · have b0 : b < 0 := sb.mpr hg
    rw [if_pos b0]
    by_cases hN : N < 0
    · have a0 : ¬ a < 0 := fun z => by rcases sa.mp z with h | h <;> omega
      rw [if_pos hN, if_neg a0, Int.neg_mul_neg]
      exact key
    · rw [if_neg hN]
      by_cases hz : 0 < N
      · rw [if_pos (sa.mpr (.inl ⟨hg, hz⟩)), Int.mul_neg, Int.neg_mul, key]
      · have n0 : N = 0 := by omega
        have a0 : a = 0 := by rw [ea, n0, Int.mul_zero]
        rw [a0, n0]
        simp
  · have b0 : ¬ b < 0 := fun z => hg (sb.mp z)
    rw [if_neg b0]
    by_cases hN : N < 0
    · rw [if_pos hN, if_pos (sa.mpr (.inr ⟨by omega, hN⟩)), Int.neg_mul, Int.neg_mul, key]
    · have a0 : ¬ a < 0 := fun z => by rcases sa.mp z with h | h <;> omega
      rw [if_neg hN, if_neg a0]
      exact key
theorem in_is {a b : Int} (hb : b ≠ 0) : (!decide (Rat.divInt a b < 0) && !decide (1 < Rat.divInt a b)) = (decide (0 ≤ a * b) && decide ((if a < 0 then -a else a) ≤ (if b < 0 then -b else b))) := by
  have z0 : (0 : Rat) = Rat.divInt 0 1 := rfl
  have z1 : (1 : Rat) = Rat.divInt 1 1 := rfl
  have e0 : Rat.divInt a b < 0 ↔ a * b < 0 := by
    rw [z0, lt_is hb (by decide)]
    simp
  have e1 : (1 : Rat) < Rat.divInt a b ↔ (b - a) * b < 0 := by
    rw [z1, lt_is (by decide) hb]
    simp
  have p0 : (!decide (Rat.divInt a b < 0)) = decide (0 ≤ a * b) := by
    rw [← decide_not]
    exact decide_eq_decide.mpr (by rw [e0]; omega)
  rw [p0, ← decide_not]
  by_cases h : 0 ≤ a * b
  · rw [decide_eq_true h, Bool.true_and, Bool.true_and]
    refine decide_eq_decide.mpr ?_
    rw [e1]
    rcases Int.lt_or_gt_of_ne hb with h1 | h1
    · have a0 : a ≤ 0 := by
        refine Int.not_lt.mp fun z => ?_
        have := Int.mul_neg_of_pos_of_neg z h1
        omega
      have s : (b - a) * b < 0 ↔ 0 < b - a := by
        constructor
        · intro q
          refine Int.not_le.mp fun z => ?_
          have := Int.mul_nonneg_of_nonpos_of_nonpos z (Int.le_of_lt h1)
          omega
        · intro q
          exact Int.mul_neg_of_pos_of_neg q h1
      rw [s, if_pos h1]
      split <;> omega
    · have a0 : 0 ≤ a := by
        refine Int.not_lt.mp fun z => ?_
        have := Int.mul_neg_of_neg_of_pos z h1
        omega
      have s : (b - a) * b < 0 ↔ b - a < 0 := by
        constructor
        · intro q
          refine Int.not_le.mp fun z => ?_
          have := Int.mul_nonneg z (Int.le_of_lt h1)
          omega
        · intro q
          exact Int.mul_neg_of_neg_of_pos q h1
      rw [s, if_neg (by omega), if_neg (by omega)]
      omega
  · rw [decide_eq_false h, Bool.false_and, Bool.false_and]
/-! what the law's helpers do -/
def spPair : Sp := fun vs H Q _ => ∃ p G m, vs = [.ref p] ∧ m + 6 < 1000000 ∧ SB G H p m ∧ ∀ q t b G2 H2, Ex G G2 → SB G2 H2 p (m + 6) → PairAt G2 q t b → PB 140 t b → Q (.ref q) H2
def spLow : Sp := fun vs H Q _ => ∃ a t b, vs = [.ref a] ∧ PairAt H a t b ∧ PB 4000 t b ∧ ∀ q H2, H q = none → Ex H H2 → PairAt H2 q (Rat.divInt t b).num (Rat.divInt t b).den → Q (.ref q) H2
def spIs (C : Addr) : Sp := fun vs H Q _ => ∃ r a t b, vs = [.ref r, .ref a] ∧ RatAt C H r (Rat.divInt t b) ∧ PairAt H a t b ∧ PB 4000 t b ∧ ∀ H2, Ex H H2 → Q (.bl true) H2
/-- a new Ratio -/
def EvR (C : Addr) (te : TE) (σ : L2.St) (H : Hp) (x : Rat) : Prop := ∀ H1, Ex H H1 → ∀ Q : VK, (∀ p H2, Ex H1 H2 → RatAt C H2 p x → Q (.ref p) H2) → te σ H1 Q
/-- a pair -/
def EvP (te : TE) (σ : L2.St) (H : Hp) (t b : Int) : Prop := ∀ H1, Ex H H1 → ∀ Q : VK, (∀ p H2, Ex H1 H2 → PairAt H2 p t b → Q (.ref p) H2) → te σ H1 Q
section
variable {K : PySem.W.Frag} {C CZ CB a x : Addr} {σ : L2.St} {H : Hp} {ta tb te : TE} {t b c d : Int} {q q1 q2 : Rat} {v : V} {E : L2.St → XK} {EE : XK} {g : Rat → Rat → Rat}
theorem EvR.mono {H' : Hp} (e : Ex H H') (h : EvR C te σ H q) : EvR C te σ H' q := fun H1 e1 => h H1 (e.trans e1)
theorem EvP.mono {H' : Hp} (e : Ex H H') (h : EvP te σ H t b) : EvP te σ H' t b := fun H1 e1 => h H1 (e.trans e1)
theorem er_is (h : EvR C te σ H q1) (e : q1 = q2) : EvR C te σ H q2 := e ▸ h
theorem er_v (h : Ev te σ H (.ref a)) (hr : RatAt C H a q) : EvR C te σ H q := fun H1 e Q k => h H1 e Q fun H2 e2 => k a H2 e2 (hr.ex (e.trans e2))
theorem er_new (ha : Ev ta σ H (.int t)) (hb : Ev tb σ H (.int b)) (h1 : t.natAbs < 2 ^ 8900) (h2 : b.natAbs < 2 ^ 8900) (nb : b ≠ 0) : EvR C (tMakeSD C (spInit C CZ) [] E (tCons ta (tCons tb tNil))) σ H (Rat.divInt t b) := fun H1 e Q k =>
  u_new (ha.mono e) (hb.mono e) h1 h2 nb k
theorem er_new1 (ha : Ev ta σ H (.int t)) (h1 : t.natAbs < 2 ^ 8900) : EvR C (tMakeSD C (spInit C CZ) [.int 1] E (tCons ta tNil)) σ H (Rat.divInt t 1) := fun H1 e Q k => u_new1 (ha.mono e) h1 k
theorem er_ar (ha : Ev ta σ H (.ref a)) (hb : Ev tb σ H v) (r : RatAt C H a q1) (n : NumV C H v q2) (s1 : Sz 4000 q1) (s2 : Sz 4000 q2) : EvR C (tOp (rOwnAr C (spBin C g) EE) ta tb) σ H (g q1 q2) := fun H1 e Q k =>
  ha H1 e _ fun H2 e2 => hb H2 (e.trans e2) _ fun H3 e3 => by
    have e13 := (e.trans e2).trans e3
    exact ⟨(r.ex e13).ins, (n.ex e13).alt, a, v, q1, q2, rfl, r.ex e13, n.ex e13, s1, s2, fun p H4 e4 hp => k p H4 ((e2.trans e3).trans e4) hp⟩
theorem er_neg {f : Rat → Rat} (ha : Ev ta σ H (.ref a)) (r : RatAt C H a q) (s : Sz 4000 q) : EvR C (tUn (rOwnNeg C (spUn C f) EE) ta) σ H (f q) := fun H1 e Q k =>
  ha H1 e _ fun H2 e2 => ⟨(r.ex (e.trans e2)).ins, a, q, rfl, r.ex (e.trans e2), s, fun p H3 e3 hp => k p H3 (e2.trans e3) hp⟩
theorem er_mun {f : Rat → Rat} {m : Str} (ha : Ev ta σ H (.ref a)) (r : RatAt C H a q) (s : Sz 4000 q) (n1 : ¬ m = "_bottom") (n2 : ¬ m = "_top") : EvR C (tMethSD C m (spUn C f) [] E ta tNil) σ H (f q) := fun H1 e Q k =>
  ha H1 e _ fun H2 e2 => by
    obtain ⟨dx, hx⟩ := r.ex (e.trans e2)
    exact ⟨a, dx, _, rfl, hx, ratF_no q n1 n2, a, q, rfl, r.ex (e.trans e2), s, fun p H3 e3 hp => k p H3 (e2.trans e3) hp⟩
theorem er_asr (ha : Ev ta σ H v) (n : NumV C H v q) (s : Sz 8900 q) : EvR C (tCallSD (spAsR K C CB) [] E (tCons ta tNil)) σ H q := fun H1 e Q k =>
  ha H1 e _ fun H2 e2 => ⟨v, rfl, .inl ⟨q, n.ex (e.trans e2), s, fun p H3 e3 hp => k p H3 (e2.trans e3) hp⟩⟩
theorem ep_v (h : Ev te σ H (.ref a)) (hp : PairAt H a t b) : EvP te σ H t b := fun H1 e Q k => h H1 e Q fun H2 e2 => k a H2 e2 (hp.ex (e.trans e2))
theorem ep_tup (ha : Ev ta σ H (.int t)) (hb : Ev tb σ H (.int b)) : EvP (tTup (tCons ta (tCons tb tNil))) σ H t b := fun H1 e Q k =>
  eu_tup (ea_cons ha (ea_cons hb ea_nil)) (by show 2 ≤ 100000; decide) H1 e Q fun p H2 _ e2 hp => k p H2 e2 hp
theorem ep_low (h : EvP ta σ H t b) (pb : PB 4000 t b) : EvP (tCallSD spLow [] E (tCons ta tNil)) σ H (Rat.divInt t b).num (Rat.divInt t b).den := fun H1 e Q k =>
  h H1 e _ fun p H2 e2 hp => ⟨p, t, b, rfl, hp, pb, fun q H3 _ e3 hq => k q H3 (e2.trans e3) hq⟩
theorem ev_isr (h1 : EvR C ta σ H q) (h2 : EvP tb σ H t b) (pb : PB 4000 t b) (e : q = Rat.divInt t b) : Ev (tCallSD (spIs C) [] E (tCons ta (tCons tb tNil))) σ H (.bl true) := fun H1 e1 Q k =>
  h1 H1 e1 _ fun p H2 e2 hp => h2 H2 (e1.trans e2) _ fun a H3 e3 ha => ⟨p, a, t, b, rfl, e ▸ hp.ex e3, ha, pb, fun H4 e4 => k H4 ((e2.trans e3).trans e4)⟩
theorem ev_p0 (h : Ev te σ H (.ref a)) (hp : PairAt H a t b) : Ev (tOp (rIxT K) te (tC (.int 0))) σ H (.int t) := ev_op h ev_c (rv_ixT hp.sq rfl)
theorem ev_p1 (h : Ev te σ H (.ref a)) (hp : PairAt H a t b) : Ev (tOp (rIxT K) te (tC (.int 1))) σ H (.int b) := ev_op h ev_c (rv_ixT hp.sq rfl)
end
def absI (i : Int) : Int := if i < 0 then -i else i
theorem absI_nat (i : Int) : absI i = (i.natAbs : Int) := by unfold absI; split <;> omega
section
variable {K : PySem.W.Frag} {C : Addr} {σ : L2.St} {H : Hp} {te tb : TE} {ta : TA} {D : L2.Ends} {tz : TS} {i j : Nat} {x y : V} {n : Int} {xs : List V} {p : Addr} {E : XK}
theorem q_par (h : EvA ta σ H [x, y]) (k : ∀ H1, Ex H H1 → tz D ((σ.set i (some x)).set j (some y)) H1) : tSeq (tPar i j ta) tz D σ H := h H (Ex.refl H) _ fun H1 e1 => ⟨x, y, rfl, k H1 e1⟩
theorem s_par (h : EvA ta σ H [x, y]) (k : ∀ H1, Ex H H1 → D.nx ((σ.set i (some x)).set j (some y)) H1) : tPar i j ta D σ H := h H (Ex.refl H) _ fun H1 e1 => ⟨x, y, rfl, k H1 e1⟩
theorem ev_absI (h : Ev te σ H (.int n)) : Ev (tCB (fun xs H Q => ∃ i, xs = [.int i] ∧ Q (.int (if i < 0 then -i else i)) H) (tCons te tNil)) σ H (.int (absI n)) := ev_cb (ea_cons h ea_nil) fun H1 _ Q' q' => ⟨n, rfl, q' H1 (Ex.refl H1)⟩
theorem rv_divZ {k l : Int} (h : CDivZ k l) : RV (rI CDivZ fun i j => .int (i.fdiv j)) (.int k) (.int l) H (.int (k.fdiv l)) := rv_I h
theorem rv_gt {k l : Int} {g : Int → Int → V} : RV (rI0 g) (.int k) (.int l) H (g k l) := rv_I0
end
section
variable {σ : L2.St} {H : Hp} {ta tb : TE} {t : TA} {r : R2} {v : V} {Q : VK}
theorem x_opc (h : tb σ H fun y H2 => r v y H2 Q) : tOp r (tC v) tb σ H Q := h
theorem x_tup (h : t σ H fun xs H1 => xs.length ≤ sizeLine ∧ ∀ p, H1 p = none → Q (.ref p) (upd H1 p (.tup xs))) : tTup t σ H Q := h
end
end RatK
namespace L2
open PySem PySem.Spec PyProof.Rows
theorem op_alt {X : Cx} {m : Value → Value → Sem Value} {r1 r2 : R2} (h1 : OpR X m r1) (h2 : OpR X m r2) : OpR X m (fun x y H Q => r1 x y H Q ∨ r2 x y H Q) := by
  intro pins s σ H x y v u Q I rx ry h
  exact h.elim (h1 pins s σ H x y v u Q I rx ry) (h2 pins s σ H x y v u Q I rx ry)
end L2
namespace RatK
open PySem PySem.Spec PyProof.Rows L2 Evl LawK
theorem ml {x y : Int} {n m : Nat} (h1 : x.natAbs < 2 ^ n) (h2 : y.natAbs < 2 ^ m) : (x * y).natAbs < 2 ^ (n + m) := wide_lt h1 h2
theorem al {x y : Int} {n : Nat} (h1 : x.natAbs < 2 ^ n) (h2 : y.natAbs < 2 ^ n) : (x + y).natAbs < 2 ^ (n + 1) := by
  rw [Nat.pow_succ]
  generalize 2 ^ n = M at *
  omega
theorem sl {x y : Int} {n : Nat} (h1 : x.natAbs < 2 ^ n) (h2 : y.natAbs < 2 ^ n) : (x - y).natAbs < 2 ^ (n + 1) := by
  rw [Nat.pow_succ]
  generalize 2 ^ n = M at *
  omega
theorem up {x : Int} {n m : Nat} (h1 : x.natAbs < 2 ^ n) (l : n ≤ m) : x.natAbs < 2 ^ m := Nat.lt_of_lt_of_le h1 (Nat.pow_le_pow_right (by decide) l)
theorem wm {x y : Int} {n m : Nat} (h1 : x.natAbs < 2 ^ n) (h2 : y.natAbs < 2 ^ m) (l1 : n ≤ 4000) (l2 : m ≤ 4000) : CMulW x y := sz_mul (up h1 l1) (up h2 l2)
theorem absI_lt {x : Int} {n : Nat} (h : x.natAbs < 2 ^ n) : (absI x).natAbs < 2 ^ n := by
  have : (absI x).natAbs = x.natAbs := by rw [absI_nat]; omega
  rw [this]
  exact h
theorem absI_nz {x : Int} (h : x ≠ 0) : absI x ≠ 0 := by unfold absI; split <;> omega
theorem dec0 {g : Int} : decide (V.int g = V.int 0) = decide (g = 0) := decide_eq_decide.mpr ⟨fun h => V.int.inj h, fun h => by rw [h]⟩
section
variable {K : PySem.W.Frag} {C CZ CB a : Addr} {σ : L2.St} {H : Hp} {ta tb te : TE} {q q1 q2 : Rat} {v : V} {E : L2.St → XK} {EE : XK} {b : Bool} {n : Int} {xs : List V} {ds : List PyData} {l : Addr}
theorem nf_self : PySem.W.notFirst K C (.ref C) = true := by
  unfold PySem.W.notFirst
  simp
theorem nf_sub {t : Value} (h : PySem.W.subIn K t (.ref C) = some false) : PySem.W.notFirst K C t = true := by
  unfold PySem.W.notFirst
  rw [h]
  simp
theorem NumV.nf (n : NumV C H v q) (r : RIs K C) (si : PySem.W.subIn K (.type "int") (.ref C) = some false) : ∃ t, TyX K H v t ∧ PySem.W.notFirst K C t = true :=
  n.elim (fun ⟨i, h, _⟩ => h ▸ ⟨.type "int", .base (.int i), nf_sub si⟩) fun ⟨a, h, hr⟩ => h ▸ ⟨.ref C, hr.ty r, nf_self⟩
theorem ev_oeq (ha : Ev ta σ H (.ref a)) (hb : Ev tb σ H v) (r : RatAt C H a q1) (n : NumV C H v q2) (rs : RIs K C) (si : PySem.W.subIn K (.type "int") (.ref C) = some false) : Ev (tOp (rOwnEq K C (spEq K C) EE) ta tb) σ H (.bl (decide (q1 = q2))) := fun H1 e Q k =>
  ha H1 e _ fun H2 e2 => hb H2 (e.trans e2) _ fun H3 e3 => by
    have e13 := (e.trans e2).trans e3
    exact ⟨(r.ex e13).ins, (n.ex e13).nf rs si, a, v, q1, rfl, r.ex e13, .inl ⟨q2, n.ex e13, k H3 (e2.trans e3)⟩⟩
theorem ev_one (ha : Ev ta σ H (.ref a)) (hb : Ev tb σ H v) (r : RatAt C H a q1) (n : NumV C H v q2) (rs : RIs K C) (si : PySem.W.subIn K (.type "int") (.ref C) = some false) : Ev (tOp (rOwnNe K C (spEq K C) EE) ta tb) σ H (.bl (!decide (q1 = q2))) := fun H1 e Q k =>
  ha H1 e _ fun H2 e2 => hb H2 (e.trans e2) _ fun H3 e3 => by
    have e13 := (e.trans e2).trans e3
    exact ⟨(r.ex e13).ins, (n.ex e13).nf rs si, a, v, q1, rfl, r.ex e13, .inl ⟨q2, n.ex e13, _, rfl, k H3 (e2.trans e3)⟩⟩
/-- v == a -/
theorem ev_oeqR (ha : Ev ta σ H v) (hb : Ev tb σ H (.ref a)) (r : RatAt C H a q1) (n : NumV C H v q2) (rs : RIs K C) (si : PySem.W.subIn K (.type "int") (.ref C) = some false) : Ev (tOp (fun x y H Q => rOwnEq K C (spEq K C) EE x y H Q ∨ rIntEq C (spEq K C) EE x y H Q) ta tb) σ H (.bl (decide (q1 = q2))) := fun H1 e Q k =>
  ha H1 e _ fun H2 e2 => hb H2 (e.trans e2) _ fun H3 e3 => by
    have e13 := (e.trans e2).trans e3
    have r3 := r.ex e13
    have g := k H3 (e2.trans e3)
    rcases n.ex e13 with ⟨i, rfl, rfl⟩ | ⟨p, rfl, hp⟩
    · exact .inr ⟨⟨i, rfl⟩, r3.ins, a, .int i, q1, rfl, r3, .inl ⟨_, .inl ⟨i, rfl, rfl⟩, g⟩⟩
    · refine .inl ⟨hp.ins, ⟨.ref C, r3.ty rs, nf_self⟩, p, .ref a, q2, rfl, hp, .inl ⟨q1, .inr ⟨a, rfl, r3⟩, ?_⟩⟩
      have ee : decide (q2 = q1) = decide (q1 = q2) := decide_eq_decide.mpr ⟨fun h => h.symm, fun h => h.symm⟩
      rw [ee]
      exact g
theorem ev_less (ha : Ev ta σ H (.ref a)) (hb : Ev tb σ H v) (r : RatAt C H a q1) (n : NumV C H v q2) (s1 : Sz 4000 q1) (s2 : Sz 4000 q2) : Ev (tMethSD C "below" (spLess C) [] E ta (tCons tb tNil)) σ H (.bl (decide (q1 < q2))) := fun H1 e Q k =>
  ha H1 e _ fun H2 e2 => by
    obtain ⟨dx, hx⟩ := r.ex (e.trans e2)
    exact ⟨a, dx, _, rfl, hx, ratF_no q1 (by decide +kernel) (by decide +kernel), hb H2 (e.trans e2) _ fun H3 e3 => ⟨a, v, q1, q2, rfl, r.ex ((e.trans e2).trans e3), n.ex ((e.trans e2).trans e3), s1, s2, fun H4 e4 => k H4 ((e2.trans e3).trans e4)⟩⟩
theorem ev_isnum (ha : Ev ta σ H v) (n : NumV C H v q) : Ev (tCallSD (spIsNum K C) [] E (tCons ta tNil)) σ H (.bl true) := fun H1 e Q k => ha H1 e _ fun H2 e2 => ⟨v, rfl, .inl ⟨q, n.ex (e.trans e2), k H2 e2⟩⟩
theorem ev_ischa (ha : Ev ta σ H v) (n : NumV C H v q) (s : Sz 4000 q) : Ev (tCallSD (spIsCh K C) [] E (tCons ta tNil)) σ H (.bl (!decide (q < 0) && !decide (1 < q))) := fun H1 e Q k => ha H1 e _ fun H2 e2 => ⟨v, rfl, .inl ⟨q, n.ex (e.trans e2), s, fun H3 e3 => k H3 (e2.trans e3)⟩⟩
theorem ev_isnum0 (ha : Ev ta σ H v) (n : ∀ H1, Ex H H1 → NoNum K C H1 v) : Ev (tCallSD (spIsNum K C) [] E (tCons ta tNil)) σ H (.bl false) := fun H1 e Q k => ha H1 e _ fun H2 e2 => ⟨v, rfl, .inr ⟨n H2 (e.trans e2), k H2 e2⟩⟩
theorem ev_ischa0 (ha : Ev ta σ H v) (n : ∀ H1, Ex H H1 → NoNum K C H1 v) : Ev (tCallSD (spIsCh K C) [] E (tCons ta tNil)) σ H (.bl false) := fun H1 e Q k => ha H1 e _ fun H2 e2 => ⟨v, rfl, .inr ⟨n H2 (e.trans e2), fun H3 e3 => k H3 (e2.trans e3)⟩⟩
theorem ev_reprV (h : Ev te σ H (.ref l)) (hl : H l = some (.lst xs)) (hd : ∀ H1, Ex H H1 → DpAll K H1 xs ds) (h1 : PyData.showable (.list ds) = true) (h2 : PyData.hasDict (.list ds) = false) (h3 : PyData.depth (.list ds) ≤ 60) (h4 : (PyData.shown (.list ds)).length ≤ sizeLine) :
    Ev (tCB (rRepr K) (tCons te tNil)) σ H (.str (PyData.shown (.list ds))) := fun H1 e Q q =>
  h H1 e _ fun H2 e2 => ⟨.ref l, .list ds, rfl, .lst (sq_of ((e.trans e2) _ _ hl)) (hd H2 (e.trans e2)), ⟨l, rfl⟩, h1, h2, h3, h4, q H2 e2⟩
theorem ev_repr4 {x1 x2 x3 x4 : Bool} (h : Ev te σ H (.ref l)) (hl : H l = some (.lst [.bl x1, .bl x2, .bl x3, .bl x4])) : Ev (tCB (rRepr K) (tCons te tNil)) σ H (.str (PyData.shown (.list [.bool x1, .bool x2, .bool x3, .bool x4]))) :=
  ev_reprV h hl (fun _ _ => .cons (.bl _) (.cons (.bl _) (.cons (.bl _) (.cons (.bl _) .nil)))) (by rfl) (by rfl) (by cases x1 <;> cases x2 <;> cases x3 <;> cases x4 <;> decide) (by cases x1 <;> cases x2 <;> cases x3 <;> cases x4 <;> decide +kernel)
theorem ev_reprB4 {x1 x2 x3 x4 : Bool} (h : EvL te σ H [.bl x1, .bl x2, .bl x3, .bl x4]) : Ev (tCB (rRepr K) (tCons te tNil)) σ H (.str (PyData.shown (.list [.bool x1, .bool x2, .bool x3, .bool x4]))) :=
  ev_reprL h (fun _ _ => .cons (.bl _) (.cons (.bl _) (.cons (.bl _) (.cons (.bl _) .nil)))) (by rfl) (by rfl) (by cases x1 <;> cases x2 <;> cases x3 <;> cases x4 <;> decide) (by cases x1 <;> cases x2 <;> cases x3 <;> cases x4 <;> decide +kernel)
theorem ev_reprB2 {x1 x2 : Bool} (h : EvL te σ H [.bl x1, .bl x2]) : Ev (tCB (rRepr K) (tCons te tNil)) σ H (.str (PyData.shown (.list [.bool x1, .bool x2]))) :=
  ev_reprL h (fun _ _ => .cons (.bl _) (.cons (.bl _) .nil)) (by rfl) (by rfl) (by cases x1 <;> cases x2 <;> decide) (by cases x1 <;> cases x2 <;> decide +kernel)
theorem er_over (ha : Ev ta σ H (.ref a)) (hb : Ev tb σ H v) (r : RatAt C H a q1) (n : NumV C H v q2) (s1 : Sz 4000 q1) (s2 : Sz 4000 q2) (z : q2 ≠ 0) : EvR C (tMethSD C "over" (spOver C CZ) [] E ta (tCons tb tNil)) σ H (q1 / q2) := fun H1 e Q k =>
  ha H1 e _ fun H2 e2 => by
    obtain ⟨dx, hx⟩ := r.ex (e.trans e2)
    exact ⟨a, dx, _, rfl, hx, ratF_no q1 (by decide +kernel) (by decide +kernel), hb H2 (e.trans e2) _ fun H3 e3 => ⟨a, v, q1, q2, rfl, r.ex ((e.trans e2).trans e3), n.ex ((e.trans e2).trans e3), s1, s2, fun q0 => (z q0).elim, fun _ p H4 e4 hp => k p H4 ((e2.trans e3).trans e4) hp⟩⟩
theorem div_pair {a b c d : Int} : Rat.divInt a b / Rat.divInt c d = Rat.divInt (a * d) (b * c) := by rw [Rat.div_def, Rat.inv_divInt, Rat.divInt_mul_divInt]
theorem zero_iff {c d : Int} (hd : d ≠ 0) : Rat.divInt c d = 0 ↔ c = 0 := by
  have e : (0 : Rat) = Rat.divInt 0 1 := rfl
  rw [e, Rat.divInt_eq_divInt_iff hd (by decide)]
  omega
end
end RatK
/-! ### calls by names alone, of what may raise and of classes -/
namespace L2
open PySem PySem.Spec PyProof.Rows
structure CalKX (P : Program) (w : World) (K : PySem.W.Frag) (mg : Str → Option Value) (base : Heap) (k : Nat) (x : Str) (ks : List Str) (sp : Sp) (gV : List V → List V → List V) : Prop where
  is : ∃ (f : Addr) (fd : FuncData) (ps : List Str) (g : List Value → List Value → List Value), FnOk P w K mg base (L2.CX P w) k f fd ps sp ∧ mg x = some (.ref f) ∧ PySem.W.keepIn K (.ref f) = true ∧ KBn K fd ps 0 ks g gV
structure MakK (P : Program) (w : World) (K : PySem.W.Frag) (mg : Str → Option Value) (base : Heap) (k : Nat) (x : Str) (C : Addr) (ks : List Str) (sp : Sp) (gV : List V → List V → List V) : Prop where
  is : ∃ (f : Addr) (fd : FuncData) (ps : List Str) (g : List Value → List Value → List Value), FnOk P w K mg base (L2.CX P w) k f fd ps sp ∧ Mk K C f ∧ mg x = some (.ref C) ∧ KBn K fd ps 1 ks g gV
def tCallKX (ks : List Str) (sp : Sp) (gV : List V → List V → List V) (E : St → XK) (tk : TA) : TE := fun σ H Q => tk σ H fun zs H2 => zs.length = ks.length ∧ sp (gV [] zs) H2 Q (E σ)
section
variable {X : Cx} {k j : Nat} {C : Addr} {x : Str} {ks : List Str} {sp : Sp} {gV : List V → List V → List V} {p pos : Pos} {kws : List Keyword} {tk : TA} {E : St → XK}
theorem pe_kwX (c : CalKX X.prog X.w X.K X.mg X.base k x ks sp gV) (hx : ∀ σ, PassesAt (L2.CX X.prog X.w) X σ (E σ)) (hr : Room j X.A) (hk : k ≤ j) (hg : Gl X x) (ha : PK X kws tk)
    (hall : (backToKw pos (keywordEach kws X.env)).all (·.1.isSome) = true := by rfl) (hks : (backToKw pos (keywordEach kws X.env)).filterMap (·.1) = ks := by rfl) (nd : (x == ("__debug__" : Str)) = false := by decide)
    (hpl : ((backTo pos (starEach [] X.env)).any (·.1) || (backToKw pos (keywordEach kws X.env)).any (·.1.isNone)) = false := by rfl) : PE X (.Call (.Name x p) [] kws pos) (tCallKX ks sp gV E tk) := by
  obtain ⟨f, fd, ps, g, F, hm, kp, b⟩ := c.is
  refine .mk fun pins s σ H Q I h => wpAny_Call_Name_kw (ld_glob I hg hm (PySem.W.callWith_KW0 (h₀ := X.base) I.ok.mod.kin kp hall (thn (ha.run pos pins s σ H _ I h) ?_) hpl) nd)
  rintro ws s2 ⟨zs, H2, I2, rz, sz, q⟩
  refine And.intro I2.kIn ?_
  rw [hks]
  have r0 : Vals ([] : List V) ([] : List Value) := .nil
  have rr := b.rel r0 rz
  refine wpAny_call (codeAny_mono (F.run X.A X.stack s2 H2 ⟨[], ks.zip ws⟩ (g [] ws) (gV [] zs) Q (E σ) (hr.mono hk) I2.env0 (b.to s2 [] ws I2.kIn rfl (rz.length.symm.trans sz)) rr q) ?_)
  intro r s' hq
  match r, hq with
  | .error er, hq => exact hx σ pins _ _ er s' I2 hq
  | .ok (.ret u), hq => exact Inv.after I2 hq
theorem pe_mkK (c : MakK X.prog X.w X.K X.mg X.base k x C ks sp gV) (hr : Room j X.A) (hk : k + 1 ≤ j) (hg : Gl X x) (ha : PK X kws tk)
    (hall : (backToKw pos (keywordEach kws X.env)).all (·.1.isSome) = true := by rfl) (hks : (backToKw pos (keywordEach kws X.env)).filterMap (·.1) = ks := by rfl) (nd : (x == ("__debug__" : Str)) = false := by decide)
    (hpl : ((backTo pos (starEach [] X.env)).any (·.1) || (backToKw pos (keywordEach kws X.env)).any (·.1.isNone)) = false := by rfl) : PE X (.Call (.Name x p) [] kws pos) (tMakeK C 0 ks.length sp gV E0 tNil tk) := by
  obtain ⟨f, fd, ps, g, F, M, hm, b⟩ := c.is
  exact pe_makeK0 M F (hr.mono hk) hg hm b passX ha hall hks nd hpl
end
end L2
namespace L2
open PySem PySem.Spec PyProof.Rows
theorem ix_tupK {X : Cx} {K : PySem.W.Frag} (hK : X.K = K) : IxR X (rIxT K) := hK ▸ ix_tup
end L2
/-! ### lists of pairs -/
namespace RatK
open PySem PySem.Spec PyProof.Rows L2 Evl LawK
def qOf (p : Int × Int) : Rat := Rat.divInt p.1 p.2
theorem add_step {n : Nat} {s : Rat} {t b : Int} (hs : Sz n s) (pb : PB 140 t b) : PB (n + 150) (s.num * b + t * (s.den : Int)) ((s.den : Int) * b) ∧ Rat.divInt (s.num * b + t * (s.den : Int)) ((s.den : Int) * b) = s + Rat.divInt t b := by
  have d0 := den_nz s
  have dl := den_abs s hs.2
  refine ⟨⟨up (al (ml hs.1 pb.lo) (by have := ml pb.up dl; rw [Nat.add_comm] at this; exact this)) (by omega), up (ml dl pb.lo) (by omega), Int.mul_ne_zero d0 pb.nz⟩, ?_⟩
  conv => rhs; rw [← divInt_nd s]
  rw [Rat.divInt_add_divInt _ _ d0 pb.nz]
theorem sum_sz {ps : List (Int × Int)} (pb : ∀ p ∈ ps, PB 140 p.1 p.2) : ∀ i, i ≤ ps.length → Sz (150 * (i + 1)) (sumR ((ps.map qOf).take i))
  | 0, _ => by
    show Sz 150 (sumR [])
    exact ⟨by decide +kernel, by decide +kernel⟩
  | i + 1, h => by
    have ih := sum_sz pb i (by omega)
    have hq : (ps.map qOf)[i]? = some (qOf ps[i]) := by rw [List.getElem?_map, List.getElem?_eq_getElem (by omega)]; rfl
    rw [take_one hq, sumR_snoc]
    obtain ⟨h1, h2⟩ := add_step ih (pb _ (List.getElem_mem (show i < ps.length by omega)))
    show Sz _ (_ + Rat.divInt _ _)
    rw [← h2]
    exact (h1.sz).mono (by omega)
theorem sum_sz4 {ps : List (Int × Int)} (pb : ∀ p ∈ ps, PB 140 p.1 p.2) (l : ps.length ≤ 20) (i : Nat) : Sz 4000 (sumR ((ps.map qOf).take i)) := by
  by_cases h : i ≤ ps.length
  · exact (sum_sz pb i h).mono (by omega)
  · rw [List.take_of_length_le (by rw [List.length_map]; omega)]
    have := sum_sz pb ps.length (Nat.le_refl _)
    rw [List.take_of_length_le (by rw [List.length_map]; exact Nat.le_refl _)] at this
    exact this.mono (by omega)
theorem all_sz {ps : List (Int × Int)} (pb : ∀ p ∈ ps, PB 140 p.1 p.2) : ∀ q ∈ ps.map qOf, Sz 4000 q := fun q hq => by
  obtain ⟨p, hp, rfl⟩ := List.mem_map.mp hq
  exact ((pb p hp).sz).mono (by decide)
theorem NumV.upd {C D : Addr} {H : Hp} {y : V} {q : Rat} {ys : List V} {o : HO} (n : NumV C H y q) (h : H D = some (.lst ys)) : NumV C (L2.upd H D o) y q := by
  rcases n with ⟨i, h1, h2⟩ | ⟨a, h1, dx, h2⟩
  · exact .inl ⟨i, h1, h2⟩
  · have ne : a ≠ D := fun e => by
      rw [e, h] at h2
      cases h2
    exact .inr ⟨a, h1, dx, by rw [upd_ne ne]; exact h2⟩
theorem eqv_self {K : PySem.W.Frag} {H : Hp} : ∀ ys : List V, (∀ y ∈ ys, (∃ i, y = .int i) ∨ ∃ a, y = .ref a) → Paired (EqV K H 1) ys ys
  | [], _ => .nil
  | y :: ys, h => .cons ((h y (.head _)).elim (fun ⟨i, e⟩ => .inl ⟨rfl, by rw [e]; rfl⟩) fun ⟨a, e⟩ => .inr (.inl ⟨a, e, e⟩)) (eqv_self ys fun z hz => h z (.tail _ hz))
section
variable {K : PySem.W.Frag} {C CZ a : Addr} {σ : L2.St} {H : Hp} {t : TT} {ta tb te : TE} {tz : TS} {D : L2.Ends} {E : L2.St → XK} {i : Nat} {x v : V} {b : Bool} {Q : VK} {qs : List Rat} {ys : List V} {l : Addr}
theorem x_ifE (h : t σ H fun c H1 => if c = true then ta σ H1 Q else tb σ H1 Q) : tIf t ta tb σ H Q := h
theorem q_ifset (h : EvT t σ H b) (hv : Ev te σ H v) (hs : σ.set i (some x) = σ) (k : ∀ H1, Ex H H1 → tz D (σ.set i (some (if b = true then v else x))) H1) : tSeq (tIfS t (tAsg te (gName i)) tNext) tz D σ H := by
  refine q_when h (fun hb H1 e1 => ?_) (fun hb H1 e1 => ?_)
  · refine s_asg (hv.mono e1) fun H2 e2 => ?_
    have := k H2 (e1.trans e2)
    rw [if_pos hb] at this
    exact this
  · have := k H1 e1
    rw [if_neg (by rw [hb]; decide), hs] at this
    exact this
theorem s_ifset (h : EvT t σ H b) (hv : Ev te σ H v) (hs : σ.set i (some x) = σ) (k : ∀ H1, Ex H H1 → D.nx (σ.set i (some (if b = true then v else x))) H1) : tIfS t (tAsg te (gName i)) tNext D σ H := by
  refine s_when h (fun hb H1 e1 => ?_) (fun hb H1 e1 => ?_)
  · refine s_asg (hv.mono e1) fun H2 e2 => ?_
    have := k H2 (e1.trans e2)
    rw [if_pos hb] at this
    exact this
  · have := k H1 e1
    rw [if_neg (by rw [hb]; decide), hs] at this
    exact this
theorem SeqN.ex {H2 : Hp} (h : SeqN K C H v qs) (e : Ex H H2) : SeqN K C H2 v qs := by
  obtain ⟨a, xs, h1, h2, h3, h4⟩ := h
  exact ⟨a, xs, h1, h2.ex e, h3, fun i x q g1 g2 => (h4 i x q g1 g2).ex e⟩
def EvS (K : PySem.W.Frag) (C : Addr) (te : TE) (σ : L2.St) (H : Hp) (qs : List Rat) : Prop := ∀ H1, Ex H H1 → ∀ Q : VK, (∀ v H2, Ex H1 H2 → SeqN K C H2 v qs → Q v H2) → te σ H1 Q
theorem es_v (h : Ev te σ H v) (hs : SeqN K C H v qs) : EvS K C te σ H qs := fun H1 e Q k => h H1 e Q fun H2 e2 => k v H2 e2 (hs.ex (e.trans e2))
theorem es_t (h : Ev te σ H (.ref l)) (hl : SqL K H l ys) (hy : ys.length = qs.length) (hn : ∀ (i : Nat) x q, ys[i]? = some x → qs[i]? = some q → NumV C H x q) :
    EvS K C (tCB (fun xs H Q => ∃ p ys, xs = [.ref p] ∧ ((SqL K H p ys ∧ ∀ l, H l = none → Q (.ref l) (upd H l (.tup ys))) ∨ (SqT K H p ys ∧ Q (.ref p) H))) (tCons te tNil)) σ H qs := fun H1 e Q k =>
  h H1 e _ fun H2 e2 => ⟨l, ys, rfl, .inl ⟨ex_l (e.trans e2) hl, fun p np => k _ _ (e2.trans (Ex.new np)) ⟨p, ys, rfl, .inr (.inl (.inl upd_same)), hy, fun i x q g1 g2 => (hn i x q g1 g2).ex ((e.trans e2).trans (Ex.new np))⟩⟩⟩
theorem es_nil : EvS K C (tLst tNil) σ H [] := fun H1 e Q k => ⟨Nat.zero_le _, fun p np => k _ _ (Ex.new np) ⟨p, [], rfl, .inl (sq_of upd_same), rfl, fun i x q h => by cases h⟩⟩
theorem er_total (h : EvS K C te σ H qs) (sz : ∀ q ∈ qs, Sz 4000 q) (sp : ∀ i, Sz 4000 (sumR (qs.take i))) : EvR C (tCallSD (spTotal K C) [] E (tCons te tNil)) σ H (sumR qs) := fun H1 e Q k =>
  h H1 e _ fun v H2 e2 hv => ⟨v, qs, rfl, hv, sz, sp, fun p H3 e3 hp => k p H3 (e2.trans e3) hp⟩
theorem er_pick {g : List Rat → Rat} (h : EvS K C te σ H qs) (ne : qs ≠ []) (sz : ∀ q ∈ qs, Sz 4000 q) : EvR C (tCallSD (spPick K C g) [] E (tCons te tNil)) σ H (g qs) := fun H1 e Q k =>
  h H1 e _ fun v H2 e2 hv => ⟨v, qs, rfl, hv, ne, sz, fun p H3 e3 hp => k p H3 (e2.trans e3) hp⟩
end
end RatK
/-! ### the law's state beside what is made -/
namespace LawK
open PySem PySem.Spec PyProof.Rows L2 Evl
theorem SB.mutD {G H : Hp} {p D : Addr} {m : Nat} {o o' : HO} (S : SB G H p m) (h : G D = some o) : SB (upd G D o') (upd H D o') p m := by
  obtain ⟨a, b, xs, ys, n, s, r⟩ := S
  have ne : ∀ {c : Addr}, G c = none → c ≠ D := fun {c} hc e => by
    rw [e, h] at hc
    cases hc
  refine ⟨a, b, xs, ys, n, ⟨fun x u hx => ?_, ?_, ?_, ?_, ?_, ?_, ?_, s.ap, s.bp, s.ab⟩, r⟩
  · by_cases e : x = D
    · rw [e, upd_same] at hx ⊢
      exact hx
    · rw [upd_ne e] at hx ⊢
      exact s.ex x u hx
  · rw [upd_ne (ne s.gp)]; exact s.hp
  · rw [upd_ne (ne s.ga)]; exact s.ha
  · rw [upd_ne (ne s.gb)]; exact s.hb
  · rw [upd_ne (ne s.gp)]; exact s.gp
  · rw [upd_ne (ne s.ga)]; exact s.ga
  · rw [upd_ne (ne s.gb)]; exact s.gb
section
variable {K : PySem.W.Frag} {σ : L2.St} {G H : Hp} {te : TE} {Q : VK} {p L : Addr} {m i n : Nat} {E : XK} {xs : List V}
/-- a draw, then the item of a list that is there -/
theorem u_pickL (S : SB G H p m) (hL : G L = some (.lst xs)) (hn : xs.length = n) (hi : σ[i]? = some (some (.ref p))) (he : Ev te σ G (.int (n : Int))) (k0 : 0 < n) (kb : n < 1000) (hm : m < 1000000)
    (q : ∀ (c : Nat) (v : V) (H2 : Hp), xs[c]? = some v → SB G H2 p (m + 1) → Q v H2) : tCall spDraw [] E (tCons (tVar i) (tCons te tNil)) σ H (fun y H2 => rIxL K (.ref L) y H2 Q) := by
  refine u_draw S hi he (by omega) (lg64 (by omega) (by omega)) hm fun r H2 r0 r1 S2 => ?_
  have hr : r.toNat < xs.length := by omega
  exact ⟨L, xs, r, xs[r.toNat], rfl, rfl, sq_of (S2.ex _ _ hL), at_of (Int.toNat_of_nonneg r0).symm (List.getElem?_eq_getElem hr), q r.toNat _ H2 (List.getElem?_eq_getElem hr) S2⟩
end
end LawK
namespace L2
open PySem PySem.Spec PyProof.Rows
theorem op_ownEqK {X : Cx} {K : PySem.W.Frag} {C : Addr} {sp : Sp} {E : XK} (hK : X.K = K) (h : OpR X (compareOp .Eq) (rOwnEq X.K C sp E)) : OpR X (compareOp .Eq) (rOwnEq K C sp E) := by
  rw [hK] at h
  exact h
end L2
namespace RatK
open PySem PySem.Spec PyProof.Rows L2 Evl LawK
/-- things that are no numbers, by their types -/
structure OddT (K : PySem.W.Frag) (C : Addr) : Prop where
  oN : PySem.W.kitOne K (.type "NoneType") (.ref C) = some false
  oB : PySem.W.kitOne K (.type "bool") (.ref C) = some false
  oS : PySem.W.kitOne K (.type "str") (.ref C) = some false
  oL : PySem.W.kitOne K (.type "list") (.ref C) = some false
  oT : PySem.W.kitOne K (.type "tuple") (.ref C) = some false
  oD : PySem.W.kitOne K (.type "dict") (.ref C) = some false
  sN : PySem.W.subIn K (.type "NoneType") (.ref C) = some false
  sB : PySem.W.subIn K (.type "bool") (.ref C) = some false
  sS : PySem.W.subIn K (.type "str") (.ref C) = some false
  sL : PySem.W.subIn K (.type "list") (.ref C) = some false
  sT : PySem.W.subIn K (.type "tuple") (.ref C) = some false
section
variable {K : PySem.W.Frag} {C CZ a D : Addr} {σ : L2.St} {H G : Hp} {ta tb te : TE} {q q1 q2 : Rat} {v : V} {E : L2.St → XK} {EE : XK} {xs ys : List V} {ps qs : List (Int × Int)} {l : Addr}
theorem no_non (O : OddT K C) : NoNum K C H .non := ⟨.type "NoneType", .base .non, .inl (kit_ty (by decide +kernel)), O.oN⟩
theorem no_bl (O : OddT K C) (b : Bool) : NoNum K C H (.bl b) := ⟨.type "bool", .base (.bl b), .inr ⟨kit_ty (by decide +kernel), kit_ty (by decide +kernel)⟩, O.oB⟩
theorem no_str (O : OddT K C) (z : Str) : NoNum K C H (.str z) := ⟨.type "str", .base (.str z), .inl (kit_ty (by decide +kernel)), O.oS⟩
theorem no_lst (O : OddT K C) (h : H l = some (.lst xs)) : NoNum K C H (.ref l) := ⟨.type "list", .base (.lst h), .inl (kit_ty (by decide +kernel)), O.oL⟩
theorem no_tup (O : OddT K C) (h : H l = some (.tup xs)) : NoNum K C H (.ref l) := ⟨.type "tuple", .base (.tup h), .inl (kit_ty (by decide +kernel)), O.oT⟩
theorem no_dic (O : OddT K C) (h : H l = some (.dK [])) : NoNum K C H (.ref l) := ⟨.type "dict", .base (.dK h), .inl (kit_ty (by decide +kernel)), O.oD⟩
/-- v is no number, and a Ratio is asked whether it's equal -/
def NoEq (K : PySem.W.Frag) (C : Addr) (H : Hp) (v : V) : Prop := NoNum K C H v ∧ ∃ t, TyX K H v t ∧ PySem.W.notFirst K C t = true
theorem ev_roeq (ha : EvR C ta σ H q1) (hb : Ev tb σ H v) (n : ∀ H1, Ex H H1 → NoEq K C H1 v) : Ev (tOp (rOwnEq K C (spEq K C) EE) ta tb) σ H (.bl false) := fun H1 e Q k =>
  ha H1 e _ fun p H2 e2 hp => hb H2 (e.trans e2) _ fun H3 e3 => by
    obtain ⟨n1, n2⟩ := n H3 ((e.trans e2).trans e3)
    exact ⟨(hp.ex e3).ins, n2, p, v, q1, rfl, hp.ex e3, .inr ⟨n1, k H3 (e2.trans e3)⟩⟩
theorem ev_rone (ha : EvR C ta σ H q1) (hb : Ev tb σ H v) (n : NumV C H v q2) (rs : RIs K C) (si : PySem.W.subIn K (.type "int") (.ref C) = some false) : Ev (tOp (rOwnNe K C (spEq K C) EE) ta tb) σ H (.bl (!decide (q1 = q2))) := fun H1 e Q k =>
  ha H1 e _ fun p H2 e2 hp => hb H2 (e.trans e2) _ fun H3 e3 => by
    have e13 := (e.trans e2).trans e3
    exact ⟨(hp.ex e3).ins, (n.ex e13).nf rs si, p, v, q1, rfl, hp.ex e3, .inl ⟨q2, n.ex e13, _, rfl, k H3 (e2.trans e3)⟩⟩
/-- Ratio(bottom = .., top = ..) -/
theorem er_kw {t b : Int} {ks : List Str} (hk : ks.length = 2) (ha : Ev tb σ H (.int b)) (hb : Ev ta σ H (.int t)) (h1 : t.natAbs < 2 ^ 8900) (h2 : b.natAbs < 2 ^ 8900) (nb : b ≠ 0) :
    EvR C (tMakeK C 0 ks.length (spInit C CZ) (fun vs zs => vs ++ (zs.drop 1 ++ zs.take 1)) EE tNil (tCons tb (tCons ta tNil))) σ H (Rat.divInt t b) := fun H1 e Q k =>
  ha H1 e _ fun H2 e2 => hb H2 (e.trans e2) _ fun H3 e3 => ⟨rfl, hk.symm, fun p dx nx nd ne => ⟨p, dx, t, b, rfl, upd_same, h1, h2, fun z => (nb z).elim, fun _ => ⟨rfl, k p _ ((e2.trans e3).trans (made nx nd ne).1) (made nx nd ne).2⟩⟩⟩
theorem er_mk1 {t : Int} (ha : Ev ta σ H (.int t)) (h1 : t.natAbs < 2 ^ 8900) : EvR C (tMakeSD C (spInit C CZ) [.int 1] E (tCons ta tNil)) σ H (t : Rat) := er_is (er_new1 ha h1) (one_is t)
end
end RatK
set_option Elab.async false
set_option linter.all false
set_option maxRecDepth 100000
set_option maxHeartbeats 2000000
/-! ### own exceptions held as values: made, asked for their class and their fields -/
namespace L2
open PySem PySem.Spec PyProof.Rows
def ExV (C : Addr) (od : Option Addr) (a : Addr) : HO := .ext fun h => ∃ oe vs, h.get? a = some oe ∧ Zc (.ref C) od oe ∧ oe.data = .fields vs
theorem exv_ok {P : Program} {w : World} {H : Hp} {h : Heap} {a C : Addr} {od : Option Addr} {oe : Obj} {vs : Array Value} (g : h.get? a = some oe) (z : Zc (.ref C) od oe) (d : oe.data = .fields vs) : ObjOk P w H h a (ExV C od a) :=
  ⟨⟨oe, vs, g, z, d⟩, ⟨oe, g⟩, fun h1 h2 ⟨oe1, vs1, g1, z1, d1⟩ k => ⟨oe1, vs1, k oe1 g1, z1, d1⟩⟩
/-- what is asked of the class -/
structure ExCls (K : PySem.W.Frag) (C : Addr) : Prop where
  is : (PySem.W.clsIn K C).isSome = true
  ga : PySem.W.findIn K (.ref C) "__getattribute__" = some (some (.builtin "BaseException.__getattribute__"))
  gg : PySem.W.findIn K (.ref C) "__getattr__" = some none
  ex : PySem.W.subIn K (.ref C) (.type "BaseException") = some true
  ca : PySem.W.findIn K (.ref C) "__class__" = some (some (.builtin "object.__class__"))
  cn : PySem.W.specialIn K (.builtin "object.__class__") "__get__" = some (some (.builtin "getset_descriptor.__get__"))
  ct : PySem.W.takesIn K (.builtin "object.__class__") = some true
  cm : PySem.W.mroIn K C (.type "object") = some true
  hd : PySem.W.hasDictIn K C = true
/-- an exception at a: of the class at C, with these fields in a dict, or none -/
def ExAt (H : Hp) (a C : Addr) (fs : Option (List (Str × V))) : Prop := ∃ od : Option Addr, H a = some (ExV C od a) ∧ match od, fs with
  | some d, some l => H d = some (.xd l)
  | none, none => True
  | _, _ => False
section
variable {X : Cx}
theorem ex_inst {pins : List (Addr × Obj)} {σ : St} {H : Hp} {s : Shared} {a C : Addr} {fs : Option (List (Str × V))} (I : Inv X pins σ H s) (h : ExAt H a C fs) :
    ∃ ox od, PySem.W.InstAt s.heap a ox C od ∧ ∀ l, fs = some l → ∃ (o : Obj) (mA : Str → Option Value), od = some o ∧ (∀ f, RelO (l.lookup f) (mA f)) ∧ ∀ f, PySem.W.lookIn f o = some (mA f) := by
  obtain ⟨od, ha, hm⟩ := h
  have oa : ObjOk X.prog X.w H s.heap a (ExV C od a) := I.hok a _ ha
  obtain ⟨⟨oe, vs, g, z, d⟩, _⟩ := oa
  have no : PySem.W.notCls oe = true := by unfold PySem.W.notCls; rw [d] <;> rfl
  match od, fs, hm with
  | none, none, _ => exact ⟨oe, none, ⟨g, z.1, no, by rw [z.2]; trivial⟩, fun l e => by cases e⟩
  | some dd, some l, hm =>
    have od : ObjOk X.prog X.w H s.heap dd (.xd l) := I.hok dd _ hm
    obtain ⟨mA, hns, hr⟩ := od
    obtain ⟨o, ho, hl⟩ := lookIn_ns hns
    refine ⟨oe, some o, ⟨g, z.1, no, by rw [z.2]; exact ho⟩, fun l' e => ?_⟩
    cases e
    exact ⟨o, mA, rfl, hr, hl⟩
/-- isinstance(error, C) -/
def rIsiE (K : PySem.W.Frag) : List V → Hp → VK → Prop := fun vs H Q => ∃ a c u b C fs, vs = [.ref a, c] ∧ ClsV c u ∧ ExAt H a C fs ∧ ExCls K C ∧ PySem.W.kitOne K (.ref C) u = some b ∧ Q (.bl b) H
theorem call_isiE : CallR X (.builtin "isinstance") (rIsiE X.K) := by
  intro pins s σ H vs us Q I r h
  obtain ⟨a, c, u, b, C, fs, rfl, hc, he, k, hk, q⟩ := h
  obtain ⟨ox, od, J, _⟩ := ex_inst I he
  cases r with
  | cons r1 r2 =>
    rename_i v1 us1
    cases r2 with
    | cons r3 r4 =>
      rename_i v2 us2
      cases r4
      cases (show v1 = Value.ref a from r1)
      cases ClsV.eq hc r3
      exact PySem.W.kia_one (PySem.W.kitx_exc k.is k.ga k.gg k.ex k.ca k.cn k.ct k.cm) I.kIn J hk (by intro z; cases z) fun tk => ⟨.bl b, H, I.tok _, rfl, q⟩
/-- error.f -/
def tFldE (K : PySem.W.Frag) (te : TE) (f : Str) : TE := fun σ H Q => te σ H fun x H1 => ∃ a C l v, x = .ref a ∧ ExAt H1 a C (some l) ∧ ExCls K C ∧ PySem.W.findIn K (.ref C) f = some none ∧ l.lookup f = some v ∧ Q v H1
theorem pe_fldE {e : Expr} {te : TE} {f : Str} {pos : Pos} (he : PE X e te) (hb : attributeBase e f X.env (eval e X.env) = eval e X.env := by rfl) : PE X (.Attribute e f pos) (tFldE X.K te f) := by
  refine .mk fun pins s σ H Q I h => ?_
  refine attr_of hb (thn (he.run pins s σ H _ I h) fun u s1 hh => ?_)
  obtain ⟨x, H1, I1, rx, a, C, l, v, ex, hx, k, nf, hl, q⟩ := hh
  subst ex
  obtain rfl : u = Value.ref a := rx
  obtain ⟨ox, od, J, hf⟩ := ex_inst I1 hx
  obtain ⟨o, mA, rfl, hr, hlk⟩ := hf l rfl
  obtain ⟨w, hw, rw⟩ := RelO.some_of (v := v) (o := mA f) (by rw [← hl]; exact hr f)
  exact HandSPX.exc_get I1.kIn J k.ga k.gg k.ex (PySem.W.findObj_own k.hd nf rfl (by rw [hlk, hw])) (handed_of rw) ⟨v, H1, I1.tok _, rw, q⟩
/-- X(), held as a value -/
theorem pe_exc0V {C : Addr} {bmB : List Value} {B newId initId : String} {x : Str} {p pos : Pos} (F : ExcBaseFacts B newId initId bmB) (q : PySem.W.excIn X.K C bmB newId = true) (gC : X.mg x = some (.ref C))
    (kC : PySem.W.keepIn X.K (.ref C) = true) (hg : Gl X x) (nd : (x == ("__debug__" : Str)) = false := by decide) : PE X (.Call (.Name x p) [] [] pos) (fun _ H Q => ∀ a, H a = none → Q (.ref a) (upd H a (ExV C none a))) := by
  refine .mk fun pins s σ H Q I h => ?_
  refine wpAny_Call_Name_kw (ld_glob I hg gC (PySem.W.callWith_K0 I.kIn kC ?_) nd)
  show wpAny _ _ (call (.ref C) []) _ _ _
  obtain ⟨bm, N, nm, qn, bs, hdct, sn, sub, ab, col, dd, k0, k1, k2, k3, k5, mN, hC, hN, hni, T⟩ := exc_obj I.kIn q
  refine wpAny_call_exc_subT F T hC hN hni (fun h' e hm => ?_) (Nat.zero_le _)
  obtain ⟨t, g, _⟩ := hm.there
  have he : H e = none := I.hok.gone hm.new
  exact ⟨.ref e, _, I.laidN hm.keeps hm.new he (exv_ok g ⟨rfl, rfl⟩ rfl), rfl, h e he⟩
def tLowV (C : Addr) (f : Str) (ta : TA) : TE := fun σ H Q => ta σ H fun vs H1 => ∃ v, vs = [v] ∧ ∀ d e, H1 d = none → H1 e = none → d ≠ e → Q (.ref e) (upd (upd H1 d (.xd [(f, v)])) e (ExV C (some d) e))
theorem lowV_end {pins : List (Addr × Obj)} {σ : St} {H1 : Hp} {Q : VK} {hp h' : Heap} {g : Array GenState} {dr : Drawn} {tk tk' : Nat} {os : OsState} {e C d : Addr} {v : V} {v' : Value} {fld : Str} (I1 : Inv X pins σ H1 ⟨hp, g, dr, tk, os⟩) (rv : RelV v v')
    (keep : ∀ b o, hp.get? b = some o → h'.get? b = some o) (new : hp.objs.size ≤ e) (obj : ∃ oe vs, h'.get? e = some oe ∧ oe.cls = .ref C ∧ oe.dict = some d ∧ oe.data = .fields vs ∧ vs[1]? = some .none)
    (dbig : hp.objs.size ≤ d) (dne : d ≠ e) (ns : h'.Ns1 d (fun y => if y = fld then some v' else none)) (rel : ∀ f, RelO (List.lookup f [(fld, v)]) (if f = fld then some v' else none))
    (q : ∃ v0, [v] = [v0] ∧ ∀ d e, H1 d = none → H1 e = none → d ≠ e → Q (.ref e) (upd (upd H1 d (.xd [(fld, v0)])) e (ExV C (some d) e))) : EP X pins σ Q (.ref e) ⟨h', g, dr, tk', os⟩ := by
  obtain ⟨oe, fv, hoe, hc, hd, hdat, _⟩ := obj
  obtain ⟨v0, ev, q⟩ := q
  cases ev
  obtain ⟨G', g1, g2⟩ := restrict h' fun b => decide (b ≠ e)
  have gk : ∀ b, b ≠ e → G'.get? b = h'.get? b := fun b hb => g1 b (decide_eq_true hb)
  have ge : G'.get? e = none := g2 e (by simp)
  have old : ∀ b o, hp.get? b = some o → G'.get? b = some o := fun b o q => (gk b (Nat.ne_of_lt (Nat.lt_of_lt_of_le (Heap.lt_size q) new))).trans (keep b o q)
  have ob : ObjOk X.prog X.w (upd H1 d (.xd [(fld, v)])) G' d (.xd [(fld, v)]) := ⟨_, ns.at (fun o q => (gk d dne).trans q), rel⟩
  have J : Inv X pins σ (upd H1 d (.xd [(fld, v)])) ⟨G', g, dr, tk', os⟩ := I1.laid (t' := tk') old dbig ob
  have fe : H1 e = none := I1.hok.fresh new
  have fe2 : (upd H1 d (.xd [(fld, v)])) e = none := by rw [upd_ne (Ne.symm dne)]; exact fe
  have sub : ∀ b o, G'.get? b = some o → h'.get? b = some o := fun b o q => by
    by_cases hb : b = e
    · rw [hb, ge] at q; cases q
    · exact (gk b hb).symm.trans q
  exact ⟨.ref e, _, J.laidN (t' := tk') sub ge fe2 (exv_ok hoe ⟨hc, hd⟩ hdat), rfl, q d e (I1.hok.fresh dbig) fe dne⟩
end
end L2
set_option linter.all false
set_option maxRecDepth 100000
set_option maxHeartbeats 2000000
namespace PySem
namespace HandSPX
open PySem.W PySem.Calls PyProof.Rows
variable {prog : Program} {w : World} {A : Around} {R : Result → Shared → Prop} {h : Heap} {g : Array GenState} {d : Drawn} {t : Nat} {os : OsState} {nm q : Str} {C N : Addr} {bs bm bmB : List Value} {hdct : Bool} {sn : List Str} {sub : List Value} {ab : Bool} {col : Option Bool} {dd : Option Addr} {k0 k1 k2 k3 k5 : Option Value} {B newId initId : String}
/-- what BaseException.__new__ does once its own place is known -/
def newRest (st : List (Code × Pos)) (c : Value) (kNo kSub : String → Sem PySem.Fin) (kBad1 kBad2 : Sem String) : Sem PySem.Fin := do
  let owner ← (match st with
    | (Code.builtin id _, _) :: _ => if id.endsWith ".__new__" = true then pure (id.dropRight 8) else kBad1
    | _ => kBad2)
  let ty ← isType c
  if (!ty) = true then kNo owner else
  let sb ← isSubtype c (.type owner)
  if (!sb) = true then kSub owner else
  Bind.madeHere "BaseException.__new__" c
  let n ← (do
    let a ← isSubtype c (.type "AttributeError")
    if a = true then pure 2 else do
      let b ← isSubtype c (.type "NameError")
      if b = true then pure 1 else pure 0)
  let tp ← newTuple []
  let o ← newObj c (Data.fields (#[tp, Value.none, Value.none, Value.none, Value.bool false, Value.none] ++ (List.replicate n (rawInt 0)).toArray))
  ret o
theorem new_is (c : Value) (kw : List (Str × Value)) : ∃ kNo kSub kBad1 kBad2, Builtin.«BaseException.__new__» ⟨[c], kw⟩ = stack >>= fun st => newRest st c kNo kSub kBad1 kBad2 := ⟨_, _, _, _, rfl⟩
theorem new_restK {Q : PySem.Fin → Shared → Prop} {E : Value → Shared → Prop} (F : ExcBaseFacts B newId initId bmB) (hc : ∀ X : String, bm.contains (Value.type X) = bmB.contains (Value.type X)) {args : Args} {p : Pos} {st : List (Code × Pos)} {kNo kSub : String → Sem PySem.Fin} {kB1 kB2 : Sem String}
    (hC : h.get? C = some (excClassObj nm q C N bs bm hdct sn sub ab col dd k0 k1 k2 k3 k5 newId)) (hq : Q (.done (.ret (.ref (h.objs.size + 1)))) ⟨(h.push (kdv_tup [])).push (excO C h.objs.size), g, d, t, os⟩) :
    wpAny (model prog w) A (newRest ((.builtin newId args, p) :: st) (.ref C) kNo kSub kB1 kB2) Q E ⟨h, g, d, t, os⟩ := by
  unfold newRest
  refine wpAny_bind ?_
  dsimp only
  rw [if_pos F.ends, F.owner]
  refine wpAny_pure ?_
  have b1 : (Value.ref C :: bm).contains (Value.type B) = true := by
    rw [List.contains_cons, hc, F.hasB, Bool.or_true]
  have b2 : (Value.ref C :: bm).contains (Value.type "AttributeError") = false := by
    rw [List.contains_cons, hc, F.noAttr]
    rfl
  have b3 : (Value.ref C :: bm).contains (Value.type "NameError") = false := by
    rw [List.contains_cons, hc, F.noName]
    rfl
  refine wpAny_bind (m := isType (.ref C)) ?_
  have it : ∀ {Q : Bool → Shared → Prop}, Q true ⟨h, g, d, t, os⟩ → wpAny (model prog w) A (isType (.ref C)) Q E ⟨h, g, d, t, os⟩ := by
    intro Q hQ
    unfold isType
    have hC2 := hC
    unfold excClassObj at hC2
    wp_walk using AutoSeq1.wpAny_loadPart' hC2, wpAny_load hC2
    exact hQ
  refine it ?_
  rw [if_neg (by decide)]
  refine wpAny_bind (wpAny_isSubtype_exc hC ?_)
  rw [b1, if_neg (by decide)]
  refine wpAny_bind (wpAny_madeHere_exc F.canon hC ?_)
  refine wpAny_bind ?_
  refine wpAny_bind (wpAny_isSubtype_exc hC ?_)
  rw [b2, if_neg (by decide)]
  refine wpAny_bind (wpAny_isSubtype_exc hC ?_)
  rw [b3, if_neg (by decide)]
  refine wpAny_pure ?_
  wp_walk
  show Q (.done (.ret (.ref (h.push { cls := Value.type "tuple", data := Data.seq #[] }).objs.size))) _
  rw [Heap.size_push]
  exact hq
theorem check_newK (F : ExcBaseFacts B newId initId bmB) {cls : Value} {kw : List (Str × Value)} : checkBuiltinCall newId ⟨[cls], kw⟩ = checkBuiltinCall newId ⟨[cls], []⟩ := by
  have e : Bind.checkArgs newId { machinery := Manifest.Machinery.any, full := B, short := B, receiver := Manifest.Receiver.cls, params := [{ name := "args", kind := Manifest.ParamKind.varPos, required := false }, { name := "kwargs", kind := Manifest.ParamKind.varKw, required := false }] } ⟨[cls], kw⟩ = Bind.checkArgs newId { machinery := Manifest.Machinery.any, full := B, short := B, receiver := Manifest.Receiver.cls, params := [{ name := "args", kind := Manifest.ParamKind.varPos, required := false }, { name := "kwargs", kind := Manifest.ParamKind.varKw, required := false }] } ⟨[cls], []⟩ := by
    unfold Bind.checkArgs
    rfl
  unfold checkBuiltinCall
  rw [F.newRow, F.newKind, F.newSplit]
  dsimp only
  rw [e]
theorem call_newK {Q : Value → Shared → Prop} {E : Value → Shared → Prop} (F : ExcBaseFacts B newId initId bmB) (hc : ∀ X : String, bm.contains (Value.type X) = bmB.contains (Value.type X)) {kw : List (Str × Value)}
    (hC : h.get? C = some (excClassObj nm q C N bs bm hdct sn sub ab col dd k0 k1 k2 k3 k5 newId)) (hq : Q (.ref (h.objs.size + 1)) ⟨(h.push (kdv_tup [])).push (excO C h.objs.size), g, d, t, os⟩) :
    wpAny (model prog w) A (call (.builtin newId) [.ref C] kw) Q E ⟨h, g, d, t, os⟩ := by
  refine wpAny_call (codeAny_call_builtin_own ?_ F.entry ?_)
  · exact Code.quiet_builtin _ F.quiet
  · rw [check_newK F]
    refine check_new_own F hc hC ?_
    obtain ⟨kNo, kSub, kB1, kB2, e⟩ := new_is (.ref C) kw
    rw [e]
    exact wpOwn_bind (wpOwn_stack fun p below _ _ _ => wpOwn_of_wpAny (new_restK F hc hC hq))
theorem type_call_ownK {Q : PySem.Fin → Shared → Prop} {E : Value → Shared → Prop} (F : ExcBaseFacts B newId initId bmB) (hc : ∀ X : String, bm.contains (Value.type X) = bmB.contains (Value.type X)) {kw : List (Str × Value)} {fI : Addr}
    (hC : h.get? C = some (excClassObj nm q C N bs bm hdct sn sub ab col dd k0 k1 k2 k3 k5 newId)) (hini : Looks (model prog w) ((h.push (kdv_tup [])).push (excO C h.objs.size)) (typeLookup (.ref C) "__init__") (some (.ref fI)))
    (hbi : ∀ self : Value, Looks (model prog w) ((h.push (kdv_tup [])).push (excO C h.objs.size)) (bindSpecial (.ref fI) self) (.ref fI, [self]))
    (hq : codeAny (model prog w) A (.call (.ref fI) ⟨[.ref (h.objs.size + 1)], kw⟩) (fun r s' => match r with | .ok (.ret v) => v = .none ∧ Q (.done (.ret (.ref (h.objs.size + 1)))) s' | .ok _ => False | .error e => E e s') ⟨(h.push (kdv_tup [])).push (excO C h.objs.size), g, d, t, os⟩) :
    wpAny (model prog w) A (Builtin.«type.__call__» ⟨[.ref C], kw⟩) Q E ⟨h, g, d, t, os⟩ := by
  unfold Builtin.«type.__call__»
  dsimp only
  rw [if_neg (show ¬ (Value.ref C == Value.type "type") = true from by intro z; cases z)]
  refine wpAny_bind (wpAny_mroOf_exc hC ?_)
  rw [if_neg (by simp)]
  refine wpAny_bind (wpAny_madeBy_exc hC ?_)
  dsimp only
  refine wpAny_bind (wpAny_pure ?_)
  refine wpAny_bind (wpAny_holding (call_newK F hc hC ?_))
  have k : ∀ b o, h.get? b = some o → ((h.push (kdv_tup [])).push (excO C h.objs.size)).get? b = some o := fun b o e => Heap.get?_push_of_some _ (Heap.get?_push_of_some _ e)
  have hget : ((h.push (kdv_tup [])).push (excO C h.objs.size)).get? (h.objs.size + 1) = some (excO C h.objs.size) := by heap_get
  have hC2 := k _ _ hC
  have I : InstAt ((h.push (kdv_tup [])).push (excO C h.objs.size)) (h.objs.size + 1) (excO C h.objs.size) C none := ⟨hget, rfl, rfl, trivial⟩
  generalize (h.push (kdv_tup [])).push (excO C h.objs.size) = h2 at *
  refine wpAny_bind ?_
  unfold isInstance
  refine wpAny_bind (I.type.here (wpAny_isSubtype_exc hC2 ?_))
  rw [if_neg (by simp)]
  refine wpAny_bind (wpAny_holding ?_)
  unfold callSpecial? specialOf
  refine wpAny_bind (wpAny_bind (I.type.here (hini.here ?_)))
  dsimp only
  refine wpAny_holding (wpAny_bind ((hbi _).here ?_))
  dsimp only
  refine wpAny_bind (wpAny_call (codeAny_mono hq fun r s' z => ?_))
  match r, z with
  | .ok (.ret v), z =>
    obtain ⟨rfl, z⟩ := z
    refine wpAny_pure ?_
    dsimp only
    rw [if_neg (by simp)]
    exact wpAny_pure z
  | .error e, z => exact z
theorem call_ownK (F : ExcBaseFacts B newId initId bmB) (hc : ∀ X : String, bm.contains (Value.type X) = bmB.contains (Value.type X)) {kw : List (Str × Value)} {fI : Addr}
    (hC : h.get? C = some (excClassObj nm q C N bs bm hdct sn sub ab col dd k0 k1 k2 k3 k5 newId)) (hini : Looks (model prog w) ((h.push (kdv_tup [])).push (excO C h.objs.size)) (typeLookup (.ref C) "__init__") (some (.ref fI)))
    (hbi : ∀ self : Value, Looks (model prog w) ((h.push (kdv_tup [])).push (excO C h.objs.size)) (bindSpecial (.ref fI) self) (.ref fI, [self]))
    (hq : codeAny (model prog w) (A.under (.builtin "type.__call__" ⟨[.ref C], kw⟩)) (.call (.ref fI) ⟨[.ref (h.objs.size + 1)], kw⟩) (InitBack (h.objs.size + 1) R) ⟨(h.push (kdv_tup [])).push (excO C h.objs.size), g, d, t, os⟩) :
    codeAny (model prog w) A (.call (.ref C) ⟨[], kw⟩) R ⟨h, g, d, t, os⟩ := by
  refine codeAny_of_tree ?_
  show wpAny _ _ (callAny (.ref C) ⟨[], kw⟩) _ _ _
  unfold callAny
  have hC2 := hC
  unfold excClassObj at hC2
  refine wpAny_bind (wpAny_load hC ?_)
  show wpAny _ _ (callAny.viaDunder (.ref C) ⟨[], kw⟩) _ _ _
  unfold callAny.viaDunder
  wp_walk using AutoSeq1.wpAny_loadPart' hC2, wpAny_load hC2
  have tl : typeLookup (Value.type "type") (Str.ofString "__call__") = pure (some (Value.builtin "type.__call__")) := by
    rw [typeLookup_type, builtinLookup_eq_fast]
    kernel_rfl
  refine wpAny_of_eq tl ?_
  dsimp only
  have bs' : bindSpecial (Value.builtin "type.__call__") (Value.ref C) = pure (Value.builtin "type.__call__", [Value.ref C]) := by
    kernel_rfl
  refine wpAny_bind (wpAny_of_eq bs' ?_)
  dsimp only
  refine wpAny_bind ?_
  unfold callAny.plainCallee
  dsimp only
  refine wpAny_pure ?_
  rw [if_pos (by decide)]
  refine wpAny_pure ?_
  dsimp only
  refine ⟨by rfl, ?_⟩
  refine codeAny_call_builtin_code (Code.quiet_builtin _ (by decide +kernel)) ?_
  have lk : Looks (model prog w) h (isInstance (.ref C) (.type "type")) true := by
    intro A Q E s k q
    obtain ⟨hp, g, d, t, os⟩ := s
    have hC3 := k _ _ hC
    unfold excClassObj at hC3
    unfold isInstance
    wp_walk using AutoSeq1.wpAny_loadPart' hC3, wpAny_load hC3
    exact wpAny_of_eq (show isSubtype (Value.type "type") (Value.type "type") = pure true from by kernel_rfl) q
  have ao : argsOk "type.__call__" { pos := [Value.ref C], kw := kw } := by
    kernel_rfl
  refine check_slot (owner := "type") (n := "__call__") (by kernel_rfl) (by kernel_rfl) lk ao ?_
  refine codeAny_builtin (b := Builtin.«type.__call__») PySem.F.entry_type_call (type_call_ownK F hc hC hini hbi (codeAny_mono hq fun r s' z => ?_))
  match r, z with
  | .ok (.ret v), z => exact z
  | .error e, z => exact z
end HandSPX
end PySem
set_option Elab.async false
set_option linter.all false
set_option maxRecDepth 100000
set_option maxHeartbeats 2000000
/-! ### data with small dicts, shown; what is new in a heap; exceptions in pairs -/
namespace L2
open PySem PySem.Spec PyProof.Rows Evl
mutual
inductive Dq (H : Hp) : V → PyData → Prop where
  | non : Dq H .non .none
  | bl (b : Bool) : Dq H (.bl b) (.bool b)
  | int (i : Int) : Dq H (.int i) (.int i)
  | str (x : Str) : Dq H (.str x) (.str x)
  | lst {a : Addr} {xs : List V} {ds : List PyData} : H a = some (.lst xs) → (a == sysModules) = false → DqAll H xs ds → Dq H (.ref a) (.list ds)
  | tup {a : Addr} {xs : List V} {ds : List PyData} : H a = some (.tup xs) → DqAll H xs ds → Dq H (.ref a) (.tuple ds)
  | dK {a : Addr} {z : Str} {v : V} {d : PyData} : H a = some (.dK [(.inr z, v)]) → Dq H v d → Dq H (.ref a) (.dict [(.str z, d)])
  | dT {a : Addr} {z : Str} {i : Int} {v : V} {d : PyData} : H a = some (.dT [([.inr z, .inl i], v)]) → Dq H v d → Dq H (.ref a) (.dict [(.tuple [.str z, .int i], d)])
inductive DqAll (H : Hp) : List V → List PyData → Prop where
  | nil : DqAll H [] []
  | cons {v : V} {vs : List V} {d : PyData} {ds : List PyData} : Dq H v d → DqAll H vs ds → DqAll H (v :: vs) (d :: ds)
end
theorem Dq.keep {H H2 : Hp} (k : ∀ a o, H a = some o → H2 a = some o) {d : PyData} {v : V} (h : Dq H v d) : Dq H2 v d :=
  Dq.rec (motive_1 := fun v d _ => Dq H2 v d) (motive_2 := fun v d _ => DqAll H2 v d) .non .bl .int .str (fun h n _ r => .lst (k _ _ h) n r) (fun h _ r => .tup (k _ _ h) r) (fun h _ r => .dK (k _ _ h) r) (fun h _ r => .dT (k _ _ h) r) .nil (fun _ _ h r => .cons h r) h
theorem DqAll.keep {H H2 : Hp} (k : ∀ a o, H a = some o → H2 a = some o) : ∀ {vs : List V} {ds : List PyData}, DqAll H vs ds → DqAll H2 vs ds
  | _, _, .nil => .nil
  | _, _, .cons h r => .cons (h.keep k) (DqAll.keep k r)
section
variable {X : Cx} {pins : List (Addr × Obj)} {σ : St} {H : Hp} {s : Shared}
theorem Dq.reads (I : Inv X pins σ H s) {d : PyData} {v : V} (h : Dq H v d) : ∀ u : Value, RelV v u → ∃ as, Reads s.heap u d as ∧ sysModules ∉ as := by
  refine Dq.rec (motive_1 := fun v d _ => ∀ u : Value, RelV v u → ∃ as, Reads s.heap u d as ∧ sysModules ∉ as) (motive_2 := fun vs ds _ => ∀ us : List Value, Vals vs us → ∃ as, ReadsAll s.heap us ds as ∧ sysModules ∉ as) ?_ ?_ ?_ ?_ ?_ ?_ ?_ ?_ ?_ ?_ h
  · intro u r
    cases r
    exact ⟨_, Reads.none, by simp⟩
  · intro b u r
    cases r
    exact ⟨_, Reads.bool b, by simp⟩
  · intro i u r
    obtain ⟨t, rfl⟩ := r
    exact ⟨_, Reads.int i t, by simp⟩
  · intro x u r
    obtain ⟨t, rfl⟩ := r
    exact ⟨_, Reads.str x t, by simp⟩
  · intro a xs ds hs hn ha ih u r
    cases r
    obtain ⟨_, its, n, rv, ho⟩ := (show ObjOk X.prog X.w H s.heap a (.lst xs) from I.hok a _ hs)
    obtain ⟨as, hr, ns⟩ := ih its rv
    refine ⟨_, Reads.list ho rfl rfl (by simpa using hr), ?_⟩
    intro hm
    rcases List.mem_cons.mp hm with e | e
    · rw [← e] at hn
      simp at hn
    · exact ns e
  · intro a xs ds hs ha ih u r
    cases r
    obtain ⟨_, its, rv, o, ho, hc, n, hd⟩ := (show ObjOk X.prog X.w H s.heap a (.tup xs) from I.hok a _ hs)
    obtain ⟨as, hr, ns⟩ := ih its rv
    exact ⟨_, Reads.tuple ho hc hd (by simpa using hr), ns⟩
  · intro a z v d hs hv ih u r
    cases r
    obtain ⟨_, hn, vs, kv, o, es, ep, g, ed, dt, kn, pr, _⟩ := (show ObjOk X.prog X.w H s.heap a (.dK [(.inr z, v)]) from I.hok a _ hs)
    cases kv with
    | @cons p q _ qs hq t =>
      cases t
      obtain ⟨hk, hr⟩ := hq
      obtain ⟨es⟩ := es
      cases pr with
      | @cons e _ es' _ h1 h2 t2 =>
        cases t2
        rw [← hk] at h1
        have kz : ∃ t, e.key = Value.str z t := by
          rcases keyIs_shape (show keyIs (.inr z) e.key = true from h1) with ⟨i, t, e1, _⟩ | ⟨x, t, e1, e2⟩
          · cases e1
          · cases e1
            exact ⟨t, e2⟩
        obtain ⟨t, ek⟩ := kz
        obtain ⟨as, rd, ns⟩ := ih q.2 hr
        refine ⟨_, Reads.dict (as := [] ++ []) (bs := as ++ []) g ed.1 dt ?_ ?_, ?_⟩
        · show ReadsAll s.heap [e.key] [PyData.str z] _
          rw [ek]
          exact .cons (.str z t) .nil
        · show ReadsAll s.heap [e.val] [d] _
          rw [h2]
          exact .cons rd .nil
        · intro hm
          simp only [List.nil_append, List.append_nil, List.mem_cons, List.cons_append] at hm
          rcases hm with e | e
          · rw [← e] at hn
            simp at hn
          · exact ns e
  · intro a z i v d hs hv ih u r
    cases r
    obtain ⟨_, hn, xs, kv, o, es, ep, g, ed, dt, ee, _⟩ := (show ObjOk X.prog X.w H s.heap a (.dT [([.inr z, .inl i], v)]) from I.hok a _ hs)
    cases kv with
    | @cons p q _ qs hq t =>
      cases t
      obtain ⟨_, ht, hr⟩ := hq
      obtain ⟨es⟩ := es
      have e1 : es = [entryOfKey (tupleKind (mixKind X.prog X.w)) q] := ee
      subst e1
      obtain ⟨_, its, rv, ot, ho, hc, n, hd⟩ := (show ObjOk X.prog X.w H s.heap q.2.1 (.tup [.str z, .int i]) from I.hok _ _ ht)
      have rk : ReadsAll s.heap its [PyData.str z, PyData.int i] ([] ++ ([] ++ [])) := by
        cases rv with
        | cons r1 r2 =>
          cases r2 with
          | cons r3 r4 =>
            cases r4
            obtain ⟨t1, rfl⟩ := r1
            obtain ⟨t2, rfl⟩ := r3
            exact .cons (.str z t1) (.cons (.int i t2) .nil)
      obtain ⟨as, rd, ns⟩ := ih q.2.2 hr
      refine ⟨_, Reads.dict (as := [] ++ []) (bs := as ++ []) g ed.1 dt ?_ ?_, ?_⟩
      · show ReadsAll s.heap [Value.ref q.2.1] [PyData.tuple [PyData.str z, PyData.int i]] _
        exact .cons (.tuple ho hc hd (by simpa using rk)) .nil
      · show ReadsAll s.heap [q.2.2] [d] _
        exact .cons rd .nil
      · intro hm
        simp only [List.nil_append, List.append_nil, List.mem_cons, List.cons_append] at hm
        rcases hm with e | e
        · rw [← e] at hn
          simp at hn
        · exact ns e
  · intro us r
    cases r
    exact ⟨_, ReadsAll.nil, by simp⟩
  · intro v vs d ds _ _ ih1 ih2 us r
    cases r with
    | cons r1 r2 =>
      obtain ⟨as, q1, n1⟩ := ih1 _ r1
      obtain ⟨bs, q2, n2⟩ := ih2 _ r2
      refine ⟨_, ReadsAll.cons q1 q2, ?_⟩
      intro hm
      rcases List.mem_append.mp hm with e | e
      · exact n1 e
      · exact n2 e
end
/-- what repr tells of it -/
inductive Req (H : Hp) : V → Str → Prop where
  | non : Req H .non (Str.ofString "None")
  | bl (b : Bool) : Req H (.bl b) (if b = true then Str.ofString "True" else Str.ofString "False")
  | int (i : Int) : i.natAbs.log2 < 1920 → Req H (.int i) (Str.ofString (toString i))
  | str (z : Str) : (reprText z).length ≤ sizeLine → Req H (.str z) (reprText z)
  | dat {a : Addr} {d : PyData} : Dq H (.ref a) d → d.showable = true → d.depth ≤ 60 → d.shown.length ≤ sizeLine → Req H (.ref a) d.shown
theorem Req.keep {H H2 : Hp} {v : V} {z : Str} (k : ∀ a o, H a = some o → H2 a = some o) (h : Req H v z) : Req H2 v z := by
  cases h with
  | non => exact .non
  | bl b => exact .bl b
  | int i h => exact .int i h
  | str z h => exact .str z h
  | dat h1 h2 h3 h4 => exact .dat (h1.keep k) h2 h3 h4
def rReprQ (K : PySem.W.Frag) : List V → Hp → VK → Prop := fun vs H Q => ∃ v z, vs = [v] ∧ Req H v z ∧ Q (.str z) H
theorem cr_reprQ {X : Cx} {K : PySem.W.Frag} (hu : X.A.units + 64 < cLine) (hgd : X.A.guards = some []) : CallR X (.builtin "repr") (rReprQ K) := by
  intro pins s σ H vs us Q I r h
  obtain ⟨v, z, rfl, hd, q⟩ := h
  cases hd with
  | non => exact cr_reprA hu hgd pins s σ H _ us Q I r ⟨_, _, rfl, .non, q⟩
  | bl b => exact cr_reprA hu hgd pins s σ H _ us Q I r ⟨_, _, rfl, .bl b, q⟩
  | int i hi => exact cr_reprA hu hgd pins s σ H _ us Q I r ⟨_, _, rfl, .int i hi, q⟩
  | str x hx => exact cr_reprA hu hgd pins s σ H _ us Q I r ⟨_, _, rfl, .str x hx, q⟩
  | @dat a d h1 h2 h3 h4 =>
    obtain ⟨u, rfl, ru⟩ := vals1 r
    obtain ⟨as, rd, ns⟩ := Dq.reads I h1 u ru
    cases ru
    refine repr_of_reads' rd h2 (fun _ hm => ns hm) hgd (by omega) (fun b o e => e) (fun h' u tk hk => ?_) h4
    exact ⟨.str _, H, I.kept fun b o eo => hk b o eo, ⟨_, rfl⟩, q⟩
/-! a list, known to be none of the machine's; a dict with a pair for a key -/
def tLstS (t : TA) : TE := fun σ H Q => t σ H fun xs H1 => xs.length ≤ sizeLine ∧ ∀ p, H1 p = none → (p == sysModules) = false → Q (.ref p) (upd H1 p (.lst xs))
def tDispT (tk tv : TE) : TE := fun σ H Q => ∀ p, H p = none → tk σ (upd H p (.dT [])) fun x H1 => tv σ H1 fun y H2 => H2 p = some (.dT []) ∧ ∃ (k : List Key) (b : Addr), x = .ref b ∧ H2 b = some (.tup (k.map kV)) ∧ Q (.ref p) (upd H2 p (.dT [(k, y)]))
section
variable {X : Cx} {es : List Expr} {t : TA} {pos : Pos}
theorem pe_lstS (h : PA X es t) : PE X (.List es pos) (tLstS t) := by
  refine ⟨fun pins s σ H Q I hq => ?_⟩
  refine wpAny_List_spliced (thn (h.run pos pins s σ H _ I hq) fun us s1 ⟨xs, H1, I1, r, z, q⟩ => ⟨by rw [← r.length]; exact z, ?_⟩)
  have hf : H1 s1.heap.objs.size = none := I1.hok.fresh (Nat.le_refl _)
  refine ⟨.ref s1.heap.objs.size, upd H1 s1.heap.objs.size (.lst xs), I1.laid (t' := s1.toks) (fun b u e => Heap.get?_push_of_some _ e) (Nat.le_refl _) ?_, rfl, q _ hf (beq_eq_false_iff_ne.mpr (Nat.ne_of_gt I1.big))⟩
  exact ⟨z, us, 0, r, Heap.get?_push_size _ rfl⟩
theorem wpAny_subDictG {prog : Program} {w : World} {A : Around} {E : Value → Shared → Prop} {s : Shared} {pairs : List (Sem Value × Sem Value)} {Q : Addr → Shared → Prop} (hlen : pairs.length ≤ 15)
    (h : wpAny (model prog w) A (evalPairs pairs) (fun vs s1 => ∃ kv vv, vs = [(kv, vv)] ∧ wpAny (model prog w) A (dictSet s.heap.objs.size kv vv) (fun _ s' => Q s.heap.objs.size s') E s1) E { s with heap := s.heap.push { cls := .type "dict", data := .dict #[] } }) :
    wpAny (model prog w) A (subDict pairs) Q E s := by
  unfold subDict
  refine wpAny_bind (wpAny_alloc ?_)
  refine wpAny_bind (wpAny_holding ?_)
  rw [if_pos hlen]
  refine wpAny_bind (wpAny_mono h (fun vs s₁ h₁ => ?_) fun _ _ e => e)
  obtain ⟨kv, vv, rfl, h₁⟩ := h₁
  refine wpAny_holding ?_
  rw [List.forIn_cons]
  refine wpAny_bind (wpAny_bind (wpAny_bind (wpAny_mono h₁ (fun _ s' hq => wpAny_pure ?_) fun _ _ e => e)))
  dsimp only
  rw [List.forIn_nil]
  exact wpAny_pure (wpAny_pure (wpAny_pure hq))
theorem pe_dispT {ke ve : Expr} {tk tv : TE} (h : PPs X pos [some ke] [ve] [(tk, tv)]) (hu : X.A.units + 64 < cLine) : PE X (.Dict [some ke] [ve] pos) (tDispT tk tv) := by
  refine ⟨fun pins s σ H Q I q => ?_⟩
  have hn := I.hok.fresh (Nat.le_refl s.heap.objs.size)
  have I1 := I.laid (a := s.heap.objs.size) (o := .dT []) (h' := s.heap.push { cls := .type "dict", data := .dict #[] }) (t' := s.toks) (fun _ _ q => Heap.get?_push_of_some _ q) (Nat.le_refl _) (dt_empty s.heap I.big)
  have hp := pairTrees_length [some ke] [ve] X.env pos rfl rfl
  rw [arm_eval_Dict, zip_pairTrees [some ke] [ve] X.env pos rfl rfl, dictDisplay_pairs _ (fun e => by rw [e] at hp; cases hp) (by rw [hp]; show 1 < 17; decide)]
  refine wpAny_bind (wpAny_standAt (wpAny_bind (wpAny_subDictG (by rw [hp]; show 1 ≤ 15; decide) (thn (h.run pins _ σ _ (fun ps H2 => match ps with
    | [(x, y)] => H2 s.heap.objs.size = some (.dT []) ∧ ∃ (k : List Key) (b : Addr), x = .ref b ∧ H2 b = some (.tup (k.map kV)) ∧ Q (.ref s.heap.objs.size) (upd H2 s.heap.objs.size (.dT [(k, y)]))
    | _ => False) I1 (q _ hn)) ?_))))
  rintro ws s2 ⟨ps, H2, I2, rel, qq⟩
  match ps, ws, rel, qq with
  | [(x, y)], [(kv, vv)], .cons ⟨rx, ry⟩ .nil, ⟨e, k, b, ex, eb, q2⟩ =>
    subst ex
    refine ⟨kv, vv, rfl, ?_⟩
    cases (show kv = Value.ref b from rx)
    obtain ⟨z, hd, xs, relx, dd⟩ := dt_of I2.hok e
    have hz : xs.length ≤ sizeLine := by rw [← Paired.length relx]; exact z
    refine wpAny_dictSet_heap (hsz := hz) (by show X.A.units < cLine; omega) (key_of I2.hok eb) dd fun h' dd' hs => wpAny_pure ?_
    obtain ⟨q, es, ep, hq, h2, h3, h4, _, h5⟩ := dd'
    have new : ObjOk X.prog X.w (upd H2 s.heap.objs.size (.dT [(k, y)])) h' s.heap.objs.size (.dT [(k, y)]) := by
      refine ⟨(by show 1 ≤ sizeLine; decide), hd, _, (relx.put k eb ry).keeps fun c ys ec => ?_, q, es, ep, hq, h2, h3, h4, h5⟩
      rw [upd_ne (ne_of ec e (fun z => nomatch z))]
      exact ec
    exact ⟨.ref s.heap.objs.size, _, d_write I2 (by rw [e]; exact True.intro) hs ⟨q, hq⟩ new, rfl, q2⟩
end
end L2
set_option Elab.async false
set_option linter.all false
set_option maxRecDepth 100000
set_option maxHeartbeats 2000000
namespace L2
open PySem PySem.Spec PyProof.Rows Evl
/-- what is new behind H -/
def nw (H H2 : Hp) : Hp := fun x => match H x with | none => H2 x | some _ => none
section
variable {G H H2 H3 : Hp} {p : Addr} {o : HO}
theorem nw_ex : Ex (nw H H2) H2 := fun x o h => by
  unfold nw at h
  cases e : H x with
  | none => rw [e] at h; exact h
  | some u => rw [e] at h; cases h
theorem nw_grow : Ex (nw H H2) (LawK.grow G H H2) := fun x o h => by
  unfold nw at h
  unfold LawK.grow
  cases e : H x with
  | none => rw [e] at h; exact h
  | some u => rw [e] at h; cases h
theorem nw_r (k : Ex H2 H3) : Ex (nw H H2) (nw H H3) := fun x o h => by
  unfold nw at *
  cases e : H x with
  | none => rw [e] at h; exact k _ _ h
  | some u => rw [e] at h; cases h
theorem nw_l (k : Ex H H2) : Ex (nw H2 H3) (nw H H3) := fun x o h => by
  unfold nw at *
  cases e : H2 x with
  | none => rw [e] at h; rw [fresh_back k e]; exact h
  | some u => rw [e] at h; cases h
theorem nw_new (h : H p = none) : nw H H2 p = H2 p := by
  unfold nw
  rw [h]
end
/-- a thing of which P tells, by what is new -/
def EvN (te : TE) (σ : L2.St) (H : Hp) (P : Hp → V → Prop) : Prop := ∀ H1, Ex H H1 → ∀ Q : VK, (∀ v H2, Ex H1 H2 → P (nw H1 H2) v → Q v H2) → te σ H1 Q
def EvNA (ta : TA) (σ : L2.St) (H : Hp) (P : Hp → List V → Prop) : Prop := ∀ H1, Ex H H1 → ∀ Q : List V → Hp → Prop, (∀ v H2, Ex H1 H2 → P (nw H1 H2) v → Q v H2) → ta σ H1 Q
theorem DqAll.len {H : Hp} : ∀ {vs : List V} {ds : List PyData}, DqAll H vs ds → vs.length = ds.length
  | _, _, .nil => rfl
  | _, _, .cons _ r => by rw [List.length_cons, List.length_cons, DqAll.len r]
section
variable {σ : L2.St} {H : Hp} {te : TE} {ta : TA} {v : V} {d : PyData} {ds : List PyData} {P R : Hp → V → Prop} {n : Nat}
theorem en_v (h : Ev te σ H v) (p : ∀ H', P H' v) : EvN te σ H P := fun H1 e Q q => h H1 e Q fun H2 e2 => q v H2 e2 (p _)
theorem en_imp (h : EvN te σ H P) (k : ∀ H' v, P H' v → R H' v) : EvN te σ H R := fun H1 e Q q => h H1 e Q fun v H2 e2 p => q v H2 e2 (k _ _ p)
theorem en_mono {H' : Hp} (e : Ex H H') (h : EvN te σ H P) : EvN te σ H' P := fun H1 e1 => h H1 (e.trans e1)
theorem ed_nil : EvNA tNil σ H (fun H' xs => DqAll H' xs []) := fun H1 e Q q => q [] H1 (Ex.refl H1) .nil
theorem ed_cons (h : EvN te σ H (fun H' x => Dq H' x d)) (hr : EvNA ta σ H (fun H' xs => DqAll H' xs ds)) : EvNA (tCons te ta) σ H (fun H' xs => DqAll H' xs (d :: ds)) := fun H1 e Q q =>
  h H1 e _ fun v H2 e2 p => hr H2 (e.trans e2) _ fun xs H3 e3 ps => q (v :: xs) H3 (e2.trans e3) (.cons (Dq.keep (nw_r e3) p) (DqAll.keep (nw_l e2) ps))
theorem en_lstS (h : EvNA ta σ H (fun H' xs => DqAll H' xs ds)) (l : ds.length ≤ 100000) : EvN (tLstS ta) σ H (fun H' x => Dq H' x (.list ds)) := fun H1 e Q q =>
  h H1 e _ fun xs H2 e2 ps => ⟨by rw [ps.len]; exact sz_of l, fun p hp ns => q (.ref p) _ (e2.trans (Ex.new hp)) (.lst (by rw [nw_new (fresh_back e2 hp), upd_same]) ns (DqAll.keep (nw_r (Ex.new hp)) ps))⟩
theorem en_tup (h : EvNA ta σ H (fun H' xs => DqAll H' xs ds)) (l : ds.length ≤ 100000) : EvN (tTup ta) σ H (fun H' x => Dq H' x (.tuple ds)) := fun H1 e Q q =>
  h H1 e _ fun xs H2 e2 ps => ⟨by rw [ps.len]; exact sz_of l, fun p hp => q (.ref p) _ (e2.trans (Ex.new hp)) (.tup (by rw [nw_new (fresh_back e2 hp), upd_same]) (DqAll.keep (nw_r (Ex.new hp)) ps))⟩
theorem en_dK {z : Str} (hv : ∀ H', Dq H' v d) : EvN (tDisp [(tC (.str z), tC v)]) σ H (fun H' x => Dq H' x (.dict [(.str z, d)])) := fun H1 e Q q p hp => by
  refine ⟨upd_same, [(.inr z, v)], rfl, (by show 1 ≤ 15; decide), ?_⟩
  rw [upd_upd]
  exact q (.ref p) _ (Ex.new hp) (.dK (by rw [nw_new hp, upd_same]; rfl) (hv _))
theorem en_dT {z : Str} {i : Int} (hv : ∀ H', Dq H' v d) : EvN (tDispT (tTup (tCons (tC (.str z)) (tCons (tC (.int i)) tNil))) (tC v)) σ H (fun H' x => Dq H' x (.dict [(.tuple [.str z, .int i], d)])) := fun H1 e Q q p hp => by
  refine ⟨(by show 2 ≤ sizeLine; decide), fun b hb => ?_⟩
  have bp : p ≠ b := fun e => by rw [← e, upd_same] at hb; cases hb
  refine ⟨by rw [upd_ne bp, upd_same], [.inr z, .inl i], b, rfl, upd_same, ?_⟩
  refine q (.ref p) _ ?_ (.dT (by rw [nw_new hp, upd_same]) (hv _))
  intro x o hx
  have xp : x ≠ p := fun e => by rw [e, hp] at hx; cases hx
  rw [upd_ne xp]
  exact ((Ex.new hp).trans (Ex.new hb)) _ _ hx
def AllN (R : Hp → V → Prop) (n : Nat) (H : Hp) (xs : List V) : Prop := xs.length = n ∧ ∀ x ∈ xs, R H x
theorem el_nil : EvNA tNil σ H (AllN R 0) := fun H1 e Q q => q [] H1 (Ex.refl H1) ⟨rfl, fun _ h => by cases h⟩
theorem el_cons (mo : ∀ H1 H2 v, Ex H1 H2 → R H1 v → R H2 v) (h : EvN te σ H R) (hr : EvNA ta σ H (AllN R n)) : EvNA (tCons te ta) σ H (AllN R (n + 1)) := fun H1 e Q q =>
  h H1 e _ fun v H2 e2 p => hr H2 (e.trans e2) _ fun xs H3 e3 ps => q (v :: xs) H3 (e2.trans e3) ⟨by rw [List.length_cons, ps.1], fun x hx => by
    rcases List.mem_cons.mp hx with rfl | hx
    · exact mo _ _ _ (nw_r e3) p
    · exact mo _ _ _ (nw_l e2) (ps.2 x hx)⟩
def ReqE (H : Hp) (v : V) : Prop := ∃ z, Req H v z
theorem reqE_mo : ∀ (H1 H2 : Hp) (v : V), Ex H1 H2 → ReqE H1 v → ReqE H2 v := fun _ _ _ e ⟨z, h⟩ => ⟨z, h.keep e⟩
def notAtom : PyData → Bool
  | .list _ => true
  | .tuple _ => true
  | .dict _ => true
  | _ => false
theorem Dq.ref {H : Hp} (h : Dq H v d) (n : notAtom d = true) : ∃ a, v = .ref a := by
  cases h <;> first | exact ⟨_, rfl⟩ | cases n
theorem en_req (h : EvN te σ H (fun H' x => Dq H' x d)) (n : notAtom d = true) (h1 : d.showable = true) (h2 : d.depth ≤ 60) (h3 : d.shown.length ≤ sizeLine) : EvN te σ H ReqE := en_imp h fun H' v p => by
  obtain ⟨a, rfl⟩ := p.ref n
  exact ⟨_, .dat p h1 h2 h3⟩
end
/-! ### errors in pairs with the names of their fields -/
theorem ExAt.keep {H H2 : Hp} {a C : Addr} {fs : Option (List (Str × V))} (k : ∀ a o, (∀ l, o ≠ .lst l) → H a = some o → H2 a = some o) (h : ExAt H a C fs) : ExAt H2 a C fs := by
  obtain ⟨od, h1, h2⟩ := h
  refine ⟨od, k _ _ (fun l z => by cases z) h1, ?_⟩
  match od, fs, h2 with
  | some d, some l, h2 => exact k _ _ (fun l z => by cases z) h2
  | none, none, _ => trivial
theorem ExAt.ex {H H2 : Hp} {a C : Addr} {fs : Option (List (Str × V))} (e : Ex H H2) (h : ExAt H a C fs) : ExAt H2 a C fs := h.keep fun a o _ q => e a o q
def PairX (v : V) (C : Addr) (f : Str) (H : Hp) (x : V) : Prop := ∃ q e, x = .ref q ∧ H q = some (.tup [.ref e, .str f]) ∧ ExAt H e C (some [(f, v)])
theorem PairX.keep {H H2 : Hp} {v x : V} {C : Addr} {f : Str} (k : ∀ a o, (∀ l, o ≠ .lst l) → H a = some o → H2 a = some o) (h : PairX v C f H x) : PairX v C f H2 x := by
  obtain ⟨q, e, h1, h2, h3⟩ := h
  exact ⟨q, e, h1, k _ _ (fun l z => by cases z) h2, h3.keep k⟩
def PairsX (v : V) (tab : List (Addr × Str)) (H : Hp) (xs : List V) : Prop := Paired (fun x (p : Addr × Str) => PairX v p.1 p.2 H x) xs tab
theorem paired_imp {α β : Type} {F G : α → β → Prop} (k : ∀ a b, F a b → G a b) : ∀ {l : List α} {m : List β}, Paired F l m → Paired G l m
  | _, _, .nil => .nil
  | _, _, .cons h t => .cons (k _ _ h) (paired_imp k t)
theorem PairsX.keep {H H2 : Hp} {v : V} {tab : List (Addr × Str)} {xs : List V} (k : ∀ a o, (∀ l, o ≠ .lst l) → H a = some o → H2 a = some o) (h : PairsX v tab H xs) : PairsX v tab H2 xs := paired_imp (fun _ _ q => q.keep k) h
theorem PairsX.ex {H H2 : Hp} {v : V} {tab : List (Addr × Str)} {xs : List V} (e : Ex H H2) (h : PairsX v tab H xs) : PairsX v tab H2 xs := h.keep fun a o _ q => e a o q
theorem paired_len {α β : Type} {F : α → β → Prop} : ∀ {l : List α} {m : List β}, Paired F l m → l.length = m.length
  | _, _, .nil => rfl
  | _, _, .cons _ t => by rw [List.length_cons, List.length_cons, paired_len t]
theorem paired_app {α β : Type} {F : α → β → Prop} : ∀ {l l2 : List α} {m m2 : List β}, Paired F l m → Paired F l2 m2 → Paired F (l ++ l2) (m ++ m2)
  | _, _, _, _, .nil, k => k
  | _, _, _, _, .cons h t, k => .cons h (paired_app t k)
theorem pget {α β : Type} {F : α → β → Prop} : ∀ {l : List α} {m : List β} {i : Nat} {x : α}, Paired F l m → l[i]? = some x → ∃ y, y ∈ m ∧ F x y
  | _, _, 0, _, .cons h t, e => by cases e; exact ⟨_, .head _, h⟩
  | _, _, i + 1, _, .cons h t, e => by
    obtain ⟨y, h1, h2⟩ := pget t (show _ = _ from e)
    exact ⟨y, .tail _ h1, h2⟩
section
variable {σ : L2.St} {H H0 : Hp} {te : TE} {ta : TA} {v : V} {C : Addr} {f : Str} {tab tab2 : List (Addr × Str)} {D : L2.Ends} {tz : TS} {i : Nat} {p : Addr}
theorem en_err (h : EvA ta σ H [v]) : EvN (tLowV C f ta) σ H (fun H' x => ∃ e, x = .ref e ∧ ExAt H' e C (some [(f, v)])) := fun H1 e Q q =>
  h H1 e _ fun H2 e2 => ⟨v, rfl, fun d a hd ha da => by
    have ha2 : (upd H2 d (.xd [(f, v)])) a = none := by rw [upd_ne (Ne.symm da)]; exact ha
    have e3 : Ex H2 (upd (upd H2 d (.xd [(f, v)])) a (ExV C (some d) a)) := (Ex.new hd).trans (Ex.new ha2)
    refine q (.ref a) _ (e2.trans e3) ⟨a, rfl, some d, ?_, ?_⟩
    · rw [nw_new (fresh_back e2 ha), upd_same]
    · show nw H1 _ d = some (.xd [(f, v)])
      rw [nw_new (fresh_back e2 hd), upd_ne da, upd_same]⟩
theorem en_pair (h : EvN te σ H (fun H' x => ∃ e, x = .ref e ∧ ExAt H' e C (some [(f, v)]))) : EvN (tTup (tCons te (tCons (tC (.str f)) tNil))) σ H (PairX v C f) := fun H1 e Q q =>
  h H1 e _ fun x H2 e2 hx => ⟨(by show 2 ≤ sizeLine; decide), fun p hp => by
    obtain ⟨a, rfl, ha⟩ := hx
    exact q (.ref p) _ (e2.trans (Ex.new hp)) ⟨p, a, rfl, by rw [nw_new (fresh_back e2 hp), upd_same], ha.ex (nw_r (Ex.new hp))⟩⟩
theorem e1 {j : Nat} (h : σ[j]? = some (some v)) : EvN (tTup (tCons (tLowV C f (tCons (tVar j) tNil)) (tCons (tC (.str f)) tNil))) σ H (PairX v C f) := en_pair (en_err (ea_cons (ev_var h) ea_nil))
theorem ep_nil : EvNA tNil σ H (PairsX v []) := fun H1 e Q q => q [] H1 (Ex.refl H1) .nil
theorem ep_cons (h : EvN te σ H (PairX v C f)) (hr : EvNA ta σ H (PairsX v tab)) : EvNA (tCons te ta) σ H (PairsX v ((C, f) :: tab)) := fun H1 e Q q =>
  h H1 e _ fun x H2 e2 p => hr H2 (e.trans e2) _ fun xs H3 e3 ps => q (x :: xs) H3 (e2.trans e3) (.cons (p.keep fun a o _ q => nw_r e3 a o q) (ps.ex (nw_l e2)))
/-- the list of pairs so far, at p; all new behind H0 -/
structure LX (v : V) (H0 H : Hp) (p : Addr) (tab : List (Addr × Str)) : Prop where
  ex : Ex H0 H
  new : H0 p = none
  is : ∃ xs, H p = some (.lst xs) ∧ PairsX v tab (nw H0 H) xs
theorem q_firstP (h : EvNA ta σ H (PairsX v tab)) (l : tab.length ≤ 1000) (k : ∀ p H2, LX v H H2 p tab → tz D (σ.set i (some (.ref p))) H2) : tSeq (tAsg (tLst ta) (gName i)) tz D σ H :=
  h H (Ex.refl H) _ fun xs H2 e2 px => ⟨by rw [paired_len px]; exact sz_of (by omega), fun p hp => k p _ ⟨e2.trans (Ex.new hp), fresh_back e2 hp, xs, upd_same, px.ex (nw_r (Ex.new hp))⟩⟩
theorem q_moreP (L : LX v H0 H p tab) (hi : σ[i]? = some (some (.ref p))) (h : EvNA ta σ H (PairsX v tab2)) (l : tab.length + tab2.length ≤ 1000) (k : ∀ p H2, LX v H0 H2 p (tab ++ tab2) → tz D (σ.set i (some (.ref p))) H2) :
    tSeq (tAsg (tOp rCat (tVar i) (tLst ta)) (gName i)) tz D σ H := by
  obtain ⟨x0, n0, xs, hp, px⟩ := L
  refine ⟨.ref p, hi, h H (Ex.refl H) _ fun ys H2 e2 py => ⟨by rw [paired_len py]; exact sz_of (by omega), fun m hm => ?_⟩⟩
  have pm : p ≠ m := fun e => by rw [← e, e2 _ _ hp] at hm; cases hm
  refine ⟨p, m, xs, ys, rfl, rfl, by rw [upd_ne pm]; exact e2 _ _ hp, upd_same, by rw [paired_len px, paired_len py]; exact sz_of (by omega), fun r hr => k r _ ?_⟩
  have e3 := e2.trans ((Ex.new (o := .lst ys) hm).trans (Ex.new (o := .lst (xs ++ ys)) hr))
  exact ⟨x0.trans e3, fresh_back (x0.trans (e2.trans (Ex.new hm))) hr, xs ++ ys, upd_same, paired_app (px.ex (nw_r e3)) ((py.ex (nw_l x0)).ex (nw_r ((Ex.new hm).trans (Ex.new hr))))⟩
end
/-! ### to which of the errors one belongs -/
structure MroF (K : PySem.W.Frag) (R C : Addr) : Prop where
  is : ∃ cd, PySem.W.clsIn K C = some cd ∧ cd.mro = [.ref C, .ref R, .type "ValueError", .type "Exception", .type "BaseException", .type "object"]
  ty : PySem.W.typeIn K (.ref C) = some (.type "type")
theorem MroF.of {K : PySem.W.Frag} {R C : Addr} (y : (PySem.W.clsIn K C).map (·.mro) = some [.ref C, .ref R, .type "ValueError", .type "Exception", .type "BaseException", .type "object"]) (ty : PySem.W.typeIn K (.ref C) = some (.type "type")) : MroF K R C := by
  obtain ⟨cd, h1, h2⟩ := Option.map_eq_some_iff.mp y
  exact ⟨⟨cd, h1, h2⟩, ty⟩
theorem MroF.sub {K : PySem.W.Frag} {R C : Addr} (m : MroF K R C) (t : Value) : PySem.W.subIn K (.ref C) t = some ([.ref C, .ref R, .type "ValueError", .type "Exception", .type "BaseException", .type "object"].contains t) := by
  obtain ⟨cd, h1, h2⟩ := m.is
  show PySem.W.mroIn K C t = _
  unfold PySem.W.mroIn
  rw [h1]
  show (if cd.mro.isEmpty then none else some (cd.mro.contains t)) = _
  rw [h2]
  rfl
theorem MroF.kit {K : PySem.W.Frag} {R C D : Addr} (m : MroF K R C) (n : MroF K R D) (nr : D ≠ R) : PySem.W.kitOne K (.ref C) (.ref D) = some (decide (C = D)) := by
  obtain ⟨cd, h1, h2⟩ := n.is
  unfold PySem.W.kitOne PySem.W.kitCls
  by_cases e : C = D
  · subst e
    simp
  · have ne : ¬ ((Value.ref C == Value.ref D) = true) := fun z => e (Value.ref.inj (eq_of_beq z))
    rw [if_neg ne]
    dsimp only
    rw [h1, n.ty, if_pos (by rfl), m.sub]
    have e1 : (Value.ref D == Value.ref C) = false := beq_eq_false_iff_ne.mpr fun z => e (Value.ref.inj z).symm
    have e2 : (Value.ref D == Value.ref R) = false := beq_eq_false_iff_ne.mpr fun z => nr (Value.ref.inj z)
    simp [List.contains_cons, e1, e2, e]
    exact ⟨fun z => e z.symm, nr⟩
theorem MroF.kitR {K : PySem.W.Frag} {R C : Addr} (m : MroF K R C) (r1 : PySem.W.isClsIn K R = true) (r2 : PySem.W.typeIn K (.ref R) = some (.type "type")) : PySem.W.kitOne K (.ref C) (.ref R) = some true := by
  have r1' : (PySem.W.clsIn K R).isSome = true := r1
  unfold PySem.W.kitOne PySem.W.kitCls
  by_cases e : C = R
  · subst e
    simp
  · have ne : ¬ ((Value.ref C == Value.ref R) = true) := fun z => e (Value.ref.inj (eq_of_beq z))
    rw [if_neg ne]
    dsimp only
    rw [r1', r2, if_pos (by rfl), m.sub]
    simp [List.contains_cons]
theorem MroF.kitV {K : PySem.W.Frag} {R C : Addr} (m : MroF K R C) : PySem.W.kitOne K (.ref C) (.type "ValueError") = some true := by
  unfold PySem.W.kitOne PySem.W.kitCls
  rw [if_neg (by intro z; cases z)]
  dsimp only
  rw [if_pos (by decide +kernel), m.sub]
  simp [List.contains_cons]
theorem MroF.cls {K : PySem.W.Frag} {R C : Addr} (m : MroF K R C) (ga : PySem.W.findIn K (.ref C) "__getattribute__" = some (some (.builtin "BaseException.__getattribute__"))) (gg : PySem.W.findIn K (.ref C) "__getattr__" = some none)
    (ca : PySem.W.findIn K (.ref C) "__class__" = some (some (.builtin "object.__class__"))) (cn : PySem.W.specialIn K (.builtin "object.__class__") "__get__" = some (some (.builtin "getset_descriptor.__get__"))) (ct : PySem.W.takesIn K (.builtin "object.__class__") = some true) (hd : PySem.W.hasDictIn K C = true) : ExCls K C := by
  have is : (PySem.W.clsIn K C).isSome = true := by obtain ⟨cd, h, _⟩ := m.is; rw [h]; rfl
  refine ⟨is, ga, gg, ?_, ca, cn, ct, ?_, hd⟩
  · rw [m.sub]; simp [List.contains_cons]
  · have := m.sub (.type "object")
    rw [show PySem.W.subIn K (.ref C) (.type "object") = PySem.W.mroIn K C (.type "object") from rfl] at this
    rw [this]; simp [List.contains_cons]
theorem all_c {α : Type} {P : α → Prop} {a : α} {l : List α} (h : P a) (t : ∀ c ∈ l, P c) : ∀ c ∈ a :: l, P c := fun c hc => (List.mem_cons.mp hc).elim (fun e => e ▸ h) (t c)
theorem all_n {α : Type} {P : α → Prop} : ∀ c ∈ ([] : List α), P c := fun _ h => by cases h
structure Kits (K : PySem.W.Frag) (Cs : List Addr) (R : Addr) : Prop where
  m : ∀ C ∈ Cs, MroF K R C
  c : ∀ C ∈ Cs, ExCls K C
  nd : (R :: Cs).Nodup
  r1 : PySem.W.isClsIn K R = true
  r2 : PySem.W.typeIn K (.ref R) = some (.type "type")
theorem Kits.one {K : PySem.W.Frag} {Cs : List Addr} {R C D : Addr} (k : Kits K Cs R) (h : C ∈ Cs) (h2 : D ∈ Cs) : PySem.W.kitOne K (.ref C) (.ref D) = some (decide (C = D)) :=
  (k.m C h).kit (k.m D h2) fun e => (List.nodup_cons.mp k.nd).1 (e ▸ h2)
section
variable {K : PySem.W.Frag} {σ : L2.St} {H : Hp} {te ta tb : TE} {a C : Addr} {fs : Option (List (Str × V))} {b : Bool} {c : V} {u : Value}
theorem ev_isiE (he : Ev te σ H (.ref a)) (h : ExAt H a C fs) (k : ExCls K C) (hk : PySem.W.kitOne K (.ref C) u = some b) (hc : ClsV c u) : Ev (tCB (rIsiE K) (tCons te (tCons (tC c) tNil))) σ H (.bl b) := fun H1 e Q q =>
  he H1 e _ fun H2 e2 => ⟨a, c, u, b, C, fs, rfl, hc, h.ex (e.trans e2), k, hk, q H2 e2⟩
theorem ev_reprQ {v : V} {z : Str} (he : Ev te σ H v) (h : Req H v z) : Ev (tCB (rReprQ K) (tCons te tNil)) σ H (.str z) := fun H1 e Q q =>
  he H1 e _ fun H2 e2 => ⟨v, z, rfl, h.keep (e.trans e2), q H2 e2⟩
theorem el_cat {l : Addr} {xs ys : List V} (ha : Ev ta σ H (.ref l)) (hl : H l = some (.lst xs)) (hb : EvL tb σ H ys) (hz : xs.length + ys.length ≤ 100000) : EvL (tOp rCat ta tb) σ H (xs ++ ys) := fun H1 e Q q =>
  ha H1 e _ fun H2 e2 => hb H2 (e.trans e2) _ fun p H3 hp e3 h3 => ⟨l, p, xs, ys, rfl, rfl, ((e.trans e2).trans e3) _ _ hl, h3, sz_of hz, fun r hr => q r _ (fresh_back (e2.trans e3) hr) ((e2.trans e3).trans (Ex.new hr)) upd_same⟩
end
theorem pe_cF0 {X : Cx} {k j : Nat} {x : Str} {sp : Sp} {dvs : List V} {p pos : Pos} (c : CalF X.prog X.w X.K X.mg X.base k x sp dvs) (hr : Room j X.A) (hk : k ≤ j) (hg : Gl X x) (nd : (x == ("__debug__" : Str)) = false := by decide) : PE X (.Call (.Name x p) [] [] pos) (tCall sp dvs E0 tNil) := by
  obtain ⟨f, fd, ps, ds, F, hm, kp, b, d⟩ := c.is
  exact pe_call0 F (hr.mono hk) hg hm kp b d pass0 nd
theorem count_one {α : Type} [DecidableEq α] : ∀ {l : List α} {x : α}, l.Nodup → x ∈ l → ((List.range l.length).filter fun i => decide (l[i]? = some x)).length = 1 := by
  have zero : ∀ {l : List α} {x : α}, x ∉ l → ((List.range l.length).filter fun i => decide (l[i]? = some x)).length = 0 := by
    intro l x h
    rw [List.length_eq_zero_iff, List.filter_eq_nil_iff]
    intro i _ hi
    exact h (List.mem_of_getElem? (of_decide_eq_true hi))
  intro l
  induction l with
  | nil => intro x _ h; cases h
  | cons a l ih =>
    intro x nd h
    obtain ⟨na, nd⟩ := List.nodup_cons.mp nd
    rw [List.length_cons, List.range_succ_eq_map, List.filter_cons, List.filter_map]
    have e2 : (List.filter ((fun i => decide ((a :: l)[i]? = some x)) ∘ Nat.succ) (List.range l.length)) = List.filter (fun i => decide (l[i]? = some x)) (List.range l.length) := List.filter_congr fun i _ => rfl
    rw [e2]
    by_cases e : a = x
    · subst e
      rw [if_pos (by simp), List.length_cons, List.length_map, zero na]
    · rw [if_neg (by simp [e]), List.length_map]
      exact ih nd ((List.mem_cons.mp h).resolve_left fun z => e z.symm)
end L2
set_option Elab.async false
set_option linter.all false
set_option maxRecDepth 100000
set_option maxHeartbeats 2000000
namespace PySem
namespace LowX_BadNumber
open PySem.W PySem.Calls PyProof.Rows PySem.HandSPX
/-! ### the text of __init__ -/
def iA (p1 p2 : Pos) : Arguments := { posonlyargs := [], args := [{ arg := "self", annotation := none, pos := p1 }, { arg := "value", annotation := none, pos := p2 }], vararg := none, kwonlyargs := [], kw_defaults := [], kwarg := none, defaults := [] }
def iB (q1 q2 q3 q4 : Pos) : List Stmt := [.Assign [.Attribute (.Name "self" q1) "value" q2] (.Name "value" q3) q4]
def iS : Scope := { kind := .function, names := [(PySem.Str.ofString "self", .local), (PySem.Str.ofString "value", .local)], isGenerator := false, isCoroutine := false, more := [] }
/-- what the written part says of Low, at C, and of its __init__, at fI -/
structure LowTxt_BadNumber (K : Frag) (mg : Str → Option Value) (C fI : Addr) : Prop where
  gC : mg "BadNumber" = some (.ref C)
  cls : ∃ nm q N bs bm sn sub ab col dd k0 k1 k2 k3 k5, K.lookup C = some (excClassObj nm q C N bs bm true sn sub ab col dd k0 k1 k2 k3 k5 "ValueError.__new__") ∧ refsVE bm = true
  sa : findIn K (.ref C) "__setattr__" = some (some (.builtin "object.__setattr__"))
  ga : findIn K (.ref C) "__getattribute__" = some (some (.builtin "BaseException.__getattribute__"))
  gg : findIn K (.ref C) "__getattr__" = some none
  noN : findIn K (.ref C) "value" = some none
  iC : findIn K (.ref C) "__init__" = some (some (.ref fI))
  tC : typeIn K (.ref fI) = some (.type "function")
  kC : keepIn K (.ref C) = true
  exC : subIn K (.ref C) (.type "BaseException") = some true
  tyC : typeIn K (.ref C) = some (.type "type")
  hdC : hasDictIn K C = true
  te : exmOne K (.ref C) (.ref C) = some true
  fn : ∃ (oc : Value) (od : Option Addr) (doc pm : Value) (an : Option Addr) (cdv ct : Value) (osl : Array (Option Value)) (p1 p2 q1 q2 q3 q4 : Pos),
    K.lookup fI = some ⟨oc, od, .func (fnOf "__init__" "BadNumber.__init__" (iA p1 p2) (iB q1 q2 q3 q4) iS .none .none doc pm an cdv ct), osl⟩ ∧ codeIn K cdv "BadNumber.__init__" = true
theorem one_size (v : Value) : [v].length ≤ sizeLine := by
  rw [sizeLine_eq]
  exact (by decide : 1 ≤ 16777216)
theorem kept_but {K : Frag} {h h' : Heap} {x : Addr} (X : K.In h) (hx : K.lookup x = none) (k : ∀ b o, b ≠ x → h.get? b = some o → h'.get? b = some o) : K.In h' := fun a o e =>
  k a o (fun z => by rw [z, hx] at e; cases e) (X a o e)
theorem ldC {M : Model} {s : Shared} {name : Str} {scope : Scope} {L a : Addr} {cd : Value} {m : Str → Option Value} {x : Str} {pos : Pos} {v : Value} {Q : Value → Shared → Prop} {A : Around} {E : Value → Shared → Prop} (hn : s.heap.Ns L m) (hv : m x = some v) (h : Q v s)
    (hk : scope.kind = .function := by rfl) (hl : (envOfC name scope L a cd).kindOf x = some .local := by rfl) (hd : (x == ("__debug__" : Str)) = false := by decide) :
    wpAny M A (eval (.Name x pos) (envOfC name scope L a cd)) Q E s := wpAny_Name (wpAny_loadName_local hk hl hn hv h) hd
/-- what __init__ leaves of a fresh exception at x -/
structure InitEnd_BadNumber (h h' : Heap) (x C dx t1 : Addr) (v : Value) : Prop where
  keep : ∀ b o, b ≠ x → h.get? b = some o → h'.get? b = some o
  obj : h'.get? x = some { cls := .ref C, dict := some dx, data := .fields #[.ref t1, .none, .none, .none, .bool false, .none] }
  dbig : h.objs.size ≤ dx
  dne : dx ≠ x
  ns : h'.Ns1 dx (fun y => if y = "value" then some v else none)
/-- a made Low -/
structure OwnMade_BadNumber (h h' : Heap) (e C d : Addr) (v : Value) : Prop where
  keep : ∀ b o, h.get? b = some o → h'.get? b = some o
  new : h.objs.size ≤ e
  obj : ∃ oe vs, h'.get? e = some oe ∧ oe.cls = .ref C ∧ oe.dict = some d ∧ oe.data = .fields vs ∧ vs[1]? = some .none
  dbig : h.objs.size ≤ d
  dne : d ≠ e
  ns : h'.Ns1 d (fun y => if y = "value" then some v else none)
section
variable {prog : Program} {w : World} {A : Around} {E : Value → Shared → Prop} {R : Result → Shared → Prop} {s : Shared} {K : Frag} {mg : Str → Option Value} {C fI : Addr}
theorem low_init_BadNumber (T : LowTxt_BadNumber K mg C fI) {x t0 : Addr} {v : Value} (X : K.In s.heap) (hlim : s.heap.NoLimit) (hx : s.heap.get? x = some (excO C t0)) (hnx : K.lookup x = none) (hroom : A.depth < recursionLimit)
    (hq : ∀ h' tk dx, InitEnd_BadNumber s.heap h' x C dx t0 v → R (.ok (.ret .none)) { s with heap := h', toks := tk }) :
    codeAny (model prog w) A (.call (.ref fI) ⟨[.ref x, v], []⟩) R s := by
  obtain ⟨oc, od, doc, pm, an, cdv, ct, osl, p1, p2, q1, q2, q3, q4, ho, hcd⟩ := T.fn
  obtain ⟨nm, q, N, bs, bm, sn, sub, ab, col, dd, k0, k1, k2, k3, k5, hC, hbm⟩ := T.cls
  have hcl : clsIn K C = some { name := nm, bases := bs, mro := .ref C :: bm, ns := N, qualname := q, hasDict := true, slotNames := sn, subclasses := sub, abstract := ab, collection := col, hasDel := false } := by unfold clsIn; rw [hC] <;> rfl
  refine Att.call_fn (binds := [("self", .ref x), ("value", v)]) X hlim ho hcd hroom (BindsTo.of_eq (by first | rfl | with_unfolding_all rfl)) (by first | rfl | decide | with_unfolding_all rfl) (fun s₁ IC => ?_) rfl rfl rfl
  obtain ⟨h₁, tk₁, rfl⟩ := IC.toInCall.same
  have k : ∀ b o, s.heap.get? b = some o → h₁.get? b = some o := IC.toInCall.keep
  have hn := IC.toInCall.ns
  have hxL : s.heap.objs.size ≠ x := Nat.ne_of_gt (Heap.lt_size hx)
  have X₁ : K.In h₁ := X.keeps k
  have hx₁ := k _ _ hx
  -- self.by = by
  show wpAny _ _ (execs _ _) _ _ _
  refine wpAny_execs_cons (plainObj_wpAny_Assign_Attribute ?_)
  refine ldC (v := v) hn (by first | rfl | with_unfolding_all rfl | kernel_rfl) (ldC (v := .ref x) hn (by first | rfl | with_unfolding_all rfl | kernel_rfl) ?_)
  refine set_plain X₁ (ox := excO C t0) (od := none) ⟨hx₁, rfl, rfl, trivial⟩ T.sa ?_
  refine exc_osa X₁ hx₁ hcl (show refsVE (.ref C :: bm) = true from hbm) rfl T.noN (fun h₃ tk₃ dx k₃ dn dne hx₃ hn₃ => ?_)
  show wpAny _ _ (execs _ _) _ _ _
  have z : s.heap.objs.size < h₁.objs.size := hn.lt
  exact wpAny_execs_nil (hq h₃ tk₃ dx ⟨fun b o hb e => k₃ b o hb (k b o e), hx₃, Nat.le_of_lt (Nat.lt_of_lt_of_le z dn), dne, hn₃⟩)
theorem low_made_BadNumber (T : LowTxt_BadNumber K mg C fI) {v : Value} (X : K.In s.heap) (hlim : s.heap.NoLimit) (hroom : A.depth + 1 < recursionLimit)
    (hq : ∀ h' tk e d, OwnMade_BadNumber s.heap h' e C d v → R (.ok (.ret (.ref e))) { s with heap := h', toks := tk }) :
    codeAny (model prog w) A (.call (.ref C) ⟨[v], []⟩) R s := by
  obtain ⟨nm, q, N, bs, bm, sn, sub, ab, col, dd, k0, k1, k2, k3, k5, hC, hbm⟩ := T.cls
  obtain ⟨hp, g, dr, tk, os⟩ := s
  have k : ∀ b o, hp.get? b = some o → ((hp.push (kdv_tup [v])).push (excO C hp.objs.size)).get? b = some o := fun b o e => Heap.get?_push_of_some _ (Heap.get?_push_of_some _ e)
  have hget : ((hp.push (kdv_tup [v])).push (excO C hp.objs.size)).get? (hp.objs.size + 1) = some (excO C hp.objs.size) := by heap_get
  have hnx : K.lookup (hp.objs.size + 1) = none := by
    cases e : K.lookup (hp.objs.size + 1) with
    | none => rfl
    | some o =>
      have z : hp.get? (hp.objs.size + 1) = some o := X _ _ e
      exact absurd (Nat.lt_of_succ_lt (Heap.lt_size z)) (Nat.lt_irrefl _)
  refine call_own F.excBase_ValueError (fun X => refsVE_contains X bm hbm) (X _ _ hC) (looks_findIn X T.iC) (fun self => bind_fn X self T.tC) (one_size v) ?_
  refine low_init_BadNumber (s := ⟨(hp.push (kdv_tup [v])).push (excO C hp.objs.size), g, dr, tk, os⟩) T (X.keeps k) (hlim.keeps k) hget hnx ?_ fun h' tk' dx ⟨k', hx, dn, dne, hns⟩ => ?_
  · show A.depth + 1 < recursionLimit
    exact hroom
  · have old : ∀ b o, hp.get? b = some o → h'.get? b = some o := fun b o e => k' b o (Nat.ne_of_lt (Nat.lt_succ_of_lt (Heap.lt_size e))) (k b o e)
    have z : hp.objs.size + 1 + 1 ≤ dx := by
      first
        | (simpa only [Heap.size_push] using dn)
        | exact dn
        | (have q := dn; rw [Heap.size_push, Heap.size_push] at q; exact q)
    exact ⟨rfl, hq h' tk' (hp.objs.size + 1) dx ⟨old, Nat.le_succ _, ⟨_, _, hx, rfl, rfl, rfl, rfl⟩, Nat.le_trans (Nat.le_trans (Nat.le_succ _) (Nat.le_succ _)) z, dne, hns⟩⟩
theorem low_initK_BadNumber (T : LowTxt_BadNumber K mg C fI) {x t0 : Addr} {v : Value} (X : K.In s.heap) (hlim : s.heap.NoLimit) (hx : s.heap.get? x = some (excO C t0)) (hnx : K.lookup x = none) (hroom : A.depth < recursionLimit)
    (hq : ∀ h' tk dx, InitEnd_BadNumber s.heap h' x C dx t0 v → R (.ok (.ret .none)) { s with heap := h', toks := tk }) :
    codeAny (model prog w) A (.call (.ref fI) ⟨[.ref x], [(("value" : Str), v)]⟩) R s := by
  obtain ⟨oc, od, doc, pm, an, cdv, ct, osl, p1, p2, q1, q2, q3, q4, ho, hcd⟩ := T.fn
  obtain ⟨nm, q, N, bs, bm, sn, sub, ab, col, dd, k0, k1, k2, k3, k5, hC, hbm⟩ := T.cls
  have hcl : clsIn K C = some { name := nm, bases := bs, mro := .ref C :: bm, ns := N, qualname := q, hasDict := true, slotNames := sn, subclasses := sub, abstract := ab, collection := col, hasDel := false } := by unfold clsIn; rw [hC] <;> rfl
  refine Att.call_fn (binds := [("self", .ref x), ("value", v)]) X hlim ho hcd hroom (BindsTo.of_eq (by first | rfl | with_unfolding_all rfl)) (by first | rfl | decide | with_unfolding_all rfl) (fun s₁ IC => ?_) rfl rfl rfl
  obtain ⟨h₁, tk₁, rfl⟩ := IC.toInCall.same
  have k : ∀ b o, s.heap.get? b = some o → h₁.get? b = some o := IC.toInCall.keep
  have hn := IC.toInCall.ns
  have hxL : s.heap.objs.size ≠ x := Nat.ne_of_gt (Heap.lt_size hx)
  have X₁ : K.In h₁ := X.keeps k
  have hx₁ := k _ _ hx
  -- self.by = by
  show wpAny _ _ (execs _ _) _ _ _
  refine wpAny_execs_cons (plainObj_wpAny_Assign_Attribute ?_)
  refine ldC (v := v) hn (by first | rfl | with_unfolding_all rfl | kernel_rfl) (ldC (v := .ref x) hn (by first | rfl | with_unfolding_all rfl | kernel_rfl) ?_)
  refine set_plain X₁ (ox := excO C t0) (od := none) ⟨hx₁, rfl, rfl, trivial⟩ T.sa ?_
  refine exc_osa X₁ hx₁ hcl (show refsVE (.ref C :: bm) = true from hbm) rfl T.noN (fun h₃ tk₃ dx k₃ dn dne hx₃ hn₃ => ?_)
  show wpAny _ _ (execs _ _) _ _ _
  have z : s.heap.objs.size < h₁.objs.size := hn.lt
  exact wpAny_execs_nil (hq h₃ tk₃ dx ⟨fun b o hb e => k₃ b o hb (k b o e), hx₃, Nat.le_of_lt (Nat.lt_of_lt_of_le z dn), dne, hn₃⟩)
theorem low_madeK_BadNumber (T : LowTxt_BadNumber K mg C fI) {v : Value} (X : K.In s.heap) (hlim : s.heap.NoLimit) (hroom : A.depth + 1 < recursionLimit)
    (hq : ∀ h' tk e d, OwnMade_BadNumber s.heap h' e C d v → R (.ok (.ret (.ref e))) { s with heap := h', toks := tk }) :
    codeAny (model prog w) A (.call (.ref C) ⟨[], [(("value" : Str), v)]⟩) R s := by
  obtain ⟨nm, q, N, bs, bm, sn, sub, ab, col, dd, k0, k1, k2, k3, k5, hC, hbm⟩ := T.cls
  obtain ⟨hp, g, dr, tk, os⟩ := s
  have k : ∀ b o, hp.get? b = some o → ((hp.push (kdv_tup [])).push (excO C hp.objs.size)).get? b = some o := fun b o e => Heap.get?_push_of_some _ (Heap.get?_push_of_some _ e)
  have hget : ((hp.push (kdv_tup [])).push (excO C hp.objs.size)).get? (hp.objs.size + 1) = some (excO C hp.objs.size) := by heap_get
  have hnx : K.lookup (hp.objs.size + 1) = none := by
    cases e : K.lookup (hp.objs.size + 1) with
    | none => rfl
    | some o =>
      have z : hp.get? (hp.objs.size + 1) = some o := X _ _ e
      exact absurd (Nat.lt_of_succ_lt (Heap.lt_size z)) (Nat.lt_irrefl _)
  refine call_ownK F.excBase_ValueError (fun X => refsVE_contains X bm hbm) (X _ _ hC) (looks_findIn (X.keeps k) T.iC) (fun self => bind_fn (X.keeps k) self T.tC) ?_
  refine low_initK_BadNumber (s := ⟨(hp.push (kdv_tup [])).push (excO C hp.objs.size), g, dr, tk, os⟩) T (X.keeps k) (hlim.keeps k) hget hnx ?_ fun h' tk' dx ⟨k', hx, dn, dne, hns⟩ => ?_
  · show A.depth + 1 < recursionLimit
    exact hroom
  · have old : ∀ b o, hp.get? b = some o → h'.get? b = some o := fun b o e => k' b o (Nat.ne_of_lt (Nat.lt_succ_of_lt (Heap.lt_size e))) (k b o e)
    have z : hp.objs.size + 1 + 1 ≤ dx := by
      first
        | (simpa only [Heap.size_push] using dn)
        | exact dn
        | (have q := dn; rw [Heap.size_push, Heap.size_push] at q; exact q)
    exact ⟨rfl, hq h' tk' (hp.objs.size + 1) dx ⟨old, Nat.le_succ _, ⟨_, _, hx, rfl, rfl, rfl, rfl⟩, Nat.le_trans (Nat.le_trans (Nat.le_succ _) (Nat.le_succ _)) z, dne, hns⟩⟩
end
end LowX_BadNumber
end PySem
namespace L2
open PySem PySem.Spec PyProof.Rows
theorem relO_low_BadNumber {v : V} {v' : Value} (r : RelV v v') (f : Str) : RelO (List.lookup f [(("value" : Str), v)]) (if f = "value" then some v' else none) := by
  by_cases hw : f = "value"
  · subst hw
    rw [if_pos rfl]
    have q : List.lookup ("value" : Str) [(("value" : Str), v)] = some v := by simp [List.lookup]
    rw [q]
    exact r
  · rw [if_neg hw]
    have qw : (f == ("value" : Str)) = false := by simpa using hw
    have q2 : List.lookup f [(("value" : Str), v)] = none := by simp [List.lookup, qw]
    rw [q2]
    trivial
section
variable {X : Cx} {C fI : Addr}
/-- Low(e) -/
def tMkLow_BadNumber (C : Addr) (ta : TA) : St → Hp → XK → Prop := fun σ H Q => ta σ H fun vs H1 => ∃ v, vs = [v] ∧ ∀ d, H1 d = none → Q (.ref C) (some d) (upd H1 d (.xd [(("value" : Str), v)]))
theorem pmk_low_BadNumber {a : Expr} {ta : TA} {p pos : Pos} {k : Nat} (T : PySem.LowX_BadNumber.LowTxt_BadNumber X.K X.mg C fI) (hr : Room k X.A) (ha : PA X [a] ta) (hg : Gl X "BadNumber" := by rfl)
    (he : starEach (a :: []) X.env = (false, eval a X.env) :: starEach [] X.env := by rfl) (hpl : (backTo pos (starEach [] X.env)).any (·.1) = false := by rfl) :
    PMk X (.Call (.Name "BadNumber" p) [a] [] pos) (tMkLow_BadNumber C ta) := by
  intro pins s σ H Q I h
  refine wpAny_Call_Name_kw (ld_glob I hg T.gC ?_)
  refine PySem.W.callWith_K (h₀ := X.base) I.ok.mod.kin T.kC (thn (ha.run pos pins s σ H _ I h) fun us s1 hh => ?_) he hpl
  obtain ⟨vs, H1, I1, r1, v, ev, q1⟩ := hh
  subst ev
  refine ⟨I1.kIn, ?_⟩
  cases r1 with
  | cons rv rn =>
    rename_i v' us'
    cases rn
    show wpAny _ _ (call (.ref C) [v']) _ _ _
    have hlim := I1.nolimit
    obtain ⟨hp, g, dr, tk, os⟩ := s1
    refine wpAny_call (PySem.LowX_BadNumber.low_made_BadNumber T I1.kIn hlim (by have := hr.dp; omega) fun h' tk' e d M => ?_)
    show MkP X pins σ Q (.ref e) ⟨h', g, dr, tk', os⟩
    obtain ⟨oe, fv, hoe, hc, hd, hdat, h1⟩ := M.obj
    have hns := M.ns
    obtain ⟨G', g1, g2⟩ := restrict h' fun b => decide (b ≠ e)
    have gk : ∀ b, b ≠ e → G'.get? b = h'.get? b := fun b hb => g1 b (decide_eq_true hb)
    have ge : G'.get? e = none := g2 e (by simp)
    have old : ∀ b o, hp.get? b = some o → G'.get? b = some o := fun b o q => (gk b (Nat.ne_of_lt (Nat.lt_of_lt_of_le (Heap.lt_size q) M.new))).trans (M.keep b o q)
    have ob : ObjOk X.prog X.w (upd H1 d (.xd [(("value" : Str), v)])) G' d (.xd [(("value" : Str), v)]) :=
      ⟨_, hns.at (fun o q => (gk d M.dne).trans q), fun f => relO_low_BadNumber rv f⟩
    have J : Inv X pins σ (upd H1 d (.xd [(("value" : Str), v)])) ⟨G', g, dr, tk', os⟩ := I1.laid (t' := tk') old M.dbig ob
    refine ⟨e, oe, fv, ⟨G', g, dr, tk', os⟩, _, .ref C, some d, rfl, J, fun b o q => ?_, ge, hoe, ⟨hc, hd⟩, hdat, h1, ?_, rfl, I1.bare, raises_own T.exC T.tyC, q1 d (I1.hok.fresh M.dbig)⟩
    · by_cases hb : b = e
      · have q' : G'.get? b = some o := q
        rw [hb, ge] at q'; cases q'
      · exact (gk b hb).symm.trans q
    · rw [upd_ne (Ne.symm M.dne)]
      exact I1.hok.fresh M.new
/-- BadNumber(e), held as a value -/
theorem pe_lowV_BadNumber {a : Expr} {ta : TA} {p pos : Pos} {k : Nat} (T : PySem.LowX_BadNumber.LowTxt_BadNumber X.K X.mg C fI) (hr : Room k X.A) (ha : PA X [a] ta) (hg : Gl X "BadNumber" := by rfl)
    (he : starEach (a :: []) X.env = (false, eval a X.env) :: starEach [] X.env := by rfl) (hpl : (backTo pos (starEach [] X.env)).any (·.1) = false := by rfl) :
    PE X (.Call (.Name "BadNumber" p) [a] [] pos) (tLowV C "value" ta) := by
  refine .mk fun pins s σ H Q I h => ?_
  refine wpAny_Call_Name_kw (ld_glob I hg T.gC ?_)
  refine PySem.W.callWith_K (h₀ := X.base) I.ok.mod.kin T.kC (thn (ha.run pos pins s σ H _ I h) fun us s1 hh => ?_) he hpl
  obtain ⟨vs, H1, I1, r1, v, ev, q1⟩ := hh
  subst ev
  refine ⟨I1.kIn, ?_⟩
  cases r1 with
  | cons rv rn =>
    rename_i v' us'
    cases rn
    show wpAny _ _ (call (.ref C) [v']) _ _ _
    have hlim := I1.nolimit
    obtain ⟨hp, g, dr, tk, os⟩ := s1
    refine wpAny_call (PySem.LowX_BadNumber.low_made_BadNumber T I1.kIn hlim (by have := hr.dp; omega) fun h' tk' e d M => ?_)
    exact lowV_end I1 rv M.keep M.new M.obj M.dbig M.dne M.ns (fun f => relO_low_BadNumber rv f) ⟨v, rfl, q1⟩
/-- BadNumber(value = e), held as a value -/
theorem pe_lowVk_BadNumber {kws : List Keyword} {tk : TA} {p pos : Pos} {k : Nat} (T : PySem.LowX_BadNumber.LowTxt_BadNumber X.K X.mg C fI) (hr : Room k X.A) (ha : PK X kws tk) (hg : Gl X "BadNumber" := by rfl)
    (hall : (backToKw pos (keywordEach kws X.env)).all (·.1.isSome) = true := by rfl) (hks : (backToKw pos (keywordEach kws X.env)).filterMap (·.1) = [("value" : Str)] := by rfl)
    (hpl : ((backTo pos (starEach [] X.env)).any (·.1) || (backToKw pos (keywordEach kws X.env)).any (·.1.isNone)) = false := by rfl) :
    PE X (.Call (.Name "BadNumber" p) [] kws pos) (tLowV C "value" tk) := by
  refine .mk fun pins s σ H Q I h => ?_
  refine wpAny_Call_Name_kw (ld_glob I hg T.gC ?_)
  refine PySem.W.callWith_KW0 (h₀ := X.base) I.ok.mod.kin T.kC hall (thn (ha.run pos pins s σ H _ I h) fun us s1 hh => ?_) hpl
  obtain ⟨vs, H1, I1, r1, v, ev, q1⟩ := hh
  subst ev
  refine ⟨I1.kIn, ?_⟩
  rw [hks]
  cases r1 with
  | cons rv rn =>
    rename_i v' us'
    cases rn
    show wpAny _ _ (call (.ref C) [] [(("value" : Str), v')]) _ _ _
    have hlim := I1.nolimit
    obtain ⟨hp, g, dr, tk, os⟩ := s1
    refine wpAny_call (PySem.LowX_BadNumber.low_madeK_BadNumber T I1.kIn hlim (by have := hr.dp; omega) fun h' tk' e d M => ?_)
    exact lowV_end I1 rv M.keep M.new M.obj M.dbig M.dne M.ns (fun f => relO_low_BadNumber rv f) ⟨v, rfl, q1⟩
end
end L2

namespace PySem
namespace LowX_BadPeople
open PySem.W PySem.Calls PyProof.Rows PySem.HandSPX
/-! ### the text of __init__ -/
def iA (p1 p2 : Pos) : Arguments := { posonlyargs := [], args := [{ arg := "self", annotation := none, pos := p1 }, { arg := "people", annotation := none, pos := p2 }], vararg := none, kwonlyargs := [], kw_defaults := [], kwarg := none, defaults := [] }
def iB (q1 q2 q3 q4 : Pos) : List Stmt := [.Assign [.Attribute (.Name "self" q1) "people" q2] (.Name "people" q3) q4]
def iS : Scope := { kind := .function, names := [(PySem.Str.ofString "self", .local), (PySem.Str.ofString "people", .local)], isGenerator := false, isCoroutine := false, more := [] }
/-- what the written part says of Low, at C, and of its __init__, at fI -/
structure LowTxt_BadPeople (K : Frag) (mg : Str → Option Value) (C fI : Addr) : Prop where
  gC : mg "BadPeople" = some (.ref C)
  cls : ∃ nm q N bs bm sn sub ab col dd k0 k1 k2 k3 k5, K.lookup C = some (excClassObj nm q C N bs bm true sn sub ab col dd k0 k1 k2 k3 k5 "ValueError.__new__") ∧ refsVE bm = true
  sa : findIn K (.ref C) "__setattr__" = some (some (.builtin "object.__setattr__"))
  ga : findIn K (.ref C) "__getattribute__" = some (some (.builtin "BaseException.__getattribute__"))
  gg : findIn K (.ref C) "__getattr__" = some none
  noN : findIn K (.ref C) "people" = some none
  iC : findIn K (.ref C) "__init__" = some (some (.ref fI))
  tC : typeIn K (.ref fI) = some (.type "function")
  kC : keepIn K (.ref C) = true
  exC : subIn K (.ref C) (.type "BaseException") = some true
  tyC : typeIn K (.ref C) = some (.type "type")
  hdC : hasDictIn K C = true
  te : exmOne K (.ref C) (.ref C) = some true
  fn : ∃ (oc : Value) (od : Option Addr) (doc pm : Value) (an : Option Addr) (cdv ct : Value) (osl : Array (Option Value)) (p1 p2 q1 q2 q3 q4 : Pos),
    K.lookup fI = some ⟨oc, od, .func (fnOf "__init__" "BadPeople.__init__" (iA p1 p2) (iB q1 q2 q3 q4) iS .none .none doc pm an cdv ct), osl⟩ ∧ codeIn K cdv "BadPeople.__init__" = true
theorem one_size (v : Value) : [v].length ≤ sizeLine := by
  rw [sizeLine_eq]
  exact (by decide : 1 ≤ 16777216)
theorem kept_but {K : Frag} {h h' : Heap} {x : Addr} (X : K.In h) (hx : K.lookup x = none) (k : ∀ b o, b ≠ x → h.get? b = some o → h'.get? b = some o) : K.In h' := fun a o e =>
  k a o (fun z => by rw [z, hx] at e; cases e) (X a o e)
theorem ldC {M : Model} {s : Shared} {name : Str} {scope : Scope} {L a : Addr} {cd : Value} {m : Str → Option Value} {x : Str} {pos : Pos} {v : Value} {Q : Value → Shared → Prop} {A : Around} {E : Value → Shared → Prop} (hn : s.heap.Ns L m) (hv : m x = some v) (h : Q v s)
    (hk : scope.kind = .function := by rfl) (hl : (envOfC name scope L a cd).kindOf x = some .local := by rfl) (hd : (x == ("__debug__" : Str)) = false := by decide) :
    wpAny M A (eval (.Name x pos) (envOfC name scope L a cd)) Q E s := wpAny_Name (wpAny_loadName_local hk hl hn hv h) hd
/-- what __init__ leaves of a fresh exception at x -/
structure InitEnd_BadPeople (h h' : Heap) (x C dx t1 : Addr) (v : Value) : Prop where
  keep : ∀ b o, b ≠ x → h.get? b = some o → h'.get? b = some o
  obj : h'.get? x = some { cls := .ref C, dict := some dx, data := .fields #[.ref t1, .none, .none, .none, .bool false, .none] }
  dbig : h.objs.size ≤ dx
  dne : dx ≠ x
  ns : h'.Ns1 dx (fun y => if y = "people" then some v else none)
/-- a made Low -/
structure OwnMade_BadPeople (h h' : Heap) (e C d : Addr) (v : Value) : Prop where
  keep : ∀ b o, h.get? b = some o → h'.get? b = some o
  new : h.objs.size ≤ e
  obj : ∃ oe vs, h'.get? e = some oe ∧ oe.cls = .ref C ∧ oe.dict = some d ∧ oe.data = .fields vs ∧ vs[1]? = some .none
  dbig : h.objs.size ≤ d
  dne : d ≠ e
  ns : h'.Ns1 d (fun y => if y = "people" then some v else none)
section
variable {prog : Program} {w : World} {A : Around} {E : Value → Shared → Prop} {R : Result → Shared → Prop} {s : Shared} {K : Frag} {mg : Str → Option Value} {C fI : Addr}
theorem low_init_BadPeople (T : LowTxt_BadPeople K mg C fI) {x t0 : Addr} {v : Value} (X : K.In s.heap) (hlim : s.heap.NoLimit) (hx : s.heap.get? x = some (excO C t0)) (hnx : K.lookup x = none) (hroom : A.depth < recursionLimit)
    (hq : ∀ h' tk dx, InitEnd_BadPeople s.heap h' x C dx t0 v → R (.ok (.ret .none)) { s with heap := h', toks := tk }) :
    codeAny (model prog w) A (.call (.ref fI) ⟨[.ref x, v], []⟩) R s := by
  obtain ⟨oc, od, doc, pm, an, cdv, ct, osl, p1, p2, q1, q2, q3, q4, ho, hcd⟩ := T.fn
  obtain ⟨nm, q, N, bs, bm, sn, sub, ab, col, dd, k0, k1, k2, k3, k5, hC, hbm⟩ := T.cls
  have hcl : clsIn K C = some { name := nm, bases := bs, mro := .ref C :: bm, ns := N, qualname := q, hasDict := true, slotNames := sn, subclasses := sub, abstract := ab, collection := col, hasDel := false } := by unfold clsIn; rw [hC] <;> rfl
  refine Att.call_fn (binds := [("self", .ref x), ("people", v)]) X hlim ho hcd hroom (BindsTo.of_eq (by first | rfl | with_unfolding_all rfl)) (by first | rfl | decide | with_unfolding_all rfl) (fun s₁ IC => ?_) rfl rfl rfl
  obtain ⟨h₁, tk₁, rfl⟩ := IC.toInCall.same
  have k : ∀ b o, s.heap.get? b = some o → h₁.get? b = some o := IC.toInCall.keep
  have hn := IC.toInCall.ns
  have hxL : s.heap.objs.size ≠ x := Nat.ne_of_gt (Heap.lt_size hx)
  have X₁ : K.In h₁ := X.keeps k
  have hx₁ := k _ _ hx
  -- self.by = by
  show wpAny _ _ (execs _ _) _ _ _
  refine wpAny_execs_cons (plainObj_wpAny_Assign_Attribute ?_)
  refine ldC (v := v) hn (by first | rfl | with_unfolding_all rfl | kernel_rfl) (ldC (v := .ref x) hn (by first | rfl | with_unfolding_all rfl | kernel_rfl) ?_)
  refine set_plain X₁ (ox := excO C t0) (od := none) ⟨hx₁, rfl, rfl, trivial⟩ T.sa ?_
  refine exc_osa X₁ hx₁ hcl (show refsVE (.ref C :: bm) = true from hbm) rfl T.noN (fun h₃ tk₃ dx k₃ dn dne hx₃ hn₃ => ?_)
  show wpAny _ _ (execs _ _) _ _ _
  have z : s.heap.objs.size < h₁.objs.size := hn.lt
  exact wpAny_execs_nil (hq h₃ tk₃ dx ⟨fun b o hb e => k₃ b o hb (k b o e), hx₃, Nat.le_of_lt (Nat.lt_of_lt_of_le z dn), dne, hn₃⟩)
theorem low_made_BadPeople (T : LowTxt_BadPeople K mg C fI) {v : Value} (X : K.In s.heap) (hlim : s.heap.NoLimit) (hroom : A.depth + 1 < recursionLimit)
    (hq : ∀ h' tk e d, OwnMade_BadPeople s.heap h' e C d v → R (.ok (.ret (.ref e))) { s with heap := h', toks := tk }) :
    codeAny (model prog w) A (.call (.ref C) ⟨[v], []⟩) R s := by
  obtain ⟨nm, q, N, bs, bm, sn, sub, ab, col, dd, k0, k1, k2, k3, k5, hC, hbm⟩ := T.cls
  obtain ⟨hp, g, dr, tk, os⟩ := s
  have k : ∀ b o, hp.get? b = some o → ((hp.push (kdv_tup [v])).push (excO C hp.objs.size)).get? b = some o := fun b o e => Heap.get?_push_of_some _ (Heap.get?_push_of_some _ e)
  have hget : ((hp.push (kdv_tup [v])).push (excO C hp.objs.size)).get? (hp.objs.size + 1) = some (excO C hp.objs.size) := by heap_get
  have hnx : K.lookup (hp.objs.size + 1) = none := by
    cases e : K.lookup (hp.objs.size + 1) with
    | none => rfl
    | some o =>
      have z : hp.get? (hp.objs.size + 1) = some o := X _ _ e
      exact absurd (Nat.lt_of_succ_lt (Heap.lt_size z)) (Nat.lt_irrefl _)
  refine call_own F.excBase_ValueError (fun X => refsVE_contains X bm hbm) (X _ _ hC) (looks_findIn X T.iC) (fun self => bind_fn X self T.tC) (one_size v) ?_
  refine low_init_BadPeople (s := ⟨(hp.push (kdv_tup [v])).push (excO C hp.objs.size), g, dr, tk, os⟩) T (X.keeps k) (hlim.keeps k) hget hnx ?_ fun h' tk' dx ⟨k', hx, dn, dne, hns⟩ => ?_
  · show A.depth + 1 < recursionLimit
    exact hroom
  · have old : ∀ b o, hp.get? b = some o → h'.get? b = some o := fun b o e => k' b o (Nat.ne_of_lt (Nat.lt_succ_of_lt (Heap.lt_size e))) (k b o e)
    have z : hp.objs.size + 1 + 1 ≤ dx := by
      first
        | (simpa only [Heap.size_push] using dn)
        | exact dn
        | (have q := dn; rw [Heap.size_push, Heap.size_push] at q; exact q)
    exact ⟨rfl, hq h' tk' (hp.objs.size + 1) dx ⟨old, Nat.le_succ _, ⟨_, _, hx, rfl, rfl, rfl, rfl⟩, Nat.le_trans (Nat.le_trans (Nat.le_succ _) (Nat.le_succ _)) z, dne, hns⟩⟩
theorem low_initK_BadPeople (T : LowTxt_BadPeople K mg C fI) {x t0 : Addr} {v : Value} (X : K.In s.heap) (hlim : s.heap.NoLimit) (hx : s.heap.get? x = some (excO C t0)) (hnx : K.lookup x = none) (hroom : A.depth < recursionLimit)
    (hq : ∀ h' tk dx, InitEnd_BadPeople s.heap h' x C dx t0 v → R (.ok (.ret .none)) { s with heap := h', toks := tk }) :
    codeAny (model prog w) A (.call (.ref fI) ⟨[.ref x], [(("people" : Str), v)]⟩) R s := by
  obtain ⟨oc, od, doc, pm, an, cdv, ct, osl, p1, p2, q1, q2, q3, q4, ho, hcd⟩ := T.fn
  obtain ⟨nm, q, N, bs, bm, sn, sub, ab, col, dd, k0, k1, k2, k3, k5, hC, hbm⟩ := T.cls
  have hcl : clsIn K C = some { name := nm, bases := bs, mro := .ref C :: bm, ns := N, qualname := q, hasDict := true, slotNames := sn, subclasses := sub, abstract := ab, collection := col, hasDel := false } := by unfold clsIn; rw [hC] <;> rfl
  refine Att.call_fn (binds := [("self", .ref x), ("people", v)]) X hlim ho hcd hroom (BindsTo.of_eq (by first | rfl | with_unfolding_all rfl)) (by first | rfl | decide | with_unfolding_all rfl) (fun s₁ IC => ?_) rfl rfl rfl
  obtain ⟨h₁, tk₁, rfl⟩ := IC.toInCall.same
  have k : ∀ b o, s.heap.get? b = some o → h₁.get? b = some o := IC.toInCall.keep
  have hn := IC.toInCall.ns
  have hxL : s.heap.objs.size ≠ x := Nat.ne_of_gt (Heap.lt_size hx)
  have X₁ : K.In h₁ := X.keeps k
  have hx₁ := k _ _ hx
  -- self.by = by
  show wpAny _ _ (execs _ _) _ _ _
  refine wpAny_execs_cons (plainObj_wpAny_Assign_Attribute ?_)
  refine ldC (v := v) hn (by first | rfl | with_unfolding_all rfl | kernel_rfl) (ldC (v := .ref x) hn (by first | rfl | with_unfolding_all rfl | kernel_rfl) ?_)
  refine set_plain X₁ (ox := excO C t0) (od := none) ⟨hx₁, rfl, rfl, trivial⟩ T.sa ?_
  refine exc_osa X₁ hx₁ hcl (show refsVE (.ref C :: bm) = true from hbm) rfl T.noN (fun h₃ tk₃ dx k₃ dn dne hx₃ hn₃ => ?_)
  show wpAny _ _ (execs _ _) _ _ _
  have z : s.heap.objs.size < h₁.objs.size := hn.lt
  exact wpAny_execs_nil (hq h₃ tk₃ dx ⟨fun b o hb e => k₃ b o hb (k b o e), hx₃, Nat.le_of_lt (Nat.lt_of_lt_of_le z dn), dne, hn₃⟩)
theorem low_madeK_BadPeople (T : LowTxt_BadPeople K mg C fI) {v : Value} (X : K.In s.heap) (hlim : s.heap.NoLimit) (hroom : A.depth + 1 < recursionLimit)
    (hq : ∀ h' tk e d, OwnMade_BadPeople s.heap h' e C d v → R (.ok (.ret (.ref e))) { s with heap := h', toks := tk }) :
    codeAny (model prog w) A (.call (.ref C) ⟨[], [(("people" : Str), v)]⟩) R s := by
  obtain ⟨nm, q, N, bs, bm, sn, sub, ab, col, dd, k0, k1, k2, k3, k5, hC, hbm⟩ := T.cls
  obtain ⟨hp, g, dr, tk, os⟩ := s
  have k : ∀ b o, hp.get? b = some o → ((hp.push (kdv_tup [])).push (excO C hp.objs.size)).get? b = some o := fun b o e => Heap.get?_push_of_some _ (Heap.get?_push_of_some _ e)
  have hget : ((hp.push (kdv_tup [])).push (excO C hp.objs.size)).get? (hp.objs.size + 1) = some (excO C hp.objs.size) := by heap_get
  have hnx : K.lookup (hp.objs.size + 1) = none := by
    cases e : K.lookup (hp.objs.size + 1) with
    | none => rfl
    | some o =>
      have z : hp.get? (hp.objs.size + 1) = some o := X _ _ e
      exact absurd (Nat.lt_of_succ_lt (Heap.lt_size z)) (Nat.lt_irrefl _)
  refine call_ownK F.excBase_ValueError (fun X => refsVE_contains X bm hbm) (X _ _ hC) (looks_findIn (X.keeps k) T.iC) (fun self => bind_fn (X.keeps k) self T.tC) ?_
  refine low_initK_BadPeople (s := ⟨(hp.push (kdv_tup [])).push (excO C hp.objs.size), g, dr, tk, os⟩) T (X.keeps k) (hlim.keeps k) hget hnx ?_ fun h' tk' dx ⟨k', hx, dn, dne, hns⟩ => ?_
  · show A.depth + 1 < recursionLimit
    exact hroom
  · have old : ∀ b o, hp.get? b = some o → h'.get? b = some o := fun b o e => k' b o (Nat.ne_of_lt (Nat.lt_succ_of_lt (Heap.lt_size e))) (k b o e)
    have z : hp.objs.size + 1 + 1 ≤ dx := by
      first
        | (simpa only [Heap.size_push] using dn)
        | exact dn
        | (have q := dn; rw [Heap.size_push, Heap.size_push] at q; exact q)
    exact ⟨rfl, hq h' tk' (hp.objs.size + 1) dx ⟨old, Nat.le_succ _, ⟨_, _, hx, rfl, rfl, rfl, rfl⟩, Nat.le_trans (Nat.le_trans (Nat.le_succ _) (Nat.le_succ _)) z, dne, hns⟩⟩
end
end LowX_BadPeople
end PySem
namespace L2
open PySem PySem.Spec PyProof.Rows
theorem relO_low_BadPeople {v : V} {v' : Value} (r : RelV v v') (f : Str) : RelO (List.lookup f [(("people" : Str), v)]) (if f = "people" then some v' else none) := by
  by_cases hw : f = "people"
  · subst hw
    rw [if_pos rfl]
    have q : List.lookup ("people" : Str) [(("people" : Str), v)] = some v := by simp [List.lookup]
    rw [q]
    exact r
  · rw [if_neg hw]
    have qw : (f == ("people" : Str)) = false := by simpa using hw
    have q2 : List.lookup f [(("people" : Str), v)] = none := by simp [List.lookup, qw]
    rw [q2]
    trivial
section
variable {X : Cx} {C fI : Addr}
/-- Low(e) -/
def tMkLow_BadPeople (C : Addr) (ta : TA) : St → Hp → XK → Prop := fun σ H Q => ta σ H fun vs H1 => ∃ v, vs = [v] ∧ ∀ d, H1 d = none → Q (.ref C) (some d) (upd H1 d (.xd [(("people" : Str), v)]))
theorem pmk_low_BadPeople {a : Expr} {ta : TA} {p pos : Pos} {k : Nat} (T : PySem.LowX_BadPeople.LowTxt_BadPeople X.K X.mg C fI) (hr : Room k X.A) (ha : PA X [a] ta) (hg : Gl X "BadPeople" := by rfl)
    (he : starEach (a :: []) X.env = (false, eval a X.env) :: starEach [] X.env := by rfl) (hpl : (backTo pos (starEach [] X.env)).any (·.1) = false := by rfl) :
    PMk X (.Call (.Name "BadPeople" p) [a] [] pos) (tMkLow_BadPeople C ta) := by
  intro pins s σ H Q I h
  refine wpAny_Call_Name_kw (ld_glob I hg T.gC ?_)
  refine PySem.W.callWith_K (h₀ := X.base) I.ok.mod.kin T.kC (thn (ha.run pos pins s σ H _ I h) fun us s1 hh => ?_) he hpl
  obtain ⟨vs, H1, I1, r1, v, ev, q1⟩ := hh
  subst ev
  refine ⟨I1.kIn, ?_⟩
  cases r1 with
  | cons rv rn =>
    rename_i v' us'
    cases rn
    show wpAny _ _ (call (.ref C) [v']) _ _ _
    have hlim := I1.nolimit
    obtain ⟨hp, g, dr, tk, os⟩ := s1
    refine wpAny_call (PySem.LowX_BadPeople.low_made_BadPeople T I1.kIn hlim (by have := hr.dp; omega) fun h' tk' e d M => ?_)
    show MkP X pins σ Q (.ref e) ⟨h', g, dr, tk', os⟩
    obtain ⟨oe, fv, hoe, hc, hd, hdat, h1⟩ := M.obj
    have hns := M.ns
    obtain ⟨G', g1, g2⟩ := restrict h' fun b => decide (b ≠ e)
    have gk : ∀ b, b ≠ e → G'.get? b = h'.get? b := fun b hb => g1 b (decide_eq_true hb)
    have ge : G'.get? e = none := g2 e (by simp)
    have old : ∀ b o, hp.get? b = some o → G'.get? b = some o := fun b o q => (gk b (Nat.ne_of_lt (Nat.lt_of_lt_of_le (Heap.lt_size q) M.new))).trans (M.keep b o q)
    have ob : ObjOk X.prog X.w (upd H1 d (.xd [(("people" : Str), v)])) G' d (.xd [(("people" : Str), v)]) :=
      ⟨_, hns.at (fun o q => (gk d M.dne).trans q), fun f => relO_low_BadPeople rv f⟩
    have J : Inv X pins σ (upd H1 d (.xd [(("people" : Str), v)])) ⟨G', g, dr, tk', os⟩ := I1.laid (t' := tk') old M.dbig ob
    refine ⟨e, oe, fv, ⟨G', g, dr, tk', os⟩, _, .ref C, some d, rfl, J, fun b o q => ?_, ge, hoe, ⟨hc, hd⟩, hdat, h1, ?_, rfl, I1.bare, raises_own T.exC T.tyC, q1 d (I1.hok.fresh M.dbig)⟩
    · by_cases hb : b = e
      · have q' : G'.get? b = some o := q
        rw [hb, ge] at q'; cases q'
      · exact (gk b hb).symm.trans q
    · rw [upd_ne (Ne.symm M.dne)]
      exact I1.hok.fresh M.new
/-- BadPeople(e), held as a value -/
theorem pe_lowV_BadPeople {a : Expr} {ta : TA} {p pos : Pos} {k : Nat} (T : PySem.LowX_BadPeople.LowTxt_BadPeople X.K X.mg C fI) (hr : Room k X.A) (ha : PA X [a] ta) (hg : Gl X "BadPeople" := by rfl)
    (he : starEach (a :: []) X.env = (false, eval a X.env) :: starEach [] X.env := by rfl) (hpl : (backTo pos (starEach [] X.env)).any (·.1) = false := by rfl) :
    PE X (.Call (.Name "BadPeople" p) [a] [] pos) (tLowV C "people" ta) := by
  refine .mk fun pins s σ H Q I h => ?_
  refine wpAny_Call_Name_kw (ld_glob I hg T.gC ?_)
  refine PySem.W.callWith_K (h₀ := X.base) I.ok.mod.kin T.kC (thn (ha.run pos pins s σ H _ I h) fun us s1 hh => ?_) he hpl
  obtain ⟨vs, H1, I1, r1, v, ev, q1⟩ := hh
  subst ev
  refine ⟨I1.kIn, ?_⟩
  cases r1 with
  | cons rv rn =>
    rename_i v' us'
    cases rn
    show wpAny _ _ (call (.ref C) [v']) _ _ _
    have hlim := I1.nolimit
    obtain ⟨hp, g, dr, tk, os⟩ := s1
    refine wpAny_call (PySem.LowX_BadPeople.low_made_BadPeople T I1.kIn hlim (by have := hr.dp; omega) fun h' tk' e d M => ?_)
    exact lowV_end I1 rv M.keep M.new M.obj M.dbig M.dne M.ns (fun f => relO_low_BadPeople rv f) ⟨v, rfl, q1⟩
/-- BadPeople(people = e), held as a value -/
theorem pe_lowVk_BadPeople {kws : List Keyword} {tk : TA} {p pos : Pos} {k : Nat} (T : PySem.LowX_BadPeople.LowTxt_BadPeople X.K X.mg C fI) (hr : Room k X.A) (ha : PK X kws tk) (hg : Gl X "BadPeople" := by rfl)
    (hall : (backToKw pos (keywordEach kws X.env)).all (·.1.isSome) = true := by rfl) (hks : (backToKw pos (keywordEach kws X.env)).filterMap (·.1) = [("people" : Str)] := by rfl)
    (hpl : ((backTo pos (starEach [] X.env)).any (·.1) || (backToKw pos (keywordEach kws X.env)).any (·.1.isNone)) = false := by rfl) :
    PE X (.Call (.Name "BadPeople" p) [] kws pos) (tLowV C "people" tk) := by
  refine .mk fun pins s σ H Q I h => ?_
  refine wpAny_Call_Name_kw (ld_glob I hg T.gC ?_)
  refine PySem.W.callWith_KW0 (h₀ := X.base) I.ok.mod.kin T.kC hall (thn (ha.run pos pins s σ H _ I h) fun us s1 hh => ?_) hpl
  obtain ⟨vs, H1, I1, r1, v, ev, q1⟩ := hh
  subst ev
  refine ⟨I1.kIn, ?_⟩
  rw [hks]
  cases r1 with
  | cons rv rn =>
    rename_i v' us'
    cases rn
    show wpAny _ _ (call (.ref C) [] [(("people" : Str), v')]) _ _ _
    have hlim := I1.nolimit
    obtain ⟨hp, g, dr, tk, os⟩ := s1
    refine wpAny_call (PySem.LowX_BadPeople.low_madeK_BadPeople T I1.kIn hlim (by have := hr.dp; omega) fun h' tk' e d M => ?_)
    exact lowV_end I1 rv M.keep M.new M.obj M.dbig M.dne M.ns (fun f => relO_low_BadPeople rv f) ⟨v, rfl, q1⟩
end
end L2

namespace PySem
namespace LowX_BadLines
open PySem.W PySem.Calls PyProof.Rows PySem.HandSPX
/-! ### the text of __init__ -/
def iA (p1 p2 : Pos) : Arguments := { posonlyargs := [], args := [{ arg := "self", annotation := none, pos := p1 }, { arg := "lines", annotation := none, pos := p2 }], vararg := none, kwonlyargs := [], kw_defaults := [], kwarg := none, defaults := [] }
def iB (q1 q2 q3 q4 : Pos) : List Stmt := [.Assign [.Attribute (.Name "self" q1) "lines" q2] (.Name "lines" q3) q4]
def iS : Scope := { kind := .function, names := [(PySem.Str.ofString "self", .local), (PySem.Str.ofString "lines", .local)], isGenerator := false, isCoroutine := false, more := [] }
/-- what the written part says of Low, at C, and of its __init__, at fI -/
structure LowTxt_BadLines (K : Frag) (mg : Str → Option Value) (C fI : Addr) : Prop where
  gC : mg "BadLines" = some (.ref C)
  cls : ∃ nm q N bs bm sn sub ab col dd k0 k1 k2 k3 k5, K.lookup C = some (excClassObj nm q C N bs bm true sn sub ab col dd k0 k1 k2 k3 k5 "ValueError.__new__") ∧ refsVE bm = true
  sa : findIn K (.ref C) "__setattr__" = some (some (.builtin "object.__setattr__"))
  ga : findIn K (.ref C) "__getattribute__" = some (some (.builtin "BaseException.__getattribute__"))
  gg : findIn K (.ref C) "__getattr__" = some none
  noN : findIn K (.ref C) "lines" = some none
  iC : findIn K (.ref C) "__init__" = some (some (.ref fI))
  tC : typeIn K (.ref fI) = some (.type "function")
  kC : keepIn K (.ref C) = true
  exC : subIn K (.ref C) (.type "BaseException") = some true
  tyC : typeIn K (.ref C) = some (.type "type")
  hdC : hasDictIn K C = true
  te : exmOne K (.ref C) (.ref C) = some true
  fn : ∃ (oc : Value) (od : Option Addr) (doc pm : Value) (an : Option Addr) (cdv ct : Value) (osl : Array (Option Value)) (p1 p2 q1 q2 q3 q4 : Pos),
    K.lookup fI = some ⟨oc, od, .func (fnOf "__init__" "BadLines.__init__" (iA p1 p2) (iB q1 q2 q3 q4) iS .none .none doc pm an cdv ct), osl⟩ ∧ codeIn K cdv "BadLines.__init__" = true
theorem one_size (v : Value) : [v].length ≤ sizeLine := by
  rw [sizeLine_eq]
  exact (by decide : 1 ≤ 16777216)
theorem kept_but {K : Frag} {h h' : Heap} {x : Addr} (X : K.In h) (hx : K.lookup x = none) (k : ∀ b o, b ≠ x → h.get? b = some o → h'.get? b = some o) : K.In h' := fun a o e =>
  k a o (fun z => by rw [z, hx] at e; cases e) (X a o e)
theorem ldC {M : Model} {s : Shared} {name : Str} {scope : Scope} {L a : Addr} {cd : Value} {m : Str → Option Value} {x : Str} {pos : Pos} {v : Value} {Q : Value → Shared → Prop} {A : Around} {E : Value → Shared → Prop} (hn : s.heap.Ns L m) (hv : m x = some v) (h : Q v s)
    (hk : scope.kind = .function := by rfl) (hl : (envOfC name scope L a cd).kindOf x = some .local := by rfl) (hd : (x == ("__debug__" : Str)) = false := by decide) :
    wpAny M A (eval (.Name x pos) (envOfC name scope L a cd)) Q E s := wpAny_Name (wpAny_loadName_local hk hl hn hv h) hd
/-- what __init__ leaves of a fresh exception at x -/
structure InitEnd_BadLines (h h' : Heap) (x C dx t1 : Addr) (v : Value) : Prop where
  keep : ∀ b o, b ≠ x → h.get? b = some o → h'.get? b = some o
  obj : h'.get? x = some { cls := .ref C, dict := some dx, data := .fields #[.ref t1, .none, .none, .none, .bool false, .none] }
  dbig : h.objs.size ≤ dx
  dne : dx ≠ x
  ns : h'.Ns1 dx (fun y => if y = "lines" then some v else none)
/-- a made Low -/
structure OwnMade_BadLines (h h' : Heap) (e C d : Addr) (v : Value) : Prop where
  keep : ∀ b o, h.get? b = some o → h'.get? b = some o
  new : h.objs.size ≤ e
  obj : ∃ oe vs, h'.get? e = some oe ∧ oe.cls = .ref C ∧ oe.dict = some d ∧ oe.data = .fields vs ∧ vs[1]? = some .none
  dbig : h.objs.size ≤ d
  dne : d ≠ e
  ns : h'.Ns1 d (fun y => if y = "lines" then some v else none)
section
variable {prog : Program} {w : World} {A : Around} {E : Value → Shared → Prop} {R : Result → Shared → Prop} {s : Shared} {K : Frag} {mg : Str → Option Value} {C fI : Addr}
theorem low_init_BadLines (T : LowTxt_BadLines K mg C fI) {x t0 : Addr} {v : Value} (X : K.In s.heap) (hlim : s.heap.NoLimit) (hx : s.heap.get? x = some (excO C t0)) (hnx : K.lookup x = none) (hroom : A.depth < recursionLimit)
    (hq : ∀ h' tk dx, InitEnd_BadLines s.heap h' x C dx t0 v → R (.ok (.ret .none)) { s with heap := h', toks := tk }) :
    codeAny (model prog w) A (.call (.ref fI) ⟨[.ref x, v], []⟩) R s := by
  obtain ⟨oc, od, doc, pm, an, cdv, ct, osl, p1, p2, q1, q2, q3, q4, ho, hcd⟩ := T.fn
  obtain ⟨nm, q, N, bs, bm, sn, sub, ab, col, dd, k0, k1, k2, k3, k5, hC, hbm⟩ := T.cls
  have hcl : clsIn K C = some { name := nm, bases := bs, mro := .ref C :: bm, ns := N, qualname := q, hasDict := true, slotNames := sn, subclasses := sub, abstract := ab, collection := col, hasDel := false } := by unfold clsIn; rw [hC] <;> rfl
  refine Att.call_fn (binds := [("self", .ref x), ("lines", v)]) X hlim ho hcd hroom (BindsTo.of_eq (by first | rfl | with_unfolding_all rfl)) (by first | rfl | decide | with_unfolding_all rfl) (fun s₁ IC => ?_) rfl rfl rfl
  obtain ⟨h₁, tk₁, rfl⟩ := IC.toInCall.same
  have k : ∀ b o, s.heap.get? b = some o → h₁.get? b = some o := IC.toInCall.keep
  have hn := IC.toInCall.ns
  have hxL : s.heap.objs.size ≠ x := Nat.ne_of_gt (Heap.lt_size hx)
  have X₁ : K.In h₁ := X.keeps k
  have hx₁ := k _ _ hx
  -- self.by = by
  show wpAny _ _ (execs _ _) _ _ _
  refine wpAny_execs_cons (plainObj_wpAny_Assign_Attribute ?_)
  refine ldC (v := v) hn (by first | rfl | with_unfolding_all rfl | kernel_rfl) (ldC (v := .ref x) hn (by first | rfl | with_unfolding_all rfl | kernel_rfl) ?_)
  refine set_plain X₁ (ox := excO C t0) (od := none) ⟨hx₁, rfl, rfl, trivial⟩ T.sa ?_
  refine exc_osa X₁ hx₁ hcl (show refsVE (.ref C :: bm) = true from hbm) rfl T.noN (fun h₃ tk₃ dx k₃ dn dne hx₃ hn₃ => ?_)
  show wpAny _ _ (execs _ _) _ _ _
  have z : s.heap.objs.size < h₁.objs.size := hn.lt
  exact wpAny_execs_nil (hq h₃ tk₃ dx ⟨fun b o hb e => k₃ b o hb (k b o e), hx₃, Nat.le_of_lt (Nat.lt_of_lt_of_le z dn), dne, hn₃⟩)
theorem low_made_BadLines (T : LowTxt_BadLines K mg C fI) {v : Value} (X : K.In s.heap) (hlim : s.heap.NoLimit) (hroom : A.depth + 1 < recursionLimit)
    (hq : ∀ h' tk e d, OwnMade_BadLines s.heap h' e C d v → R (.ok (.ret (.ref e))) { s with heap := h', toks := tk }) :
    codeAny (model prog w) A (.call (.ref C) ⟨[v], []⟩) R s := by
  obtain ⟨nm, q, N, bs, bm, sn, sub, ab, col, dd, k0, k1, k2, k3, k5, hC, hbm⟩ := T.cls
  obtain ⟨hp, g, dr, tk, os⟩ := s
  have k : ∀ b o, hp.get? b = some o → ((hp.push (kdv_tup [v])).push (excO C hp.objs.size)).get? b = some o := fun b o e => Heap.get?_push_of_some _ (Heap.get?_push_of_some _ e)
  have hget : ((hp.push (kdv_tup [v])).push (excO C hp.objs.size)).get? (hp.objs.size + 1) = some (excO C hp.objs.size) := by heap_get
  have hnx : K.lookup (hp.objs.size + 1) = none := by
    cases e : K.lookup (hp.objs.size + 1) with
    | none => rfl
    | some o =>
      have z : hp.get? (hp.objs.size + 1) = some o := X _ _ e
      exact absurd (Nat.lt_of_succ_lt (Heap.lt_size z)) (Nat.lt_irrefl _)
  refine call_own F.excBase_ValueError (fun X => refsVE_contains X bm hbm) (X _ _ hC) (looks_findIn X T.iC) (fun self => bind_fn X self T.tC) (one_size v) ?_
  refine low_init_BadLines (s := ⟨(hp.push (kdv_tup [v])).push (excO C hp.objs.size), g, dr, tk, os⟩) T (X.keeps k) (hlim.keeps k) hget hnx ?_ fun h' tk' dx ⟨k', hx, dn, dne, hns⟩ => ?_
  · show A.depth + 1 < recursionLimit
    exact hroom
  · have old : ∀ b o, hp.get? b = some o → h'.get? b = some o := fun b o e => k' b o (Nat.ne_of_lt (Nat.lt_succ_of_lt (Heap.lt_size e))) (k b o e)
    have z : hp.objs.size + 1 + 1 ≤ dx := by
      first
        | (simpa only [Heap.size_push] using dn)
        | exact dn
        | (have q := dn; rw [Heap.size_push, Heap.size_push] at q; exact q)
    exact ⟨rfl, hq h' tk' (hp.objs.size + 1) dx ⟨old, Nat.le_succ _, ⟨_, _, hx, rfl, rfl, rfl, rfl⟩, Nat.le_trans (Nat.le_trans (Nat.le_succ _) (Nat.le_succ _)) z, dne, hns⟩⟩
theorem low_initK_BadLines (T : LowTxt_BadLines K mg C fI) {x t0 : Addr} {v : Value} (X : K.In s.heap) (hlim : s.heap.NoLimit) (hx : s.heap.get? x = some (excO C t0)) (hnx : K.lookup x = none) (hroom : A.depth < recursionLimit)
    (hq : ∀ h' tk dx, InitEnd_BadLines s.heap h' x C dx t0 v → R (.ok (.ret .none)) { s with heap := h', toks := tk }) :
    codeAny (model prog w) A (.call (.ref fI) ⟨[.ref x], [(("lines" : Str), v)]⟩) R s := by
  obtain ⟨oc, od, doc, pm, an, cdv, ct, osl, p1, p2, q1, q2, q3, q4, ho, hcd⟩ := T.fn
  obtain ⟨nm, q, N, bs, bm, sn, sub, ab, col, dd, k0, k1, k2, k3, k5, hC, hbm⟩ := T.cls
  have hcl : clsIn K C = some { name := nm, bases := bs, mro := .ref C :: bm, ns := N, qualname := q, hasDict := true, slotNames := sn, subclasses := sub, abstract := ab, collection := col, hasDel := false } := by unfold clsIn; rw [hC] <;> rfl
  refine Att.call_fn (binds := [("self", .ref x), ("lines", v)]) X hlim ho hcd hroom (BindsTo.of_eq (by first | rfl | with_unfolding_all rfl)) (by first | rfl | decide | with_unfolding_all rfl) (fun s₁ IC => ?_) rfl rfl rfl
  obtain ⟨h₁, tk₁, rfl⟩ := IC.toInCall.same
  have k : ∀ b o, s.heap.get? b = some o → h₁.get? b = some o := IC.toInCall.keep
  have hn := IC.toInCall.ns
  have hxL : s.heap.objs.size ≠ x := Nat.ne_of_gt (Heap.lt_size hx)
  have X₁ : K.In h₁ := X.keeps k
  have hx₁ := k _ _ hx
  -- self.by = by
  show wpAny _ _ (execs _ _) _ _ _
  refine wpAny_execs_cons (plainObj_wpAny_Assign_Attribute ?_)
  refine ldC (v := v) hn (by first | rfl | with_unfolding_all rfl | kernel_rfl) (ldC (v := .ref x) hn (by first | rfl | with_unfolding_all rfl | kernel_rfl) ?_)
  refine set_plain X₁ (ox := excO C t0) (od := none) ⟨hx₁, rfl, rfl, trivial⟩ T.sa ?_
  refine exc_osa X₁ hx₁ hcl (show refsVE (.ref C :: bm) = true from hbm) rfl T.noN (fun h₃ tk₃ dx k₃ dn dne hx₃ hn₃ => ?_)
  show wpAny _ _ (execs _ _) _ _ _
  have z : s.heap.objs.size < h₁.objs.size := hn.lt
  exact wpAny_execs_nil (hq h₃ tk₃ dx ⟨fun b o hb e => k₃ b o hb (k b o e), hx₃, Nat.le_of_lt (Nat.lt_of_lt_of_le z dn), dne, hn₃⟩)
theorem low_madeK_BadLines (T : LowTxt_BadLines K mg C fI) {v : Value} (X : K.In s.heap) (hlim : s.heap.NoLimit) (hroom : A.depth + 1 < recursionLimit)
    (hq : ∀ h' tk e d, OwnMade_BadLines s.heap h' e C d v → R (.ok (.ret (.ref e))) { s with heap := h', toks := tk }) :
    codeAny (model prog w) A (.call (.ref C) ⟨[], [(("lines" : Str), v)]⟩) R s := by
  obtain ⟨nm, q, N, bs, bm, sn, sub, ab, col, dd, k0, k1, k2, k3, k5, hC, hbm⟩ := T.cls
  obtain ⟨hp, g, dr, tk, os⟩ := s
  have k : ∀ b o, hp.get? b = some o → ((hp.push (kdv_tup [])).push (excO C hp.objs.size)).get? b = some o := fun b o e => Heap.get?_push_of_some _ (Heap.get?_push_of_some _ e)
  have hget : ((hp.push (kdv_tup [])).push (excO C hp.objs.size)).get? (hp.objs.size + 1) = some (excO C hp.objs.size) := by heap_get
  have hnx : K.lookup (hp.objs.size + 1) = none := by
    cases e : K.lookup (hp.objs.size + 1) with
    | none => rfl
    | some o =>
      have z : hp.get? (hp.objs.size + 1) = some o := X _ _ e
      exact absurd (Nat.lt_of_succ_lt (Heap.lt_size z)) (Nat.lt_irrefl _)
  refine call_ownK F.excBase_ValueError (fun X => refsVE_contains X bm hbm) (X _ _ hC) (looks_findIn (X.keeps k) T.iC) (fun self => bind_fn (X.keeps k) self T.tC) ?_
  refine low_initK_BadLines (s := ⟨(hp.push (kdv_tup [])).push (excO C hp.objs.size), g, dr, tk, os⟩) T (X.keeps k) (hlim.keeps k) hget hnx ?_ fun h' tk' dx ⟨k', hx, dn, dne, hns⟩ => ?_
  · show A.depth + 1 < recursionLimit
    exact hroom
  · have old : ∀ b o, hp.get? b = some o → h'.get? b = some o := fun b o e => k' b o (Nat.ne_of_lt (Nat.lt_succ_of_lt (Heap.lt_size e))) (k b o e)
    have z : hp.objs.size + 1 + 1 ≤ dx := by
      first
        | (simpa only [Heap.size_push] using dn)
        | exact dn
        | (have q := dn; rw [Heap.size_push, Heap.size_push] at q; exact q)
    exact ⟨rfl, hq h' tk' (hp.objs.size + 1) dx ⟨old, Nat.le_succ _, ⟨_, _, hx, rfl, rfl, rfl, rfl⟩, Nat.le_trans (Nat.le_trans (Nat.le_succ _) (Nat.le_succ _)) z, dne, hns⟩⟩
end
end LowX_BadLines
end PySem
namespace L2
open PySem PySem.Spec PyProof.Rows
theorem relO_low_BadLines {v : V} {v' : Value} (r : RelV v v') (f : Str) : RelO (List.lookup f [(("lines" : Str), v)]) (if f = "lines" then some v' else none) := by
  by_cases hw : f = "lines"
  · subst hw
    rw [if_pos rfl]
    have q : List.lookup ("lines" : Str) [(("lines" : Str), v)] = some v := by simp [List.lookup]
    rw [q]
    exact r
  · rw [if_neg hw]
    have qw : (f == ("lines" : Str)) = false := by simpa using hw
    have q2 : List.lookup f [(("lines" : Str), v)] = none := by simp [List.lookup, qw]
    rw [q2]
    trivial
section
variable {X : Cx} {C fI : Addr}
/-- Low(e) -/
def tMkLow_BadLines (C : Addr) (ta : TA) : St → Hp → XK → Prop := fun σ H Q => ta σ H fun vs H1 => ∃ v, vs = [v] ∧ ∀ d, H1 d = none → Q (.ref C) (some d) (upd H1 d (.xd [(("lines" : Str), v)]))
theorem pmk_low_BadLines {a : Expr} {ta : TA} {p pos : Pos} {k : Nat} (T : PySem.LowX_BadLines.LowTxt_BadLines X.K X.mg C fI) (hr : Room k X.A) (ha : PA X [a] ta) (hg : Gl X "BadLines" := by rfl)
    (he : starEach (a :: []) X.env = (false, eval a X.env) :: starEach [] X.env := by rfl) (hpl : (backTo pos (starEach [] X.env)).any (·.1) = false := by rfl) :
    PMk X (.Call (.Name "BadLines" p) [a] [] pos) (tMkLow_BadLines C ta) := by
  intro pins s σ H Q I h
  refine wpAny_Call_Name_kw (ld_glob I hg T.gC ?_)
  refine PySem.W.callWith_K (h₀ := X.base) I.ok.mod.kin T.kC (thn (ha.run pos pins s σ H _ I h) fun us s1 hh => ?_) he hpl
  obtain ⟨vs, H1, I1, r1, v, ev, q1⟩ := hh
  subst ev
  refine ⟨I1.kIn, ?_⟩
  cases r1 with
  | cons rv rn =>
    rename_i v' us'
    cases rn
    show wpAny _ _ (call (.ref C) [v']) _ _ _
    have hlim := I1.nolimit
    obtain ⟨hp, g, dr, tk, os⟩ := s1
    refine wpAny_call (PySem.LowX_BadLines.low_made_BadLines T I1.kIn hlim (by have := hr.dp; omega) fun h' tk' e d M => ?_)
    show MkP X pins σ Q (.ref e) ⟨h', g, dr, tk', os⟩
    obtain ⟨oe, fv, hoe, hc, hd, hdat, h1⟩ := M.obj
    have hns := M.ns
    obtain ⟨G', g1, g2⟩ := restrict h' fun b => decide (b ≠ e)
    have gk : ∀ b, b ≠ e → G'.get? b = h'.get? b := fun b hb => g1 b (decide_eq_true hb)
    have ge : G'.get? e = none := g2 e (by simp)
    have old : ∀ b o, hp.get? b = some o → G'.get? b = some o := fun b o q => (gk b (Nat.ne_of_lt (Nat.lt_of_lt_of_le (Heap.lt_size q) M.new))).trans (M.keep b o q)
    have ob : ObjOk X.prog X.w (upd H1 d (.xd [(("lines" : Str), v)])) G' d (.xd [(("lines" : Str), v)]) :=
      ⟨_, hns.at (fun o q => (gk d M.dne).trans q), fun f => relO_low_BadLines rv f⟩
    have J : Inv X pins σ (upd H1 d (.xd [(("lines" : Str), v)])) ⟨G', g, dr, tk', os⟩ := I1.laid (t' := tk') old M.dbig ob
    refine ⟨e, oe, fv, ⟨G', g, dr, tk', os⟩, _, .ref C, some d, rfl, J, fun b o q => ?_, ge, hoe, ⟨hc, hd⟩, hdat, h1, ?_, rfl, I1.bare, raises_own T.exC T.tyC, q1 d (I1.hok.fresh M.dbig)⟩
    · by_cases hb : b = e
      · have q' : G'.get? b = some o := q
        rw [hb, ge] at q'; cases q'
      · exact (gk b hb).symm.trans q
    · rw [upd_ne (Ne.symm M.dne)]
      exact I1.hok.fresh M.new
/-- BadLines(e), held as a value -/
theorem pe_lowV_BadLines {a : Expr} {ta : TA} {p pos : Pos} {k : Nat} (T : PySem.LowX_BadLines.LowTxt_BadLines X.K X.mg C fI) (hr : Room k X.A) (ha : PA X [a] ta) (hg : Gl X "BadLines" := by rfl)
    (he : starEach (a :: []) X.env = (false, eval a X.env) :: starEach [] X.env := by rfl) (hpl : (backTo pos (starEach [] X.env)).any (·.1) = false := by rfl) :
    PE X (.Call (.Name "BadLines" p) [a] [] pos) (tLowV C "lines" ta) := by
  refine .mk fun pins s σ H Q I h => ?_
  refine wpAny_Call_Name_kw (ld_glob I hg T.gC ?_)
  refine PySem.W.callWith_K (h₀ := X.base) I.ok.mod.kin T.kC (thn (ha.run pos pins s σ H _ I h) fun us s1 hh => ?_) he hpl
  obtain ⟨vs, H1, I1, r1, v, ev, q1⟩ := hh
  subst ev
  refine ⟨I1.kIn, ?_⟩
  cases r1 with
  | cons rv rn =>
    rename_i v' us'
    cases rn
    show wpAny _ _ (call (.ref C) [v']) _ _ _
    have hlim := I1.nolimit
    obtain ⟨hp, g, dr, tk, os⟩ := s1
    refine wpAny_call (PySem.LowX_BadLines.low_made_BadLines T I1.kIn hlim (by have := hr.dp; omega) fun h' tk' e d M => ?_)
    exact lowV_end I1 rv M.keep M.new M.obj M.dbig M.dne M.ns (fun f => relO_low_BadLines rv f) ⟨v, rfl, q1⟩
/-- BadLines(lines = e), held as a value -/
theorem pe_lowVk_BadLines {kws : List Keyword} {tk : TA} {p pos : Pos} {k : Nat} (T : PySem.LowX_BadLines.LowTxt_BadLines X.K X.mg C fI) (hr : Room k X.A) (ha : PK X kws tk) (hg : Gl X "BadLines" := by rfl)
    (hall : (backToKw pos (keywordEach kws X.env)).all (·.1.isSome) = true := by rfl) (hks : (backToKw pos (keywordEach kws X.env)).filterMap (·.1) = [("lines" : Str)] := by rfl)
    (hpl : ((backTo pos (starEach [] X.env)).any (·.1) || (backToKw pos (keywordEach kws X.env)).any (·.1.isNone)) = false := by rfl) :
    PE X (.Call (.Name "BadLines" p) [] kws pos) (tLowV C "lines" tk) := by
  refine .mk fun pins s σ H Q I h => ?_
  refine wpAny_Call_Name_kw (ld_glob I hg T.gC ?_)
  refine PySem.W.callWith_KW0 (h₀ := X.base) I.ok.mod.kin T.kC hall (thn (ha.run pos pins s σ H _ I h) fun us s1 hh => ?_) hpl
  obtain ⟨vs, H1, I1, r1, v, ev, q1⟩ := hh
  subst ev
  refine ⟨I1.kIn, ?_⟩
  rw [hks]
  cases r1 with
  | cons rv rn =>
    rename_i v' us'
    cases rn
    show wpAny _ _ (call (.ref C) [] [(("lines" : Str), v')]) _ _ _
    have hlim := I1.nolimit
    obtain ⟨hp, g, dr, tk, os⟩ := s1
    refine wpAny_call (PySem.LowX_BadLines.low_madeK_BadLines T I1.kIn hlim (by have := hr.dp; omega) fun h' tk' e d M => ?_)
    exact lowV_end I1 rv M.keep M.new M.obj M.dbig M.dne M.ns (fun f => relO_low_BadLines rv f) ⟨v, rfl, q1⟩
end
end L2

namespace PySem
namespace LowX_BadLine
open PySem.W PySem.Calls PyProof.Rows PySem.HandSPX
/-! ### the text of __init__ -/
def iA (p1 p2 : Pos) : Arguments := { posonlyargs := [], args := [{ arg := "self", annotation := none, pos := p1 }, { arg := "line", annotation := none, pos := p2 }], vararg := none, kwonlyargs := [], kw_defaults := [], kwarg := none, defaults := [] }
def iB (q1 q2 q3 q4 : Pos) : List Stmt := [.Assign [.Attribute (.Name "self" q1) "line" q2] (.Name "line" q3) q4]
def iS : Scope := { kind := .function, names := [(PySem.Str.ofString "self", .local), (PySem.Str.ofString "line", .local)], isGenerator := false, isCoroutine := false, more := [] }
/-- what the written part says of Low, at C, and of its __init__, at fI -/
structure LowTxt_BadLine (K : Frag) (mg : Str → Option Value) (C fI : Addr) : Prop where
  gC : mg "BadLine" = some (.ref C)
  cls : ∃ nm q N bs bm sn sub ab col dd k0 k1 k2 k3 k5, K.lookup C = some (excClassObj nm q C N bs bm true sn sub ab col dd k0 k1 k2 k3 k5 "ValueError.__new__") ∧ refsVE bm = true
  sa : findIn K (.ref C) "__setattr__" = some (some (.builtin "object.__setattr__"))
  ga : findIn K (.ref C) "__getattribute__" = some (some (.builtin "BaseException.__getattribute__"))
  gg : findIn K (.ref C) "__getattr__" = some none
  noN : findIn K (.ref C) "line" = some none
  iC : findIn K (.ref C) "__init__" = some (some (.ref fI))
  tC : typeIn K (.ref fI) = some (.type "function")
  kC : keepIn K (.ref C) = true
  exC : subIn K (.ref C) (.type "BaseException") = some true
  tyC : typeIn K (.ref C) = some (.type "type")
  hdC : hasDictIn K C = true
  te : exmOne K (.ref C) (.ref C) = some true
  fn : ∃ (oc : Value) (od : Option Addr) (doc pm : Value) (an : Option Addr) (cdv ct : Value) (osl : Array (Option Value)) (p1 p2 q1 q2 q3 q4 : Pos),
    K.lookup fI = some ⟨oc, od, .func (fnOf "__init__" "BadLine.__init__" (iA p1 p2) (iB q1 q2 q3 q4) iS .none .none doc pm an cdv ct), osl⟩ ∧ codeIn K cdv "BadLine.__init__" = true
theorem one_size (v : Value) : [v].length ≤ sizeLine := by
  rw [sizeLine_eq]
  exact (by decide : 1 ≤ 16777216)
theorem kept_but {K : Frag} {h h' : Heap} {x : Addr} (X : K.In h) (hx : K.lookup x = none) (k : ∀ b o, b ≠ x → h.get? b = some o → h'.get? b = some o) : K.In h' := fun a o e =>
  k a o (fun z => by rw [z, hx] at e; cases e) (X a o e)
theorem ldC {M : Model} {s : Shared} {name : Str} {scope : Scope} {L a : Addr} {cd : Value} {m : Str → Option Value} {x : Str} {pos : Pos} {v : Value} {Q : Value → Shared → Prop} {A : Around} {E : Value → Shared → Prop} (hn : s.heap.Ns L m) (hv : m x = some v) (h : Q v s)
    (hk : scope.kind = .function := by rfl) (hl : (envOfC name scope L a cd).kindOf x = some .local := by rfl) (hd : (x == ("__debug__" : Str)) = false := by decide) :
    wpAny M A (eval (.Name x pos) (envOfC name scope L a cd)) Q E s := wpAny_Name (wpAny_loadName_local hk hl hn hv h) hd
/-- what __init__ leaves of a fresh exception at x -/
structure InitEnd_BadLine (h h' : Heap) (x C dx t1 : Addr) (v : Value) : Prop where
  keep : ∀ b o, b ≠ x → h.get? b = some o → h'.get? b = some o
  obj : h'.get? x = some { cls := .ref C, dict := some dx, data := .fields #[.ref t1, .none, .none, .none, .bool false, .none] }
  dbig : h.objs.size ≤ dx
  dne : dx ≠ x
  ns : h'.Ns1 dx (fun y => if y = "line" then some v else none)
/-- a made Low -/
structure OwnMade_BadLine (h h' : Heap) (e C d : Addr) (v : Value) : Prop where
  keep : ∀ b o, h.get? b = some o → h'.get? b = some o
  new : h.objs.size ≤ e
  obj : ∃ oe vs, h'.get? e = some oe ∧ oe.cls = .ref C ∧ oe.dict = some d ∧ oe.data = .fields vs ∧ vs[1]? = some .none
  dbig : h.objs.size ≤ d
  dne : d ≠ e
  ns : h'.Ns1 d (fun y => if y = "line" then some v else none)
section
variable {prog : Program} {w : World} {A : Around} {E : Value → Shared → Prop} {R : Result → Shared → Prop} {s : Shared} {K : Frag} {mg : Str → Option Value} {C fI : Addr}
theorem low_init_BadLine (T : LowTxt_BadLine K mg C fI) {x t0 : Addr} {v : Value} (X : K.In s.heap) (hlim : s.heap.NoLimit) (hx : s.heap.get? x = some (excO C t0)) (hnx : K.lookup x = none) (hroom : A.depth < recursionLimit)
    (hq : ∀ h' tk dx, InitEnd_BadLine s.heap h' x C dx t0 v → R (.ok (.ret .none)) { s with heap := h', toks := tk }) :
    codeAny (model prog w) A (.call (.ref fI) ⟨[.ref x, v], []⟩) R s := by
  obtain ⟨oc, od, doc, pm, an, cdv, ct, osl, p1, p2, q1, q2, q3, q4, ho, hcd⟩ := T.fn
  obtain ⟨nm, q, N, bs, bm, sn, sub, ab, col, dd, k0, k1, k2, k3, k5, hC, hbm⟩ := T.cls
  have hcl : clsIn K C = some { name := nm, bases := bs, mro := .ref C :: bm, ns := N, qualname := q, hasDict := true, slotNames := sn, subclasses := sub, abstract := ab, collection := col, hasDel := false } := by unfold clsIn; rw [hC] <;> rfl
  refine Att.call_fn (binds := [("self", .ref x), ("line", v)]) X hlim ho hcd hroom (BindsTo.of_eq (by first | rfl | with_unfolding_all rfl)) (by first | rfl | decide | with_unfolding_all rfl) (fun s₁ IC => ?_) rfl rfl rfl
  obtain ⟨h₁, tk₁, rfl⟩ := IC.toInCall.same
  have k : ∀ b o, s.heap.get? b = some o → h₁.get? b = some o := IC.toInCall.keep
  have hn := IC.toInCall.ns
  have hxL : s.heap.objs.size ≠ x := Nat.ne_of_gt (Heap.lt_size hx)
  have X₁ : K.In h₁ := X.keeps k
  have hx₁ := k _ _ hx
  -- self.by = by
  show wpAny _ _ (execs _ _) _ _ _
  refine wpAny_execs_cons (plainObj_wpAny_Assign_Attribute ?_)
  refine ldC (v := v) hn (by first | rfl | with_unfolding_all rfl | kernel_rfl) (ldC (v := .ref x) hn (by first | rfl | with_unfolding_all rfl | kernel_rfl) ?_)
  refine set_plain X₁ (ox := excO C t0) (od := none) ⟨hx₁, rfl, rfl, trivial⟩ T.sa ?_
  refine exc_osa X₁ hx₁ hcl (show refsVE (.ref C :: bm) = true from hbm) rfl T.noN (fun h₃ tk₃ dx k₃ dn dne hx₃ hn₃ => ?_)
  show wpAny _ _ (execs _ _) _ _ _
  have z : s.heap.objs.size < h₁.objs.size := hn.lt
  exact wpAny_execs_nil (hq h₃ tk₃ dx ⟨fun b o hb e => k₃ b o hb (k b o e), hx₃, Nat.le_of_lt (Nat.lt_of_lt_of_le z dn), dne, hn₃⟩)
theorem low_made_BadLine (T : LowTxt_BadLine K mg C fI) {v : Value} (X : K.In s.heap) (hlim : s.heap.NoLimit) (hroom : A.depth + 1 < recursionLimit)
    (hq : ∀ h' tk e d, OwnMade_BadLine s.heap h' e C d v → R (.ok (.ret (.ref e))) { s with heap := h', toks := tk }) :
    codeAny (model prog w) A (.call (.ref C) ⟨[v], []⟩) R s := by
  obtain ⟨nm, q, N, bs, bm, sn, sub, ab, col, dd, k0, k1, k2, k3, k5, hC, hbm⟩ := T.cls
  obtain ⟨hp, g, dr, tk, os⟩ := s
  have k : ∀ b o, hp.get? b = some o → ((hp.push (kdv_tup [v])).push (excO C hp.objs.size)).get? b = some o := fun b o e => Heap.get?_push_of_some _ (Heap.get?_push_of_some _ e)
  have hget : ((hp.push (kdv_tup [v])).push (excO C hp.objs.size)).get? (hp.objs.size + 1) = some (excO C hp.objs.size) := by heap_get
  have hnx : K.lookup (hp.objs.size + 1) = none := by
    cases e : K.lookup (hp.objs.size + 1) with
    | none => rfl
    | some o =>
      have z : hp.get? (hp.objs.size + 1) = some o := X _ _ e
      exact absurd (Nat.lt_of_succ_lt (Heap.lt_size z)) (Nat.lt_irrefl _)
  refine call_own F.excBase_ValueError (fun X => refsVE_contains X bm hbm) (X _ _ hC) (looks_findIn X T.iC) (fun self => bind_fn X self T.tC) (one_size v) ?_
  refine low_init_BadLine (s := ⟨(hp.push (kdv_tup [v])).push (excO C hp.objs.size), g, dr, tk, os⟩) T (X.keeps k) (hlim.keeps k) hget hnx ?_ fun h' tk' dx ⟨k', hx, dn, dne, hns⟩ => ?_
  · show A.depth + 1 < recursionLimit
    exact hroom
  · have old : ∀ b o, hp.get? b = some o → h'.get? b = some o := fun b o e => k' b o (Nat.ne_of_lt (Nat.lt_succ_of_lt (Heap.lt_size e))) (k b o e)
    have z : hp.objs.size + 1 + 1 ≤ dx := by
      first
        | (simpa only [Heap.size_push] using dn)
        | exact dn
        | (have q := dn; rw [Heap.size_push, Heap.size_push] at q; exact q)
    exact ⟨rfl, hq h' tk' (hp.objs.size + 1) dx ⟨old, Nat.le_succ _, ⟨_, _, hx, rfl, rfl, rfl, rfl⟩, Nat.le_trans (Nat.le_trans (Nat.le_succ _) (Nat.le_succ _)) z, dne, hns⟩⟩
theorem low_initK_BadLine (T : LowTxt_BadLine K mg C fI) {x t0 : Addr} {v : Value} (X : K.In s.heap) (hlim : s.heap.NoLimit) (hx : s.heap.get? x = some (excO C t0)) (hnx : K.lookup x = none) (hroom : A.depth < recursionLimit)
    (hq : ∀ h' tk dx, InitEnd_BadLine s.heap h' x C dx t0 v → R (.ok (.ret .none)) { s with heap := h', toks := tk }) :
    codeAny (model prog w) A (.call (.ref fI) ⟨[.ref x], [(("line" : Str), v)]⟩) R s := by
  obtain ⟨oc, od, doc, pm, an, cdv, ct, osl, p1, p2, q1, q2, q3, q4, ho, hcd⟩ := T.fn
  obtain ⟨nm, q, N, bs, bm, sn, sub, ab, col, dd, k0, k1, k2, k3, k5, hC, hbm⟩ := T.cls
  have hcl : clsIn K C = some { name := nm, bases := bs, mro := .ref C :: bm, ns := N, qualname := q, hasDict := true, slotNames := sn, subclasses := sub, abstract := ab, collection := col, hasDel := false } := by unfold clsIn; rw [hC] <;> rfl
  refine Att.call_fn (binds := [("self", .ref x), ("line", v)]) X hlim ho hcd hroom (BindsTo.of_eq (by first | rfl | with_unfolding_all rfl)) (by first | rfl | decide | with_unfolding_all rfl) (fun s₁ IC => ?_) rfl rfl rfl
  obtain ⟨h₁, tk₁, rfl⟩ := IC.toInCall.same
  have k : ∀ b o, s.heap.get? b = some o → h₁.get? b = some o := IC.toInCall.keep
  have hn := IC.toInCall.ns
  have hxL : s.heap.objs.size ≠ x := Nat.ne_of_gt (Heap.lt_size hx)
  have X₁ : K.In h₁ := X.keeps k
  have hx₁ := k _ _ hx
  -- self.by = by
  show wpAny _ _ (execs _ _) _ _ _
  refine wpAny_execs_cons (plainObj_wpAny_Assign_Attribute ?_)
  refine ldC (v := v) hn (by first | rfl | with_unfolding_all rfl | kernel_rfl) (ldC (v := .ref x) hn (by first | rfl | with_unfolding_all rfl | kernel_rfl) ?_)
  refine set_plain X₁ (ox := excO C t0) (od := none) ⟨hx₁, rfl, rfl, trivial⟩ T.sa ?_
  refine exc_osa X₁ hx₁ hcl (show refsVE (.ref C :: bm) = true from hbm) rfl T.noN (fun h₃ tk₃ dx k₃ dn dne hx₃ hn₃ => ?_)
  show wpAny _ _ (execs _ _) _ _ _
  have z : s.heap.objs.size < h₁.objs.size := hn.lt
  exact wpAny_execs_nil (hq h₃ tk₃ dx ⟨fun b o hb e => k₃ b o hb (k b o e), hx₃, Nat.le_of_lt (Nat.lt_of_lt_of_le z dn), dne, hn₃⟩)
theorem low_madeK_BadLine (T : LowTxt_BadLine K mg C fI) {v : Value} (X : K.In s.heap) (hlim : s.heap.NoLimit) (hroom : A.depth + 1 < recursionLimit)
    (hq : ∀ h' tk e d, OwnMade_BadLine s.heap h' e C d v → R (.ok (.ret (.ref e))) { s with heap := h', toks := tk }) :
    codeAny (model prog w) A (.call (.ref C) ⟨[], [(("line" : Str), v)]⟩) R s := by
  obtain ⟨nm, q, N, bs, bm, sn, sub, ab, col, dd, k0, k1, k2, k3, k5, hC, hbm⟩ := T.cls
  obtain ⟨hp, g, dr, tk, os⟩ := s
  have k : ∀ b o, hp.get? b = some o → ((hp.push (kdv_tup [])).push (excO C hp.objs.size)).get? b = some o := fun b o e => Heap.get?_push_of_some _ (Heap.get?_push_of_some _ e)
  have hget : ((hp.push (kdv_tup [])).push (excO C hp.objs.size)).get? (hp.objs.size + 1) = some (excO C hp.objs.size) := by heap_get
  have hnx : K.lookup (hp.objs.size + 1) = none := by
    cases e : K.lookup (hp.objs.size + 1) with
    | none => rfl
    | some o =>
      have z : hp.get? (hp.objs.size + 1) = some o := X _ _ e
      exact absurd (Nat.lt_of_succ_lt (Heap.lt_size z)) (Nat.lt_irrefl _)
  refine call_ownK F.excBase_ValueError (fun X => refsVE_contains X bm hbm) (X _ _ hC) (looks_findIn (X.keeps k) T.iC) (fun self => bind_fn (X.keeps k) self T.tC) ?_
  refine low_initK_BadLine (s := ⟨(hp.push (kdv_tup [])).push (excO C hp.objs.size), g, dr, tk, os⟩) T (X.keeps k) (hlim.keeps k) hget hnx ?_ fun h' tk' dx ⟨k', hx, dn, dne, hns⟩ => ?_
  · show A.depth + 1 < recursionLimit
    exact hroom
  · have old : ∀ b o, hp.get? b = some o → h'.get? b = some o := fun b o e => k' b o (Nat.ne_of_lt (Nat.lt_succ_of_lt (Heap.lt_size e))) (k b o e)
    have z : hp.objs.size + 1 + 1 ≤ dx := by
      first
        | (simpa only [Heap.size_push] using dn)
        | exact dn
        | (have q := dn; rw [Heap.size_push, Heap.size_push] at q; exact q)
    exact ⟨rfl, hq h' tk' (hp.objs.size + 1) dx ⟨old, Nat.le_succ _, ⟨_, _, hx, rfl, rfl, rfl, rfl⟩, Nat.le_trans (Nat.le_trans (Nat.le_succ _) (Nat.le_succ _)) z, dne, hns⟩⟩
end
end LowX_BadLine
end PySem
namespace L2
open PySem PySem.Spec PyProof.Rows
theorem relO_low_BadLine {v : V} {v' : Value} (r : RelV v v') (f : Str) : RelO (List.lookup f [(("line" : Str), v)]) (if f = "line" then some v' else none) := by
  by_cases hw : f = "line"
  · subst hw
    rw [if_pos rfl]
    have q : List.lookup ("line" : Str) [(("line" : Str), v)] = some v := by simp [List.lookup]
    rw [q]
    exact r
  · rw [if_neg hw]
    have qw : (f == ("line" : Str)) = false := by simpa using hw
    have q2 : List.lookup f [(("line" : Str), v)] = none := by simp [List.lookup, qw]
    rw [q2]
    trivial
section
variable {X : Cx} {C fI : Addr}
/-- Low(e) -/
def tMkLow_BadLine (C : Addr) (ta : TA) : St → Hp → XK → Prop := fun σ H Q => ta σ H fun vs H1 => ∃ v, vs = [v] ∧ ∀ d, H1 d = none → Q (.ref C) (some d) (upd H1 d (.xd [(("line" : Str), v)]))
theorem pmk_low_BadLine {a : Expr} {ta : TA} {p pos : Pos} {k : Nat} (T : PySem.LowX_BadLine.LowTxt_BadLine X.K X.mg C fI) (hr : Room k X.A) (ha : PA X [a] ta) (hg : Gl X "BadLine" := by rfl)
    (he : starEach (a :: []) X.env = (false, eval a X.env) :: starEach [] X.env := by rfl) (hpl : (backTo pos (starEach [] X.env)).any (·.1) = false := by rfl) :
    PMk X (.Call (.Name "BadLine" p) [a] [] pos) (tMkLow_BadLine C ta) := by
  intro pins s σ H Q I h
  refine wpAny_Call_Name_kw (ld_glob I hg T.gC ?_)
  refine PySem.W.callWith_K (h₀ := X.base) I.ok.mod.kin T.kC (thn (ha.run pos pins s σ H _ I h) fun us s1 hh => ?_) he hpl
  obtain ⟨vs, H1, I1, r1, v, ev, q1⟩ := hh
  subst ev
  refine ⟨I1.kIn, ?_⟩
  cases r1 with
  | cons rv rn =>
    rename_i v' us'
    cases rn
    show wpAny _ _ (call (.ref C) [v']) _ _ _
    have hlim := I1.nolimit
    obtain ⟨hp, g, dr, tk, os⟩ := s1
    refine wpAny_call (PySem.LowX_BadLine.low_made_BadLine T I1.kIn hlim (by have := hr.dp; omega) fun h' tk' e d M => ?_)
    show MkP X pins σ Q (.ref e) ⟨h', g, dr, tk', os⟩
    obtain ⟨oe, fv, hoe, hc, hd, hdat, h1⟩ := M.obj
    have hns := M.ns
    obtain ⟨G', g1, g2⟩ := restrict h' fun b => decide (b ≠ e)
    have gk : ∀ b, b ≠ e → G'.get? b = h'.get? b := fun b hb => g1 b (decide_eq_true hb)
    have ge : G'.get? e = none := g2 e (by simp)
    have old : ∀ b o, hp.get? b = some o → G'.get? b = some o := fun b o q => (gk b (Nat.ne_of_lt (Nat.lt_of_lt_of_le (Heap.lt_size q) M.new))).trans (M.keep b o q)
    have ob : ObjOk X.prog X.w (upd H1 d (.xd [(("line" : Str), v)])) G' d (.xd [(("line" : Str), v)]) :=
      ⟨_, hns.at (fun o q => (gk d M.dne).trans q), fun f => relO_low_BadLine rv f⟩
    have J : Inv X pins σ (upd H1 d (.xd [(("line" : Str), v)])) ⟨G', g, dr, tk', os⟩ := I1.laid (t' := tk') old M.dbig ob
    refine ⟨e, oe, fv, ⟨G', g, dr, tk', os⟩, _, .ref C, some d, rfl, J, fun b o q => ?_, ge, hoe, ⟨hc, hd⟩, hdat, h1, ?_, rfl, I1.bare, raises_own T.exC T.tyC, q1 d (I1.hok.fresh M.dbig)⟩
    · by_cases hb : b = e
      · have q' : G'.get? b = some o := q
        rw [hb, ge] at q'; cases q'
      · exact (gk b hb).symm.trans q
    · rw [upd_ne (Ne.symm M.dne)]
      exact I1.hok.fresh M.new
/-- BadLine(e), held as a value -/
theorem pe_lowV_BadLine {a : Expr} {ta : TA} {p pos : Pos} {k : Nat} (T : PySem.LowX_BadLine.LowTxt_BadLine X.K X.mg C fI) (hr : Room k X.A) (ha : PA X [a] ta) (hg : Gl X "BadLine" := by rfl)
    (he : starEach (a :: []) X.env = (false, eval a X.env) :: starEach [] X.env := by rfl) (hpl : (backTo pos (starEach [] X.env)).any (·.1) = false := by rfl) :
    PE X (.Call (.Name "BadLine" p) [a] [] pos) (tLowV C "line" ta) := by
  refine .mk fun pins s σ H Q I h => ?_
  refine wpAny_Call_Name_kw (ld_glob I hg T.gC ?_)
  refine PySem.W.callWith_K (h₀ := X.base) I.ok.mod.kin T.kC (thn (ha.run pos pins s σ H _ I h) fun us s1 hh => ?_) he hpl
  obtain ⟨vs, H1, I1, r1, v, ev, q1⟩ := hh
  subst ev
  refine ⟨I1.kIn, ?_⟩
  cases r1 with
  | cons rv rn =>
    rename_i v' us'
    cases rn
    show wpAny _ _ (call (.ref C) [v']) _ _ _
    have hlim := I1.nolimit
    obtain ⟨hp, g, dr, tk, os⟩ := s1
    refine wpAny_call (PySem.LowX_BadLine.low_made_BadLine T I1.kIn hlim (by have := hr.dp; omega) fun h' tk' e d M => ?_)
    exact lowV_end I1 rv M.keep M.new M.obj M.dbig M.dne M.ns (fun f => relO_low_BadLine rv f) ⟨v, rfl, q1⟩
/-- BadLine(line = e), held as a value -/
theorem pe_lowVk_BadLine {kws : List Keyword} {tk : TA} {p pos : Pos} {k : Nat} (T : PySem.LowX_BadLine.LowTxt_BadLine X.K X.mg C fI) (hr : Room k X.A) (ha : PK X kws tk) (hg : Gl X "BadLine" := by rfl)
    (hall : (backToKw pos (keywordEach kws X.env)).all (·.1.isSome) = true := by rfl) (hks : (backToKw pos (keywordEach kws X.env)).filterMap (·.1) = [("line" : Str)] := by rfl)
    (hpl : ((backTo pos (starEach [] X.env)).any (·.1) || (backToKw pos (keywordEach kws X.env)).any (·.1.isNone)) = false := by rfl) :
    PE X (.Call (.Name "BadLine" p) [] kws pos) (tLowV C "line" tk) := by
  refine .mk fun pins s σ H Q I h => ?_
  refine wpAny_Call_Name_kw (ld_glob I hg T.gC ?_)
  refine PySem.W.callWith_KW0 (h₀ := X.base) I.ok.mod.kin T.kC hall (thn (ha.run pos pins s σ H _ I h) fun us s1 hh => ?_) hpl
  obtain ⟨vs, H1, I1, r1, v, ev, q1⟩ := hh
  subst ev
  refine ⟨I1.kIn, ?_⟩
  rw [hks]
  cases r1 with
  | cons rv rn =>
    rename_i v' us'
    cases rn
    show wpAny _ _ (call (.ref C) [] [(("line" : Str), v')]) _ _ _
    have hlim := I1.nolimit
    obtain ⟨hp, g, dr, tk, os⟩ := s1
    refine wpAny_call (PySem.LowX_BadLine.low_madeK_BadLine T I1.kIn hlim (by have := hr.dp; omega) fun h' tk' e d M => ?_)
    exact lowV_end I1 rv M.keep M.new M.obj M.dbig M.dne M.ns (fun f => relO_low_BadLine rv f) ⟨v, rfl, q1⟩
end
end L2

namespace PySem
namespace LowX_NoCell
open PySem.W PySem.Calls PyProof.Rows PySem.HandSPX
/-! ### the text of __init__ -/
def iA (p1 p2 : Pos) : Arguments := { posonlyargs := [], args := [{ arg := "self", annotation := none, pos := p1 }, { arg := "cell", annotation := none, pos := p2 }], vararg := none, kwonlyargs := [], kw_defaults := [], kwarg := none, defaults := [] }
def iB (q1 q2 q3 q4 : Pos) : List Stmt := [.Assign [.Attribute (.Name "self" q1) "cell" q2] (.Name "cell" q3) q4]
def iS : Scope := { kind := .function, names := [(PySem.Str.ofString "self", .local), (PySem.Str.ofString "cell", .local)], isGenerator := false, isCoroutine := false, more := [] }
/-- what the written part says of Low, at C, and of its __init__, at fI -/
structure LowTxt_NoCell (K : Frag) (mg : Str → Option Value) (C fI : Addr) : Prop where
  gC : mg "NoCell" = some (.ref C)
  cls : ∃ nm q N bs bm sn sub ab col dd k0 k1 k2 k3 k5, K.lookup C = some (excClassObj nm q C N bs bm true sn sub ab col dd k0 k1 k2 k3 k5 "ValueError.__new__") ∧ refsVE bm = true
  sa : findIn K (.ref C) "__setattr__" = some (some (.builtin "object.__setattr__"))
  ga : findIn K (.ref C) "__getattribute__" = some (some (.builtin "BaseException.__getattribute__"))
  gg : findIn K (.ref C) "__getattr__" = some none
  noN : findIn K (.ref C) "cell" = some none
  iC : findIn K (.ref C) "__init__" = some (some (.ref fI))
  tC : typeIn K (.ref fI) = some (.type "function")
  kC : keepIn K (.ref C) = true
  exC : subIn K (.ref C) (.type "BaseException") = some true
  tyC : typeIn K (.ref C) = some (.type "type")
  hdC : hasDictIn K C = true
  te : exmOne K (.ref C) (.ref C) = some true
  fn : ∃ (oc : Value) (od : Option Addr) (doc pm : Value) (an : Option Addr) (cdv ct : Value) (osl : Array (Option Value)) (p1 p2 q1 q2 q3 q4 : Pos),
    K.lookup fI = some ⟨oc, od, .func (fnOf "__init__" "NoCell.__init__" (iA p1 p2) (iB q1 q2 q3 q4) iS .none .none doc pm an cdv ct), osl⟩ ∧ codeIn K cdv "NoCell.__init__" = true
theorem one_size (v : Value) : [v].length ≤ sizeLine := by
  rw [sizeLine_eq]
  exact (by decide : 1 ≤ 16777216)
theorem kept_but {K : Frag} {h h' : Heap} {x : Addr} (X : K.In h) (hx : K.lookup x = none) (k : ∀ b o, b ≠ x → h.get? b = some o → h'.get? b = some o) : K.In h' := fun a o e =>
  k a o (fun z => by rw [z, hx] at e; cases e) (X a o e)
theorem ldC {M : Model} {s : Shared} {name : Str} {scope : Scope} {L a : Addr} {cd : Value} {m : Str → Option Value} {x : Str} {pos : Pos} {v : Value} {Q : Value → Shared → Prop} {A : Around} {E : Value → Shared → Prop} (hn : s.heap.Ns L m) (hv : m x = some v) (h : Q v s)
    (hk : scope.kind = .function := by rfl) (hl : (envOfC name scope L a cd).kindOf x = some .local := by rfl) (hd : (x == ("__debug__" : Str)) = false := by decide) :
    wpAny M A (eval (.Name x pos) (envOfC name scope L a cd)) Q E s := wpAny_Name (wpAny_loadName_local hk hl hn hv h) hd
/-- what __init__ leaves of a fresh exception at x -/
structure InitEnd_NoCell (h h' : Heap) (x C dx t1 : Addr) (v : Value) : Prop where
  keep : ∀ b o, b ≠ x → h.get? b = some o → h'.get? b = some o
  obj : h'.get? x = some { cls := .ref C, dict := some dx, data := .fields #[.ref t1, .none, .none, .none, .bool false, .none] }
  dbig : h.objs.size ≤ dx
  dne : dx ≠ x
  ns : h'.Ns1 dx (fun y => if y = "cell" then some v else none)
/-- a made Low -/
structure OwnMade_NoCell (h h' : Heap) (e C d : Addr) (v : Value) : Prop where
  keep : ∀ b o, h.get? b = some o → h'.get? b = some o
  new : h.objs.size ≤ e
  obj : ∃ oe vs, h'.get? e = some oe ∧ oe.cls = .ref C ∧ oe.dict = some d ∧ oe.data = .fields vs ∧ vs[1]? = some .none
  dbig : h.objs.size ≤ d
  dne : d ≠ e
  ns : h'.Ns1 d (fun y => if y = "cell" then some v else none)
section
variable {prog : Program} {w : World} {A : Around} {E : Value → Shared → Prop} {R : Result → Shared → Prop} {s : Shared} {K : Frag} {mg : Str → Option Value} {C fI : Addr}
theorem low_init_NoCell (T : LowTxt_NoCell K mg C fI) {x t0 : Addr} {v : Value} (X : K.In s.heap) (hlim : s.heap.NoLimit) (hx : s.heap.get? x = some (excO C t0)) (hnx : K.lookup x = none) (hroom : A.depth < recursionLimit)
    (hq : ∀ h' tk dx, InitEnd_NoCell s.heap h' x C dx t0 v → R (.ok (.ret .none)) { s with heap := h', toks := tk }) :
    codeAny (model prog w) A (.call (.ref fI) ⟨[.ref x, v], []⟩) R s := by
  obtain ⟨oc, od, doc, pm, an, cdv, ct, osl, p1, p2, q1, q2, q3, q4, ho, hcd⟩ := T.fn
  obtain ⟨nm, q, N, bs, bm, sn, sub, ab, col, dd, k0, k1, k2, k3, k5, hC, hbm⟩ := T.cls
  have hcl : clsIn K C = some { name := nm, bases := bs, mro := .ref C :: bm, ns := N, qualname := q, hasDict := true, slotNames := sn, subclasses := sub, abstract := ab, collection := col, hasDel := false } := by unfold clsIn; rw [hC] <;> rfl
  refine Att.call_fn (binds := [("self", .ref x), ("cell", v)]) X hlim ho hcd hroom (BindsTo.of_eq (by first | rfl | with_unfolding_all rfl)) (by first | rfl | decide | with_unfolding_all rfl) (fun s₁ IC => ?_) rfl rfl rfl
  obtain ⟨h₁, tk₁, rfl⟩ := IC.toInCall.same
  have k : ∀ b o, s.heap.get? b = some o → h₁.get? b = some o := IC.toInCall.keep
  have hn := IC.toInCall.ns
  have hxL : s.heap.objs.size ≠ x := Nat.ne_of_gt (Heap.lt_size hx)
  have X₁ : K.In h₁ := X.keeps k
  have hx₁ := k _ _ hx
  -- self.by = by
  show wpAny _ _ (execs _ _) _ _ _
  refine wpAny_execs_cons (plainObj_wpAny_Assign_Attribute ?_)
  refine ldC (v := v) hn (by first | rfl | with_unfolding_all rfl | kernel_rfl) (ldC (v := .ref x) hn (by first | rfl | with_unfolding_all rfl | kernel_rfl) ?_)
  refine set_plain X₁ (ox := excO C t0) (od := none) ⟨hx₁, rfl, rfl, trivial⟩ T.sa ?_
  refine exc_osa X₁ hx₁ hcl (show refsVE (.ref C :: bm) = true from hbm) rfl T.noN (fun h₃ tk₃ dx k₃ dn dne hx₃ hn₃ => ?_)
  show wpAny _ _ (execs _ _) _ _ _
  have z : s.heap.objs.size < h₁.objs.size := hn.lt
  exact wpAny_execs_nil (hq h₃ tk₃ dx ⟨fun b o hb e => k₃ b o hb (k b o e), hx₃, Nat.le_of_lt (Nat.lt_of_lt_of_le z dn), dne, hn₃⟩)
theorem low_made_NoCell (T : LowTxt_NoCell K mg C fI) {v : Value} (X : K.In s.heap) (hlim : s.heap.NoLimit) (hroom : A.depth + 1 < recursionLimit)
    (hq : ∀ h' tk e d, OwnMade_NoCell s.heap h' e C d v → R (.ok (.ret (.ref e))) { s with heap := h', toks := tk }) :
    codeAny (model prog w) A (.call (.ref C) ⟨[v], []⟩) R s := by
  obtain ⟨nm, q, N, bs, bm, sn, sub, ab, col, dd, k0, k1, k2, k3, k5, hC, hbm⟩ := T.cls
  obtain ⟨hp, g, dr, tk, os⟩ := s
  have k : ∀ b o, hp.get? b = some o → ((hp.push (kdv_tup [v])).push (excO C hp.objs.size)).get? b = some o := fun b o e => Heap.get?_push_of_some _ (Heap.get?_push_of_some _ e)
  have hget : ((hp.push (kdv_tup [v])).push (excO C hp.objs.size)).get? (hp.objs.size + 1) = some (excO C hp.objs.size) := by heap_get
  have hnx : K.lookup (hp.objs.size + 1) = none := by
    cases e : K.lookup (hp.objs.size + 1) with
    | none => rfl
    | some o =>
      have z : hp.get? (hp.objs.size + 1) = some o := X _ _ e
      exact absurd (Nat.lt_of_succ_lt (Heap.lt_size z)) (Nat.lt_irrefl _)
  refine call_own F.excBase_ValueError (fun X => refsVE_contains X bm hbm) (X _ _ hC) (looks_findIn X T.iC) (fun self => bind_fn X self T.tC) (one_size v) ?_
  refine low_init_NoCell (s := ⟨(hp.push (kdv_tup [v])).push (excO C hp.objs.size), g, dr, tk, os⟩) T (X.keeps k) (hlim.keeps k) hget hnx ?_ fun h' tk' dx ⟨k', hx, dn, dne, hns⟩ => ?_
  · show A.depth + 1 < recursionLimit
    exact hroom
  · have old : ∀ b o, hp.get? b = some o → h'.get? b = some o := fun b o e => k' b o (Nat.ne_of_lt (Nat.lt_succ_of_lt (Heap.lt_size e))) (k b o e)
    have z : hp.objs.size + 1 + 1 ≤ dx := by
      first
        | (simpa only [Heap.size_push] using dn)
        | exact dn
        | (have q := dn; rw [Heap.size_push, Heap.size_push] at q; exact q)
    exact ⟨rfl, hq h' tk' (hp.objs.size + 1) dx ⟨old, Nat.le_succ _, ⟨_, _, hx, rfl, rfl, rfl, rfl⟩, Nat.le_trans (Nat.le_trans (Nat.le_succ _) (Nat.le_succ _)) z, dne, hns⟩⟩
theorem low_initK_NoCell (T : LowTxt_NoCell K mg C fI) {x t0 : Addr} {v : Value} (X : K.In s.heap) (hlim : s.heap.NoLimit) (hx : s.heap.get? x = some (excO C t0)) (hnx : K.lookup x = none) (hroom : A.depth < recursionLimit)
    (hq : ∀ h' tk dx, InitEnd_NoCell s.heap h' x C dx t0 v → R (.ok (.ret .none)) { s with heap := h', toks := tk }) :
    codeAny (model prog w) A (.call (.ref fI) ⟨[.ref x], [(("cell" : Str), v)]⟩) R s := by
  obtain ⟨oc, od, doc, pm, an, cdv, ct, osl, p1, p2, q1, q2, q3, q4, ho, hcd⟩ := T.fn
  obtain ⟨nm, q, N, bs, bm, sn, sub, ab, col, dd, k0, k1, k2, k3, k5, hC, hbm⟩ := T.cls
  have hcl : clsIn K C = some { name := nm, bases := bs, mro := .ref C :: bm, ns := N, qualname := q, hasDict := true, slotNames := sn, subclasses := sub, abstract := ab, collection := col, hasDel := false } := by unfold clsIn; rw [hC] <;> rfl
  refine Att.call_fn (binds := [("self", .ref x), ("cell", v)]) X hlim ho hcd hroom (BindsTo.of_eq (by first | rfl | with_unfolding_all rfl)) (by first | rfl | decide | with_unfolding_all rfl) (fun s₁ IC => ?_) rfl rfl rfl
  obtain ⟨h₁, tk₁, rfl⟩ := IC.toInCall.same
  have k : ∀ b o, s.heap.get? b = some o → h₁.get? b = some o := IC.toInCall.keep
  have hn := IC.toInCall.ns
  have hxL : s.heap.objs.size ≠ x := Nat.ne_of_gt (Heap.lt_size hx)
  have X₁ : K.In h₁ := X.keeps k
  have hx₁ := k _ _ hx
  -- self.by = by
  show wpAny _ _ (execs _ _) _ _ _
  refine wpAny_execs_cons (plainObj_wpAny_Assign_Attribute ?_)
  refine ldC (v := v) hn (by first | rfl | with_unfolding_all rfl | kernel_rfl) (ldC (v := .ref x) hn (by first | rfl | with_unfolding_all rfl | kernel_rfl) ?_)
  refine set_plain X₁ (ox := excO C t0) (od := none) ⟨hx₁, rfl, rfl, trivial⟩ T.sa ?_
  refine exc_osa X₁ hx₁ hcl (show refsVE (.ref C :: bm) = true from hbm) rfl T.noN (fun h₃ tk₃ dx k₃ dn dne hx₃ hn₃ => ?_)
  show wpAny _ _ (execs _ _) _ _ _
  have z : s.heap.objs.size < h₁.objs.size := hn.lt
  exact wpAny_execs_nil (hq h₃ tk₃ dx ⟨fun b o hb e => k₃ b o hb (k b o e), hx₃, Nat.le_of_lt (Nat.lt_of_lt_of_le z dn), dne, hn₃⟩)
theorem low_madeK_NoCell (T : LowTxt_NoCell K mg C fI) {v : Value} (X : K.In s.heap) (hlim : s.heap.NoLimit) (hroom : A.depth + 1 < recursionLimit)
    (hq : ∀ h' tk e d, OwnMade_NoCell s.heap h' e C d v → R (.ok (.ret (.ref e))) { s with heap := h', toks := tk }) :
    codeAny (model prog w) A (.call (.ref C) ⟨[], [(("cell" : Str), v)]⟩) R s := by
  obtain ⟨nm, q, N, bs, bm, sn, sub, ab, col, dd, k0, k1, k2, k3, k5, hC, hbm⟩ := T.cls
  obtain ⟨hp, g, dr, tk, os⟩ := s
  have k : ∀ b o, hp.get? b = some o → ((hp.push (kdv_tup [])).push (excO C hp.objs.size)).get? b = some o := fun b o e => Heap.get?_push_of_some _ (Heap.get?_push_of_some _ e)
  have hget : ((hp.push (kdv_tup [])).push (excO C hp.objs.size)).get? (hp.objs.size + 1) = some (excO C hp.objs.size) := by heap_get
  have hnx : K.lookup (hp.objs.size + 1) = none := by
    cases e : K.lookup (hp.objs.size + 1) with
    | none => rfl
    | some o =>
      have z : hp.get? (hp.objs.size + 1) = some o := X _ _ e
      exact absurd (Nat.lt_of_succ_lt (Heap.lt_size z)) (Nat.lt_irrefl _)
  refine call_ownK F.excBase_ValueError (fun X => refsVE_contains X bm hbm) (X _ _ hC) (looks_findIn (X.keeps k) T.iC) (fun self => bind_fn (X.keeps k) self T.tC) ?_
  refine low_initK_NoCell (s := ⟨(hp.push (kdv_tup [])).push (excO C hp.objs.size), g, dr, tk, os⟩) T (X.keeps k) (hlim.keeps k) hget hnx ?_ fun h' tk' dx ⟨k', hx, dn, dne, hns⟩ => ?_
  · show A.depth + 1 < recursionLimit
    exact hroom
  · have old : ∀ b o, hp.get? b = some o → h'.get? b = some o := fun b o e => k' b o (Nat.ne_of_lt (Nat.lt_succ_of_lt (Heap.lt_size e))) (k b o e)
    have z : hp.objs.size + 1 + 1 ≤ dx := by
      first
        | (simpa only [Heap.size_push] using dn)
        | exact dn
        | (have q := dn; rw [Heap.size_push, Heap.size_push] at q; exact q)
    exact ⟨rfl, hq h' tk' (hp.objs.size + 1) dx ⟨old, Nat.le_succ _, ⟨_, _, hx, rfl, rfl, rfl, rfl⟩, Nat.le_trans (Nat.le_trans (Nat.le_succ _) (Nat.le_succ _)) z, dne, hns⟩⟩
end
end LowX_NoCell
end PySem
namespace L2
open PySem PySem.Spec PyProof.Rows
theorem relO_low_NoCell {v : V} {v' : Value} (r : RelV v v') (f : Str) : RelO (List.lookup f [(("cell" : Str), v)]) (if f = "cell" then some v' else none) := by
  by_cases hw : f = "cell"
  · subst hw
    rw [if_pos rfl]
    have q : List.lookup ("cell" : Str) [(("cell" : Str), v)] = some v := by simp [List.lookup]
    rw [q]
    exact r
  · rw [if_neg hw]
    have qw : (f == ("cell" : Str)) = false := by simpa using hw
    have q2 : List.lookup f [(("cell" : Str), v)] = none := by simp [List.lookup, qw]
    rw [q2]
    trivial
section
variable {X : Cx} {C fI : Addr}
/-- Low(e) -/
def tMkLow_NoCell (C : Addr) (ta : TA) : St → Hp → XK → Prop := fun σ H Q => ta σ H fun vs H1 => ∃ v, vs = [v] ∧ ∀ d, H1 d = none → Q (.ref C) (some d) (upd H1 d (.xd [(("cell" : Str), v)]))
theorem pmk_low_NoCell {a : Expr} {ta : TA} {p pos : Pos} {k : Nat} (T : PySem.LowX_NoCell.LowTxt_NoCell X.K X.mg C fI) (hr : Room k X.A) (ha : PA X [a] ta) (hg : Gl X "NoCell" := by rfl)
    (he : starEach (a :: []) X.env = (false, eval a X.env) :: starEach [] X.env := by rfl) (hpl : (backTo pos (starEach [] X.env)).any (·.1) = false := by rfl) :
    PMk X (.Call (.Name "NoCell" p) [a] [] pos) (tMkLow_NoCell C ta) := by
  intro pins s σ H Q I h
  refine wpAny_Call_Name_kw (ld_glob I hg T.gC ?_)
  refine PySem.W.callWith_K (h₀ := X.base) I.ok.mod.kin T.kC (thn (ha.run pos pins s σ H _ I h) fun us s1 hh => ?_) he hpl
  obtain ⟨vs, H1, I1, r1, v, ev, q1⟩ := hh
  subst ev
  refine ⟨I1.kIn, ?_⟩
  cases r1 with
  | cons rv rn =>
    rename_i v' us'
    cases rn
    show wpAny _ _ (call (.ref C) [v']) _ _ _
    have hlim := I1.nolimit
    obtain ⟨hp, g, dr, tk, os⟩ := s1
    refine wpAny_call (PySem.LowX_NoCell.low_made_NoCell T I1.kIn hlim (by have := hr.dp; omega) fun h' tk' e d M => ?_)
    show MkP X pins σ Q (.ref e) ⟨h', g, dr, tk', os⟩
    obtain ⟨oe, fv, hoe, hc, hd, hdat, h1⟩ := M.obj
    have hns := M.ns
    obtain ⟨G', g1, g2⟩ := restrict h' fun b => decide (b ≠ e)
    have gk : ∀ b, b ≠ e → G'.get? b = h'.get? b := fun b hb => g1 b (decide_eq_true hb)
    have ge : G'.get? e = none := g2 e (by simp)
    have old : ∀ b o, hp.get? b = some o → G'.get? b = some o := fun b o q => (gk b (Nat.ne_of_lt (Nat.lt_of_lt_of_le (Heap.lt_size q) M.new))).trans (M.keep b o q)
    have ob : ObjOk X.prog X.w (upd H1 d (.xd [(("cell" : Str), v)])) G' d (.xd [(("cell" : Str), v)]) :=
      ⟨_, hns.at (fun o q => (gk d M.dne).trans q), fun f => relO_low_NoCell rv f⟩
    have J : Inv X pins σ (upd H1 d (.xd [(("cell" : Str), v)])) ⟨G', g, dr, tk', os⟩ := I1.laid (t' := tk') old M.dbig ob
    refine ⟨e, oe, fv, ⟨G', g, dr, tk', os⟩, _, .ref C, some d, rfl, J, fun b o q => ?_, ge, hoe, ⟨hc, hd⟩, hdat, h1, ?_, rfl, I1.bare, raises_own T.exC T.tyC, q1 d (I1.hok.fresh M.dbig)⟩
    · by_cases hb : b = e
      · have q' : G'.get? b = some o := q
        rw [hb, ge] at q'; cases q'
      · exact (gk b hb).symm.trans q
    · rw [upd_ne (Ne.symm M.dne)]
      exact I1.hok.fresh M.new
/-- NoCell(e), held as a value -/
theorem pe_lowV_NoCell {a : Expr} {ta : TA} {p pos : Pos} {k : Nat} (T : PySem.LowX_NoCell.LowTxt_NoCell X.K X.mg C fI) (hr : Room k X.A) (ha : PA X [a] ta) (hg : Gl X "NoCell" := by rfl)
    (he : starEach (a :: []) X.env = (false, eval a X.env) :: starEach [] X.env := by rfl) (hpl : (backTo pos (starEach [] X.env)).any (·.1) = false := by rfl) :
    PE X (.Call (.Name "NoCell" p) [a] [] pos) (tLowV C "cell" ta) := by
  refine .mk fun pins s σ H Q I h => ?_
  refine wpAny_Call_Name_kw (ld_glob I hg T.gC ?_)
  refine PySem.W.callWith_K (h₀ := X.base) I.ok.mod.kin T.kC (thn (ha.run pos pins s σ H _ I h) fun us s1 hh => ?_) he hpl
  obtain ⟨vs, H1, I1, r1, v, ev, q1⟩ := hh
  subst ev
  refine ⟨I1.kIn, ?_⟩
  cases r1 with
  | cons rv rn =>
    rename_i v' us'
    cases rn
    show wpAny _ _ (call (.ref C) [v']) _ _ _
    have hlim := I1.nolimit
    obtain ⟨hp, g, dr, tk, os⟩ := s1
    refine wpAny_call (PySem.LowX_NoCell.low_made_NoCell T I1.kIn hlim (by have := hr.dp; omega) fun h' tk' e d M => ?_)
    exact lowV_end I1 rv M.keep M.new M.obj M.dbig M.dne M.ns (fun f => relO_low_NoCell rv f) ⟨v, rfl, q1⟩
/-- NoCell(cell = e), held as a value -/
theorem pe_lowVk_NoCell {kws : List Keyword} {tk : TA} {p pos : Pos} {k : Nat} (T : PySem.LowX_NoCell.LowTxt_NoCell X.K X.mg C fI) (hr : Room k X.A) (ha : PK X kws tk) (hg : Gl X "NoCell" := by rfl)
    (hall : (backToKw pos (keywordEach kws X.env)).all (·.1.isSome) = true := by rfl) (hks : (backToKw pos (keywordEach kws X.env)).filterMap (·.1) = [("cell" : Str)] := by rfl)
    (hpl : ((backTo pos (starEach [] X.env)).any (·.1) || (backToKw pos (keywordEach kws X.env)).any (·.1.isNone)) = false := by rfl) :
    PE X (.Call (.Name "NoCell" p) [] kws pos) (tLowV C "cell" tk) := by
  refine .mk fun pins s σ H Q I h => ?_
  refine wpAny_Call_Name_kw (ld_glob I hg T.gC ?_)
  refine PySem.W.callWith_KW0 (h₀ := X.base) I.ok.mod.kin T.kC hall (thn (ha.run pos pins s σ H _ I h) fun us s1 hh => ?_) hpl
  obtain ⟨vs, H1, I1, r1, v, ev, q1⟩ := hh
  subst ev
  refine ⟨I1.kIn, ?_⟩
  rw [hks]
  cases r1 with
  | cons rv rn =>
    rename_i v' us'
    cases rn
    show wpAny _ _ (call (.ref C) [] [(("cell" : Str), v')]) _ _ _
    have hlim := I1.nolimit
    obtain ⟨hp, g, dr, tk, os⟩ := s1
    refine wpAny_call (PySem.LowX_NoCell.low_madeK_NoCell T I1.kIn hlim (by have := hr.dp; omega) fun h' tk' e d M => ?_)
    exact lowV_end I1 rv M.keep M.new M.obj M.dbig M.dne M.ns (fun f => relO_low_NoCell rv f) ⟨v, rfl, q1⟩
end
end L2

namespace PySem
namespace LowX_BadCells
open PySem.W PySem.Calls PyProof.Rows PySem.HandSPX
/-! ### the text of __init__ -/
def iA (p1 p2 : Pos) : Arguments := { posonlyargs := [], args := [{ arg := "self", annotation := none, pos := p1 }, { arg := "cells", annotation := none, pos := p2 }], vararg := none, kwonlyargs := [], kw_defaults := [], kwarg := none, defaults := [] }
def iB (q1 q2 q3 q4 : Pos) : List Stmt := [.Assign [.Attribute (.Name "self" q1) "cells" q2] (.Name "cells" q3) q4]
def iS : Scope := { kind := .function, names := [(PySem.Str.ofString "self", .local), (PySem.Str.ofString "cells", .local)], isGenerator := false, isCoroutine := false, more := [] }
/-- what the written part says of Low, at C, and of its __init__, at fI -/
structure LowTxt_BadCells (K : Frag) (mg : Str → Option Value) (C fI : Addr) : Prop where
  gC : mg "BadCells" = some (.ref C)
  cls : ∃ nm q N bs bm sn sub ab col dd k0 k1 k2 k3 k5, K.lookup C = some (excClassObj nm q C N bs bm true sn sub ab col dd k0 k1 k2 k3 k5 "ValueError.__new__") ∧ refsVE bm = true
  sa : findIn K (.ref C) "__setattr__" = some (some (.builtin "object.__setattr__"))
  ga : findIn K (.ref C) "__getattribute__" = some (some (.builtin "BaseException.__getattribute__"))
  gg : findIn K (.ref C) "__getattr__" = some none
  noN : findIn K (.ref C) "cells" = some none
  iC : findIn K (.ref C) "__init__" = some (some (.ref fI))
  tC : typeIn K (.ref fI) = some (.type "function")
  kC : keepIn K (.ref C) = true
  exC : subIn K (.ref C) (.type "BaseException") = some true
  tyC : typeIn K (.ref C) = some (.type "type")
  hdC : hasDictIn K C = true
  te : exmOne K (.ref C) (.ref C) = some true
  fn : ∃ (oc : Value) (od : Option Addr) (doc pm : Value) (an : Option Addr) (cdv ct : Value) (osl : Array (Option Value)) (p1 p2 q1 q2 q3 q4 : Pos),
    K.lookup fI = some ⟨oc, od, .func (fnOf "__init__" "BadCells.__init__" (iA p1 p2) (iB q1 q2 q3 q4) iS .none .none doc pm an cdv ct), osl⟩ ∧ codeIn K cdv "BadCells.__init__" = true
theorem one_size (v : Value) : [v].length ≤ sizeLine := by
  rw [sizeLine_eq]
  exact (by decide : 1 ≤ 16777216)
theorem kept_but {K : Frag} {h h' : Heap} {x : Addr} (X : K.In h) (hx : K.lookup x = none) (k : ∀ b o, b ≠ x → h.get? b = some o → h'.get? b = some o) : K.In h' := fun a o e =>
  k a o (fun z => by rw [z, hx] at e; cases e) (X a o e)
theorem ldC {M : Model} {s : Shared} {name : Str} {scope : Scope} {L a : Addr} {cd : Value} {m : Str → Option Value} {x : Str} {pos : Pos} {v : Value} {Q : Value → Shared → Prop} {A : Around} {E : Value → Shared → Prop} (hn : s.heap.Ns L m) (hv : m x = some v) (h : Q v s)
    (hk : scope.kind = .function := by rfl) (hl : (envOfC name scope L a cd).kindOf x = some .local := by rfl) (hd : (x == ("__debug__" : Str)) = false := by decide) :
    wpAny M A (eval (.Name x pos) (envOfC name scope L a cd)) Q E s := wpAny_Name (wpAny_loadName_local hk hl hn hv h) hd
/-- what __init__ leaves of a fresh exception at x -/
structure InitEnd_BadCells (h h' : Heap) (x C dx t1 : Addr) (v : Value) : Prop where
  keep : ∀ b o, b ≠ x → h.get? b = some o → h'.get? b = some o
  obj : h'.get? x = some { cls := .ref C, dict := some dx, data := .fields #[.ref t1, .none, .none, .none, .bool false, .none] }
  dbig : h.objs.size ≤ dx
  dne : dx ≠ x
  ns : h'.Ns1 dx (fun y => if y = "cells" then some v else none)
/-- a made Low -/
structure OwnMade_BadCells (h h' : Heap) (e C d : Addr) (v : Value) : Prop where
  keep : ∀ b o, h.get? b = some o → h'.get? b = some o
  new : h.objs.size ≤ e
  obj : ∃ oe vs, h'.get? e = some oe ∧ oe.cls = .ref C ∧ oe.dict = some d ∧ oe.data = .fields vs ∧ vs[1]? = some .none
  dbig : h.objs.size ≤ d
  dne : d ≠ e
  ns : h'.Ns1 d (fun y => if y = "cells" then some v else none)
section
variable {prog : Program} {w : World} {A : Around} {E : Value → Shared → Prop} {R : Result → Shared → Prop} {s : Shared} {K : Frag} {mg : Str → Option Value} {C fI : Addr}
theorem low_init_BadCells (T : LowTxt_BadCells K mg C fI) {x t0 : Addr} {v : Value} (X : K.In s.heap) (hlim : s.heap.NoLimit) (hx : s.heap.get? x = some (excO C t0)) (hnx : K.lookup x = none) (hroom : A.depth < recursionLimit)
    (hq : ∀ h' tk dx, InitEnd_BadCells s.heap h' x C dx t0 v → R (.ok (.ret .none)) { s with heap := h', toks := tk }) :
    codeAny (model prog w) A (.call (.ref fI) ⟨[.ref x, v], []⟩) R s := by
  obtain ⟨oc, od, doc, pm, an, cdv, ct, osl, p1, p2, q1, q2, q3, q4, ho, hcd⟩ := T.fn
  obtain ⟨nm, q, N, bs, bm, sn, sub, ab, col, dd, k0, k1, k2, k3, k5, hC, hbm⟩ := T.cls
  have hcl : clsIn K C = some { name := nm, bases := bs, mro := .ref C :: bm, ns := N, qualname := q, hasDict := true, slotNames := sn, subclasses := sub, abstract := ab, collection := col, hasDel := false } := by unfold clsIn; rw [hC] <;> rfl
  refine Att.call_fn (binds := [("self", .ref x), ("cells", v)]) X hlim ho hcd hroom (BindsTo.of_eq (by first | rfl | with_unfolding_all rfl)) (by first | rfl | decide | with_unfolding_all rfl) (fun s₁ IC => ?_) rfl rfl rfl
  obtain ⟨h₁, tk₁, rfl⟩ := IC.toInCall.same
  have k : ∀ b o, s.heap.get? b = some o → h₁.get? b = some o := IC.toInCall.keep
  have hn := IC.toInCall.ns
  have hxL : s.heap.objs.size ≠ x := Nat.ne_of_gt (Heap.lt_size hx)
  have X₁ : K.In h₁ := X.keeps k
  have hx₁ := k _ _ hx
  -- self.by = by
  show wpAny _ _ (execs _ _) _ _ _
  refine wpAny_execs_cons (plainObj_wpAny_Assign_Attribute ?_)
  refine ldC (v := v) hn (by first | rfl | with_unfolding_all rfl | kernel_rfl) (ldC (v := .ref x) hn (by first | rfl | with_unfolding_all rfl | kernel_rfl) ?_)
  refine set_plain X₁ (ox := excO C t0) (od := none) ⟨hx₁, rfl, rfl, trivial⟩ T.sa ?_
  refine exc_osa X₁ hx₁ hcl (show refsVE (.ref C :: bm) = true from hbm) rfl T.noN (fun h₃ tk₃ dx k₃ dn dne hx₃ hn₃ => ?_)
  show wpAny _ _ (execs _ _) _ _ _
  have z : s.heap.objs.size < h₁.objs.size := hn.lt
  exact wpAny_execs_nil (hq h₃ tk₃ dx ⟨fun b o hb e => k₃ b o hb (k b o e), hx₃, Nat.le_of_lt (Nat.lt_of_lt_of_le z dn), dne, hn₃⟩)
theorem low_made_BadCells (T : LowTxt_BadCells K mg C fI) {v : Value} (X : K.In s.heap) (hlim : s.heap.NoLimit) (hroom : A.depth + 1 < recursionLimit)
    (hq : ∀ h' tk e d, OwnMade_BadCells s.heap h' e C d v → R (.ok (.ret (.ref e))) { s with heap := h', toks := tk }) :
    codeAny (model prog w) A (.call (.ref C) ⟨[v], []⟩) R s := by
  obtain ⟨nm, q, N, bs, bm, sn, sub, ab, col, dd, k0, k1, k2, k3, k5, hC, hbm⟩ := T.cls
  obtain ⟨hp, g, dr, tk, os⟩ := s
  have k : ∀ b o, hp.get? b = some o → ((hp.push (kdv_tup [v])).push (excO C hp.objs.size)).get? b = some o := fun b o e => Heap.get?_push_of_some _ (Heap.get?_push_of_some _ e)
  have hget : ((hp.push (kdv_tup [v])).push (excO C hp.objs.size)).get? (hp.objs.size + 1) = some (excO C hp.objs.size) := by heap_get
  have hnx : K.lookup (hp.objs.size + 1) = none := by
    cases e : K.lookup (hp.objs.size + 1) with
    | none => rfl
    | some o =>
      have z : hp.get? (hp.objs.size + 1) = some o := X _ _ e
      exact absurd (Nat.lt_of_succ_lt (Heap.lt_size z)) (Nat.lt_irrefl _)
  refine call_own F.excBase_ValueError (fun X => refsVE_contains X bm hbm) (X _ _ hC) (looks_findIn X T.iC) (fun self => bind_fn X self T.tC) (one_size v) ?_
  refine low_init_BadCells (s := ⟨(hp.push (kdv_tup [v])).push (excO C hp.objs.size), g, dr, tk, os⟩) T (X.keeps k) (hlim.keeps k) hget hnx ?_ fun h' tk' dx ⟨k', hx, dn, dne, hns⟩ => ?_
  · show A.depth + 1 < recursionLimit
    exact hroom
  · have old : ∀ b o, hp.get? b = some o → h'.get? b = some o := fun b o e => k' b o (Nat.ne_of_lt (Nat.lt_succ_of_lt (Heap.lt_size e))) (k b o e)
    have z : hp.objs.size + 1 + 1 ≤ dx := by
      first
        | (simpa only [Heap.size_push] using dn)
        | exact dn
        | (have q := dn; rw [Heap.size_push, Heap.size_push] at q; exact q)
    exact ⟨rfl, hq h' tk' (hp.objs.size + 1) dx ⟨old, Nat.le_succ _, ⟨_, _, hx, rfl, rfl, rfl, rfl⟩, Nat.le_trans (Nat.le_trans (Nat.le_succ _) (Nat.le_succ _)) z, dne, hns⟩⟩
theorem low_initK_BadCells (T : LowTxt_BadCells K mg C fI) {x t0 : Addr} {v : Value} (X : K.In s.heap) (hlim : s.heap.NoLimit) (hx : s.heap.get? x = some (excO C t0)) (hnx : K.lookup x = none) (hroom : A.depth < recursionLimit)
    (hq : ∀ h' tk dx, InitEnd_BadCells s.heap h' x C dx t0 v → R (.ok (.ret .none)) { s with heap := h', toks := tk }) :
    codeAny (model prog w) A (.call (.ref fI) ⟨[.ref x], [(("cells" : Str), v)]⟩) R s := by
  obtain ⟨oc, od, doc, pm, an, cdv, ct, osl, p1, p2, q1, q2, q3, q4, ho, hcd⟩ := T.fn
  obtain ⟨nm, q, N, bs, bm, sn, sub, ab, col, dd, k0, k1, k2, k3, k5, hC, hbm⟩ := T.cls
  have hcl : clsIn K C = some { name := nm, bases := bs, mro := .ref C :: bm, ns := N, qualname := q, hasDict := true, slotNames := sn, subclasses := sub, abstract := ab, collection := col, hasDel := false } := by unfold clsIn; rw [hC] <;> rfl
  refine Att.call_fn (binds := [("self", .ref x), ("cells", v)]) X hlim ho hcd hroom (BindsTo.of_eq (by first | rfl | with_unfolding_all rfl)) (by first | rfl | decide | with_unfolding_all rfl) (fun s₁ IC => ?_) rfl rfl rfl
  obtain ⟨h₁, tk₁, rfl⟩ := IC.toInCall.same
  have k : ∀ b o, s.heap.get? b = some o → h₁.get? b = some o := IC.toInCall.keep
  have hn := IC.toInCall.ns
  have hxL : s.heap.objs.size ≠ x := Nat.ne_of_gt (Heap.lt_size hx)
  have X₁ : K.In h₁ := X.keeps k
  have hx₁ := k _ _ hx
  -- self.by = by
  show wpAny _ _ (execs _ _) _ _ _
  refine wpAny_execs_cons (plainObj_wpAny_Assign_Attribute ?_)
  refine ldC (v := v) hn (by first | rfl | with_unfolding_all rfl | kernel_rfl) (ldC (v := .ref x) hn (by first | rfl | with_unfolding_all rfl | kernel_rfl) ?_)
  refine set_plain X₁ (ox := excO C t0) (od := none) ⟨hx₁, rfl, rfl, trivial⟩ T.sa ?_
  refine exc_osa X₁ hx₁ hcl (show refsVE (.ref C :: bm) = true from hbm) rfl T.noN (fun h₃ tk₃ dx k₃ dn dne hx₃ hn₃ => ?_)
  show wpAny _ _ (execs _ _) _ _ _
  have z : s.heap.objs.size < h₁.objs.size := hn.lt
  exact wpAny_execs_nil (hq h₃ tk₃ dx ⟨fun b o hb e => k₃ b o hb (k b o e), hx₃, Nat.le_of_lt (Nat.lt_of_lt_of_le z dn), dne, hn₃⟩)
theorem low_madeK_BadCells (T : LowTxt_BadCells K mg C fI) {v : Value} (X : K.In s.heap) (hlim : s.heap.NoLimit) (hroom : A.depth + 1 < recursionLimit)
    (hq : ∀ h' tk e d, OwnMade_BadCells s.heap h' e C d v → R (.ok (.ret (.ref e))) { s with heap := h', toks := tk }) :
    codeAny (model prog w) A (.call (.ref C) ⟨[], [(("cells" : Str), v)]⟩) R s := by
  obtain ⟨nm, q, N, bs, bm, sn, sub, ab, col, dd, k0, k1, k2, k3, k5, hC, hbm⟩ := T.cls
  obtain ⟨hp, g, dr, tk, os⟩ := s
  have k : ∀ b o, hp.get? b = some o → ((hp.push (kdv_tup [])).push (excO C hp.objs.size)).get? b = some o := fun b o e => Heap.get?_push_of_some _ (Heap.get?_push_of_some _ e)
  have hget : ((hp.push (kdv_tup [])).push (excO C hp.objs.size)).get? (hp.objs.size + 1) = some (excO C hp.objs.size) := by heap_get
  have hnx : K.lookup (hp.objs.size + 1) = none := by
    cases e : K.lookup (hp.objs.size + 1) with
    | none => rfl
    | some o =>
      have z : hp.get? (hp.objs.size + 1) = some o := X _ _ e
      exact absurd (Nat.lt_of_succ_lt (Heap.lt_size z)) (Nat.lt_irrefl _)
  refine call_ownK F.excBase_ValueError (fun X => refsVE_contains X bm hbm) (X _ _ hC) (looks_findIn (X.keeps k) T.iC) (fun self => bind_fn (X.keeps k) self T.tC) ?_
  refine low_initK_BadCells (s := ⟨(hp.push (kdv_tup [])).push (excO C hp.objs.size), g, dr, tk, os⟩) T (X.keeps k) (hlim.keeps k) hget hnx ?_ fun h' tk' dx ⟨k', hx, dn, dne, hns⟩ => ?_
  · show A.depth + 1 < recursionLimit
    exact hroom
  · have old : ∀ b o, hp.get? b = some o → h'.get? b = some o := fun b o e => k' b o (Nat.ne_of_lt (Nat.lt_succ_of_lt (Heap.lt_size e))) (k b o e)
    have z : hp.objs.size + 1 + 1 ≤ dx := by
      first
        | (simpa only [Heap.size_push] using dn)
        | exact dn
        | (have q := dn; rw [Heap.size_push, Heap.size_push] at q; exact q)
    exact ⟨rfl, hq h' tk' (hp.objs.size + 1) dx ⟨old, Nat.le_succ _, ⟨_, _, hx, rfl, rfl, rfl, rfl⟩, Nat.le_trans (Nat.le_trans (Nat.le_succ _) (Nat.le_succ _)) z, dne, hns⟩⟩
end
end LowX_BadCells
end PySem
namespace L2
open PySem PySem.Spec PyProof.Rows
theorem relO_low_BadCells {v : V} {v' : Value} (r : RelV v v') (f : Str) : RelO (List.lookup f [(("cells" : Str), v)]) (if f = "cells" then some v' else none) := by
  by_cases hw : f = "cells"
  · subst hw
    rw [if_pos rfl]
    have q : List.lookup ("cells" : Str) [(("cells" : Str), v)] = some v := by simp [List.lookup]
    rw [q]
    exact r
  · rw [if_neg hw]
    have qw : (f == ("cells" : Str)) = false := by simpa using hw
    have q2 : List.lookup f [(("cells" : Str), v)] = none := by simp [List.lookup, qw]
    rw [q2]
    trivial
section
variable {X : Cx} {C fI : Addr}
/-- Low(e) -/
def tMkLow_BadCells (C : Addr) (ta : TA) : St → Hp → XK → Prop := fun σ H Q => ta σ H fun vs H1 => ∃ v, vs = [v] ∧ ∀ d, H1 d = none → Q (.ref C) (some d) (upd H1 d (.xd [(("cells" : Str), v)]))
theorem pmk_low_BadCells {a : Expr} {ta : TA} {p pos : Pos} {k : Nat} (T : PySem.LowX_BadCells.LowTxt_BadCells X.K X.mg C fI) (hr : Room k X.A) (ha : PA X [a] ta) (hg : Gl X "BadCells" := by rfl)
    (he : starEach (a :: []) X.env = (false, eval a X.env) :: starEach [] X.env := by rfl) (hpl : (backTo pos (starEach [] X.env)).any (·.1) = false := by rfl) :
    PMk X (.Call (.Name "BadCells" p) [a] [] pos) (tMkLow_BadCells C ta) := by
  intro pins s σ H Q I h
  refine wpAny_Call_Name_kw (ld_glob I hg T.gC ?_)
  refine PySem.W.callWith_K (h₀ := X.base) I.ok.mod.kin T.kC (thn (ha.run pos pins s σ H _ I h) fun us s1 hh => ?_) he hpl
  obtain ⟨vs, H1, I1, r1, v, ev, q1⟩ := hh
  subst ev
  refine ⟨I1.kIn, ?_⟩
  cases r1 with
  | cons rv rn =>
    rename_i v' us'
    cases rn
    show wpAny _ _ (call (.ref C) [v']) _ _ _
    have hlim := I1.nolimit
    obtain ⟨hp, g, dr, tk, os⟩ := s1
    refine wpAny_call (PySem.LowX_BadCells.low_made_BadCells T I1.kIn hlim (by have := hr.dp; omega) fun h' tk' e d M => ?_)
    show MkP X pins σ Q (.ref e) ⟨h', g, dr, tk', os⟩
    obtain ⟨oe, fv, hoe, hc, hd, hdat, h1⟩ := M.obj
    have hns := M.ns
    obtain ⟨G', g1, g2⟩ := restrict h' fun b => decide (b ≠ e)
    have gk : ∀ b, b ≠ e → G'.get? b = h'.get? b := fun b hb => g1 b (decide_eq_true hb)
    have ge : G'.get? e = none := g2 e (by simp)
    have old : ∀ b o, hp.get? b = some o → G'.get? b = some o := fun b o q => (gk b (Nat.ne_of_lt (Nat.lt_of_lt_of_le (Heap.lt_size q) M.new))).trans (M.keep b o q)
    have ob : ObjOk X.prog X.w (upd H1 d (.xd [(("cells" : Str), v)])) G' d (.xd [(("cells" : Str), v)]) :=
      ⟨_, hns.at (fun o q => (gk d M.dne).trans q), fun f => relO_low_BadCells rv f⟩
    have J : Inv X pins σ (upd H1 d (.xd [(("cells" : Str), v)])) ⟨G', g, dr, tk', os⟩ := I1.laid (t' := tk') old M.dbig ob
    refine ⟨e, oe, fv, ⟨G', g, dr, tk', os⟩, _, .ref C, some d, rfl, J, fun b o q => ?_, ge, hoe, ⟨hc, hd⟩, hdat, h1, ?_, rfl, I1.bare, raises_own T.exC T.tyC, q1 d (I1.hok.fresh M.dbig)⟩
    · by_cases hb : b = e
      · have q' : G'.get? b = some o := q
        rw [hb, ge] at q'; cases q'
      · exact (gk b hb).symm.trans q
    · rw [upd_ne (Ne.symm M.dne)]
      exact I1.hok.fresh M.new
/-- BadCells(e), held as a value -/
theorem pe_lowV_BadCells {a : Expr} {ta : TA} {p pos : Pos} {k : Nat} (T : PySem.LowX_BadCells.LowTxt_BadCells X.K X.mg C fI) (hr : Room k X.A) (ha : PA X [a] ta) (hg : Gl X "BadCells" := by rfl)
    (he : starEach (a :: []) X.env = (false, eval a X.env) :: starEach [] X.env := by rfl) (hpl : (backTo pos (starEach [] X.env)).any (·.1) = false := by rfl) :
    PE X (.Call (.Name "BadCells" p) [a] [] pos) (tLowV C "cells" ta) := by
  refine .mk fun pins s σ H Q I h => ?_
  refine wpAny_Call_Name_kw (ld_glob I hg T.gC ?_)
  refine PySem.W.callWith_K (h₀ := X.base) I.ok.mod.kin T.kC (thn (ha.run pos pins s σ H _ I h) fun us s1 hh => ?_) he hpl
  obtain ⟨vs, H1, I1, r1, v, ev, q1⟩ := hh
  subst ev
  refine ⟨I1.kIn, ?_⟩
  cases r1 with
  | cons rv rn =>
    rename_i v' us'
    cases rn
    show wpAny _ _ (call (.ref C) [v']) _ _ _
    have hlim := I1.nolimit
    obtain ⟨hp, g, dr, tk, os⟩ := s1
    refine wpAny_call (PySem.LowX_BadCells.low_made_BadCells T I1.kIn hlim (by have := hr.dp; omega) fun h' tk' e d M => ?_)
    exact lowV_end I1 rv M.keep M.new M.obj M.dbig M.dne M.ns (fun f => relO_low_BadCells rv f) ⟨v, rfl, q1⟩
/-- BadCells(cells = e), held as a value -/
theorem pe_lowVk_BadCells {kws : List Keyword} {tk : TA} {p pos : Pos} {k : Nat} (T : PySem.LowX_BadCells.LowTxt_BadCells X.K X.mg C fI) (hr : Room k X.A) (ha : PK X kws tk) (hg : Gl X "BadCells" := by rfl)
    (hall : (backToKw pos (keywordEach kws X.env)).all (·.1.isSome) = true := by rfl) (hks : (backToKw pos (keywordEach kws X.env)).filterMap (·.1) = [("cells" : Str)] := by rfl)
    (hpl : ((backTo pos (starEach [] X.env)).any (·.1) || (backToKw pos (keywordEach kws X.env)).any (·.1.isNone)) = false := by rfl) :
    PE X (.Call (.Name "BadCells" p) [] kws pos) (tLowV C "cells" tk) := by
  refine .mk fun pins s σ H Q I h => ?_
  refine wpAny_Call_Name_kw (ld_glob I hg T.gC ?_)
  refine PySem.W.callWith_KW0 (h₀ := X.base) I.ok.mod.kin T.kC hall (thn (ha.run pos pins s σ H _ I h) fun us s1 hh => ?_) hpl
  obtain ⟨vs, H1, I1, r1, v, ev, q1⟩ := hh
  subst ev
  refine ⟨I1.kIn, ?_⟩
  rw [hks]
  cases r1 with
  | cons rv rn =>
    rename_i v' us'
    cases rn
    show wpAny _ _ (call (.ref C) [] [(("cells" : Str), v')]) _ _ _
    have hlim := I1.nolimit
    obtain ⟨hp, g, dr, tk, os⟩ := s1
    refine wpAny_call (PySem.LowX_BadCells.low_madeK_BadCells T I1.kIn hlim (by have := hr.dp; omega) fun h' tk' e d M => ?_)
    exact lowV_end I1 rv M.keep M.new M.obj M.dbig M.dne M.ns (fun f => relO_low_BadCells rv f) ⟨v, rfl, q1⟩
end
end L2

namespace PySem
namespace LowX_UnknownName
open PySem.W PySem.Calls PyProof.Rows PySem.HandSPX
/-! ### the text of __init__ -/
def iA (p1 p2 : Pos) : Arguments := { posonlyargs := [], args := [{ arg := "self", annotation := none, pos := p1 }, { arg := "name", annotation := none, pos := p2 }], vararg := none, kwonlyargs := [], kw_defaults := [], kwarg := none, defaults := [] }
def iB (q1 q2 q3 q4 : Pos) : List Stmt := [.Assign [.Attribute (.Name "self" q1) "name" q2] (.Name "name" q3) q4]
def iS : Scope := { kind := .function, names := [(PySem.Str.ofString "self", .local), (PySem.Str.ofString "name", .local)], isGenerator := false, isCoroutine := false, more := [] }
/-- what the written part says of Low, at C, and of its __init__, at fI -/
structure LowTxt_UnknownName (K : Frag) (mg : Str → Option Value) (C fI : Addr) : Prop where
  gC : mg "UnknownName" = some (.ref C)
  cls : ∃ nm q N bs bm sn sub ab col dd k0 k1 k2 k3 k5, K.lookup C = some (excClassObj nm q C N bs bm true sn sub ab col dd k0 k1 k2 k3 k5 "ValueError.__new__") ∧ refsVE bm = true
  sa : findIn K (.ref C) "__setattr__" = some (some (.builtin "object.__setattr__"))
  ga : findIn K (.ref C) "__getattribute__" = some (some (.builtin "BaseException.__getattribute__"))
  gg : findIn K (.ref C) "__getattr__" = some none
  noN : findIn K (.ref C) "name" = some none
  iC : findIn K (.ref C) "__init__" = some (some (.ref fI))
  tC : typeIn K (.ref fI) = some (.type "function")
  kC : keepIn K (.ref C) = true
  exC : subIn K (.ref C) (.type "BaseException") = some true
  tyC : typeIn K (.ref C) = some (.type "type")
  hdC : hasDictIn K C = true
  te : exmOne K (.ref C) (.ref C) = some true
  fn : ∃ (oc : Value) (od : Option Addr) (doc pm : Value) (an : Option Addr) (cdv ct : Value) (osl : Array (Option Value)) (p1 p2 q1 q2 q3 q4 : Pos),
    K.lookup fI = some ⟨oc, od, .func (fnOf "__init__" "UnknownName.__init__" (iA p1 p2) (iB q1 q2 q3 q4) iS .none .none doc pm an cdv ct), osl⟩ ∧ codeIn K cdv "UnknownName.__init__" = true
theorem one_size (v : Value) : [v].length ≤ sizeLine := by
  rw [sizeLine_eq]
  exact (by decide : 1 ≤ 16777216)
theorem kept_but {K : Frag} {h h' : Heap} {x : Addr} (X : K.In h) (hx : K.lookup x = none) (k : ∀ b o, b ≠ x → h.get? b = some o → h'.get? b = some o) : K.In h' := fun a o e =>
  k a o (fun z => by rw [z, hx] at e; cases e) (X a o e)
theorem ldC {M : Model} {s : Shared} {name : Str} {scope : Scope} {L a : Addr} {cd : Value} {m : Str → Option Value} {x : Str} {pos : Pos} {v : Value} {Q : Value → Shared → Prop} {A : Around} {E : Value → Shared → Prop} (hn : s.heap.Ns L m) (hv : m x = some v) (h : Q v s)
    (hk : scope.kind = .function := by rfl) (hl : (envOfC name scope L a cd).kindOf x = some .local := by rfl) (hd : (x == ("__debug__" : Str)) = false := by decide) :
    wpAny M A (eval (.Name x pos) (envOfC name scope L a cd)) Q E s := wpAny_Name (wpAny_loadName_local hk hl hn hv h) hd
/-- what __init__ leaves of a fresh exception at x -/
structure InitEnd_UnknownName (h h' : Heap) (x C dx t1 : Addr) (v : Value) : Prop where
  keep : ∀ b o, b ≠ x → h.get? b = some o → h'.get? b = some o
  obj : h'.get? x = some { cls := .ref C, dict := some dx, data := .fields #[.ref t1, .none, .none, .none, .bool false, .none] }
  dbig : h.objs.size ≤ dx
  dne : dx ≠ x
  ns : h'.Ns1 dx (fun y => if y = "name" then some v else none)
/-- a made Low -/
structure OwnMade_UnknownName (h h' : Heap) (e C d : Addr) (v : Value) : Prop where
  keep : ∀ b o, h.get? b = some o → h'.get? b = some o
  new : h.objs.size ≤ e
  obj : ∃ oe vs, h'.get? e = some oe ∧ oe.cls = .ref C ∧ oe.dict = some d ∧ oe.data = .fields vs ∧ vs[1]? = some .none
  dbig : h.objs.size ≤ d
  dne : d ≠ e
  ns : h'.Ns1 d (fun y => if y = "name" then some v else none)
section
variable {prog : Program} {w : World} {A : Around} {E : Value → Shared → Prop} {R : Result → Shared → Prop} {s : Shared} {K : Frag} {mg : Str → Option Value} {C fI : Addr}
theorem low_init_UnknownName (T : LowTxt_UnknownName K mg C fI) {x t0 : Addr} {v : Value} (X : K.In s.heap) (hlim : s.heap.NoLimit) (hx : s.heap.get? x = some (excO C t0)) (hnx : K.lookup x = none) (hroom : A.depth < recursionLimit)
    (hq : ∀ h' tk dx, InitEnd_UnknownName s.heap h' x C dx t0 v → R (.ok (.ret .none)) { s with heap := h', toks := tk }) :
    codeAny (model prog w) A (.call (.ref fI) ⟨[.ref x, v], []⟩) R s := by
  obtain ⟨oc, od, doc, pm, an, cdv, ct, osl, p1, p2, q1, q2, q3, q4, ho, hcd⟩ := T.fn
  obtain ⟨nm, q, N, bs, bm, sn, sub, ab, col, dd, k0, k1, k2, k3, k5, hC, hbm⟩ := T.cls
  have hcl : clsIn K C = some { name := nm, bases := bs, mro := .ref C :: bm, ns := N, qualname := q, hasDict := true, slotNames := sn, subclasses := sub, abstract := ab, collection := col, hasDel := false } := by unfold clsIn; rw [hC] <;> rfl
  refine Att.call_fn (binds := [("self", .ref x), ("name", v)]) X hlim ho hcd hroom (BindsTo.of_eq (by first | rfl | with_unfolding_all rfl)) (by first | rfl | decide | with_unfolding_all rfl) (fun s₁ IC => ?_) rfl rfl rfl
  obtain ⟨h₁, tk₁, rfl⟩ := IC.toInCall.same
  have k : ∀ b o, s.heap.get? b = some o → h₁.get? b = some o := IC.toInCall.keep
  have hn := IC.toInCall.ns
  have hxL : s.heap.objs.size ≠ x := Nat.ne_of_gt (Heap.lt_size hx)
  have X₁ : K.In h₁ := X.keeps k
  have hx₁ := k _ _ hx
  -- self.by = by
  show wpAny _ _ (execs _ _) _ _ _
  refine wpAny_execs_cons (plainObj_wpAny_Assign_Attribute ?_)
  refine ldC (v := v) hn (by first | rfl | with_unfolding_all rfl | kernel_rfl) (ldC (v := .ref x) hn (by first | rfl | with_unfolding_all rfl | kernel_rfl) ?_)
  refine set_plain X₁ (ox := excO C t0) (od := none) ⟨hx₁, rfl, rfl, trivial⟩ T.sa ?_
  refine exc_osa X₁ hx₁ hcl (show refsVE (.ref C :: bm) = true from hbm) rfl T.noN (fun h₃ tk₃ dx k₃ dn dne hx₃ hn₃ => ?_)
  show wpAny _ _ (execs _ _) _ _ _
  have z : s.heap.objs.size < h₁.objs.size := hn.lt
  exact wpAny_execs_nil (hq h₃ tk₃ dx ⟨fun b o hb e => k₃ b o hb (k b o e), hx₃, Nat.le_of_lt (Nat.lt_of_lt_of_le z dn), dne, hn₃⟩)
theorem low_made_UnknownName (T : LowTxt_UnknownName K mg C fI) {v : Value} (X : K.In s.heap) (hlim : s.heap.NoLimit) (hroom : A.depth + 1 < recursionLimit)
    (hq : ∀ h' tk e d, OwnMade_UnknownName s.heap h' e C d v → R (.ok (.ret (.ref e))) { s with heap := h', toks := tk }) :
    codeAny (model prog w) A (.call (.ref C) ⟨[v], []⟩) R s := by
  obtain ⟨nm, q, N, bs, bm, sn, sub, ab, col, dd, k0, k1, k2, k3, k5, hC, hbm⟩ := T.cls
  obtain ⟨hp, g, dr, tk, os⟩ := s
  have k : ∀ b o, hp.get? b = some o → ((hp.push (kdv_tup [v])).push (excO C hp.objs.size)).get? b = some o := fun b o e => Heap.get?_push_of_some _ (Heap.get?_push_of_some _ e)
  have hget : ((hp.push (kdv_tup [v])).push (excO C hp.objs.size)).get? (hp.objs.size + 1) = some (excO C hp.objs.size) := by heap_get
  have hnx : K.lookup (hp.objs.size + 1) = none := by
    cases e : K.lookup (hp.objs.size + 1) with
    | none => rfl
    | some o =>
      have z : hp.get? (hp.objs.size + 1) = some o := X _ _ e
      exact absurd (Nat.lt_of_succ_lt (Heap.lt_size z)) (Nat.lt_irrefl _)
  refine call_own F.excBase_ValueError (fun X => refsVE_contains X bm hbm) (X _ _ hC) (looks_findIn X T.iC) (fun self => bind_fn X self T.tC) (one_size v) ?_
  refine low_init_UnknownName (s := ⟨(hp.push (kdv_tup [v])).push (excO C hp.objs.size), g, dr, tk, os⟩) T (X.keeps k) (hlim.keeps k) hget hnx ?_ fun h' tk' dx ⟨k', hx, dn, dne, hns⟩ => ?_
  · show A.depth + 1 < recursionLimit
    exact hroom
  · have old : ∀ b o, hp.get? b = some o → h'.get? b = some o := fun b o e => k' b o (Nat.ne_of_lt (Nat.lt_succ_of_lt (Heap.lt_size e))) (k b o e)
    have z : hp.objs.size + 1 + 1 ≤ dx := by
      first
        | (simpa only [Heap.size_push] using dn)
        | exact dn
        | (have q := dn; rw [Heap.size_push, Heap.size_push] at q; exact q)
    exact ⟨rfl, hq h' tk' (hp.objs.size + 1) dx ⟨old, Nat.le_succ _, ⟨_, _, hx, rfl, rfl, rfl, rfl⟩, Nat.le_trans (Nat.le_trans (Nat.le_succ _) (Nat.le_succ _)) z, dne, hns⟩⟩
theorem low_initK_UnknownName (T : LowTxt_UnknownName K mg C fI) {x t0 : Addr} {v : Value} (X : K.In s.heap) (hlim : s.heap.NoLimit) (hx : s.heap.get? x = some (excO C t0)) (hnx : K.lookup x = none) (hroom : A.depth < recursionLimit)
    (hq : ∀ h' tk dx, InitEnd_UnknownName s.heap h' x C dx t0 v → R (.ok (.ret .none)) { s with heap := h', toks := tk }) :
    codeAny (model prog w) A (.call (.ref fI) ⟨[.ref x], [(("name" : Str), v)]⟩) R s := by
  obtain ⟨oc, od, doc, pm, an, cdv, ct, osl, p1, p2, q1, q2, q3, q4, ho, hcd⟩ := T.fn
  obtain ⟨nm, q, N, bs, bm, sn, sub, ab, col, dd, k0, k1, k2, k3, k5, hC, hbm⟩ := T.cls
  have hcl : clsIn K C = some { name := nm, bases := bs, mro := .ref C :: bm, ns := N, qualname := q, hasDict := true, slotNames := sn, subclasses := sub, abstract := ab, collection := col, hasDel := false } := by unfold clsIn; rw [hC] <;> rfl
  refine Att.call_fn (binds := [("self", .ref x), ("name", v)]) X hlim ho hcd hroom (BindsTo.of_eq (by first | rfl | with_unfolding_all rfl)) (by first | rfl | decide | with_unfolding_all rfl) (fun s₁ IC => ?_) rfl rfl rfl
  obtain ⟨h₁, tk₁, rfl⟩ := IC.toInCall.same
  have k : ∀ b o, s.heap.get? b = some o → h₁.get? b = some o := IC.toInCall.keep
  have hn := IC.toInCall.ns
  have hxL : s.heap.objs.size ≠ x := Nat.ne_of_gt (Heap.lt_size hx)
  have X₁ : K.In h₁ := X.keeps k
  have hx₁ := k _ _ hx
  -- self.by = by
  show wpAny _ _ (execs _ _) _ _ _
  refine wpAny_execs_cons (plainObj_wpAny_Assign_Attribute ?_)
  refine ldC (v := v) hn (by first | rfl | with_unfolding_all rfl | kernel_rfl) (ldC (v := .ref x) hn (by first | rfl | with_unfolding_all rfl | kernel_rfl) ?_)
  refine set_plain X₁ (ox := excO C t0) (od := none) ⟨hx₁, rfl, rfl, trivial⟩ T.sa ?_
  refine exc_osa X₁ hx₁ hcl (show refsVE (.ref C :: bm) = true from hbm) rfl T.noN (fun h₃ tk₃ dx k₃ dn dne hx₃ hn₃ => ?_)
  show wpAny _ _ (execs _ _) _ _ _
  have z : s.heap.objs.size < h₁.objs.size := hn.lt
  exact wpAny_execs_nil (hq h₃ tk₃ dx ⟨fun b o hb e => k₃ b o hb (k b o e), hx₃, Nat.le_of_lt (Nat.lt_of_lt_of_le z dn), dne, hn₃⟩)
theorem low_madeK_UnknownName (T : LowTxt_UnknownName K mg C fI) {v : Value} (X : K.In s.heap) (hlim : s.heap.NoLimit) (hroom : A.depth + 1 < recursionLimit)
    (hq : ∀ h' tk e d, OwnMade_UnknownName s.heap h' e C d v → R (.ok (.ret (.ref e))) { s with heap := h', toks := tk }) :
    codeAny (model prog w) A (.call (.ref C) ⟨[], [(("name" : Str), v)]⟩) R s := by
  obtain ⟨nm, q, N, bs, bm, sn, sub, ab, col, dd, k0, k1, k2, k3, k5, hC, hbm⟩ := T.cls
  obtain ⟨hp, g, dr, tk, os⟩ := s
  have k : ∀ b o, hp.get? b = some o → ((hp.push (kdv_tup [])).push (excO C hp.objs.size)).get? b = some o := fun b o e => Heap.get?_push_of_some _ (Heap.get?_push_of_some _ e)
  have hget : ((hp.push (kdv_tup [])).push (excO C hp.objs.size)).get? (hp.objs.size + 1) = some (excO C hp.objs.size) := by heap_get
  have hnx : K.lookup (hp.objs.size + 1) = none := by
    cases e : K.lookup (hp.objs.size + 1) with
    | none => rfl
    | some o =>
      have z : hp.get? (hp.objs.size + 1) = some o := X _ _ e
      exact absurd (Nat.lt_of_succ_lt (Heap.lt_size z)) (Nat.lt_irrefl _)
  refine call_ownK F.excBase_ValueError (fun X => refsVE_contains X bm hbm) (X _ _ hC) (looks_findIn (X.keeps k) T.iC) (fun self => bind_fn (X.keeps k) self T.tC) ?_
  refine low_initK_UnknownName (s := ⟨(hp.push (kdv_tup [])).push (excO C hp.objs.size), g, dr, tk, os⟩) T (X.keeps k) (hlim.keeps k) hget hnx ?_ fun h' tk' dx ⟨k', hx, dn, dne, hns⟩ => ?_
  · show A.depth + 1 < recursionLimit
    exact hroom
  · have old : ∀ b o, hp.get? b = some o → h'.get? b = some o := fun b o e => k' b o (Nat.ne_of_lt (Nat.lt_succ_of_lt (Heap.lt_size e))) (k b o e)
    have z : hp.objs.size + 1 + 1 ≤ dx := by
      first
        | (simpa only [Heap.size_push] using dn)
        | exact dn
        | (have q := dn; rw [Heap.size_push, Heap.size_push] at q; exact q)
    exact ⟨rfl, hq h' tk' (hp.objs.size + 1) dx ⟨old, Nat.le_succ _, ⟨_, _, hx, rfl, rfl, rfl, rfl⟩, Nat.le_trans (Nat.le_trans (Nat.le_succ _) (Nat.le_succ _)) z, dne, hns⟩⟩
end
end LowX_UnknownName
end PySem
namespace L2
open PySem PySem.Spec PyProof.Rows
theorem relO_low_UnknownName {v : V} {v' : Value} (r : RelV v v') (f : Str) : RelO (List.lookup f [(("name" : Str), v)]) (if f = "name" then some v' else none) := by
  by_cases hw : f = "name"
  · subst hw
    rw [if_pos rfl]
    have q : List.lookup ("name" : Str) [(("name" : Str), v)] = some v := by simp [List.lookup]
    rw [q]
    exact r
  · rw [if_neg hw]
    have qw : (f == ("name" : Str)) = false := by simpa using hw
    have q2 : List.lookup f [(("name" : Str), v)] = none := by simp [List.lookup, qw]
    rw [q2]
    trivial
section
variable {X : Cx} {C fI : Addr}
/-- Low(e) -/
def tMkLow_UnknownName (C : Addr) (ta : TA) : St → Hp → XK → Prop := fun σ H Q => ta σ H fun vs H1 => ∃ v, vs = [v] ∧ ∀ d, H1 d = none → Q (.ref C) (some d) (upd H1 d (.xd [(("name" : Str), v)]))
theorem pmk_low_UnknownName {a : Expr} {ta : TA} {p pos : Pos} {k : Nat} (T : PySem.LowX_UnknownName.LowTxt_UnknownName X.K X.mg C fI) (hr : Room k X.A) (ha : PA X [a] ta) (hg : Gl X "UnknownName" := by rfl)
    (he : starEach (a :: []) X.env = (false, eval a X.env) :: starEach [] X.env := by rfl) (hpl : (backTo pos (starEach [] X.env)).any (·.1) = false := by rfl) :
    PMk X (.Call (.Name "UnknownName" p) [a] [] pos) (tMkLow_UnknownName C ta) := by
  intro pins s σ H Q I h
  refine wpAny_Call_Name_kw (ld_glob I hg T.gC ?_)
  refine PySem.W.callWith_K (h₀ := X.base) I.ok.mod.kin T.kC (thn (ha.run pos pins s σ H _ I h) fun us s1 hh => ?_) he hpl
  obtain ⟨vs, H1, I1, r1, v, ev, q1⟩ := hh
  subst ev
  refine ⟨I1.kIn, ?_⟩
  cases r1 with
  | cons rv rn =>
    rename_i v' us'
    cases rn
    show wpAny _ _ (call (.ref C) [v']) _ _ _
    have hlim := I1.nolimit
    obtain ⟨hp, g, dr, tk, os⟩ := s1
    refine wpAny_call (PySem.LowX_UnknownName.low_made_UnknownName T I1.kIn hlim (by have := hr.dp; omega) fun h' tk' e d M => ?_)
    show MkP X pins σ Q (.ref e) ⟨h', g, dr, tk', os⟩
    obtain ⟨oe, fv, hoe, hc, hd, hdat, h1⟩ := M.obj
    have hns := M.ns
    obtain ⟨G', g1, g2⟩ := restrict h' fun b => decide (b ≠ e)
    have gk : ∀ b, b ≠ e → G'.get? b = h'.get? b := fun b hb => g1 b (decide_eq_true hb)
    have ge : G'.get? e = none := g2 e (by simp)
    have old : ∀ b o, hp.get? b = some o → G'.get? b = some o := fun b o q => (gk b (Nat.ne_of_lt (Nat.lt_of_lt_of_le (Heap.lt_size q) M.new))).trans (M.keep b o q)
    have ob : ObjOk X.prog X.w (upd H1 d (.xd [(("name" : Str), v)])) G' d (.xd [(("name" : Str), v)]) :=
      ⟨_, hns.at (fun o q => (gk d M.dne).trans q), fun f => relO_low_UnknownName rv f⟩
    have J : Inv X pins σ (upd H1 d (.xd [(("name" : Str), v)])) ⟨G', g, dr, tk', os⟩ := I1.laid (t' := tk') old M.dbig ob
    refine ⟨e, oe, fv, ⟨G', g, dr, tk', os⟩, _, .ref C, some d, rfl, J, fun b o q => ?_, ge, hoe, ⟨hc, hd⟩, hdat, h1, ?_, rfl, I1.bare, raises_own T.exC T.tyC, q1 d (I1.hok.fresh M.dbig)⟩
    · by_cases hb : b = e
      · have q' : G'.get? b = some o := q
        rw [hb, ge] at q'; cases q'
      · exact (gk b hb).symm.trans q
    · rw [upd_ne (Ne.symm M.dne)]
      exact I1.hok.fresh M.new
/-- UnknownName(e), held as a value -/
theorem pe_lowV_UnknownName {a : Expr} {ta : TA} {p pos : Pos} {k : Nat} (T : PySem.LowX_UnknownName.LowTxt_UnknownName X.K X.mg C fI) (hr : Room k X.A) (ha : PA X [a] ta) (hg : Gl X "UnknownName" := by rfl)
    (he : starEach (a :: []) X.env = (false, eval a X.env) :: starEach [] X.env := by rfl) (hpl : (backTo pos (starEach [] X.env)).any (·.1) = false := by rfl) :
    PE X (.Call (.Name "UnknownName" p) [a] [] pos) (tLowV C "name" ta) := by
  refine .mk fun pins s σ H Q I h => ?_
  refine wpAny_Call_Name_kw (ld_glob I hg T.gC ?_)
  refine PySem.W.callWith_K (h₀ := X.base) I.ok.mod.kin T.kC (thn (ha.run pos pins s σ H _ I h) fun us s1 hh => ?_) he hpl
  obtain ⟨vs, H1, I1, r1, v, ev, q1⟩ := hh
  subst ev
  refine ⟨I1.kIn, ?_⟩
  cases r1 with
  | cons rv rn =>
    rename_i v' us'
    cases rn
    show wpAny _ _ (call (.ref C) [v']) _ _ _
    have hlim := I1.nolimit
    obtain ⟨hp, g, dr, tk, os⟩ := s1
    refine wpAny_call (PySem.LowX_UnknownName.low_made_UnknownName T I1.kIn hlim (by have := hr.dp; omega) fun h' tk' e d M => ?_)
    exact lowV_end I1 rv M.keep M.new M.obj M.dbig M.dne M.ns (fun f => relO_low_UnknownName rv f) ⟨v, rfl, q1⟩
/-- UnknownName(name = e), held as a value -/
theorem pe_lowVk_UnknownName {kws : List Keyword} {tk : TA} {p pos : Pos} {k : Nat} (T : PySem.LowX_UnknownName.LowTxt_UnknownName X.K X.mg C fI) (hr : Room k X.A) (ha : PK X kws tk) (hg : Gl X "UnknownName" := by rfl)
    (hall : (backToKw pos (keywordEach kws X.env)).all (·.1.isSome) = true := by rfl) (hks : (backToKw pos (keywordEach kws X.env)).filterMap (·.1) = [("name" : Str)] := by rfl)
    (hpl : ((backTo pos (starEach [] X.env)).any (·.1) || (backToKw pos (keywordEach kws X.env)).any (·.1.isNone)) = false := by rfl) :
    PE X (.Call (.Name "UnknownName" p) [] kws pos) (tLowV C "name" tk) := by
  refine .mk fun pins s σ H Q I h => ?_
  refine wpAny_Call_Name_kw (ld_glob I hg T.gC ?_)
  refine PySem.W.callWith_KW0 (h₀ := X.base) I.ok.mod.kin T.kC hall (thn (ha.run pos pins s σ H _ I h) fun us s1 hh => ?_) hpl
  obtain ⟨vs, H1, I1, r1, v, ev, q1⟩ := hh
  subst ev
  refine ⟨I1.kIn, ?_⟩
  rw [hks]
  cases r1 with
  | cons rv rn =>
    rename_i v' us'
    cases rn
    show wpAny _ _ (call (.ref C) [] [(("name" : Str), v')]) _ _ _
    have hlim := I1.nolimit
    obtain ⟨hp, g, dr, tk, os⟩ := s1
    refine wpAny_call (PySem.LowX_UnknownName.low_madeK_UnknownName T I1.kIn hlim (by have := hr.dp; omega) fun h' tk' e d M => ?_)
    exact lowV_end I1 rv M.keep M.new M.obj M.dbig M.dne M.ns (fun f => relO_low_UnknownName rv f) ⟨v, rfl, q1⟩
end
end L2

namespace PySem
namespace LowX_NotSaid
open PySem.W PySem.Calls PyProof.Rows PySem.HandSPX
/-! ### the text of __init__ -/
def iA (p1 p2 : Pos) : Arguments := { posonlyargs := [], args := [{ arg := "self", annotation := none, pos := p1 }, { arg := "chance", annotation := none, pos := p2 }], vararg := none, kwonlyargs := [], kw_defaults := [], kwarg := none, defaults := [] }
def iB (q1 q2 q3 q4 : Pos) : List Stmt := [.Assign [.Attribute (.Name "self" q1) "chance" q2] (.Name "chance" q3) q4]
def iS : Scope := { kind := .function, names := [(PySem.Str.ofString "self", .local), (PySem.Str.ofString "chance", .local)], isGenerator := false, isCoroutine := false, more := [] }
/-- what the written part says of Low, at C, and of its __init__, at fI -/
structure LowTxt_NotSaid (K : Frag) (mg : Str → Option Value) (C fI : Addr) : Prop where
  gC : mg "NotSaid" = some (.ref C)
  cls : ∃ nm q N bs bm sn sub ab col dd k0 k1 k2 k3 k5, K.lookup C = some (excClassObj nm q C N bs bm true sn sub ab col dd k0 k1 k2 k3 k5 "ValueError.__new__") ∧ refsVE bm = true
  sa : findIn K (.ref C) "__setattr__" = some (some (.builtin "object.__setattr__"))
  ga : findIn K (.ref C) "__getattribute__" = some (some (.builtin "BaseException.__getattribute__"))
  gg : findIn K (.ref C) "__getattr__" = some none
  noN : findIn K (.ref C) "chance" = some none
  iC : findIn K (.ref C) "__init__" = some (some (.ref fI))
  tC : typeIn K (.ref fI) = some (.type "function")
  kC : keepIn K (.ref C) = true
  exC : subIn K (.ref C) (.type "BaseException") = some true
  tyC : typeIn K (.ref C) = some (.type "type")
  hdC : hasDictIn K C = true
  te : exmOne K (.ref C) (.ref C) = some true
  fn : ∃ (oc : Value) (od : Option Addr) (doc pm : Value) (an : Option Addr) (cdv ct : Value) (osl : Array (Option Value)) (p1 p2 q1 q2 q3 q4 : Pos),
    K.lookup fI = some ⟨oc, od, .func (fnOf "__init__" "NotSaid.__init__" (iA p1 p2) (iB q1 q2 q3 q4) iS .none .none doc pm an cdv ct), osl⟩ ∧ codeIn K cdv "NotSaid.__init__" = true
theorem one_size (v : Value) : [v].length ≤ sizeLine := by
  rw [sizeLine_eq]
  exact (by decide : 1 ≤ 16777216)
theorem kept_but {K : Frag} {h h' : Heap} {x : Addr} (X : K.In h) (hx : K.lookup x = none) (k : ∀ b o, b ≠ x → h.get? b = some o → h'.get? b = some o) : K.In h' := fun a o e =>
  k a o (fun z => by rw [z, hx] at e; cases e) (X a o e)
theorem ldC {M : Model} {s : Shared} {name : Str} {scope : Scope} {L a : Addr} {cd : Value} {m : Str → Option Value} {x : Str} {pos : Pos} {v : Value} {Q : Value → Shared → Prop} {A : Around} {E : Value → Shared → Prop} (hn : s.heap.Ns L m) (hv : m x = some v) (h : Q v s)
    (hk : scope.kind = .function := by rfl) (hl : (envOfC name scope L a cd).kindOf x = some .local := by rfl) (hd : (x == ("__debug__" : Str)) = false := by decide) :
    wpAny M A (eval (.Name x pos) (envOfC name scope L a cd)) Q E s := wpAny_Name (wpAny_loadName_local hk hl hn hv h) hd
/-- what __init__ leaves of a fresh exception at x -/
structure InitEnd_NotSaid (h h' : Heap) (x C dx t1 : Addr) (v : Value) : Prop where
  keep : ∀ b o, b ≠ x → h.get? b = some o → h'.get? b = some o
  obj : h'.get? x = some { cls := .ref C, dict := some dx, data := .fields #[.ref t1, .none, .none, .none, .bool false, .none] }
  dbig : h.objs.size ≤ dx
  dne : dx ≠ x
  ns : h'.Ns1 dx (fun y => if y = "chance" then some v else none)
/-- a made Low -/
structure OwnMade_NotSaid (h h' : Heap) (e C d : Addr) (v : Value) : Prop where
  keep : ∀ b o, h.get? b = some o → h'.get? b = some o
  new : h.objs.size ≤ e
  obj : ∃ oe vs, h'.get? e = some oe ∧ oe.cls = .ref C ∧ oe.dict = some d ∧ oe.data = .fields vs ∧ vs[1]? = some .none
  dbig : h.objs.size ≤ d
  dne : d ≠ e
  ns : h'.Ns1 d (fun y => if y = "chance" then some v else none)
section
variable {prog : Program} {w : World} {A : Around} {E : Value → Shared → Prop} {R : Result → Shared → Prop} {s : Shared} {K : Frag} {mg : Str → Option Value} {C fI : Addr}
theorem low_init_NotSaid (T : LowTxt_NotSaid K mg C fI) {x t0 : Addr} {v : Value} (X : K.In s.heap) (hlim : s.heap.NoLimit) (hx : s.heap.get? x = some (excO C t0)) (hnx : K.lookup x = none) (hroom : A.depth < recursionLimit)
    (hq : ∀ h' tk dx, InitEnd_NotSaid s.heap h' x C dx t0 v → R (.ok (.ret .none)) { s with heap := h', toks := tk }) :
    codeAny (model prog w) A (.call (.ref fI) ⟨[.ref x, v], []⟩) R s := by
  obtain ⟨oc, od, doc, pm, an, cdv, ct, osl, p1, p2, q1, q2, q3, q4, ho, hcd⟩ := T.fn
  obtain ⟨nm, q, N, bs, bm, sn, sub, ab, col, dd, k0, k1, k2, k3, k5, hC, hbm⟩ := T.cls
  have hcl : clsIn K C = some { name := nm, bases := bs, mro := .ref C :: bm, ns := N, qualname := q, hasDict := true, slotNames := sn, subclasses := sub, abstract := ab, collection := col, hasDel := false } := by unfold clsIn; rw [hC] <;> rfl
  refine Att.call_fn (binds := [("self", .ref x), ("chance", v)]) X hlim ho hcd hroom (BindsTo.of_eq (by first | rfl | with_unfolding_all rfl)) (by first | rfl | decide | with_unfolding_all rfl) (fun s₁ IC => ?_) rfl rfl rfl
  obtain ⟨h₁, tk₁, rfl⟩ := IC.toInCall.same
  have k : ∀ b o, s.heap.get? b = some o → h₁.get? b = some o := IC.toInCall.keep
  have hn := IC.toInCall.ns
  have hxL : s.heap.objs.size ≠ x := Nat.ne_of_gt (Heap.lt_size hx)
  have X₁ : K.In h₁ := X.keeps k
  have hx₁ := k _ _ hx
  -- self.by = by
  show wpAny _ _ (execs _ _) _ _ _
  refine wpAny_execs_cons (plainObj_wpAny_Assign_Attribute ?_)
  refine ldC (v := v) hn (by first | rfl | with_unfolding_all rfl | kernel_rfl) (ldC (v := .ref x) hn (by first | rfl | with_unfolding_all rfl | kernel_rfl) ?_)
  refine set_plain X₁ (ox := excO C t0) (od := none) ⟨hx₁, rfl, rfl, trivial⟩ T.sa ?_
  refine exc_osa X₁ hx₁ hcl (show refsVE (.ref C :: bm) = true from hbm) rfl T.noN (fun h₃ tk₃ dx k₃ dn dne hx₃ hn₃ => ?_)
  show wpAny _ _ (execs _ _) _ _ _
  have z : s.heap.objs.size < h₁.objs.size := hn.lt
  exact wpAny_execs_nil (hq h₃ tk₃ dx ⟨fun b o hb e => k₃ b o hb (k b o e), hx₃, Nat.le_of_lt (Nat.lt_of_lt_of_le z dn), dne, hn₃⟩)
theorem low_made_NotSaid (T : LowTxt_NotSaid K mg C fI) {v : Value} (X : K.In s.heap) (hlim : s.heap.NoLimit) (hroom : A.depth + 1 < recursionLimit)
    (hq : ∀ h' tk e d, OwnMade_NotSaid s.heap h' e C d v → R (.ok (.ret (.ref e))) { s with heap := h', toks := tk }) :
    codeAny (model prog w) A (.call (.ref C) ⟨[v], []⟩) R s := by
  obtain ⟨nm, q, N, bs, bm, sn, sub, ab, col, dd, k0, k1, k2, k3, k5, hC, hbm⟩ := T.cls
  obtain ⟨hp, g, dr, tk, os⟩ := s
  have k : ∀ b o, hp.get? b = some o → ((hp.push (kdv_tup [v])).push (excO C hp.objs.size)).get? b = some o := fun b o e => Heap.get?_push_of_some _ (Heap.get?_push_of_some _ e)
  have hget : ((hp.push (kdv_tup [v])).push (excO C hp.objs.size)).get? (hp.objs.size + 1) = some (excO C hp.objs.size) := by heap_get
  have hnx : K.lookup (hp.objs.size + 1) = none := by
    cases e : K.lookup (hp.objs.size + 1) with
    | none => rfl
    | some o =>
      have z : hp.get? (hp.objs.size + 1) = some o := X _ _ e
      exact absurd (Nat.lt_of_succ_lt (Heap.lt_size z)) (Nat.lt_irrefl _)
  refine call_own F.excBase_ValueError (fun X => refsVE_contains X bm hbm) (X _ _ hC) (looks_findIn X T.iC) (fun self => bind_fn X self T.tC) (one_size v) ?_
  refine low_init_NotSaid (s := ⟨(hp.push (kdv_tup [v])).push (excO C hp.objs.size), g, dr, tk, os⟩) T (X.keeps k) (hlim.keeps k) hget hnx ?_ fun h' tk' dx ⟨k', hx, dn, dne, hns⟩ => ?_
  · show A.depth + 1 < recursionLimit
    exact hroom
  · have old : ∀ b o, hp.get? b = some o → h'.get? b = some o := fun b o e => k' b o (Nat.ne_of_lt (Nat.lt_succ_of_lt (Heap.lt_size e))) (k b o e)
    have z : hp.objs.size + 1 + 1 ≤ dx := by
      first
        | (simpa only [Heap.size_push] using dn)
        | exact dn
        | (have q := dn; rw [Heap.size_push, Heap.size_push] at q; exact q)
    exact ⟨rfl, hq h' tk' (hp.objs.size + 1) dx ⟨old, Nat.le_succ _, ⟨_, _, hx, rfl, rfl, rfl, rfl⟩, Nat.le_trans (Nat.le_trans (Nat.le_succ _) (Nat.le_succ _)) z, dne, hns⟩⟩
theorem low_initK_NotSaid (T : LowTxt_NotSaid K mg C fI) {x t0 : Addr} {v : Value} (X : K.In s.heap) (hlim : s.heap.NoLimit) (hx : s.heap.get? x = some (excO C t0)) (hnx : K.lookup x = none) (hroom : A.depth < recursionLimit)
    (hq : ∀ h' tk dx, InitEnd_NotSaid s.heap h' x C dx t0 v → R (.ok (.ret .none)) { s with heap := h', toks := tk }) :
    codeAny (model prog w) A (.call (.ref fI) ⟨[.ref x], [(("chance" : Str), v)]⟩) R s := by
  obtain ⟨oc, od, doc, pm, an, cdv, ct, osl, p1, p2, q1, q2, q3, q4, ho, hcd⟩ := T.fn
  obtain ⟨nm, q, N, bs, bm, sn, sub, ab, col, dd, k0, k1, k2, k3, k5, hC, hbm⟩ := T.cls
  have hcl : clsIn K C = some { name := nm, bases := bs, mro := .ref C :: bm, ns := N, qualname := q, hasDict := true, slotNames := sn, subclasses := sub, abstract := ab, collection := col, hasDel := false } := by unfold clsIn; rw [hC] <;> rfl
  refine Att.call_fn (binds := [("self", .ref x), ("chance", v)]) X hlim ho hcd hroom (BindsTo.of_eq (by first | rfl | with_unfolding_all rfl)) (by first | rfl | decide | with_unfolding_all rfl) (fun s₁ IC => ?_) rfl rfl rfl
  obtain ⟨h₁, tk₁, rfl⟩ := IC.toInCall.same
  have k : ∀ b o, s.heap.get? b = some o → h₁.get? b = some o := IC.toInCall.keep
  have hn := IC.toInCall.ns
  have hxL : s.heap.objs.size ≠ x := Nat.ne_of_gt (Heap.lt_size hx)
  have X₁ : K.In h₁ := X.keeps k
  have hx₁ := k _ _ hx
  -- self.by = by
  show wpAny _ _ (execs _ _) _ _ _
  refine wpAny_execs_cons (plainObj_wpAny_Assign_Attribute ?_)
  refine ldC (v := v) hn (by first | rfl | with_unfolding_all rfl | kernel_rfl) (ldC (v := .ref x) hn (by first | rfl | with_unfolding_all rfl | kernel_rfl) ?_)
  refine set_plain X₁ (ox := excO C t0) (od := none) ⟨hx₁, rfl, rfl, trivial⟩ T.sa ?_
  refine exc_osa X₁ hx₁ hcl (show refsVE (.ref C :: bm) = true from hbm) rfl T.noN (fun h₃ tk₃ dx k₃ dn dne hx₃ hn₃ => ?_)
  show wpAny _ _ (execs _ _) _ _ _
  have z : s.heap.objs.size < h₁.objs.size := hn.lt
  exact wpAny_execs_nil (hq h₃ tk₃ dx ⟨fun b o hb e => k₃ b o hb (k b o e), hx₃, Nat.le_of_lt (Nat.lt_of_lt_of_le z dn), dne, hn₃⟩)
theorem low_madeK_NotSaid (T : LowTxt_NotSaid K mg C fI) {v : Value} (X : K.In s.heap) (hlim : s.heap.NoLimit) (hroom : A.depth + 1 < recursionLimit)
    (hq : ∀ h' tk e d, OwnMade_NotSaid s.heap h' e C d v → R (.ok (.ret (.ref e))) { s with heap := h', toks := tk }) :
    codeAny (model prog w) A (.call (.ref C) ⟨[], [(("chance" : Str), v)]⟩) R s := by
  obtain ⟨nm, q, N, bs, bm, sn, sub, ab, col, dd, k0, k1, k2, k3, k5, hC, hbm⟩ := T.cls
  obtain ⟨hp, g, dr, tk, os⟩ := s
  have k : ∀ b o, hp.get? b = some o → ((hp.push (kdv_tup [])).push (excO C hp.objs.size)).get? b = some o := fun b o e => Heap.get?_push_of_some _ (Heap.get?_push_of_some _ e)
  have hget : ((hp.push (kdv_tup [])).push (excO C hp.objs.size)).get? (hp.objs.size + 1) = some (excO C hp.objs.size) := by heap_get
  have hnx : K.lookup (hp.objs.size + 1) = none := by
    cases e : K.lookup (hp.objs.size + 1) with
    | none => rfl
    | some o =>
      have z : hp.get? (hp.objs.size + 1) = some o := X _ _ e
      exact absurd (Nat.lt_of_succ_lt (Heap.lt_size z)) (Nat.lt_irrefl _)
  refine call_ownK F.excBase_ValueError (fun X => refsVE_contains X bm hbm) (X _ _ hC) (looks_findIn (X.keeps k) T.iC) (fun self => bind_fn (X.keeps k) self T.tC) ?_
  refine low_initK_NotSaid (s := ⟨(hp.push (kdv_tup [])).push (excO C hp.objs.size), g, dr, tk, os⟩) T (X.keeps k) (hlim.keeps k) hget hnx ?_ fun h' tk' dx ⟨k', hx, dn, dne, hns⟩ => ?_
  · show A.depth + 1 < recursionLimit
    exact hroom
  · have old : ∀ b o, hp.get? b = some o → h'.get? b = some o := fun b o e => k' b o (Nat.ne_of_lt (Nat.lt_succ_of_lt (Heap.lt_size e))) (k b o e)
    have z : hp.objs.size + 1 + 1 ≤ dx := by
      first
        | (simpa only [Heap.size_push] using dn)
        | exact dn
        | (have q := dn; rw [Heap.size_push, Heap.size_push] at q; exact q)
    exact ⟨rfl, hq h' tk' (hp.objs.size + 1) dx ⟨old, Nat.le_succ _, ⟨_, _, hx, rfl, rfl, rfl, rfl⟩, Nat.le_trans (Nat.le_trans (Nat.le_succ _) (Nat.le_succ _)) z, dne, hns⟩⟩
end
end LowX_NotSaid
end PySem
namespace L2
open PySem PySem.Spec PyProof.Rows
theorem relO_low_NotSaid {v : V} {v' : Value} (r : RelV v v') (f : Str) : RelO (List.lookup f [(("chance" : Str), v)]) (if f = "chance" then some v' else none) := by
  by_cases hw : f = "chance"
  · subst hw
    rw [if_pos rfl]
    have q : List.lookup ("chance" : Str) [(("chance" : Str), v)] = some v := by simp [List.lookup]
    rw [q]
    exact r
  · rw [if_neg hw]
    have qw : (f == ("chance" : Str)) = false := by simpa using hw
    have q2 : List.lookup f [(("chance" : Str), v)] = none := by simp [List.lookup, qw]
    rw [q2]
    trivial
section
variable {X : Cx} {C fI : Addr}
/-- Low(e) -/
def tMkLow_NotSaid (C : Addr) (ta : TA) : St → Hp → XK → Prop := fun σ H Q => ta σ H fun vs H1 => ∃ v, vs = [v] ∧ ∀ d, H1 d = none → Q (.ref C) (some d) (upd H1 d (.xd [(("chance" : Str), v)]))
theorem pmk_low_NotSaid {a : Expr} {ta : TA} {p pos : Pos} {k : Nat} (T : PySem.LowX_NotSaid.LowTxt_NotSaid X.K X.mg C fI) (hr : Room k X.A) (ha : PA X [a] ta) (hg : Gl X "NotSaid" := by rfl)
    (he : starEach (a :: []) X.env = (false, eval a X.env) :: starEach [] X.env := by rfl) (hpl : (backTo pos (starEach [] X.env)).any (·.1) = false := by rfl) :
    PMk X (.Call (.Name "NotSaid" p) [a] [] pos) (tMkLow_NotSaid C ta) := by
  intro pins s σ H Q I h
  refine wpAny_Call_Name_kw (ld_glob I hg T.gC ?_)
  refine PySem.W.callWith_K (h₀ := X.base) I.ok.mod.kin T.kC (thn (ha.run pos pins s σ H _ I h) fun us s1 hh => ?_) he hpl
  obtain ⟨vs, H1, I1, r1, v, ev, q1⟩ := hh
  subst ev
  refine ⟨I1.kIn, ?_⟩
  cases r1 with
  | cons rv rn =>
    rename_i v' us'
    cases rn
    show wpAny _ _ (call (.ref C) [v']) _ _ _
    have hlim := I1.nolimit
    obtain ⟨hp, g, dr, tk, os⟩ := s1
    refine wpAny_call (PySem.LowX_NotSaid.low_made_NotSaid T I1.kIn hlim (by have := hr.dp; omega) fun h' tk' e d M => ?_)
    show MkP X pins σ Q (.ref e) ⟨h', g, dr, tk', os⟩
    obtain ⟨oe, fv, hoe, hc, hd, hdat, h1⟩ := M.obj
    have hns := M.ns
    obtain ⟨G', g1, g2⟩ := restrict h' fun b => decide (b ≠ e)
    have gk : ∀ b, b ≠ e → G'.get? b = h'.get? b := fun b hb => g1 b (decide_eq_true hb)
    have ge : G'.get? e = none := g2 e (by simp)
    have old : ∀ b o, hp.get? b = some o → G'.get? b = some o := fun b o q => (gk b (Nat.ne_of_lt (Nat.lt_of_lt_of_le (Heap.lt_size q) M.new))).trans (M.keep b o q)
    have ob : ObjOk X.prog X.w (upd H1 d (.xd [(("chance" : Str), v)])) G' d (.xd [(("chance" : Str), v)]) :=
      ⟨_, hns.at (fun o q => (gk d M.dne).trans q), fun f => relO_low_NotSaid rv f⟩
    have J : Inv X pins σ (upd H1 d (.xd [(("chance" : Str), v)])) ⟨G', g, dr, tk', os⟩ := I1.laid (t' := tk') old M.dbig ob
    refine ⟨e, oe, fv, ⟨G', g, dr, tk', os⟩, _, .ref C, some d, rfl, J, fun b o q => ?_, ge, hoe, ⟨hc, hd⟩, hdat, h1, ?_, rfl, I1.bare, raises_own T.exC T.tyC, q1 d (I1.hok.fresh M.dbig)⟩
    · by_cases hb : b = e
      · have q' : G'.get? b = some o := q
        rw [hb, ge] at q'; cases q'
      · exact (gk b hb).symm.trans q
    · rw [upd_ne (Ne.symm M.dne)]
      exact I1.hok.fresh M.new
/-- NotSaid(e), held as a value -/
theorem pe_lowV_NotSaid {a : Expr} {ta : TA} {p pos : Pos} {k : Nat} (T : PySem.LowX_NotSaid.LowTxt_NotSaid X.K X.mg C fI) (hr : Room k X.A) (ha : PA X [a] ta) (hg : Gl X "NotSaid" := by rfl)
    (he : starEach (a :: []) X.env = (false, eval a X.env) :: starEach [] X.env := by rfl) (hpl : (backTo pos (starEach [] X.env)).any (·.1) = false := by rfl) :
    PE X (.Call (.Name "NotSaid" p) [a] [] pos) (tLowV C "chance" ta) := by
  refine .mk fun pins s σ H Q I h => ?_
  refine wpAny_Call_Name_kw (ld_glob I hg T.gC ?_)
  refine PySem.W.callWith_K (h₀ := X.base) I.ok.mod.kin T.kC (thn (ha.run pos pins s σ H _ I h) fun us s1 hh => ?_) he hpl
  obtain ⟨vs, H1, I1, r1, v, ev, q1⟩ := hh
  subst ev
  refine ⟨I1.kIn, ?_⟩
  cases r1 with
  | cons rv rn =>
    rename_i v' us'
    cases rn
    show wpAny _ _ (call (.ref C) [v']) _ _ _
    have hlim := I1.nolimit
    obtain ⟨hp, g, dr, tk, os⟩ := s1
    refine wpAny_call (PySem.LowX_NotSaid.low_made_NotSaid T I1.kIn hlim (by have := hr.dp; omega) fun h' tk' e d M => ?_)
    exact lowV_end I1 rv M.keep M.new M.obj M.dbig M.dne M.ns (fun f => relO_low_NotSaid rv f) ⟨v, rfl, q1⟩
/-- NotSaid(chance = e), held as a value -/
theorem pe_lowVk_NotSaid {kws : List Keyword} {tk : TA} {p pos : Pos} {k : Nat} (T : PySem.LowX_NotSaid.LowTxt_NotSaid X.K X.mg C fI) (hr : Room k X.A) (ha : PK X kws tk) (hg : Gl X "NotSaid" := by rfl)
    (hall : (backToKw pos (keywordEach kws X.env)).all (·.1.isSome) = true := by rfl) (hks : (backToKw pos (keywordEach kws X.env)).filterMap (·.1) = [("chance" : Str)] := by rfl)
    (hpl : ((backTo pos (starEach [] X.env)).any (·.1) || (backToKw pos (keywordEach kws X.env)).any (·.1.isNone)) = false := by rfl) :
    PE X (.Call (.Name "NotSaid" p) [] kws pos) (tLowV C "chance" tk) := by
  refine .mk fun pins s σ H Q I h => ?_
  refine wpAny_Call_Name_kw (ld_glob I hg T.gC ?_)
  refine PySem.W.callWith_KW0 (h₀ := X.base) I.ok.mod.kin T.kC hall (thn (ha.run pos pins s σ H _ I h) fun us s1 hh => ?_) hpl
  obtain ⟨vs, H1, I1, r1, v, ev, q1⟩ := hh
  subst ev
  refine ⟨I1.kIn, ?_⟩
  rw [hks]
  cases r1 with
  | cons rv rn =>
    rename_i v' us'
    cases rn
    show wpAny _ _ (call (.ref C) [] [(("chance" : Str), v')]) _ _ _
    have hlim := I1.nolimit
    obtain ⟨hp, g, dr, tk, os⟩ := s1
    refine wpAny_call (PySem.LowX_NotSaid.low_madeK_NotSaid T I1.kIn hlim (by have := hr.dp; omega) fun h' tk' e d M => ?_)
    exact lowV_end I1 rv M.keep M.new M.obj M.dbig M.dne M.ns (fun f => relO_low_NotSaid rv f) ⟨v, rfl, q1⟩
end
end L2

namespace PySem
namespace LowX_BadChance
open PySem.W PySem.Calls PyProof.Rows PySem.HandSPX
/-! ### the text of __init__ -/
def iA (p1 p2 : Pos) : Arguments := { posonlyargs := [], args := [{ arg := "self", annotation := none, pos := p1 }, { arg := "value", annotation := none, pos := p2 }], vararg := none, kwonlyargs := [], kw_defaults := [], kwarg := none, defaults := [] }
def iB (q1 q2 q3 q4 : Pos) : List Stmt := [.Assign [.Attribute (.Name "self" q1) "value" q2] (.Name "value" q3) q4]
def iS : Scope := { kind := .function, names := [(PySem.Str.ofString "self", .local), (PySem.Str.ofString "value", .local)], isGenerator := false, isCoroutine := false, more := [] }
/-- what the written part says of Low, at C, and of its __init__, at fI -/
structure LowTxt_BadChance (K : Frag) (mg : Str → Option Value) (C fI : Addr) : Prop where
  gC : mg "BadChance" = some (.ref C)
  cls : ∃ nm q N bs bm sn sub ab col dd k0 k1 k2 k3 k5, K.lookup C = some (excClassObj nm q C N bs bm true sn sub ab col dd k0 k1 k2 k3 k5 "ValueError.__new__") ∧ refsVE bm = true
  sa : findIn K (.ref C) "__setattr__" = some (some (.builtin "object.__setattr__"))
  ga : findIn K (.ref C) "__getattribute__" = some (some (.builtin "BaseException.__getattribute__"))
  gg : findIn K (.ref C) "__getattr__" = some none
  noN : findIn K (.ref C) "value" = some none
  iC : findIn K (.ref C) "__init__" = some (some (.ref fI))
  tC : typeIn K (.ref fI) = some (.type "function")
  kC : keepIn K (.ref C) = true
  exC : subIn K (.ref C) (.type "BaseException") = some true
  tyC : typeIn K (.ref C) = some (.type "type")
  hdC : hasDictIn K C = true
  te : exmOne K (.ref C) (.ref C) = some true
  fn : ∃ (oc : Value) (od : Option Addr) (doc pm : Value) (an : Option Addr) (cdv ct : Value) (osl : Array (Option Value)) (p1 p2 q1 q2 q3 q4 : Pos),
    K.lookup fI = some ⟨oc, od, .func (fnOf "__init__" "BadChance.__init__" (iA p1 p2) (iB q1 q2 q3 q4) iS .none .none doc pm an cdv ct), osl⟩ ∧ codeIn K cdv "BadChance.__init__" = true
theorem one_size (v : Value) : [v].length ≤ sizeLine := by
  rw [sizeLine_eq]
  exact (by decide : 1 ≤ 16777216)
theorem kept_but {K : Frag} {h h' : Heap} {x : Addr} (X : K.In h) (hx : K.lookup x = none) (k : ∀ b o, b ≠ x → h.get? b = some o → h'.get? b = some o) : K.In h' := fun a o e =>
  k a o (fun z => by rw [z, hx] at e; cases e) (X a o e)
theorem ldC {M : Model} {s : Shared} {name : Str} {scope : Scope} {L a : Addr} {cd : Value} {m : Str → Option Value} {x : Str} {pos : Pos} {v : Value} {Q : Value → Shared → Prop} {A : Around} {E : Value → Shared → Prop} (hn : s.heap.Ns L m) (hv : m x = some v) (h : Q v s)
    (hk : scope.kind = .function := by rfl) (hl : (envOfC name scope L a cd).kindOf x = some .local := by rfl) (hd : (x == ("__debug__" : Str)) = false := by decide) :
    wpAny M A (eval (.Name x pos) (envOfC name scope L a cd)) Q E s := wpAny_Name (wpAny_loadName_local hk hl hn hv h) hd
/-- what __init__ leaves of a fresh exception at x -/
structure InitEnd_BadChance (h h' : Heap) (x C dx t1 : Addr) (v : Value) : Prop where
  keep : ∀ b o, b ≠ x → h.get? b = some o → h'.get? b = some o
  obj : h'.get? x = some { cls := .ref C, dict := some dx, data := .fields #[.ref t1, .none, .none, .none, .bool false, .none] }
  dbig : h.objs.size ≤ dx
  dne : dx ≠ x
  ns : h'.Ns1 dx (fun y => if y = "value" then some v else none)
/-- a made Low -/
structure OwnMade_BadChance (h h' : Heap) (e C d : Addr) (v : Value) : Prop where
  keep : ∀ b o, h.get? b = some o → h'.get? b = some o
  new : h.objs.size ≤ e
  obj : ∃ oe vs, h'.get? e = some oe ∧ oe.cls = .ref C ∧ oe.dict = some d ∧ oe.data = .fields vs ∧ vs[1]? = some .none
  dbig : h.objs.size ≤ d
  dne : d ≠ e
  ns : h'.Ns1 d (fun y => if y = "value" then some v else none)
section
variable {prog : Program} {w : World} {A : Around} {E : Value → Shared → Prop} {R : Result → Shared → Prop} {s : Shared} {K : Frag} {mg : Str → Option Value} {C fI : Addr}
theorem low_init_BadChance (T : LowTxt_BadChance K mg C fI) {x t0 : Addr} {v : Value} (X : K.In s.heap) (hlim : s.heap.NoLimit) (hx : s.heap.get? x = some (excO C t0)) (hnx : K.lookup x = none) (hroom : A.depth < recursionLimit)
    (hq : ∀ h' tk dx, InitEnd_BadChance s.heap h' x C dx t0 v → R (.ok (.ret .none)) { s with heap := h', toks := tk }) :
    codeAny (model prog w) A (.call (.ref fI) ⟨[.ref x, v], []⟩) R s := by
  obtain ⟨oc, od, doc, pm, an, cdv, ct, osl, p1, p2, q1, q2, q3, q4, ho, hcd⟩ := T.fn
  obtain ⟨nm, q, N, bs, bm, sn, sub, ab, col, dd, k0, k1, k2, k3, k5, hC, hbm⟩ := T.cls
  have hcl : clsIn K C = some { name := nm, bases := bs, mro := .ref C :: bm, ns := N, qualname := q, hasDict := true, slotNames := sn, subclasses := sub, abstract := ab, collection := col, hasDel := false } := by unfold clsIn; rw [hC] <;> rfl
  refine Att.call_fn (binds := [("self", .ref x), ("value", v)]) X hlim ho hcd hroom (BindsTo.of_eq (by first | rfl | with_unfolding_all rfl)) (by first | rfl | decide | with_unfolding_all rfl) (fun s₁ IC => ?_) rfl rfl rfl
  obtain ⟨h₁, tk₁, rfl⟩ := IC.toInCall.same
  have k : ∀ b o, s.heap.get? b = some o → h₁.get? b = some o := IC.toInCall.keep
  have hn := IC.toInCall.ns
  have hxL : s.heap.objs.size ≠ x := Nat.ne_of_gt (Heap.lt_size hx)
  have X₁ : K.In h₁ := X.keeps k
  have hx₁ := k _ _ hx
  -- self.by = by
  show wpAny _ _ (execs _ _) _ _ _
  refine wpAny_execs_cons (plainObj_wpAny_Assign_Attribute ?_)
  refine ldC (v := v) hn (by first | rfl | with_unfolding_all rfl | kernel_rfl) (ldC (v := .ref x) hn (by first | rfl | with_unfolding_all rfl | kernel_rfl) ?_)
  refine set_plain X₁ (ox := excO C t0) (od := none) ⟨hx₁, rfl, rfl, trivial⟩ T.sa ?_
  refine exc_osa X₁ hx₁ hcl (show refsVE (.ref C :: bm) = true from hbm) rfl T.noN (fun h₃ tk₃ dx k₃ dn dne hx₃ hn₃ => ?_)
  show wpAny _ _ (execs _ _) _ _ _
  have z : s.heap.objs.size < h₁.objs.size := hn.lt
  exact wpAny_execs_nil (hq h₃ tk₃ dx ⟨fun b o hb e => k₃ b o hb (k b o e), hx₃, Nat.le_of_lt (Nat.lt_of_lt_of_le z dn), dne, hn₃⟩)
theorem low_made_BadChance (T : LowTxt_BadChance K mg C fI) {v : Value} (X : K.In s.heap) (hlim : s.heap.NoLimit) (hroom : A.depth + 1 < recursionLimit)
    (hq : ∀ h' tk e d, OwnMade_BadChance s.heap h' e C d v → R (.ok (.ret (.ref e))) { s with heap := h', toks := tk }) :
    codeAny (model prog w) A (.call (.ref C) ⟨[v], []⟩) R s := by
  obtain ⟨nm, q, N, bs, bm, sn, sub, ab, col, dd, k0, k1, k2, k3, k5, hC, hbm⟩ := T.cls
  obtain ⟨hp, g, dr, tk, os⟩ := s
  have k : ∀ b o, hp.get? b = some o → ((hp.push (kdv_tup [v])).push (excO C hp.objs.size)).get? b = some o := fun b o e => Heap.get?_push_of_some _ (Heap.get?_push_of_some _ e)
  have hget : ((hp.push (kdv_tup [v])).push (excO C hp.objs.size)).get? (hp.objs.size + 1) = some (excO C hp.objs.size) := by heap_get
  have hnx : K.lookup (hp.objs.size + 1) = none := by
    cases e : K.lookup (hp.objs.size + 1) with
    | none => rfl
    | some o =>
      have z : hp.get? (hp.objs.size + 1) = some o := X _ _ e
      exact absurd (Nat.lt_of_succ_lt (Heap.lt_size z)) (Nat.lt_irrefl _)
  refine call_own F.excBase_ValueError (fun X => refsVE_contains X bm hbm) (X _ _ hC) (looks_findIn X T.iC) (fun self => bind_fn X self T.tC) (one_size v) ?_
  refine low_init_BadChance (s := ⟨(hp.push (kdv_tup [v])).push (excO C hp.objs.size), g, dr, tk, os⟩) T (X.keeps k) (hlim.keeps k) hget hnx ?_ fun h' tk' dx ⟨k', hx, dn, dne, hns⟩ => ?_
  · show A.depth + 1 < recursionLimit
    exact hroom
  · have old : ∀ b o, hp.get? b = some o → h'.get? b = some o := fun b o e => k' b o (Nat.ne_of_lt (Nat.lt_succ_of_lt (Heap.lt_size e))) (k b o e)
    have z : hp.objs.size + 1 + 1 ≤ dx := by
      first
        | (simpa only [Heap.size_push] using dn)
        | exact dn
        | (have q := dn; rw [Heap.size_push, Heap.size_push] at q; exact q)
    exact ⟨rfl, hq h' tk' (hp.objs.size + 1) dx ⟨old, Nat.le_succ _, ⟨_, _, hx, rfl, rfl, rfl, rfl⟩, Nat.le_trans (Nat.le_trans (Nat.le_succ _) (Nat.le_succ _)) z, dne, hns⟩⟩
theorem low_initK_BadChance (T : LowTxt_BadChance K mg C fI) {x t0 : Addr} {v : Value} (X : K.In s.heap) (hlim : s.heap.NoLimit) (hx : s.heap.get? x = some (excO C t0)) (hnx : K.lookup x = none) (hroom : A.depth < recursionLimit)
    (hq : ∀ h' tk dx, InitEnd_BadChance s.heap h' x C dx t0 v → R (.ok (.ret .none)) { s with heap := h', toks := tk }) :
    codeAny (model prog w) A (.call (.ref fI) ⟨[.ref x], [(("value" : Str), v)]⟩) R s := by
  obtain ⟨oc, od, doc, pm, an, cdv, ct, osl, p1, p2, q1, q2, q3, q4, ho, hcd⟩ := T.fn
  obtain ⟨nm, q, N, bs, bm, sn, sub, ab, col, dd, k0, k1, k2, k3, k5, hC, hbm⟩ := T.cls
  have hcl : clsIn K C = some { name := nm, bases := bs, mro := .ref C :: bm, ns := N, qualname := q, hasDict := true, slotNames := sn, subclasses := sub, abstract := ab, collection := col, hasDel := false } := by unfold clsIn; rw [hC] <;> rfl
  refine Att.call_fn (binds := [("self", .ref x), ("value", v)]) X hlim ho hcd hroom (BindsTo.of_eq (by first | rfl | with_unfolding_all rfl)) (by first | rfl | decide | with_unfolding_all rfl) (fun s₁ IC => ?_) rfl rfl rfl
  obtain ⟨h₁, tk₁, rfl⟩ := IC.toInCall.same
  have k : ∀ b o, s.heap.get? b = some o → h₁.get? b = some o := IC.toInCall.keep
  have hn := IC.toInCall.ns
  have hxL : s.heap.objs.size ≠ x := Nat.ne_of_gt (Heap.lt_size hx)
  have X₁ : K.In h₁ := X.keeps k
  have hx₁ := k _ _ hx
  -- self.by = by
  show wpAny _ _ (execs _ _) _ _ _
  refine wpAny_execs_cons (plainObj_wpAny_Assign_Attribute ?_)
  refine ldC (v := v) hn (by first | rfl | with_unfolding_all rfl | kernel_rfl) (ldC (v := .ref x) hn (by first | rfl | with_unfolding_all rfl | kernel_rfl) ?_)
  refine set_plain X₁ (ox := excO C t0) (od := none) ⟨hx₁, rfl, rfl, trivial⟩ T.sa ?_
  refine exc_osa X₁ hx₁ hcl (show refsVE (.ref C :: bm) = true from hbm) rfl T.noN (fun h₃ tk₃ dx k₃ dn dne hx₃ hn₃ => ?_)
  show wpAny _ _ (execs _ _) _ _ _
  have z : s.heap.objs.size < h₁.objs.size := hn.lt
  exact wpAny_execs_nil (hq h₃ tk₃ dx ⟨fun b o hb e => k₃ b o hb (k b o e), hx₃, Nat.le_of_lt (Nat.lt_of_lt_of_le z dn), dne, hn₃⟩)
theorem low_madeK_BadChance (T : LowTxt_BadChance K mg C fI) {v : Value} (X : K.In s.heap) (hlim : s.heap.NoLimit) (hroom : A.depth + 1 < recursionLimit)
    (hq : ∀ h' tk e d, OwnMade_BadChance s.heap h' e C d v → R (.ok (.ret (.ref e))) { s with heap := h', toks := tk }) :
    codeAny (model prog w) A (.call (.ref C) ⟨[], [(("value" : Str), v)]⟩) R s := by
  obtain ⟨nm, q, N, bs, bm, sn, sub, ab, col, dd, k0, k1, k2, k3, k5, hC, hbm⟩ := T.cls
  obtain ⟨hp, g, dr, tk, os⟩ := s
  have k : ∀ b o, hp.get? b = some o → ((hp.push (kdv_tup [])).push (excO C hp.objs.size)).get? b = some o := fun b o e => Heap.get?_push_of_some _ (Heap.get?_push_of_some _ e)
  have hget : ((hp.push (kdv_tup [])).push (excO C hp.objs.size)).get? (hp.objs.size + 1) = some (excO C hp.objs.size) := by heap_get
  have hnx : K.lookup (hp.objs.size + 1) = none := by
    cases e : K.lookup (hp.objs.size + 1) with
    | none => rfl
    | some o =>
      have z : hp.get? (hp.objs.size + 1) = some o := X _ _ e
      exact absurd (Nat.lt_of_succ_lt (Heap.lt_size z)) (Nat.lt_irrefl _)
  refine call_ownK F.excBase_ValueError (fun X => refsVE_contains X bm hbm) (X _ _ hC) (looks_findIn (X.keeps k) T.iC) (fun self => bind_fn (X.keeps k) self T.tC) ?_
  refine low_initK_BadChance (s := ⟨(hp.push (kdv_tup [])).push (excO C hp.objs.size), g, dr, tk, os⟩) T (X.keeps k) (hlim.keeps k) hget hnx ?_ fun h' tk' dx ⟨k', hx, dn, dne, hns⟩ => ?_
  · show A.depth + 1 < recursionLimit
    exact hroom
  · have old : ∀ b o, hp.get? b = some o → h'.get? b = some o := fun b o e => k' b o (Nat.ne_of_lt (Nat.lt_succ_of_lt (Heap.lt_size e))) (k b o e)
    have z : hp.objs.size + 1 + 1 ≤ dx := by
      first
        | (simpa only [Heap.size_push] using dn)
        | exact dn
        | (have q := dn; rw [Heap.size_push, Heap.size_push] at q; exact q)
    exact ⟨rfl, hq h' tk' (hp.objs.size + 1) dx ⟨old, Nat.le_succ _, ⟨_, _, hx, rfl, rfl, rfl, rfl⟩, Nat.le_trans (Nat.le_trans (Nat.le_succ _) (Nat.le_succ _)) z, dne, hns⟩⟩
end
end LowX_BadChance
end PySem
namespace L2
open PySem PySem.Spec PyProof.Rows
theorem relO_low_BadChance {v : V} {v' : Value} (r : RelV v v') (f : Str) : RelO (List.lookup f [(("value" : Str), v)]) (if f = "value" then some v' else none) := by
  by_cases hw : f = "value"
  · subst hw
    rw [if_pos rfl]
    have q : List.lookup ("value" : Str) [(("value" : Str), v)] = some v := by simp [List.lookup]
    rw [q]
    exact r
  · rw [if_neg hw]
    have qw : (f == ("value" : Str)) = false := by simpa using hw
    have q2 : List.lookup f [(("value" : Str), v)] = none := by simp [List.lookup, qw]
    rw [q2]
    trivial
section
variable {X : Cx} {C fI : Addr}
/-- Low(e) -/
def tMkLow_BadChance (C : Addr) (ta : TA) : St → Hp → XK → Prop := fun σ H Q => ta σ H fun vs H1 => ∃ v, vs = [v] ∧ ∀ d, H1 d = none → Q (.ref C) (some d) (upd H1 d (.xd [(("value" : Str), v)]))
theorem pmk_low_BadChance {a : Expr} {ta : TA} {p pos : Pos} {k : Nat} (T : PySem.LowX_BadChance.LowTxt_BadChance X.K X.mg C fI) (hr : Room k X.A) (ha : PA X [a] ta) (hg : Gl X "BadChance" := by rfl)
    (he : starEach (a :: []) X.env = (false, eval a X.env) :: starEach [] X.env := by rfl) (hpl : (backTo pos (starEach [] X.env)).any (·.1) = false := by rfl) :
    PMk X (.Call (.Name "BadChance" p) [a] [] pos) (tMkLow_BadChance C ta) := by
  intro pins s σ H Q I h
  refine wpAny_Call_Name_kw (ld_glob I hg T.gC ?_)
  refine PySem.W.callWith_K (h₀ := X.base) I.ok.mod.kin T.kC (thn (ha.run pos pins s σ H _ I h) fun us s1 hh => ?_) he hpl
  obtain ⟨vs, H1, I1, r1, v, ev, q1⟩ := hh
  subst ev
  refine ⟨I1.kIn, ?_⟩
  cases r1 with
  | cons rv rn =>
    rename_i v' us'
    cases rn
    show wpAny _ _ (call (.ref C) [v']) _ _ _
    have hlim := I1.nolimit
    obtain ⟨hp, g, dr, tk, os⟩ := s1
    refine wpAny_call (PySem.LowX_BadChance.low_made_BadChance T I1.kIn hlim (by have := hr.dp; omega) fun h' tk' e d M => ?_)
    show MkP X pins σ Q (.ref e) ⟨h', g, dr, tk', os⟩
    obtain ⟨oe, fv, hoe, hc, hd, hdat, h1⟩ := M.obj
    have hns := M.ns
    obtain ⟨G', g1, g2⟩ := restrict h' fun b => decide (b ≠ e)
    have gk : ∀ b, b ≠ e → G'.get? b = h'.get? b := fun b hb => g1 b (decide_eq_true hb)
    have ge : G'.get? e = none := g2 e (by simp)
    have old : ∀ b o, hp.get? b = some o → G'.get? b = some o := fun b o q => (gk b (Nat.ne_of_lt (Nat.lt_of_lt_of_le (Heap.lt_size q) M.new))).trans (M.keep b o q)
    have ob : ObjOk X.prog X.w (upd H1 d (.xd [(("value" : Str), v)])) G' d (.xd [(("value" : Str), v)]) :=
      ⟨_, hns.at (fun o q => (gk d M.dne).trans q), fun f => relO_low_BadChance rv f⟩
    have J : Inv X pins σ (upd H1 d (.xd [(("value" : Str), v)])) ⟨G', g, dr, tk', os⟩ := I1.laid (t' := tk') old M.dbig ob
    refine ⟨e, oe, fv, ⟨G', g, dr, tk', os⟩, _, .ref C, some d, rfl, J, fun b o q => ?_, ge, hoe, ⟨hc, hd⟩, hdat, h1, ?_, rfl, I1.bare, raises_own T.exC T.tyC, q1 d (I1.hok.fresh M.dbig)⟩
    · by_cases hb : b = e
      · have q' : G'.get? b = some o := q
        rw [hb, ge] at q'; cases q'
      · exact (gk b hb).symm.trans q
    · rw [upd_ne (Ne.symm M.dne)]
      exact I1.hok.fresh M.new
/-- BadChance(e), held as a value -/
theorem pe_lowV_BadChance {a : Expr} {ta : TA} {p pos : Pos} {k : Nat} (T : PySem.LowX_BadChance.LowTxt_BadChance X.K X.mg C fI) (hr : Room k X.A) (ha : PA X [a] ta) (hg : Gl X "BadChance" := by rfl)
    (he : starEach (a :: []) X.env = (false, eval a X.env) :: starEach [] X.env := by rfl) (hpl : (backTo pos (starEach [] X.env)).any (·.1) = false := by rfl) :
    PE X (.Call (.Name "BadChance" p) [a] [] pos) (tLowV C "value" ta) := by
  refine .mk fun pins s σ H Q I h => ?_
  refine wpAny_Call_Name_kw (ld_glob I hg T.gC ?_)
  refine PySem.W.callWith_K (h₀ := X.base) I.ok.mod.kin T.kC (thn (ha.run pos pins s σ H _ I h) fun us s1 hh => ?_) he hpl
  obtain ⟨vs, H1, I1, r1, v, ev, q1⟩ := hh
  subst ev
  refine ⟨I1.kIn, ?_⟩
  cases r1 with
  | cons rv rn =>
    rename_i v' us'
    cases rn
    show wpAny _ _ (call (.ref C) [v']) _ _ _
    have hlim := I1.nolimit
    obtain ⟨hp, g, dr, tk, os⟩ := s1
    refine wpAny_call (PySem.LowX_BadChance.low_made_BadChance T I1.kIn hlim (by have := hr.dp; omega) fun h' tk' e d M => ?_)
    exact lowV_end I1 rv M.keep M.new M.obj M.dbig M.dne M.ns (fun f => relO_low_BadChance rv f) ⟨v, rfl, q1⟩
/-- BadChance(value = e), held as a value -/
theorem pe_lowVk_BadChance {kws : List Keyword} {tk : TA} {p pos : Pos} {k : Nat} (T : PySem.LowX_BadChance.LowTxt_BadChance X.K X.mg C fI) (hr : Room k X.A) (ha : PK X kws tk) (hg : Gl X "BadChance" := by rfl)
    (hall : (backToKw pos (keywordEach kws X.env)).all (·.1.isSome) = true := by rfl) (hks : (backToKw pos (keywordEach kws X.env)).filterMap (·.1) = [("value" : Str)] := by rfl)
    (hpl : ((backTo pos (starEach [] X.env)).any (·.1) || (backToKw pos (keywordEach kws X.env)).any (·.1.isNone)) = false := by rfl) :
    PE X (.Call (.Name "BadChance" p) [] kws pos) (tLowV C "value" tk) := by
  refine .mk fun pins s σ H Q I h => ?_
  refine wpAny_Call_Name_kw (ld_glob I hg T.gC ?_)
  refine PySem.W.callWith_KW0 (h₀ := X.base) I.ok.mod.kin T.kC hall (thn (ha.run pos pins s σ H _ I h) fun us s1 hh => ?_) hpl
  obtain ⟨vs, H1, I1, r1, v, ev, q1⟩ := hh
  subst ev
  refine ⟨I1.kIn, ?_⟩
  rw [hks]
  cases r1 with
  | cons rv rn =>
    rename_i v' us'
    cases rn
    show wpAny _ _ (call (.ref C) [] [(("value" : Str), v')]) _ _ _
    have hlim := I1.nolimit
    obtain ⟨hp, g, dr, tk, os⟩ := s1
    refine wpAny_call (PySem.LowX_BadChance.low_madeK_BadChance T I1.kIn hlim (by have := hr.dp; omega) fun h' tk' e d M => ?_)
    exact lowV_end I1 rv M.keep M.new M.obj M.dbig M.dne M.ns (fun f => relO_low_BadChance rv f) ⟨v, rfl, q1⟩
end
end L2

namespace PySem
namespace LowX_BadActor
open PySem.W PySem.Calls PyProof.Rows PySem.HandSPX
/-! ### the text of __init__ -/
def iA (p1 p2 : Pos) : Arguments := { posonlyargs := [], args := [{ arg := "self", annotation := none, pos := p1 }, { arg := "actor", annotation := none, pos := p2 }], vararg := none, kwonlyargs := [], kw_defaults := [], kwarg := none, defaults := [] }
def iB (q1 q2 q3 q4 : Pos) : List Stmt := [.Assign [.Attribute (.Name "self" q1) "actor" q2] (.Name "actor" q3) q4]
def iS : Scope := { kind := .function, names := [(PySem.Str.ofString "self", .local), (PySem.Str.ofString "actor", .local)], isGenerator := false, isCoroutine := false, more := [] }
/-- what the written part says of Low, at C, and of its __init__, at fI -/
structure LowTxt_BadActor (K : Frag) (mg : Str → Option Value) (C fI : Addr) : Prop where
  gC : mg "BadActor" = some (.ref C)
  cls : ∃ nm q N bs bm sn sub ab col dd k0 k1 k2 k3 k5, K.lookup C = some (excClassObj nm q C N bs bm true sn sub ab col dd k0 k1 k2 k3 k5 "ValueError.__new__") ∧ refsVE bm = true
  sa : findIn K (.ref C) "__setattr__" = some (some (.builtin "object.__setattr__"))
  ga : findIn K (.ref C) "__getattribute__" = some (some (.builtin "BaseException.__getattribute__"))
  gg : findIn K (.ref C) "__getattr__" = some none
  noN : findIn K (.ref C) "actor" = some none
  iC : findIn K (.ref C) "__init__" = some (some (.ref fI))
  tC : typeIn K (.ref fI) = some (.type "function")
  kC : keepIn K (.ref C) = true
  exC : subIn K (.ref C) (.type "BaseException") = some true
  tyC : typeIn K (.ref C) = some (.type "type")
  hdC : hasDictIn K C = true
  te : exmOne K (.ref C) (.ref C) = some true
  fn : ∃ (oc : Value) (od : Option Addr) (doc pm : Value) (an : Option Addr) (cdv ct : Value) (osl : Array (Option Value)) (p1 p2 q1 q2 q3 q4 : Pos),
    K.lookup fI = some ⟨oc, od, .func (fnOf "__init__" "BadActor.__init__" (iA p1 p2) (iB q1 q2 q3 q4) iS .none .none doc pm an cdv ct), osl⟩ ∧ codeIn K cdv "BadActor.__init__" = true
theorem one_size (v : Value) : [v].length ≤ sizeLine := by
  rw [sizeLine_eq]
  exact (by decide : 1 ≤ 16777216)
theorem kept_but {K : Frag} {h h' : Heap} {x : Addr} (X : K.In h) (hx : K.lookup x = none) (k : ∀ b o, b ≠ x → h.get? b = some o → h'.get? b = some o) : K.In h' := fun a o e =>
  k a o (fun z => by rw [z, hx] at e; cases e) (X a o e)
theorem ldC {M : Model} {s : Shared} {name : Str} {scope : Scope} {L a : Addr} {cd : Value} {m : Str → Option Value} {x : Str} {pos : Pos} {v : Value} {Q : Value → Shared → Prop} {A : Around} {E : Value → Shared → Prop} (hn : s.heap.Ns L m) (hv : m x = some v) (h : Q v s)
    (hk : scope.kind = .function := by rfl) (hl : (envOfC name scope L a cd).kindOf x = some .local := by rfl) (hd : (x == ("__debug__" : Str)) = false := by decide) :
    wpAny M A (eval (.Name x pos) (envOfC name scope L a cd)) Q E s := wpAny_Name (wpAny_loadName_local hk hl hn hv h) hd
/-- what __init__ leaves of a fresh exception at x -/
structure InitEnd_BadActor (h h' : Heap) (x C dx t1 : Addr) (v : Value) : Prop where
  keep : ∀ b o, b ≠ x → h.get? b = some o → h'.get? b = some o
  obj : h'.get? x = some { cls := .ref C, dict := some dx, data := .fields #[.ref t1, .none, .none, .none, .bool false, .none] }
  dbig : h.objs.size ≤ dx
  dne : dx ≠ x
  ns : h'.Ns1 dx (fun y => if y = "actor" then some v else none)
/-- a made Low -/
structure OwnMade_BadActor (h h' : Heap) (e C d : Addr) (v : Value) : Prop where
  keep : ∀ b o, h.get? b = some o → h'.get? b = some o
  new : h.objs.size ≤ e
  obj : ∃ oe vs, h'.get? e = some oe ∧ oe.cls = .ref C ∧ oe.dict = some d ∧ oe.data = .fields vs ∧ vs[1]? = some .none
  dbig : h.objs.size ≤ d
  dne : d ≠ e
  ns : h'.Ns1 d (fun y => if y = "actor" then some v else none)
section
variable {prog : Program} {w : World} {A : Around} {E : Value → Shared → Prop} {R : Result → Shared → Prop} {s : Shared} {K : Frag} {mg : Str → Option Value} {C fI : Addr}
theorem low_init_BadActor (T : LowTxt_BadActor K mg C fI) {x t0 : Addr} {v : Value} (X : K.In s.heap) (hlim : s.heap.NoLimit) (hx : s.heap.get? x = some (excO C t0)) (hnx : K.lookup x = none) (hroom : A.depth < recursionLimit)
    (hq : ∀ h' tk dx, InitEnd_BadActor s.heap h' x C dx t0 v → R (.ok (.ret .none)) { s with heap := h', toks := tk }) :
    codeAny (model prog w) A (.call (.ref fI) ⟨[.ref x, v], []⟩) R s := by
  obtain ⟨oc, od, doc, pm, an, cdv, ct, osl, p1, p2, q1, q2, q3, q4, ho, hcd⟩ := T.fn
  obtain ⟨nm, q, N, bs, bm, sn, sub, ab, col, dd, k0, k1, k2, k3, k5, hC, hbm⟩ := T.cls
  have hcl : clsIn K C = some { name := nm, bases := bs, mro := .ref C :: bm, ns := N, qualname := q, hasDict := true, slotNames := sn, subclasses := sub, abstract := ab, collection := col, hasDel := false } := by unfold clsIn; rw [hC] <;> rfl
  refine Att.call_fn (binds := [("self", .ref x), ("actor", v)]) X hlim ho hcd hroom (BindsTo.of_eq (by first | rfl | with_unfolding_all rfl)) (by first | rfl | decide | with_unfolding_all rfl) (fun s₁ IC => ?_) rfl rfl rfl
  obtain ⟨h₁, tk₁, rfl⟩ := IC.toInCall.same
  have k : ∀ b o, s.heap.get? b = some o → h₁.get? b = some o := IC.toInCall.keep
  have hn := IC.toInCall.ns
  have hxL : s.heap.objs.size ≠ x := Nat.ne_of_gt (Heap.lt_size hx)
  have X₁ : K.In h₁ := X.keeps k
  have hx₁ := k _ _ hx
  -- self.by = by
  show wpAny _ _ (execs _ _) _ _ _
  refine wpAny_execs_cons (plainObj_wpAny_Assign_Attribute ?_)
  refine ldC (v := v) hn (by first | rfl | with_unfolding_all rfl | kernel_rfl) (ldC (v := .ref x) hn (by first | rfl | with_unfolding_all rfl | kernel_rfl) ?_)
  refine set_plain X₁ (ox := excO C t0) (od := none) ⟨hx₁, rfl, rfl, trivial⟩ T.sa ?_
  refine exc_osa X₁ hx₁ hcl (show refsVE (.ref C :: bm) = true from hbm) rfl T.noN (fun h₃ tk₃ dx k₃ dn dne hx₃ hn₃ => ?_)
  show wpAny _ _ (execs _ _) _ _ _
  have z : s.heap.objs.size < h₁.objs.size := hn.lt
  exact wpAny_execs_nil (hq h₃ tk₃ dx ⟨fun b o hb e => k₃ b o hb (k b o e), hx₃, Nat.le_of_lt (Nat.lt_of_lt_of_le z dn), dne, hn₃⟩)
theorem low_made_BadActor (T : LowTxt_BadActor K mg C fI) {v : Value} (X : K.In s.heap) (hlim : s.heap.NoLimit) (hroom : A.depth + 1 < recursionLimit)
    (hq : ∀ h' tk e d, OwnMade_BadActor s.heap h' e C d v → R (.ok (.ret (.ref e))) { s with heap := h', toks := tk }) :
    codeAny (model prog w) A (.call (.ref C) ⟨[v], []⟩) R s := by
  obtain ⟨nm, q, N, bs, bm, sn, sub, ab, col, dd, k0, k1, k2, k3, k5, hC, hbm⟩ := T.cls
  obtain ⟨hp, g, dr, tk, os⟩ := s
  have k : ∀ b o, hp.get? b = some o → ((hp.push (kdv_tup [v])).push (excO C hp.objs.size)).get? b = some o := fun b o e => Heap.get?_push_of_some _ (Heap.get?_push_of_some _ e)
  have hget : ((hp.push (kdv_tup [v])).push (excO C hp.objs.size)).get? (hp.objs.size + 1) = some (excO C hp.objs.size) := by heap_get
  have hnx : K.lookup (hp.objs.size + 1) = none := by
    cases e : K.lookup (hp.objs.size + 1) with
    | none => rfl
    | some o =>
      have z : hp.get? (hp.objs.size + 1) = some o := X _ _ e
      exact absurd (Nat.lt_of_succ_lt (Heap.lt_size z)) (Nat.lt_irrefl _)
  refine call_own F.excBase_ValueError (fun X => refsVE_contains X bm hbm) (X _ _ hC) (looks_findIn X T.iC) (fun self => bind_fn X self T.tC) (one_size v) ?_
  refine low_init_BadActor (s := ⟨(hp.push (kdv_tup [v])).push (excO C hp.objs.size), g, dr, tk, os⟩) T (X.keeps k) (hlim.keeps k) hget hnx ?_ fun h' tk' dx ⟨k', hx, dn, dne, hns⟩ => ?_
  · show A.depth + 1 < recursionLimit
    exact hroom
  · have old : ∀ b o, hp.get? b = some o → h'.get? b = some o := fun b o e => k' b o (Nat.ne_of_lt (Nat.lt_succ_of_lt (Heap.lt_size e))) (k b o e)
    have z : hp.objs.size + 1 + 1 ≤ dx := by
      first
        | (simpa only [Heap.size_push] using dn)
        | exact dn
        | (have q := dn; rw [Heap.size_push, Heap.size_push] at q; exact q)
    exact ⟨rfl, hq h' tk' (hp.objs.size + 1) dx ⟨old, Nat.le_succ _, ⟨_, _, hx, rfl, rfl, rfl, rfl⟩, Nat.le_trans (Nat.le_trans (Nat.le_succ _) (Nat.le_succ _)) z, dne, hns⟩⟩
theorem low_initK_BadActor (T : LowTxt_BadActor K mg C fI) {x t0 : Addr} {v : Value} (X : K.In s.heap) (hlim : s.heap.NoLimit) (hx : s.heap.get? x = some (excO C t0)) (hnx : K.lookup x = none) (hroom : A.depth < recursionLimit)
    (hq : ∀ h' tk dx, InitEnd_BadActor s.heap h' x C dx t0 v → R (.ok (.ret .none)) { s with heap := h', toks := tk }) :
    codeAny (model prog w) A (.call (.ref fI) ⟨[.ref x], [(("actor" : Str), v)]⟩) R s := by
  obtain ⟨oc, od, doc, pm, an, cdv, ct, osl, p1, p2, q1, q2, q3, q4, ho, hcd⟩ := T.fn
  obtain ⟨nm, q, N, bs, bm, sn, sub, ab, col, dd, k0, k1, k2, k3, k5, hC, hbm⟩ := T.cls
  have hcl : clsIn K C = some { name := nm, bases := bs, mro := .ref C :: bm, ns := N, qualname := q, hasDict := true, slotNames := sn, subclasses := sub, abstract := ab, collection := col, hasDel := false } := by unfold clsIn; rw [hC] <;> rfl
  refine Att.call_fn (binds := [("self", .ref x), ("actor", v)]) X hlim ho hcd hroom (BindsTo.of_eq (by first | rfl | with_unfolding_all rfl)) (by first | rfl | decide | with_unfolding_all rfl) (fun s₁ IC => ?_) rfl rfl rfl
  obtain ⟨h₁, tk₁, rfl⟩ := IC.toInCall.same
  have k : ∀ b o, s.heap.get? b = some o → h₁.get? b = some o := IC.toInCall.keep
  have hn := IC.toInCall.ns
  have hxL : s.heap.objs.size ≠ x := Nat.ne_of_gt (Heap.lt_size hx)
  have X₁ : K.In h₁ := X.keeps k
  have hx₁ := k _ _ hx
  -- self.by = by
  show wpAny _ _ (execs _ _) _ _ _
  refine wpAny_execs_cons (plainObj_wpAny_Assign_Attribute ?_)
  refine ldC (v := v) hn (by first | rfl | with_unfolding_all rfl | kernel_rfl) (ldC (v := .ref x) hn (by first | rfl | with_unfolding_all rfl | kernel_rfl) ?_)
  refine set_plain X₁ (ox := excO C t0) (od := none) ⟨hx₁, rfl, rfl, trivial⟩ T.sa ?_
  refine exc_osa X₁ hx₁ hcl (show refsVE (.ref C :: bm) = true from hbm) rfl T.noN (fun h₃ tk₃ dx k₃ dn dne hx₃ hn₃ => ?_)
  show wpAny _ _ (execs _ _) _ _ _
  have z : s.heap.objs.size < h₁.objs.size := hn.lt
  exact wpAny_execs_nil (hq h₃ tk₃ dx ⟨fun b o hb e => k₃ b o hb (k b o e), hx₃, Nat.le_of_lt (Nat.lt_of_lt_of_le z dn), dne, hn₃⟩)
theorem low_madeK_BadActor (T : LowTxt_BadActor K mg C fI) {v : Value} (X : K.In s.heap) (hlim : s.heap.NoLimit) (hroom : A.depth + 1 < recursionLimit)
    (hq : ∀ h' tk e d, OwnMade_BadActor s.heap h' e C d v → R (.ok (.ret (.ref e))) { s with heap := h', toks := tk }) :
    codeAny (model prog w) A (.call (.ref C) ⟨[], [(("actor" : Str), v)]⟩) R s := by
  obtain ⟨nm, q, N, bs, bm, sn, sub, ab, col, dd, k0, k1, k2, k3, k5, hC, hbm⟩ := T.cls
  obtain ⟨hp, g, dr, tk, os⟩ := s
  have k : ∀ b o, hp.get? b = some o → ((hp.push (kdv_tup [])).push (excO C hp.objs.size)).get? b = some o := fun b o e => Heap.get?_push_of_some _ (Heap.get?_push_of_some _ e)
  have hget : ((hp.push (kdv_tup [])).push (excO C hp.objs.size)).get? (hp.objs.size + 1) = some (excO C hp.objs.size) := by heap_get
  have hnx : K.lookup (hp.objs.size + 1) = none := by
    cases e : K.lookup (hp.objs.size + 1) with
    | none => rfl
    | some o =>
      have z : hp.get? (hp.objs.size + 1) = some o := X _ _ e
      exact absurd (Nat.lt_of_succ_lt (Heap.lt_size z)) (Nat.lt_irrefl _)
  refine call_ownK F.excBase_ValueError (fun X => refsVE_contains X bm hbm) (X _ _ hC) (looks_findIn (X.keeps k) T.iC) (fun self => bind_fn (X.keeps k) self T.tC) ?_
  refine low_initK_BadActor (s := ⟨(hp.push (kdv_tup [])).push (excO C hp.objs.size), g, dr, tk, os⟩) T (X.keeps k) (hlim.keeps k) hget hnx ?_ fun h' tk' dx ⟨k', hx, dn, dne, hns⟩ => ?_
  · show A.depth + 1 < recursionLimit
    exact hroom
  · have old : ∀ b o, hp.get? b = some o → h'.get? b = some o := fun b o e => k' b o (Nat.ne_of_lt (Nat.lt_succ_of_lt (Heap.lt_size e))) (k b o e)
    have z : hp.objs.size + 1 + 1 ≤ dx := by
      first
        | (simpa only [Heap.size_push] using dn)
        | exact dn
        | (have q := dn; rw [Heap.size_push, Heap.size_push] at q; exact q)
    exact ⟨rfl, hq h' tk' (hp.objs.size + 1) dx ⟨old, Nat.le_succ _, ⟨_, _, hx, rfl, rfl, rfl, rfl⟩, Nat.le_trans (Nat.le_trans (Nat.le_succ _) (Nat.le_succ _)) z, dne, hns⟩⟩
end
end LowX_BadActor
end PySem
namespace L2
open PySem PySem.Spec PyProof.Rows
theorem relO_low_BadActor {v : V} {v' : Value} (r : RelV v v') (f : Str) : RelO (List.lookup f [(("actor" : Str), v)]) (if f = "actor" then some v' else none) := by
  by_cases hw : f = "actor"
  · subst hw
    rw [if_pos rfl]
    have q : List.lookup ("actor" : Str) [(("actor" : Str), v)] = some v := by simp [List.lookup]
    rw [q]
    exact r
  · rw [if_neg hw]
    have qw : (f == ("actor" : Str)) = false := by simpa using hw
    have q2 : List.lookup f [(("actor" : Str), v)] = none := by simp [List.lookup, qw]
    rw [q2]
    trivial
section
variable {X : Cx} {C fI : Addr}
/-- Low(e) -/
def tMkLow_BadActor (C : Addr) (ta : TA) : St → Hp → XK → Prop := fun σ H Q => ta σ H fun vs H1 => ∃ v, vs = [v] ∧ ∀ d, H1 d = none → Q (.ref C) (some d) (upd H1 d (.xd [(("actor" : Str), v)]))
theorem pmk_low_BadActor {a : Expr} {ta : TA} {p pos : Pos} {k : Nat} (T : PySem.LowX_BadActor.LowTxt_BadActor X.K X.mg C fI) (hr : Room k X.A) (ha : PA X [a] ta) (hg : Gl X "BadActor" := by rfl)
    (he : starEach (a :: []) X.env = (false, eval a X.env) :: starEach [] X.env := by rfl) (hpl : (backTo pos (starEach [] X.env)).any (·.1) = false := by rfl) :
    PMk X (.Call (.Name "BadActor" p) [a] [] pos) (tMkLow_BadActor C ta) := by
  intro pins s σ H Q I h
  refine wpAny_Call_Name_kw (ld_glob I hg T.gC ?_)
  refine PySem.W.callWith_K (h₀ := X.base) I.ok.mod.kin T.kC (thn (ha.run pos pins s σ H _ I h) fun us s1 hh => ?_) he hpl
  obtain ⟨vs, H1, I1, r1, v, ev, q1⟩ := hh
  subst ev
  refine ⟨I1.kIn, ?_⟩
  cases r1 with
  | cons rv rn =>
    rename_i v' us'
    cases rn
    show wpAny _ _ (call (.ref C) [v']) _ _ _
    have hlim := I1.nolimit
    obtain ⟨hp, g, dr, tk, os⟩ := s1
    refine wpAny_call (PySem.LowX_BadActor.low_made_BadActor T I1.kIn hlim (by have := hr.dp; omega) fun h' tk' e d M => ?_)
    show MkP X pins σ Q (.ref e) ⟨h', g, dr, tk', os⟩
    obtain ⟨oe, fv, hoe, hc, hd, hdat, h1⟩ := M.obj
    have hns := M.ns
    obtain ⟨G', g1, g2⟩ := restrict h' fun b => decide (b ≠ e)
    have gk : ∀ b, b ≠ e → G'.get? b = h'.get? b := fun b hb => g1 b (decide_eq_true hb)
    have ge : G'.get? e = none := g2 e (by simp)
    have old : ∀ b o, hp.get? b = some o → G'.get? b = some o := fun b o q => (gk b (Nat.ne_of_lt (Nat.lt_of_lt_of_le (Heap.lt_size q) M.new))).trans (M.keep b o q)
    have ob : ObjOk X.prog X.w (upd H1 d (.xd [(("actor" : Str), v)])) G' d (.xd [(("actor" : Str), v)]) :=
      ⟨_, hns.at (fun o q => (gk d M.dne).trans q), fun f => relO_low_BadActor rv f⟩
    have J : Inv X pins σ (upd H1 d (.xd [(("actor" : Str), v)])) ⟨G', g, dr, tk', os⟩ := I1.laid (t' := tk') old M.dbig ob
    refine ⟨e, oe, fv, ⟨G', g, dr, tk', os⟩, _, .ref C, some d, rfl, J, fun b o q => ?_, ge, hoe, ⟨hc, hd⟩, hdat, h1, ?_, rfl, I1.bare, raises_own T.exC T.tyC, q1 d (I1.hok.fresh M.dbig)⟩
    · by_cases hb : b = e
      · have q' : G'.get? b = some o := q
        rw [hb, ge] at q'; cases q'
      · exact (gk b hb).symm.trans q
    · rw [upd_ne (Ne.symm M.dne)]
      exact I1.hok.fresh M.new
/-- BadActor(e), held as a value -/
theorem pe_lowV_BadActor {a : Expr} {ta : TA} {p pos : Pos} {k : Nat} (T : PySem.LowX_BadActor.LowTxt_BadActor X.K X.mg C fI) (hr : Room k X.A) (ha : PA X [a] ta) (hg : Gl X "BadActor" := by rfl)
    (he : starEach (a :: []) X.env = (false, eval a X.env) :: starEach [] X.env := by rfl) (hpl : (backTo pos (starEach [] X.env)).any (·.1) = false := by rfl) :
    PE X (.Call (.Name "BadActor" p) [a] [] pos) (tLowV C "actor" ta) := by
  refine .mk fun pins s σ H Q I h => ?_
  refine wpAny_Call_Name_kw (ld_glob I hg T.gC ?_)
  refine PySem.W.callWith_K (h₀ := X.base) I.ok.mod.kin T.kC (thn (ha.run pos pins s σ H _ I h) fun us s1 hh => ?_) he hpl
  obtain ⟨vs, H1, I1, r1, v, ev, q1⟩ := hh
  subst ev
  refine ⟨I1.kIn, ?_⟩
  cases r1 with
  | cons rv rn =>
    rename_i v' us'
    cases rn
    show wpAny _ _ (call (.ref C) [v']) _ _ _
    have hlim := I1.nolimit
    obtain ⟨hp, g, dr, tk, os⟩ := s1
    refine wpAny_call (PySem.LowX_BadActor.low_made_BadActor T I1.kIn hlim (by have := hr.dp; omega) fun h' tk' e d M => ?_)
    exact lowV_end I1 rv M.keep M.new M.obj M.dbig M.dne M.ns (fun f => relO_low_BadActor rv f) ⟨v, rfl, q1⟩
/-- BadActor(actor = e), held as a value -/
theorem pe_lowVk_BadActor {kws : List Keyword} {tk : TA} {p pos : Pos} {k : Nat} (T : PySem.LowX_BadActor.LowTxt_BadActor X.K X.mg C fI) (hr : Room k X.A) (ha : PK X kws tk) (hg : Gl X "BadActor" := by rfl)
    (hall : (backToKw pos (keywordEach kws X.env)).all (·.1.isSome) = true := by rfl) (hks : (backToKw pos (keywordEach kws X.env)).filterMap (·.1) = [("actor" : Str)] := by rfl)
    (hpl : ((backTo pos (starEach [] X.env)).any (·.1) || (backToKw pos (keywordEach kws X.env)).any (·.1.isNone)) = false := by rfl) :
    PE X (.Call (.Name "BadActor" p) [] kws pos) (tLowV C "actor" tk) := by
  refine .mk fun pins s σ H Q I h => ?_
  refine wpAny_Call_Name_kw (ld_glob I hg T.gC ?_)
  refine PySem.W.callWith_KW0 (h₀ := X.base) I.ok.mod.kin T.kC hall (thn (ha.run pos pins s σ H _ I h) fun us s1 hh => ?_) hpl
  obtain ⟨vs, H1, I1, r1, v, ev, q1⟩ := hh
  subst ev
  refine ⟨I1.kIn, ?_⟩
  rw [hks]
  cases r1 with
  | cons rv rn =>
    rename_i v' us'
    cases rn
    show wpAny _ _ (call (.ref C) [] [(("actor" : Str), v')]) _ _ _
    have hlim := I1.nolimit
    obtain ⟨hp, g, dr, tk, os⟩ := s1
    refine wpAny_call (PySem.LowX_BadActor.low_madeK_BadActor T I1.kIn hlim (by have := hr.dp; omega) fun h' tk' e d M => ?_)
    exact lowV_end I1 rv M.keep M.new M.obj M.dbig M.dne M.ns (fun f => relO_low_BadActor rv f) ⟨v, rfl, q1⟩
end
end L2

namespace PySem
namespace LowX_BadScore
open PySem.W PySem.Calls PyProof.Rows PySem.HandSPX
/-! ### the text of __init__ -/
def iA (p1 p2 : Pos) : Arguments := { posonlyargs := [], args := [{ arg := "self", annotation := none, pos := p1 }, { arg := "score", annotation := none, pos := p2 }], vararg := none, kwonlyargs := [], kw_defaults := [], kwarg := none, defaults := [] }
def iB (q1 q2 q3 q4 : Pos) : List Stmt := [.Assign [.Attribute (.Name "self" q1) "score" q2] (.Name "score" q3) q4]
def iS : Scope := { kind := .function, names := [(PySem.Str.ofString "self", .local), (PySem.Str.ofString "score", .local)], isGenerator := false, isCoroutine := false, more := [] }
/-- what the written part says of Low, at C, and of its __init__, at fI -/
structure LowTxt_BadScore (K : Frag) (mg : Str → Option Value) (C fI : Addr) : Prop where
  gC : mg "BadScore" = some (.ref C)
  cls : ∃ nm q N bs bm sn sub ab col dd k0 k1 k2 k3 k5, K.lookup C = some (excClassObj nm q C N bs bm true sn sub ab col dd k0 k1 k2 k3 k5 "ValueError.__new__") ∧ refsVE bm = true
  sa : findIn K (.ref C) "__setattr__" = some (some (.builtin "object.__setattr__"))
  ga : findIn K (.ref C) "__getattribute__" = some (some (.builtin "BaseException.__getattribute__"))
  gg : findIn K (.ref C) "__getattr__" = some none
  noN : findIn K (.ref C) "score" = some none
  iC : findIn K (.ref C) "__init__" = some (some (.ref fI))
  tC : typeIn K (.ref fI) = some (.type "function")
  kC : keepIn K (.ref C) = true
  exC : subIn K (.ref C) (.type "BaseException") = some true
  tyC : typeIn K (.ref C) = some (.type "type")
  hdC : hasDictIn K C = true
  te : exmOne K (.ref C) (.ref C) = some true
  fn : ∃ (oc : Value) (od : Option Addr) (doc pm : Value) (an : Option Addr) (cdv ct : Value) (osl : Array (Option Value)) (p1 p2 q1 q2 q3 q4 : Pos),
    K.lookup fI = some ⟨oc, od, .func (fnOf "__init__" "BadScore.__init__" (iA p1 p2) (iB q1 q2 q3 q4) iS .none .none doc pm an cdv ct), osl⟩ ∧ codeIn K cdv "BadScore.__init__" = true
theorem one_size (v : Value) : [v].length ≤ sizeLine := by
  rw [sizeLine_eq]
  exact (by decide : 1 ≤ 16777216)
theorem kept_but {K : Frag} {h h' : Heap} {x : Addr} (X : K.In h) (hx : K.lookup x = none) (k : ∀ b o, b ≠ x → h.get? b = some o → h'.get? b = some o) : K.In h' := fun a o e =>
  k a o (fun z => by rw [z, hx] at e; cases e) (X a o e)
theorem ldC {M : Model} {s : Shared} {name : Str} {scope : Scope} {L a : Addr} {cd : Value} {m : Str → Option Value} {x : Str} {pos : Pos} {v : Value} {Q : Value → Shared → Prop} {A : Around} {E : Value → Shared → Prop} (hn : s.heap.Ns L m) (hv : m x = some v) (h : Q v s)
    (hk : scope.kind = .function := by rfl) (hl : (envOfC name scope L a cd).kindOf x = some .local := by rfl) (hd : (x == ("__debug__" : Str)) = false := by decide) :
    wpAny M A (eval (.Name x pos) (envOfC name scope L a cd)) Q E s := wpAny_Name (wpAny_loadName_local hk hl hn hv h) hd
/-- what __init__ leaves of a fresh exception at x -/
structure InitEnd_BadScore (h h' : Heap) (x C dx t1 : Addr) (v : Value) : Prop where
  keep : ∀ b o, b ≠ x → h.get? b = some o → h'.get? b = some o
  obj : h'.get? x = some { cls := .ref C, dict := some dx, data := .fields #[.ref t1, .none, .none, .none, .bool false, .none] }
  dbig : h.objs.size ≤ dx
  dne : dx ≠ x
  ns : h'.Ns1 dx (fun y => if y = "score" then some v else none)
/-- a made Low -/
structure OwnMade_BadScore (h h' : Heap) (e C d : Addr) (v : Value) : Prop where
  keep : ∀ b o, h.get? b = some o → h'.get? b = some o
  new : h.objs.size ≤ e
  obj : ∃ oe vs, h'.get? e = some oe ∧ oe.cls = .ref C ∧ oe.dict = some d ∧ oe.data = .fields vs ∧ vs[1]? = some .none
  dbig : h.objs.size ≤ d
  dne : d ≠ e
  ns : h'.Ns1 d (fun y => if y = "score" then some v else none)
section
variable {prog : Program} {w : World} {A : Around} {E : Value → Shared → Prop} {R : Result → Shared → Prop} {s : Shared} {K : Frag} {mg : Str → Option Value} {C fI : Addr}
theorem low_init_BadScore (T : LowTxt_BadScore K mg C fI) {x t0 : Addr} {v : Value} (X : K.In s.heap) (hlim : s.heap.NoLimit) (hx : s.heap.get? x = some (excO C t0)) (hnx : K.lookup x = none) (hroom : A.depth < recursionLimit)
    (hq : ∀ h' tk dx, InitEnd_BadScore s.heap h' x C dx t0 v → R (.ok (.ret .none)) { s with heap := h', toks := tk }) :
    codeAny (model prog w) A (.call (.ref fI) ⟨[.ref x, v], []⟩) R s := by
  obtain ⟨oc, od, doc, pm, an, cdv, ct, osl, p1, p2, q1, q2, q3, q4, ho, hcd⟩ := T.fn
  obtain ⟨nm, q, N, bs, bm, sn, sub, ab, col, dd, k0, k1, k2, k3, k5, hC, hbm⟩ := T.cls
  have hcl : clsIn K C = some { name := nm, bases := bs, mro := .ref C :: bm, ns := N, qualname := q, hasDict := true, slotNames := sn, subclasses := sub, abstract := ab, collection := col, hasDel := false } := by unfold clsIn; rw [hC] <;> rfl
  refine Att.call_fn (binds := [("self", .ref x), ("score", v)]) X hlim ho hcd hroom (BindsTo.of_eq (by first | rfl | with_unfolding_all rfl)) (by first | rfl | decide | with_unfolding_all rfl) (fun s₁ IC => ?_) rfl rfl rfl
  obtain ⟨h₁, tk₁, rfl⟩ := IC.toInCall.same
  have k : ∀ b o, s.heap.get? b = some o → h₁.get? b = some o := IC.toInCall.keep
  have hn := IC.toInCall.ns
  have hxL : s.heap.objs.size ≠ x := Nat.ne_of_gt (Heap.lt_size hx)
  have X₁ : K.In h₁ := X.keeps k
  have hx₁ := k _ _ hx
  -- self.by = by
  show wpAny _ _ (execs _ _) _ _ _
  refine wpAny_execs_cons (plainObj_wpAny_Assign_Attribute ?_)
  refine ldC (v := v) hn (by first | rfl | with_unfolding_all rfl | kernel_rfl) (ldC (v := .ref x) hn (by first | rfl | with_unfolding_all rfl | kernel_rfl) ?_)
  refine set_plain X₁ (ox := excO C t0) (od := none) ⟨hx₁, rfl, rfl, trivial⟩ T.sa ?_
  refine exc_osa X₁ hx₁ hcl (show refsVE (.ref C :: bm) = true from hbm) rfl T.noN (fun h₃ tk₃ dx k₃ dn dne hx₃ hn₃ => ?_)
  show wpAny _ _ (execs _ _) _ _ _
  have z : s.heap.objs.size < h₁.objs.size := hn.lt
  exact wpAny_execs_nil (hq h₃ tk₃ dx ⟨fun b o hb e => k₃ b o hb (k b o e), hx₃, Nat.le_of_lt (Nat.lt_of_lt_of_le z dn), dne, hn₃⟩)
theorem low_made_BadScore (T : LowTxt_BadScore K mg C fI) {v : Value} (X : K.In s.heap) (hlim : s.heap.NoLimit) (hroom : A.depth + 1 < recursionLimit)
    (hq : ∀ h' tk e d, OwnMade_BadScore s.heap h' e C d v → R (.ok (.ret (.ref e))) { s with heap := h', toks := tk }) :
    codeAny (model prog w) A (.call (.ref C) ⟨[v], []⟩) R s := by
  obtain ⟨nm, q, N, bs, bm, sn, sub, ab, col, dd, k0, k1, k2, k3, k5, hC, hbm⟩ := T.cls
  obtain ⟨hp, g, dr, tk, os⟩ := s
  have k : ∀ b o, hp.get? b = some o → ((hp.push (kdv_tup [v])).push (excO C hp.objs.size)).get? b = some o := fun b o e => Heap.get?_push_of_some _ (Heap.get?_push_of_some _ e)
  have hget : ((hp.push (kdv_tup [v])).push (excO C hp.objs.size)).get? (hp.objs.size + 1) = some (excO C hp.objs.size) := by heap_get
  have hnx : K.lookup (hp.objs.size + 1) = none := by
    cases e : K.lookup (hp.objs.size + 1) with
    | none => rfl
    | some o =>
      have z : hp.get? (hp.objs.size + 1) = some o := X _ _ e
      exact absurd (Nat.lt_of_succ_lt (Heap.lt_size z)) (Nat.lt_irrefl _)
  refine call_own F.excBase_ValueError (fun X => refsVE_contains X bm hbm) (X _ _ hC) (looks_findIn X T.iC) (fun self => bind_fn X self T.tC) (one_size v) ?_
  refine low_init_BadScore (s := ⟨(hp.push (kdv_tup [v])).push (excO C hp.objs.size), g, dr, tk, os⟩) T (X.keeps k) (hlim.keeps k) hget hnx ?_ fun h' tk' dx ⟨k', hx, dn, dne, hns⟩ => ?_
  · show A.depth + 1 < recursionLimit
    exact hroom
  · have old : ∀ b o, hp.get? b = some o → h'.get? b = some o := fun b o e => k' b o (Nat.ne_of_lt (Nat.lt_succ_of_lt (Heap.lt_size e))) (k b o e)
    have z : hp.objs.size + 1 + 1 ≤ dx := by
      first
        | (simpa only [Heap.size_push] using dn)
        | exact dn
        | (have q := dn; rw [Heap.size_push, Heap.size_push] at q; exact q)
    exact ⟨rfl, hq h' tk' (hp.objs.size + 1) dx ⟨old, Nat.le_succ _, ⟨_, _, hx, rfl, rfl, rfl, rfl⟩, Nat.le_trans (Nat.le_trans (Nat.le_succ _) (Nat.le_succ _)) z, dne, hns⟩⟩
theorem low_initK_BadScore (T : LowTxt_BadScore K mg C fI) {x t0 : Addr} {v : Value} (X : K.In s.heap) (hlim : s.heap.NoLimit) (hx : s.heap.get? x = some (excO C t0)) (hnx : K.lookup x = none) (hroom : A.depth < recursionLimit)
    (hq : ∀ h' tk dx, InitEnd_BadScore s.heap h' x C dx t0 v → R (.ok (.ret .none)) { s with heap := h', toks := tk }) :
    codeAny (model prog w) A (.call (.ref fI) ⟨[.ref x], [(("score" : Str), v)]⟩) R s := by
  obtain ⟨oc, od, doc, pm, an, cdv, ct, osl, p1, p2, q1, q2, q3, q4, ho, hcd⟩ := T.fn
  obtain ⟨nm, q, N, bs, bm, sn, sub, ab, col, dd, k0, k1, k2, k3, k5, hC, hbm⟩ := T.cls
  have hcl : clsIn K C = some { name := nm, bases := bs, mro := .ref C :: bm, ns := N, qualname := q, hasDict := true, slotNames := sn, subclasses := sub, abstract := ab, collection := col, hasDel := false } := by unfold clsIn; rw [hC] <;> rfl
  refine Att.call_fn (binds := [("self", .ref x), ("score", v)]) X hlim ho hcd hroom (BindsTo.of_eq (by first | rfl | with_unfolding_all rfl)) (by first | rfl | decide | with_unfolding_all rfl) (fun s₁ IC => ?_) rfl rfl rfl
  obtain ⟨h₁, tk₁, rfl⟩ := IC.toInCall.same
  have k : ∀ b o, s.heap.get? b = some o → h₁.get? b = some o := IC.toInCall.keep
  have hn := IC.toInCall.ns
  have hxL : s.heap.objs.size ≠ x := Nat.ne_of_gt (Heap.lt_size hx)
  have X₁ : K.In h₁ := X.keeps k
  have hx₁ := k _ _ hx
  -- self.by = by
  show wpAny _ _ (execs _ _) _ _ _
  refine wpAny_execs_cons (plainObj_wpAny_Assign_Attribute ?_)
  refine ldC (v := v) hn (by first | rfl | with_unfolding_all rfl | kernel_rfl) (ldC (v := .ref x) hn (by first | rfl | with_unfolding_all rfl | kernel_rfl) ?_)
  refine set_plain X₁ (ox := excO C t0) (od := none) ⟨hx₁, rfl, rfl, trivial⟩ T.sa ?_
  refine exc_osa X₁ hx₁ hcl (show refsVE (.ref C :: bm) = true from hbm) rfl T.noN (fun h₃ tk₃ dx k₃ dn dne hx₃ hn₃ => ?_)
  show wpAny _ _ (execs _ _) _ _ _
  have z : s.heap.objs.size < h₁.objs.size := hn.lt
  exact wpAny_execs_nil (hq h₃ tk₃ dx ⟨fun b o hb e => k₃ b o hb (k b o e), hx₃, Nat.le_of_lt (Nat.lt_of_lt_of_le z dn), dne, hn₃⟩)
theorem low_madeK_BadScore (T : LowTxt_BadScore K mg C fI) {v : Value} (X : K.In s.heap) (hlim : s.heap.NoLimit) (hroom : A.depth + 1 < recursionLimit)
    (hq : ∀ h' tk e d, OwnMade_BadScore s.heap h' e C d v → R (.ok (.ret (.ref e))) { s with heap := h', toks := tk }) :
    codeAny (model prog w) A (.call (.ref C) ⟨[], [(("score" : Str), v)]⟩) R s := by
  obtain ⟨nm, q, N, bs, bm, sn, sub, ab, col, dd, k0, k1, k2, k3, k5, hC, hbm⟩ := T.cls
  obtain ⟨hp, g, dr, tk, os⟩ := s
  have k : ∀ b o, hp.get? b = some o → ((hp.push (kdv_tup [])).push (excO C hp.objs.size)).get? b = some o := fun b o e => Heap.get?_push_of_some _ (Heap.get?_push_of_some _ e)
  have hget : ((hp.push (kdv_tup [])).push (excO C hp.objs.size)).get? (hp.objs.size + 1) = some (excO C hp.objs.size) := by heap_get
  have hnx : K.lookup (hp.objs.size + 1) = none := by
    cases e : K.lookup (hp.objs.size + 1) with
    | none => rfl
    | some o =>
      have z : hp.get? (hp.objs.size + 1) = some o := X _ _ e
      exact absurd (Nat.lt_of_succ_lt (Heap.lt_size z)) (Nat.lt_irrefl _)
  refine call_ownK F.excBase_ValueError (fun X => refsVE_contains X bm hbm) (X _ _ hC) (looks_findIn (X.keeps k) T.iC) (fun self => bind_fn (X.keeps k) self T.tC) ?_
  refine low_initK_BadScore (s := ⟨(hp.push (kdv_tup [])).push (excO C hp.objs.size), g, dr, tk, os⟩) T (X.keeps k) (hlim.keeps k) hget hnx ?_ fun h' tk' dx ⟨k', hx, dn, dne, hns⟩ => ?_
  · show A.depth + 1 < recursionLimit
    exact hroom
  · have old : ∀ b o, hp.get? b = some o → h'.get? b = some o := fun b o e => k' b o (Nat.ne_of_lt (Nat.lt_succ_of_lt (Heap.lt_size e))) (k b o e)
    have z : hp.objs.size + 1 + 1 ≤ dx := by
      first
        | (simpa only [Heap.size_push] using dn)
        | exact dn
        | (have q := dn; rw [Heap.size_push, Heap.size_push] at q; exact q)
    exact ⟨rfl, hq h' tk' (hp.objs.size + 1) dx ⟨old, Nat.le_succ _, ⟨_, _, hx, rfl, rfl, rfl, rfl⟩, Nat.le_trans (Nat.le_trans (Nat.le_succ _) (Nat.le_succ _)) z, dne, hns⟩⟩
end
end LowX_BadScore
end PySem
namespace L2
open PySem PySem.Spec PyProof.Rows
theorem relO_low_BadScore {v : V} {v' : Value} (r : RelV v v') (f : Str) : RelO (List.lookup f [(("score" : Str), v)]) (if f = "score" then some v' else none) := by
  by_cases hw : f = "score"
  · subst hw
    rw [if_pos rfl]
    have q : List.lookup ("score" : Str) [(("score" : Str), v)] = some v := by simp [List.lookup]
    rw [q]
    exact r
  · rw [if_neg hw]
    have qw : (f == ("score" : Str)) = false := by simpa using hw
    have q2 : List.lookup f [(("score" : Str), v)] = none := by simp [List.lookup, qw]
    rw [q2]
    trivial
section
variable {X : Cx} {C fI : Addr}
/-- Low(e) -/
def tMkLow_BadScore (C : Addr) (ta : TA) : St → Hp → XK → Prop := fun σ H Q => ta σ H fun vs H1 => ∃ v, vs = [v] ∧ ∀ d, H1 d = none → Q (.ref C) (some d) (upd H1 d (.xd [(("score" : Str), v)]))
theorem pmk_low_BadScore {a : Expr} {ta : TA} {p pos : Pos} {k : Nat} (T : PySem.LowX_BadScore.LowTxt_BadScore X.K X.mg C fI) (hr : Room k X.A) (ha : PA X [a] ta) (hg : Gl X "BadScore" := by rfl)
    (he : starEach (a :: []) X.env = (false, eval a X.env) :: starEach [] X.env := by rfl) (hpl : (backTo pos (starEach [] X.env)).any (·.1) = false := by rfl) :
    PMk X (.Call (.Name "BadScore" p) [a] [] pos) (tMkLow_BadScore C ta) := by
  intro pins s σ H Q I h
  refine wpAny_Call_Name_kw (ld_glob I hg T.gC ?_)
  refine PySem.W.callWith_K (h₀ := X.base) I.ok.mod.kin T.kC (thn (ha.run pos pins s σ H _ I h) fun us s1 hh => ?_) he hpl
  obtain ⟨vs, H1, I1, r1, v, ev, q1⟩ := hh
  subst ev
  refine ⟨I1.kIn, ?_⟩
  cases r1 with
  | cons rv rn =>
    rename_i v' us'
    cases rn
    show wpAny _ _ (call (.ref C) [v']) _ _ _
    have hlim := I1.nolimit
    obtain ⟨hp, g, dr, tk, os⟩ := s1
    refine wpAny_call (PySem.LowX_BadScore.low_made_BadScore T I1.kIn hlim (by have := hr.dp; omega) fun h' tk' e d M => ?_)
    show MkP X pins σ Q (.ref e) ⟨h', g, dr, tk', os⟩
    obtain ⟨oe, fv, hoe, hc, hd, hdat, h1⟩ := M.obj
    have hns := M.ns
    obtain ⟨G', g1, g2⟩ := restrict h' fun b => decide (b ≠ e)
    have gk : ∀ b, b ≠ e → G'.get? b = h'.get? b := fun b hb => g1 b (decide_eq_true hb)
    have ge : G'.get? e = none := g2 e (by simp)
    have old : ∀ b o, hp.get? b = some o → G'.get? b = some o := fun b o q => (gk b (Nat.ne_of_lt (Nat.lt_of_lt_of_le (Heap.lt_size q) M.new))).trans (M.keep b o q)
    have ob : ObjOk X.prog X.w (upd H1 d (.xd [(("score" : Str), v)])) G' d (.xd [(("score" : Str), v)]) :=
      ⟨_, hns.at (fun o q => (gk d M.dne).trans q), fun f => relO_low_BadScore rv f⟩
    have J : Inv X pins σ (upd H1 d (.xd [(("score" : Str), v)])) ⟨G', g, dr, tk', os⟩ := I1.laid (t' := tk') old M.dbig ob
    refine ⟨e, oe, fv, ⟨G', g, dr, tk', os⟩, _, .ref C, some d, rfl, J, fun b o q => ?_, ge, hoe, ⟨hc, hd⟩, hdat, h1, ?_, rfl, I1.bare, raises_own T.exC T.tyC, q1 d (I1.hok.fresh M.dbig)⟩
    · by_cases hb : b = e
      · have q' : G'.get? b = some o := q
        rw [hb, ge] at q'; cases q'
      · exact (gk b hb).symm.trans q
    · rw [upd_ne (Ne.symm M.dne)]
      exact I1.hok.fresh M.new
/-- BadScore(e), held as a value -/
theorem pe_lowV_BadScore {a : Expr} {ta : TA} {p pos : Pos} {k : Nat} (T : PySem.LowX_BadScore.LowTxt_BadScore X.K X.mg C fI) (hr : Room k X.A) (ha : PA X [a] ta) (hg : Gl X "BadScore" := by rfl)
    (he : starEach (a :: []) X.env = (false, eval a X.env) :: starEach [] X.env := by rfl) (hpl : (backTo pos (starEach [] X.env)).any (·.1) = false := by rfl) :
    PE X (.Call (.Name "BadScore" p) [a] [] pos) (tLowV C "score" ta) := by
  refine .mk fun pins s σ H Q I h => ?_
  refine wpAny_Call_Name_kw (ld_glob I hg T.gC ?_)
  refine PySem.W.callWith_K (h₀ := X.base) I.ok.mod.kin T.kC (thn (ha.run pos pins s σ H _ I h) fun us s1 hh => ?_) he hpl
  obtain ⟨vs, H1, I1, r1, v, ev, q1⟩ := hh
  subst ev
  refine ⟨I1.kIn, ?_⟩
  cases r1 with
  | cons rv rn =>
    rename_i v' us'
    cases rn
    show wpAny _ _ (call (.ref C) [v']) _ _ _
    have hlim := I1.nolimit
    obtain ⟨hp, g, dr, tk, os⟩ := s1
    refine wpAny_call (PySem.LowX_BadScore.low_made_BadScore T I1.kIn hlim (by have := hr.dp; omega) fun h' tk' e d M => ?_)
    exact lowV_end I1 rv M.keep M.new M.obj M.dbig M.dne M.ns (fun f => relO_low_BadScore rv f) ⟨v, rfl, q1⟩
/-- BadScore(score = e), held as a value -/
theorem pe_lowVk_BadScore {kws : List Keyword} {tk : TA} {p pos : Pos} {k : Nat} (T : PySem.LowX_BadScore.LowTxt_BadScore X.K X.mg C fI) (hr : Room k X.A) (ha : PK X kws tk) (hg : Gl X "BadScore" := by rfl)
    (hall : (backToKw pos (keywordEach kws X.env)).all (·.1.isSome) = true := by rfl) (hks : (backToKw pos (keywordEach kws X.env)).filterMap (·.1) = [("score" : Str)] := by rfl)
    (hpl : ((backTo pos (starEach [] X.env)).any (·.1) || (backToKw pos (keywordEach kws X.env)).any (·.1.isNone)) = false := by rfl) :
    PE X (.Call (.Name "BadScore" p) [] kws pos) (tLowV C "score" tk) := by
  refine .mk fun pins s σ H Q I h => ?_
  refine wpAny_Call_Name_kw (ld_glob I hg T.gC ?_)
  refine PySem.W.callWith_KW0 (h₀ := X.base) I.ok.mod.kin T.kC hall (thn (ha.run pos pins s σ H _ I h) fun us s1 hh => ?_) hpl
  obtain ⟨vs, H1, I1, r1, v, ev, q1⟩ := hh
  subst ev
  refine ⟨I1.kIn, ?_⟩
  rw [hks]
  cases r1 with
  | cons rv rn =>
    rename_i v' us'
    cases rn
    show wpAny _ _ (call (.ref C) [] [(("score" : Str), v')]) _ _ _
    have hlim := I1.nolimit
    obtain ⟨hp, g, dr, tk, os⟩ := s1
    refine wpAny_call (PySem.LowX_BadScore.low_madeK_BadScore T I1.kIn hlim (by have := hr.dp; omega) fun h' tk' e d M => ?_)
    exact lowV_end I1 rv M.keep M.new M.obj M.dbig M.dne M.ns (fun f => relO_low_BadScore rv f) ⟨v, rfl, q1⟩
end
end L2

namespace PySem
namespace LowX_BadGains
open PySem.W PySem.Calls PyProof.Rows PySem.HandSPX
/-! ### the text of __init__ -/
def iA (p1 p2 : Pos) : Arguments := { posonlyargs := [], args := [{ arg := "self", annotation := none, pos := p1 }, { arg := "gains", annotation := none, pos := p2 }], vararg := none, kwonlyargs := [], kw_defaults := [], kwarg := none, defaults := [] }
def iB (q1 q2 q3 q4 : Pos) : List Stmt := [.Assign [.Attribute (.Name "self" q1) "gains" q2] (.Name "gains" q3) q4]
def iS : Scope := { kind := .function, names := [(PySem.Str.ofString "self", .local), (PySem.Str.ofString "gains", .local)], isGenerator := false, isCoroutine := false, more := [] }
/-- what the written part says of Low, at C, and of its __init__, at fI -/
structure LowTxt_BadGains (K : Frag) (mg : Str → Option Value) (C fI : Addr) : Prop where
  gC : mg "BadGains" = some (.ref C)
  cls : ∃ nm q N bs bm sn sub ab col dd k0 k1 k2 k3 k5, K.lookup C = some (excClassObj nm q C N bs bm true sn sub ab col dd k0 k1 k2 k3 k5 "ValueError.__new__") ∧ refsVE bm = true
  sa : findIn K (.ref C) "__setattr__" = some (some (.builtin "object.__setattr__"))
  ga : findIn K (.ref C) "__getattribute__" = some (some (.builtin "BaseException.__getattribute__"))
  gg : findIn K (.ref C) "__getattr__" = some none
  noN : findIn K (.ref C) "gains" = some none
  iC : findIn K (.ref C) "__init__" = some (some (.ref fI))
  tC : typeIn K (.ref fI) = some (.type "function")
  kC : keepIn K (.ref C) = true
  exC : subIn K (.ref C) (.type "BaseException") = some true
  tyC : typeIn K (.ref C) = some (.type "type")
  hdC : hasDictIn K C = true
  te : exmOne K (.ref C) (.ref C) = some true
  fn : ∃ (oc : Value) (od : Option Addr) (doc pm : Value) (an : Option Addr) (cdv ct : Value) (osl : Array (Option Value)) (p1 p2 q1 q2 q3 q4 : Pos),
    K.lookup fI = some ⟨oc, od, .func (fnOf "__init__" "BadGains.__init__" (iA p1 p2) (iB q1 q2 q3 q4) iS .none .none doc pm an cdv ct), osl⟩ ∧ codeIn K cdv "BadGains.__init__" = true
theorem one_size (v : Value) : [v].length ≤ sizeLine := by
  rw [sizeLine_eq]
  exact (by decide : 1 ≤ 16777216)
theorem kept_but {K : Frag} {h h' : Heap} {x : Addr} (X : K.In h) (hx : K.lookup x = none) (k : ∀ b o, b ≠ x → h.get? b = some o → h'.get? b = some o) : K.In h' := fun a o e =>
  k a o (fun z => by rw [z, hx] at e; cases e) (X a o e)
theorem ldC {M : Model} {s : Shared} {name : Str} {scope : Scope} {L a : Addr} {cd : Value} {m : Str → Option Value} {x : Str} {pos : Pos} {v : Value} {Q : Value → Shared → Prop} {A : Around} {E : Value → Shared → Prop} (hn : s.heap.Ns L m) (hv : m x = some v) (h : Q v s)
    (hk : scope.kind = .function := by rfl) (hl : (envOfC name scope L a cd).kindOf x = some .local := by rfl) (hd : (x == ("__debug__" : Str)) = false := by decide) :
    wpAny M A (eval (.Name x pos) (envOfC name scope L a cd)) Q E s := wpAny_Name (wpAny_loadName_local hk hl hn hv h) hd
/-- what __init__ leaves of a fresh exception at x -/
structure InitEnd_BadGains (h h' : Heap) (x C dx t1 : Addr) (v : Value) : Prop where
  keep : ∀ b o, b ≠ x → h.get? b = some o → h'.get? b = some o
  obj : h'.get? x = some { cls := .ref C, dict := some dx, data := .fields #[.ref t1, .none, .none, .none, .bool false, .none] }
  dbig : h.objs.size ≤ dx
  dne : dx ≠ x
  ns : h'.Ns1 dx (fun y => if y = "gains" then some v else none)
/-- a made Low -/
structure OwnMade_BadGains (h h' : Heap) (e C d : Addr) (v : Value) : Prop where
  keep : ∀ b o, h.get? b = some o → h'.get? b = some o
  new : h.objs.size ≤ e
  obj : ∃ oe vs, h'.get? e = some oe ∧ oe.cls = .ref C ∧ oe.dict = some d ∧ oe.data = .fields vs ∧ vs[1]? = some .none
  dbig : h.objs.size ≤ d
  dne : d ≠ e
  ns : h'.Ns1 d (fun y => if y = "gains" then some v else none)
section
variable {prog : Program} {w : World} {A : Around} {E : Value → Shared → Prop} {R : Result → Shared → Prop} {s : Shared} {K : Frag} {mg : Str → Option Value} {C fI : Addr}
theorem low_init_BadGains (T : LowTxt_BadGains K mg C fI) {x t0 : Addr} {v : Value} (X : K.In s.heap) (hlim : s.heap.NoLimit) (hx : s.heap.get? x = some (excO C t0)) (hnx : K.lookup x = none) (hroom : A.depth < recursionLimit)
    (hq : ∀ h' tk dx, InitEnd_BadGains s.heap h' x C dx t0 v → R (.ok (.ret .none)) { s with heap := h', toks := tk }) :
    codeAny (model prog w) A (.call (.ref fI) ⟨[.ref x, v], []⟩) R s := by
  obtain ⟨oc, od, doc, pm, an, cdv, ct, osl, p1, p2, q1, q2, q3, q4, ho, hcd⟩ := T.fn
  obtain ⟨nm, q, N, bs, bm, sn, sub, ab, col, dd, k0, k1, k2, k3, k5, hC, hbm⟩ := T.cls
  have hcl : clsIn K C = some { name := nm, bases := bs, mro := .ref C :: bm, ns := N, qualname := q, hasDict := true, slotNames := sn, subclasses := sub, abstract := ab, collection := col, hasDel := false } := by unfold clsIn; rw [hC] <;> rfl
  refine Att.call_fn (binds := [("self", .ref x), ("gains", v)]) X hlim ho hcd hroom (BindsTo.of_eq (by first | rfl | with_unfolding_all rfl)) (by first | rfl | decide | with_unfolding_all rfl) (fun s₁ IC => ?_) rfl rfl rfl
  obtain ⟨h₁, tk₁, rfl⟩ := IC.toInCall.same
  have k : ∀ b o, s.heap.get? b = some o → h₁.get? b = some o := IC.toInCall.keep
  have hn := IC.toInCall.ns
  have hxL : s.heap.objs.size ≠ x := Nat.ne_of_gt (Heap.lt_size hx)
  have X₁ : K.In h₁ := X.keeps k
  have hx₁ := k _ _ hx
  -- self.by = by
  show wpAny _ _ (execs _ _) _ _ _
  refine wpAny_execs_cons (plainObj_wpAny_Assign_Attribute ?_)
  refine ldC (v := v) hn (by first | rfl | with_unfolding_all rfl | kernel_rfl) (ldC (v := .ref x) hn (by first | rfl | with_unfolding_all rfl | kernel_rfl) ?_)
  refine set_plain X₁ (ox := excO C t0) (od := none) ⟨hx₁, rfl, rfl, trivial⟩ T.sa ?_
  refine exc_osa X₁ hx₁ hcl (show refsVE (.ref C :: bm) = true from hbm) rfl T.noN (fun h₃ tk₃ dx k₃ dn dne hx₃ hn₃ => ?_)
  show wpAny _ _ (execs _ _) _ _ _
  have z : s.heap.objs.size < h₁.objs.size := hn.lt
  exact wpAny_execs_nil (hq h₃ tk₃ dx ⟨fun b o hb e => k₃ b o hb (k b o e), hx₃, Nat.le_of_lt (Nat.lt_of_lt_of_le z dn), dne, hn₃⟩)
theorem low_made_BadGains (T : LowTxt_BadGains K mg C fI) {v : Value} (X : K.In s.heap) (hlim : s.heap.NoLimit) (hroom : A.depth + 1 < recursionLimit)
    (hq : ∀ h' tk e d, OwnMade_BadGains s.heap h' e C d v → R (.ok (.ret (.ref e))) { s with heap := h', toks := tk }) :
    codeAny (model prog w) A (.call (.ref C) ⟨[v], []⟩) R s := by
  obtain ⟨nm, q, N, bs, bm, sn, sub, ab, col, dd, k0, k1, k2, k3, k5, hC, hbm⟩ := T.cls
  obtain ⟨hp, g, dr, tk, os⟩ := s
  have k : ∀ b o, hp.get? b = some o → ((hp.push (kdv_tup [v])).push (excO C hp.objs.size)).get? b = some o := fun b o e => Heap.get?_push_of_some _ (Heap.get?_push_of_some _ e)
  have hget : ((hp.push (kdv_tup [v])).push (excO C hp.objs.size)).get? (hp.objs.size + 1) = some (excO C hp.objs.size) := by heap_get
  have hnx : K.lookup (hp.objs.size + 1) = none := by
    cases e : K.lookup (hp.objs.size + 1) with
    | none => rfl
    | some o =>
      have z : hp.get? (hp.objs.size + 1) = some o := X _ _ e
      exact absurd (Nat.lt_of_succ_lt (Heap.lt_size z)) (Nat.lt_irrefl _)
  refine call_own F.excBase_ValueError (fun X => refsVE_contains X bm hbm) (X _ _ hC) (looks_findIn X T.iC) (fun self => bind_fn X self T.tC) (one_size v) ?_
  refine low_init_BadGains (s := ⟨(hp.push (kdv_tup [v])).push (excO C hp.objs.size), g, dr, tk, os⟩) T (X.keeps k) (hlim.keeps k) hget hnx ?_ fun h' tk' dx ⟨k', hx, dn, dne, hns⟩ => ?_
  · show A.depth + 1 < recursionLimit
    exact hroom
  · have old : ∀ b o, hp.get? b = some o → h'.get? b = some o := fun b o e => k' b o (Nat.ne_of_lt (Nat.lt_succ_of_lt (Heap.lt_size e))) (k b o e)
    have z : hp.objs.size + 1 + 1 ≤ dx := by
      first
        | (simpa only [Heap.size_push] using dn)
        | exact dn
        | (have q := dn; rw [Heap.size_push, Heap.size_push] at q; exact q)
    exact ⟨rfl, hq h' tk' (hp.objs.size + 1) dx ⟨old, Nat.le_succ _, ⟨_, _, hx, rfl, rfl, rfl, rfl⟩, Nat.le_trans (Nat.le_trans (Nat.le_succ _) (Nat.le_succ _)) z, dne, hns⟩⟩
theorem low_initK_BadGains (T : LowTxt_BadGains K mg C fI) {x t0 : Addr} {v : Value} (X : K.In s.heap) (hlim : s.heap.NoLimit) (hx : s.heap.get? x = some (excO C t0)) (hnx : K.lookup x = none) (hroom : A.depth < recursionLimit)
    (hq : ∀ h' tk dx, InitEnd_BadGains s.heap h' x C dx t0 v → R (.ok (.ret .none)) { s with heap := h', toks := tk }) :
    codeAny (model prog w) A (.call (.ref fI) ⟨[.ref x], [(("gains" : Str), v)]⟩) R s := by
  obtain ⟨oc, od, doc, pm, an, cdv, ct, osl, p1, p2, q1, q2, q3, q4, ho, hcd⟩ := T.fn
  obtain ⟨nm, q, N, bs, bm, sn, sub, ab, col, dd, k0, k1, k2, k3, k5, hC, hbm⟩ := T.cls
  have hcl : clsIn K C = some { name := nm, bases := bs, mro := .ref C :: bm, ns := N, qualname := q, hasDict := true, slotNames := sn, subclasses := sub, abstract := ab, collection := col, hasDel := false } := by unfold clsIn; rw [hC] <;> rfl
  refine Att.call_fn (binds := [("self", .ref x), ("gains", v)]) X hlim ho hcd hroom (BindsTo.of_eq (by first | rfl | with_unfolding_all rfl)) (by first | rfl | decide | with_unfolding_all rfl) (fun s₁ IC => ?_) rfl rfl rfl
  obtain ⟨h₁, tk₁, rfl⟩ := IC.toInCall.same
  have k : ∀ b o, s.heap.get? b = some o → h₁.get? b = some o := IC.toInCall.keep
  have hn := IC.toInCall.ns
  have hxL : s.heap.objs.size ≠ x := Nat.ne_of_gt (Heap.lt_size hx)
  have X₁ : K.In h₁ := X.keeps k
  have hx₁ := k _ _ hx
  -- self.by = by
  show wpAny _ _ (execs _ _) _ _ _
  refine wpAny_execs_cons (plainObj_wpAny_Assign_Attribute ?_)
  refine ldC (v := v) hn (by first | rfl | with_unfolding_all rfl | kernel_rfl) (ldC (v := .ref x) hn (by first | rfl | with_unfolding_all rfl | kernel_rfl) ?_)
  refine set_plain X₁ (ox := excO C t0) (od := none) ⟨hx₁, rfl, rfl, trivial⟩ T.sa ?_
  refine exc_osa X₁ hx₁ hcl (show refsVE (.ref C :: bm) = true from hbm) rfl T.noN (fun h₃ tk₃ dx k₃ dn dne hx₃ hn₃ => ?_)
  show wpAny _ _ (execs _ _) _ _ _
  have z : s.heap.objs.size < h₁.objs.size := hn.lt
  exact wpAny_execs_nil (hq h₃ tk₃ dx ⟨fun b o hb e => k₃ b o hb (k b o e), hx₃, Nat.le_of_lt (Nat.lt_of_lt_of_le z dn), dne, hn₃⟩)
theorem low_madeK_BadGains (T : LowTxt_BadGains K mg C fI) {v : Value} (X : K.In s.heap) (hlim : s.heap.NoLimit) (hroom : A.depth + 1 < recursionLimit)
    (hq : ∀ h' tk e d, OwnMade_BadGains s.heap h' e C d v → R (.ok (.ret (.ref e))) { s with heap := h', toks := tk }) :
    codeAny (model prog w) A (.call (.ref C) ⟨[], [(("gains" : Str), v)]⟩) R s := by
  obtain ⟨nm, q, N, bs, bm, sn, sub, ab, col, dd, k0, k1, k2, k3, k5, hC, hbm⟩ := T.cls
  obtain ⟨hp, g, dr, tk, os⟩ := s
  have k : ∀ b o, hp.get? b = some o → ((hp.push (kdv_tup [])).push (excO C hp.objs.size)).get? b = some o := fun b o e => Heap.get?_push_of_some _ (Heap.get?_push_of_some _ e)
  have hget : ((hp.push (kdv_tup [])).push (excO C hp.objs.size)).get? (hp.objs.size + 1) = some (excO C hp.objs.size) := by heap_get
  have hnx : K.lookup (hp.objs.size + 1) = none := by
    cases e : K.lookup (hp.objs.size + 1) with
    | none => rfl
    | some o =>
      have z : hp.get? (hp.objs.size + 1) = some o := X _ _ e
      exact absurd (Nat.lt_of_succ_lt (Heap.lt_size z)) (Nat.lt_irrefl _)
  refine call_ownK F.excBase_ValueError (fun X => refsVE_contains X bm hbm) (X _ _ hC) (looks_findIn (X.keeps k) T.iC) (fun self => bind_fn (X.keeps k) self T.tC) ?_
  refine low_initK_BadGains (s := ⟨(hp.push (kdv_tup [])).push (excO C hp.objs.size), g, dr, tk, os⟩) T (X.keeps k) (hlim.keeps k) hget hnx ?_ fun h' tk' dx ⟨k', hx, dn, dne, hns⟩ => ?_
  · show A.depth + 1 < recursionLimit
    exact hroom
  · have old : ∀ b o, hp.get? b = some o → h'.get? b = some o := fun b o e => k' b o (Nat.ne_of_lt (Nat.lt_succ_of_lt (Heap.lt_size e))) (k b o e)
    have z : hp.objs.size + 1 + 1 ≤ dx := by
      first
        | (simpa only [Heap.size_push] using dn)
        | exact dn
        | (have q := dn; rw [Heap.size_push, Heap.size_push] at q; exact q)
    exact ⟨rfl, hq h' tk' (hp.objs.size + 1) dx ⟨old, Nat.le_succ _, ⟨_, _, hx, rfl, rfl, rfl, rfl⟩, Nat.le_trans (Nat.le_trans (Nat.le_succ _) (Nat.le_succ _)) z, dne, hns⟩⟩
end
end LowX_BadGains
end PySem
namespace L2
open PySem PySem.Spec PyProof.Rows
theorem relO_low_BadGains {v : V} {v' : Value} (r : RelV v v') (f : Str) : RelO (List.lookup f [(("gains" : Str), v)]) (if f = "gains" then some v' else none) := by
  by_cases hw : f = "gains"
  · subst hw
    rw [if_pos rfl]
    have q : List.lookup ("gains" : Str) [(("gains" : Str), v)] = some v := by simp [List.lookup]
    rw [q]
    exact r
  · rw [if_neg hw]
    have qw : (f == ("gains" : Str)) = false := by simpa using hw
    have q2 : List.lookup f [(("gains" : Str), v)] = none := by simp [List.lookup, qw]
    rw [q2]
    trivial
section
variable {X : Cx} {C fI : Addr}
/-- Low(e) -/
def tMkLow_BadGains (C : Addr) (ta : TA) : St → Hp → XK → Prop := fun σ H Q => ta σ H fun vs H1 => ∃ v, vs = [v] ∧ ∀ d, H1 d = none → Q (.ref C) (some d) (upd H1 d (.xd [(("gains" : Str), v)]))
theorem pmk_low_BadGains {a : Expr} {ta : TA} {p pos : Pos} {k : Nat} (T : PySem.LowX_BadGains.LowTxt_BadGains X.K X.mg C fI) (hr : Room k X.A) (ha : PA X [a] ta) (hg : Gl X "BadGains" := by rfl)
    (he : starEach (a :: []) X.env = (false, eval a X.env) :: starEach [] X.env := by rfl) (hpl : (backTo pos (starEach [] X.env)).any (·.1) = false := by rfl) :
    PMk X (.Call (.Name "BadGains" p) [a] [] pos) (tMkLow_BadGains C ta) := by
  intro pins s σ H Q I h
  refine wpAny_Call_Name_kw (ld_glob I hg T.gC ?_)
  refine PySem.W.callWith_K (h₀ := X.base) I.ok.mod.kin T.kC (thn (ha.run pos pins s σ H _ I h) fun us s1 hh => ?_) he hpl
  obtain ⟨vs, H1, I1, r1, v, ev, q1⟩ := hh
  subst ev
  refine ⟨I1.kIn, ?_⟩
  cases r1 with
  | cons rv rn =>
    rename_i v' us'
    cases rn
    show wpAny _ _ (call (.ref C) [v']) _ _ _
    have hlim := I1.nolimit
    obtain ⟨hp, g, dr, tk, os⟩ := s1
    refine wpAny_call (PySem.LowX_BadGains.low_made_BadGains T I1.kIn hlim (by have := hr.dp; omega) fun h' tk' e d M => ?_)
    show MkP X pins σ Q (.ref e) ⟨h', g, dr, tk', os⟩
    obtain ⟨oe, fv, hoe, hc, hd, hdat, h1⟩ := M.obj
    have hns := M.ns
    obtain ⟨G', g1, g2⟩ := restrict h' fun b => decide (b ≠ e)
    have gk : ∀ b, b ≠ e → G'.get? b = h'.get? b := fun b hb => g1 b (decide_eq_true hb)
    have ge : G'.get? e = none := g2 e (by simp)
    have old : ∀ b o, hp.get? b = some o → G'.get? b = some o := fun b o q => (gk b (Nat.ne_of_lt (Nat.lt_of_lt_of_le (Heap.lt_size q) M.new))).trans (M.keep b o q)
    have ob : ObjOk X.prog X.w (upd H1 d (.xd [(("gains" : Str), v)])) G' d (.xd [(("gains" : Str), v)]) :=
      ⟨_, hns.at (fun o q => (gk d M.dne).trans q), fun f => relO_low_BadGains rv f⟩
    have J : Inv X pins σ (upd H1 d (.xd [(("gains" : Str), v)])) ⟨G', g, dr, tk', os⟩ := I1.laid (t' := tk') old M.dbig ob
    refine ⟨e, oe, fv, ⟨G', g, dr, tk', os⟩, _, .ref C, some d, rfl, J, fun b o q => ?_, ge, hoe, ⟨hc, hd⟩, hdat, h1, ?_, rfl, I1.bare, raises_own T.exC T.tyC, q1 d (I1.hok.fresh M.dbig)⟩
    · by_cases hb : b = e
      · have q' : G'.get? b = some o := q
        rw [hb, ge] at q'; cases q'
      · exact (gk b hb).symm.trans q
    · rw [upd_ne (Ne.symm M.dne)]
      exact I1.hok.fresh M.new
/-- BadGains(e), held as a value -/
theorem pe_lowV_BadGains {a : Expr} {ta : TA} {p pos : Pos} {k : Nat} (T : PySem.LowX_BadGains.LowTxt_BadGains X.K X.mg C fI) (hr : Room k X.A) (ha : PA X [a] ta) (hg : Gl X "BadGains" := by rfl)
    (he : starEach (a :: []) X.env = (false, eval a X.env) :: starEach [] X.env := by rfl) (hpl : (backTo pos (starEach [] X.env)).any (·.1) = false := by rfl) :
    PE X (.Call (.Name "BadGains" p) [a] [] pos) (tLowV C "gains" ta) := by
  refine .mk fun pins s σ H Q I h => ?_
  refine wpAny_Call_Name_kw (ld_glob I hg T.gC ?_)
  refine PySem.W.callWith_K (h₀ := X.base) I.ok.mod.kin T.kC (thn (ha.run pos pins s σ H _ I h) fun us s1 hh => ?_) he hpl
  obtain ⟨vs, H1, I1, r1, v, ev, q1⟩ := hh
  subst ev
  refine ⟨I1.kIn, ?_⟩
  cases r1 with
  | cons rv rn =>
    rename_i v' us'
    cases rn
    show wpAny _ _ (call (.ref C) [v']) _ _ _
    have hlim := I1.nolimit
    obtain ⟨hp, g, dr, tk, os⟩ := s1
    refine wpAny_call (PySem.LowX_BadGains.low_made_BadGains T I1.kIn hlim (by have := hr.dp; omega) fun h' tk' e d M => ?_)
    exact lowV_end I1 rv M.keep M.new M.obj M.dbig M.dne M.ns (fun f => relO_low_BadGains rv f) ⟨v, rfl, q1⟩
/-- BadGains(gains = e), held as a value -/
theorem pe_lowVk_BadGains {kws : List Keyword} {tk : TA} {p pos : Pos} {k : Nat} (T : PySem.LowX_BadGains.LowTxt_BadGains X.K X.mg C fI) (hr : Room k X.A) (ha : PK X kws tk) (hg : Gl X "BadGains" := by rfl)
    (hall : (backToKw pos (keywordEach kws X.env)).all (·.1.isSome) = true := by rfl) (hks : (backToKw pos (keywordEach kws X.env)).filterMap (·.1) = [("gains" : Str)] := by rfl)
    (hpl : ((backTo pos (starEach [] X.env)).any (·.1) || (backToKw pos (keywordEach kws X.env)).any (·.1.isNone)) = false := by rfl) :
    PE X (.Call (.Name "BadGains" p) [] kws pos) (tLowV C "gains" tk) := by
  refine .mk fun pins s σ H Q I h => ?_
  refine wpAny_Call_Name_kw (ld_glob I hg T.gC ?_)
  refine PySem.W.callWith_KW0 (h₀ := X.base) I.ok.mod.kin T.kC hall (thn (ha.run pos pins s σ H _ I h) fun us s1 hh => ?_) hpl
  obtain ⟨vs, H1, I1, r1, v, ev, q1⟩ := hh
  subst ev
  refine ⟨I1.kIn, ?_⟩
  rw [hks]
  cases r1 with
  | cons rv rn =>
    rename_i v' us'
    cases rn
    show wpAny _ _ (call (.ref C) [] [(("gains" : Str), v')]) _ _ _
    have hlim := I1.nolimit
    obtain ⟨hp, g, dr, tk, os⟩ := s1
    refine wpAny_call (PySem.LowX_BadGains.low_madeK_BadGains T I1.kIn hlim (by have := hr.dp; omega) fun h' tk' e d M => ?_)
    exact lowV_end I1 rv M.keep M.new M.obj M.dbig M.dne M.ns (fun f => relO_low_BadGains rv f) ⟨v, rfl, q1⟩
end
end L2

namespace PySem
namespace LowX_BadStakes
open PySem.W PySem.Calls PyProof.Rows PySem.HandSPX
/-! ### the text of __init__ -/
def iA (p1 p2 : Pos) : Arguments := { posonlyargs := [], args := [{ arg := "self", annotation := none, pos := p1 }, { arg := "stakes", annotation := none, pos := p2 }], vararg := none, kwonlyargs := [], kw_defaults := [], kwarg := none, defaults := [] }
def iB (q1 q2 q3 q4 : Pos) : List Stmt := [.Assign [.Attribute (.Name "self" q1) "stakes" q2] (.Name "stakes" q3) q4]
def iS : Scope := { kind := .function, names := [(PySem.Str.ofString "self", .local), (PySem.Str.ofString "stakes", .local)], isGenerator := false, isCoroutine := false, more := [] }
/-- what the written part says of Low, at C, and of its __init__, at fI -/
structure LowTxt_BadStakes (K : Frag) (mg : Str → Option Value) (C fI : Addr) : Prop where
  gC : mg "BadStakes" = some (.ref C)
  cls : ∃ nm q N bs bm sn sub ab col dd k0 k1 k2 k3 k5, K.lookup C = some (excClassObj nm q C N bs bm true sn sub ab col dd k0 k1 k2 k3 k5 "ValueError.__new__") ∧ refsVE bm = true
  sa : findIn K (.ref C) "__setattr__" = some (some (.builtin "object.__setattr__"))
  ga : findIn K (.ref C) "__getattribute__" = some (some (.builtin "BaseException.__getattribute__"))
  gg : findIn K (.ref C) "__getattr__" = some none
  noN : findIn K (.ref C) "stakes" = some none
  iC : findIn K (.ref C) "__init__" = some (some (.ref fI))
  tC : typeIn K (.ref fI) = some (.type "function")
  kC : keepIn K (.ref C) = true
  exC : subIn K (.ref C) (.type "BaseException") = some true
  tyC : typeIn K (.ref C) = some (.type "type")
  hdC : hasDictIn K C = true
  te : exmOne K (.ref C) (.ref C) = some true
  fn : ∃ (oc : Value) (od : Option Addr) (doc pm : Value) (an : Option Addr) (cdv ct : Value) (osl : Array (Option Value)) (p1 p2 q1 q2 q3 q4 : Pos),
    K.lookup fI = some ⟨oc, od, .func (fnOf "__init__" "BadStakes.__init__" (iA p1 p2) (iB q1 q2 q3 q4) iS .none .none doc pm an cdv ct), osl⟩ ∧ codeIn K cdv "BadStakes.__init__" = true
theorem one_size (v : Value) : [v].length ≤ sizeLine := by
  rw [sizeLine_eq]
  exact (by decide : 1 ≤ 16777216)
theorem kept_but {K : Frag} {h h' : Heap} {x : Addr} (X : K.In h) (hx : K.lookup x = none) (k : ∀ b o, b ≠ x → h.get? b = some o → h'.get? b = some o) : K.In h' := fun a o e =>
  k a o (fun z => by rw [z, hx] at e; cases e) (X a o e)
theorem ldC {M : Model} {s : Shared} {name : Str} {scope : Scope} {L a : Addr} {cd : Value} {m : Str → Option Value} {x : Str} {pos : Pos} {v : Value} {Q : Value → Shared → Prop} {A : Around} {E : Value → Shared → Prop} (hn : s.heap.Ns L m) (hv : m x = some v) (h : Q v s)
    (hk : scope.kind = .function := by rfl) (hl : (envOfC name scope L a cd).kindOf x = some .local := by rfl) (hd : (x == ("__debug__" : Str)) = false := by decide) :
    wpAny M A (eval (.Name x pos) (envOfC name scope L a cd)) Q E s := wpAny_Name (wpAny_loadName_local hk hl hn hv h) hd
/-- what __init__ leaves of a fresh exception at x -/
structure InitEnd_BadStakes (h h' : Heap) (x C dx t1 : Addr) (v : Value) : Prop where
  keep : ∀ b o, b ≠ x → h.get? b = some o → h'.get? b = some o
  obj : h'.get? x = some { cls := .ref C, dict := some dx, data := .fields #[.ref t1, .none, .none, .none, .bool false, .none] }
  dbig : h.objs.size ≤ dx
  dne : dx ≠ x
  ns : h'.Ns1 dx (fun y => if y = "stakes" then some v else none)
/-- a made Low -/
structure OwnMade_BadStakes (h h' : Heap) (e C d : Addr) (v : Value) : Prop where
  keep : ∀ b o, h.get? b = some o → h'.get? b = some o
  new : h.objs.size ≤ e
  obj : ∃ oe vs, h'.get? e = some oe ∧ oe.cls = .ref C ∧ oe.dict = some d ∧ oe.data = .fields vs ∧ vs[1]? = some .none
  dbig : h.objs.size ≤ d
  dne : d ≠ e
  ns : h'.Ns1 d (fun y => if y = "stakes" then some v else none)
section
variable {prog : Program} {w : World} {A : Around} {E : Value → Shared → Prop} {R : Result → Shared → Prop} {s : Shared} {K : Frag} {mg : Str → Option Value} {C fI : Addr}
theorem low_init_BadStakes (T : LowTxt_BadStakes K mg C fI) {x t0 : Addr} {v : Value} (X : K.In s.heap) (hlim : s.heap.NoLimit) (hx : s.heap.get? x = some (excO C t0)) (hnx : K.lookup x = none) (hroom : A.depth < recursionLimit)
    (hq : ∀ h' tk dx, InitEnd_BadStakes s.heap h' x C dx t0 v → R (.ok (.ret .none)) { s with heap := h', toks := tk }) :
    codeAny (model prog w) A (.call (.ref fI) ⟨[.ref x, v], []⟩) R s := by
  obtain ⟨oc, od, doc, pm, an, cdv, ct, osl, p1, p2, q1, q2, q3, q4, ho, hcd⟩ := T.fn
  obtain ⟨nm, q, N, bs, bm, sn, sub, ab, col, dd, k0, k1, k2, k3, k5, hC, hbm⟩ := T.cls
  have hcl : clsIn K C = some { name := nm, bases := bs, mro := .ref C :: bm, ns := N, qualname := q, hasDict := true, slotNames := sn, subclasses := sub, abstract := ab, collection := col, hasDel := false } := by unfold clsIn; rw [hC] <;> rfl
  refine Att.call_fn (binds := [("self", .ref x), ("stakes", v)]) X hlim ho hcd hroom (BindsTo.of_eq (by first | rfl | with_unfolding_all rfl)) (by first | rfl | decide | with_unfolding_all rfl) (fun s₁ IC => ?_) rfl rfl rfl
  obtain ⟨h₁, tk₁, rfl⟩ := IC.toInCall.same
  have k : ∀ b o, s.heap.get? b = some o → h₁.get? b = some o := IC.toInCall.keep
  have hn := IC.toInCall.ns
  have hxL : s.heap.objs.size ≠ x := Nat.ne_of_gt (Heap.lt_size hx)
  have X₁ : K.In h₁ := X.keeps k
  have hx₁ := k _ _ hx
  -- self.by = by
  show wpAny _ _ (execs _ _) _ _ _
  refine wpAny_execs_cons (plainObj_wpAny_Assign_Attribute ?_)
  refine ldC (v := v) hn (by first | rfl | with_unfolding_all rfl | kernel_rfl) (ldC (v := .ref x) hn (by first | rfl | with_unfolding_all rfl | kernel_rfl) ?_)
  refine set_plain X₁ (ox := excO C t0) (od := none) ⟨hx₁, rfl, rfl, trivial⟩ T.sa ?_
  refine exc_osa X₁ hx₁ hcl (show refsVE (.ref C :: bm) = true from hbm) rfl T.noN (fun h₃ tk₃ dx k₃ dn dne hx₃ hn₃ => ?_)
  show wpAny _ _ (execs _ _) _ _ _
  have z : s.heap.objs.size < h₁.objs.size := hn.lt
  exact wpAny_execs_nil (hq h₃ tk₃ dx ⟨fun b o hb e => k₃ b o hb (k b o e), hx₃, Nat.le_of_lt (Nat.lt_of_lt_of_le z dn), dne, hn₃⟩)
theorem low_made_BadStakes (T : LowTxt_BadStakes K mg C fI) {v : Value} (X : K.In s.heap) (hlim : s.heap.NoLimit) (hroom : A.depth + 1 < recursionLimit)
    (hq : ∀ h' tk e d, OwnMade_BadStakes s.heap h' e C d v → R (.ok (.ret (.ref e))) { s with heap := h', toks := tk }) :
    codeAny (model prog w) A (.call (.ref C) ⟨[v], []⟩) R s := by
  obtain ⟨nm, q, N, bs, bm, sn, sub, ab, col, dd, k0, k1, k2, k3, k5, hC, hbm⟩ := T.cls
  obtain ⟨hp, g, dr, tk, os⟩ := s
  have k : ∀ b o, hp.get? b = some o → ((hp.push (kdv_tup [v])).push (excO C hp.objs.size)).get? b = some o := fun b o e => Heap.get?_push_of_some _ (Heap.get?_push_of_some _ e)
  have hget : ((hp.push (kdv_tup [v])).push (excO C hp.objs.size)).get? (hp.objs.size + 1) = some (excO C hp.objs.size) := by heap_get
  have hnx : K.lookup (hp.objs.size + 1) = none := by
    cases e : K.lookup (hp.objs.size + 1) with
    | none => rfl
    | some o =>
      have z : hp.get? (hp.objs.size + 1) = some o := X _ _ e
      exact absurd (Nat.lt_of_succ_lt (Heap.lt_size z)) (Nat.lt_irrefl _)
  refine call_own F.excBase_ValueError (fun X => refsVE_contains X bm hbm) (X _ _ hC) (looks_findIn X T.iC) (fun self => bind_fn X self T.tC) (one_size v) ?_
  refine low_init_BadStakes (s := ⟨(hp.push (kdv_tup [v])).push (excO C hp.objs.size), g, dr, tk, os⟩) T (X.keeps k) (hlim.keeps k) hget hnx ?_ fun h' tk' dx ⟨k', hx, dn, dne, hns⟩ => ?_
  · show A.depth + 1 < recursionLimit
    exact hroom
  · have old : ∀ b o, hp.get? b = some o → h'.get? b = some o := fun b o e => k' b o (Nat.ne_of_lt (Nat.lt_succ_of_lt (Heap.lt_size e))) (k b o e)
    have z : hp.objs.size + 1 + 1 ≤ dx := by
      first
        | (simpa only [Heap.size_push] using dn)
        | exact dn
        | (have q := dn; rw [Heap.size_push, Heap.size_push] at q; exact q)
    exact ⟨rfl, hq h' tk' (hp.objs.size + 1) dx ⟨old, Nat.le_succ _, ⟨_, _, hx, rfl, rfl, rfl, rfl⟩, Nat.le_trans (Nat.le_trans (Nat.le_succ _) (Nat.le_succ _)) z, dne, hns⟩⟩
theorem low_initK_BadStakes (T : LowTxt_BadStakes K mg C fI) {x t0 : Addr} {v : Value} (X : K.In s.heap) (hlim : s.heap.NoLimit) (hx : s.heap.get? x = some (excO C t0)) (hnx : K.lookup x = none) (hroom : A.depth < recursionLimit)
    (hq : ∀ h' tk dx, InitEnd_BadStakes s.heap h' x C dx t0 v → R (.ok (.ret .none)) { s with heap := h', toks := tk }) :
    codeAny (model prog w) A (.call (.ref fI) ⟨[.ref x], [(("stakes" : Str), v)]⟩) R s := by
  obtain ⟨oc, od, doc, pm, an, cdv, ct, osl, p1, p2, q1, q2, q3, q4, ho, hcd⟩ := T.fn
  obtain ⟨nm, q, N, bs, bm, sn, sub, ab, col, dd, k0, k1, k2, k3, k5, hC, hbm⟩ := T.cls
  have hcl : clsIn K C = some { name := nm, bases := bs, mro := .ref C :: bm, ns := N, qualname := q, hasDict := true, slotNames := sn, subclasses := sub, abstract := ab, collection := col, hasDel := false } := by unfold clsIn; rw [hC] <;> rfl
  refine Att.call_fn (binds := [("self", .ref x), ("stakes", v)]) X hlim ho hcd hroom (BindsTo.of_eq (by first | rfl | with_unfolding_all rfl)) (by first | rfl | decide | with_unfolding_all rfl) (fun s₁ IC => ?_) rfl rfl rfl
  obtain ⟨h₁, tk₁, rfl⟩ := IC.toInCall.same
  have k : ∀ b o, s.heap.get? b = some o → h₁.get? b = some o := IC.toInCall.keep
  have hn := IC.toInCall.ns
  have hxL : s.heap.objs.size ≠ x := Nat.ne_of_gt (Heap.lt_size hx)
  have X₁ : K.In h₁ := X.keeps k
  have hx₁ := k _ _ hx
  -- self.by = by
  show wpAny _ _ (execs _ _) _ _ _
  refine wpAny_execs_cons (plainObj_wpAny_Assign_Attribute ?_)
  refine ldC (v := v) hn (by first | rfl | with_unfolding_all rfl | kernel_rfl) (ldC (v := .ref x) hn (by first | rfl | with_unfolding_all rfl | kernel_rfl) ?_)
  refine set_plain X₁ (ox := excO C t0) (od := none) ⟨hx₁, rfl, rfl, trivial⟩ T.sa ?_
  refine exc_osa X₁ hx₁ hcl (show refsVE (.ref C :: bm) = true from hbm) rfl T.noN (fun h₃ tk₃ dx k₃ dn dne hx₃ hn₃ => ?_)
  show wpAny _ _ (execs _ _) _ _ _
  have z : s.heap.objs.size < h₁.objs.size := hn.lt
  exact wpAny_execs_nil (hq h₃ tk₃ dx ⟨fun b o hb e => k₃ b o hb (k b o e), hx₃, Nat.le_of_lt (Nat.lt_of_lt_of_le z dn), dne, hn₃⟩)
theorem low_madeK_BadStakes (T : LowTxt_BadStakes K mg C fI) {v : Value} (X : K.In s.heap) (hlim : s.heap.NoLimit) (hroom : A.depth + 1 < recursionLimit)
    (hq : ∀ h' tk e d, OwnMade_BadStakes s.heap h' e C d v → R (.ok (.ret (.ref e))) { s with heap := h', toks := tk }) :
    codeAny (model prog w) A (.call (.ref C) ⟨[], [(("stakes" : Str), v)]⟩) R s := by
  obtain ⟨nm, q, N, bs, bm, sn, sub, ab, col, dd, k0, k1, k2, k3, k5, hC, hbm⟩ := T.cls
  obtain ⟨hp, g, dr, tk, os⟩ := s
  have k : ∀ b o, hp.get? b = some o → ((hp.push (kdv_tup [])).push (excO C hp.objs.size)).get? b = some o := fun b o e => Heap.get?_push_of_some _ (Heap.get?_push_of_some _ e)
  have hget : ((hp.push (kdv_tup [])).push (excO C hp.objs.size)).get? (hp.objs.size + 1) = some (excO C hp.objs.size) := by heap_get
  have hnx : K.lookup (hp.objs.size + 1) = none := by
    cases e : K.lookup (hp.objs.size + 1) with
    | none => rfl
    | some o =>
      have z : hp.get? (hp.objs.size + 1) = some o := X _ _ e
      exact absurd (Nat.lt_of_succ_lt (Heap.lt_size z)) (Nat.lt_irrefl _)
  refine call_ownK F.excBase_ValueError (fun X => refsVE_contains X bm hbm) (X _ _ hC) (looks_findIn (X.keeps k) T.iC) (fun self => bind_fn (X.keeps k) self T.tC) ?_
  refine low_initK_BadStakes (s := ⟨(hp.push (kdv_tup [])).push (excO C hp.objs.size), g, dr, tk, os⟩) T (X.keeps k) (hlim.keeps k) hget hnx ?_ fun h' tk' dx ⟨k', hx, dn, dne, hns⟩ => ?_
  · show A.depth + 1 < recursionLimit
    exact hroom
  · have old : ∀ b o, hp.get? b = some o → h'.get? b = some o := fun b o e => k' b o (Nat.ne_of_lt (Nat.lt_succ_of_lt (Heap.lt_size e))) (k b o e)
    have z : hp.objs.size + 1 + 1 ≤ dx := by
      first
        | (simpa only [Heap.size_push] using dn)
        | exact dn
        | (have q := dn; rw [Heap.size_push, Heap.size_push] at q; exact q)
    exact ⟨rfl, hq h' tk' (hp.objs.size + 1) dx ⟨old, Nat.le_succ _, ⟨_, _, hx, rfl, rfl, rfl, rfl⟩, Nat.le_trans (Nat.le_trans (Nat.le_succ _) (Nat.le_succ _)) z, dne, hns⟩⟩
end
end LowX_BadStakes
end PySem
namespace L2
open PySem PySem.Spec PyProof.Rows
theorem relO_low_BadStakes {v : V} {v' : Value} (r : RelV v v') (f : Str) : RelO (List.lookup f [(("stakes" : Str), v)]) (if f = "stakes" then some v' else none) := by
  by_cases hw : f = "stakes"
  · subst hw
    rw [if_pos rfl]
    have q : List.lookup ("stakes" : Str) [(("stakes" : Str), v)] = some v := by simp [List.lookup]
    rw [q]
    exact r
  · rw [if_neg hw]
    have qw : (f == ("stakes" : Str)) = false := by simpa using hw
    have q2 : List.lookup f [(("stakes" : Str), v)] = none := by simp [List.lookup, qw]
    rw [q2]
    trivial
section
variable {X : Cx} {C fI : Addr}
/-- Low(e) -/
def tMkLow_BadStakes (C : Addr) (ta : TA) : St → Hp → XK → Prop := fun σ H Q => ta σ H fun vs H1 => ∃ v, vs = [v] ∧ ∀ d, H1 d = none → Q (.ref C) (some d) (upd H1 d (.xd [(("stakes" : Str), v)]))
theorem pmk_low_BadStakes {a : Expr} {ta : TA} {p pos : Pos} {k : Nat} (T : PySem.LowX_BadStakes.LowTxt_BadStakes X.K X.mg C fI) (hr : Room k X.A) (ha : PA X [a] ta) (hg : Gl X "BadStakes" := by rfl)
    (he : starEach (a :: []) X.env = (false, eval a X.env) :: starEach [] X.env := by rfl) (hpl : (backTo pos (starEach [] X.env)).any (·.1) = false := by rfl) :
    PMk X (.Call (.Name "BadStakes" p) [a] [] pos) (tMkLow_BadStakes C ta) := by
  intro pins s σ H Q I h
  refine wpAny_Call_Name_kw (ld_glob I hg T.gC ?_)
  refine PySem.W.callWith_K (h₀ := X.base) I.ok.mod.kin T.kC (thn (ha.run pos pins s σ H _ I h) fun us s1 hh => ?_) he hpl
  obtain ⟨vs, H1, I1, r1, v, ev, q1⟩ := hh
  subst ev
  refine ⟨I1.kIn, ?_⟩
  cases r1 with
  | cons rv rn =>
    rename_i v' us'
    cases rn
    show wpAny _ _ (call (.ref C) [v']) _ _ _
    have hlim := I1.nolimit
    obtain ⟨hp, g, dr, tk, os⟩ := s1
    refine wpAny_call (PySem.LowX_BadStakes.low_made_BadStakes T I1.kIn hlim (by have := hr.dp; omega) fun h' tk' e d M => ?_)
    show MkP X pins σ Q (.ref e) ⟨h', g, dr, tk', os⟩
    obtain ⟨oe, fv, hoe, hc, hd, hdat, h1⟩ := M.obj
    have hns := M.ns
    obtain ⟨G', g1, g2⟩ := restrict h' fun b => decide (b ≠ e)
    have gk : ∀ b, b ≠ e → G'.get? b = h'.get? b := fun b hb => g1 b (decide_eq_true hb)
    have ge : G'.get? e = none := g2 e (by simp)
    have old : ∀ b o, hp.get? b = some o → G'.get? b = some o := fun b o q => (gk b (Nat.ne_of_lt (Nat.lt_of_lt_of_le (Heap.lt_size q) M.new))).trans (M.keep b o q)
    have ob : ObjOk X.prog X.w (upd H1 d (.xd [(("stakes" : Str), v)])) G' d (.xd [(("stakes" : Str), v)]) :=
      ⟨_, hns.at (fun o q => (gk d M.dne).trans q), fun f => relO_low_BadStakes rv f⟩
    have J : Inv X pins σ (upd H1 d (.xd [(("stakes" : Str), v)])) ⟨G', g, dr, tk', os⟩ := I1.laid (t' := tk') old M.dbig ob
    refine ⟨e, oe, fv, ⟨G', g, dr, tk', os⟩, _, .ref C, some d, rfl, J, fun b o q => ?_, ge, hoe, ⟨hc, hd⟩, hdat, h1, ?_, rfl, I1.bare, raises_own T.exC T.tyC, q1 d (I1.hok.fresh M.dbig)⟩
    · by_cases hb : b = e
      · have q' : G'.get? b = some o := q
        rw [hb, ge] at q'; cases q'
      · exact (gk b hb).symm.trans q
    · rw [upd_ne (Ne.symm M.dne)]
      exact I1.hok.fresh M.new
/-- BadStakes(e), held as a value -/
theorem pe_lowV_BadStakes {a : Expr} {ta : TA} {p pos : Pos} {k : Nat} (T : PySem.LowX_BadStakes.LowTxt_BadStakes X.K X.mg C fI) (hr : Room k X.A) (ha : PA X [a] ta) (hg : Gl X "BadStakes" := by rfl)
    (he : starEach (a :: []) X.env = (false, eval a X.env) :: starEach [] X.env := by rfl) (hpl : (backTo pos (starEach [] X.env)).any (·.1) = false := by rfl) :
    PE X (.Call (.Name "BadStakes" p) [a] [] pos) (tLowV C "stakes" ta) := by
  refine .mk fun pins s σ H Q I h => ?_
  refine wpAny_Call_Name_kw (ld_glob I hg T.gC ?_)
  refine PySem.W.callWith_K (h₀ := X.base) I.ok.mod.kin T.kC (thn (ha.run pos pins s σ H _ I h) fun us s1 hh => ?_) he hpl
  obtain ⟨vs, H1, I1, r1, v, ev, q1⟩ := hh
  subst ev
  refine ⟨I1.kIn, ?_⟩
  cases r1 with
  | cons rv rn =>
    rename_i v' us'
    cases rn
    show wpAny _ _ (call (.ref C) [v']) _ _ _
    have hlim := I1.nolimit
    obtain ⟨hp, g, dr, tk, os⟩ := s1
    refine wpAny_call (PySem.LowX_BadStakes.low_made_BadStakes T I1.kIn hlim (by have := hr.dp; omega) fun h' tk' e d M => ?_)
    exact lowV_end I1 rv M.keep M.new M.obj M.dbig M.dne M.ns (fun f => relO_low_BadStakes rv f) ⟨v, rfl, q1⟩
/-- BadStakes(stakes = e), held as a value -/
theorem pe_lowVk_BadStakes {kws : List Keyword} {tk : TA} {p pos : Pos} {k : Nat} (T : PySem.LowX_BadStakes.LowTxt_BadStakes X.K X.mg C fI) (hr : Room k X.A) (ha : PK X kws tk) (hg : Gl X "BadStakes" := by rfl)
    (hall : (backToKw pos (keywordEach kws X.env)).all (·.1.isSome) = true := by rfl) (hks : (backToKw pos (keywordEach kws X.env)).filterMap (·.1) = [("stakes" : Str)] := by rfl)
    (hpl : ((backTo pos (starEach [] X.env)).any (·.1) || (backToKw pos (keywordEach kws X.env)).any (·.1.isNone)) = false := by rfl) :
    PE X (.Call (.Name "BadStakes" p) [] kws pos) (tLowV C "stakes" tk) := by
  refine .mk fun pins s σ H Q I h => ?_
  refine wpAny_Call_Name_kw (ld_glob I hg T.gC ?_)
  refine PySem.W.callWith_KW0 (h₀ := X.base) I.ok.mod.kin T.kC hall (thn (ha.run pos pins s σ H _ I h) fun us s1 hh => ?_) hpl
  obtain ⟨vs, H1, I1, r1, v, ev, q1⟩ := hh
  subst ev
  refine ⟨I1.kIn, ?_⟩
  rw [hks]
  cases r1 with
  | cons rv rn =>
    rename_i v' us'
    cases rn
    show wpAny _ _ (call (.ref C) [] [(("stakes" : Str), v')]) _ _ _
    have hlim := I1.nolimit
    obtain ⟨hp, g, dr, tk, os⟩ := s1
    refine wpAny_call (PySem.LowX_BadStakes.low_madeK_BadStakes T I1.kIn hlim (by have := hr.dp; omega) fun h' tk' e d M => ?_)
    exact lowV_end I1 rv M.keep M.new M.obj M.dbig M.dne M.ns (fun f => relO_low_BadStakes rv f) ⟨v, rfl, q1⟩
end
end L2

namespace PySem
namespace LowX_NotTwo
open PySem.W PySem.Calls PyProof.Rows PySem.HandSPX
/-! ### the text of __init__ -/
def iA (p1 p2 : Pos) : Arguments := { posonlyargs := [], args := [{ arg := "self", annotation := none, pos := p1 }, { arg := "count", annotation := none, pos := p2 }], vararg := none, kwonlyargs := [], kw_defaults := [], kwarg := none, defaults := [] }
def iB (q1 q2 q3 q4 : Pos) : List Stmt := [.Assign [.Attribute (.Name "self" q1) "count" q2] (.Name "count" q3) q4]
def iS : Scope := { kind := .function, names := [(PySem.Str.ofString "self", .local), (PySem.Str.ofString "count", .local)], isGenerator := false, isCoroutine := false, more := [] }
/-- what the written part says of Low, at C, and of its __init__, at fI -/
structure LowTxt_NotTwo (K : Frag) (mg : Str → Option Value) (C fI : Addr) : Prop where
  gC : mg "NotTwo" = some (.ref C)
  cls : ∃ nm q N bs bm sn sub ab col dd k0 k1 k2 k3 k5, K.lookup C = some (excClassObj nm q C N bs bm true sn sub ab col dd k0 k1 k2 k3 k5 "ValueError.__new__") ∧ refsVE bm = true
  sa : findIn K (.ref C) "__setattr__" = some (some (.builtin "object.__setattr__"))
  ga : findIn K (.ref C) "__getattribute__" = some (some (.builtin "BaseException.__getattribute__"))
  gg : findIn K (.ref C) "__getattr__" = some none
  noN : findIn K (.ref C) "count" = some none
  iC : findIn K (.ref C) "__init__" = some (some (.ref fI))
  tC : typeIn K (.ref fI) = some (.type "function")
  kC : keepIn K (.ref C) = true
  exC : subIn K (.ref C) (.type "BaseException") = some true
  tyC : typeIn K (.ref C) = some (.type "type")
  hdC : hasDictIn K C = true
  te : exmOne K (.ref C) (.ref C) = some true
  fn : ∃ (oc : Value) (od : Option Addr) (doc pm : Value) (an : Option Addr) (cdv ct : Value) (osl : Array (Option Value)) (p1 p2 q1 q2 q3 q4 : Pos),
    K.lookup fI = some ⟨oc, od, .func (fnOf "__init__" "NotTwo.__init__" (iA p1 p2) (iB q1 q2 q3 q4) iS .none .none doc pm an cdv ct), osl⟩ ∧ codeIn K cdv "NotTwo.__init__" = true
theorem one_size (v : Value) : [v].length ≤ sizeLine := by
  rw [sizeLine_eq]
  exact (by decide : 1 ≤ 16777216)
theorem kept_but {K : Frag} {h h' : Heap} {x : Addr} (X : K.In h) (hx : K.lookup x = none) (k : ∀ b o, b ≠ x → h.get? b = some o → h'.get? b = some o) : K.In h' := fun a o e =>
  k a o (fun z => by rw [z, hx] at e; cases e) (X a o e)
theorem ldC {M : Model} {s : Shared} {name : Str} {scope : Scope} {L a : Addr} {cd : Value} {m : Str → Option Value} {x : Str} {pos : Pos} {v : Value} {Q : Value → Shared → Prop} {A : Around} {E : Value → Shared → Prop} (hn : s.heap.Ns L m) (hv : m x = some v) (h : Q v s)
    (hk : scope.kind = .function := by rfl) (hl : (envOfC name scope L a cd).kindOf x = some .local := by rfl) (hd : (x == ("__debug__" : Str)) = false := by decide) :
    wpAny M A (eval (.Name x pos) (envOfC name scope L a cd)) Q E s := wpAny_Name (wpAny_loadName_local hk hl hn hv h) hd
/-- what __init__ leaves of a fresh exception at x -/
structure InitEnd_NotTwo (h h' : Heap) (x C dx t1 : Addr) (v : Value) : Prop where
  keep : ∀ b o, b ≠ x → h.get? b = some o → h'.get? b = some o
  obj : h'.get? x = some { cls := .ref C, dict := some dx, data := .fields #[.ref t1, .none, .none, .none, .bool false, .none] }
  dbig : h.objs.size ≤ dx
  dne : dx ≠ x
  ns : h'.Ns1 dx (fun y => if y = "count" then some v else none)
/-- a made Low -/
structure OwnMade_NotTwo (h h' : Heap) (e C d : Addr) (v : Value) : Prop where
  keep : ∀ b o, h.get? b = some o → h'.get? b = some o
  new : h.objs.size ≤ e
  obj : ∃ oe vs, h'.get? e = some oe ∧ oe.cls = .ref C ∧ oe.dict = some d ∧ oe.data = .fields vs ∧ vs[1]? = some .none
  dbig : h.objs.size ≤ d
  dne : d ≠ e
  ns : h'.Ns1 d (fun y => if y = "count" then some v else none)
section
variable {prog : Program} {w : World} {A : Around} {E : Value → Shared → Prop} {R : Result → Shared → Prop} {s : Shared} {K : Frag} {mg : Str → Option Value} {C fI : Addr}
theorem low_init_NotTwo (T : LowTxt_NotTwo K mg C fI) {x t0 : Addr} {v : Value} (X : K.In s.heap) (hlim : s.heap.NoLimit) (hx : s.heap.get? x = some (excO C t0)) (hnx : K.lookup x = none) (hroom : A.depth < recursionLimit)
    (hq : ∀ h' tk dx, InitEnd_NotTwo s.heap h' x C dx t0 v → R (.ok (.ret .none)) { s with heap := h', toks := tk }) :
    codeAny (model prog w) A (.call (.ref fI) ⟨[.ref x, v], []⟩) R s := by
  obtain ⟨oc, od, doc, pm, an, cdv, ct, osl, p1, p2, q1, q2, q3, q4, ho, hcd⟩ := T.fn
  obtain ⟨nm, q, N, bs, bm, sn, sub, ab, col, dd, k0, k1, k2, k3, k5, hC, hbm⟩ := T.cls
  have hcl : clsIn K C = some { name := nm, bases := bs, mro := .ref C :: bm, ns := N, qualname := q, hasDict := true, slotNames := sn, subclasses := sub, abstract := ab, collection := col, hasDel := false } := by unfold clsIn; rw [hC] <;> rfl
  refine Att.call_fn (binds := [("self", .ref x), ("count", v)]) X hlim ho hcd hroom (BindsTo.of_eq (by first | rfl | with_unfolding_all rfl)) (by first | rfl | decide | with_unfolding_all rfl) (fun s₁ IC => ?_) rfl rfl rfl
  obtain ⟨h₁, tk₁, rfl⟩ := IC.toInCall.same
  have k : ∀ b o, s.heap.get? b = some o → h₁.get? b = some o := IC.toInCall.keep
  have hn := IC.toInCall.ns
  have hxL : s.heap.objs.size ≠ x := Nat.ne_of_gt (Heap.lt_size hx)
  have X₁ : K.In h₁ := X.keeps k
  have hx₁ := k _ _ hx
  -- self.by = by
  show wpAny _ _ (execs _ _) _ _ _
  refine wpAny_execs_cons (plainObj_wpAny_Assign_Attribute ?_)
  refine ldC (v := v) hn (by first | rfl | with_unfolding_all rfl | kernel_rfl) (ldC (v := .ref x) hn (by first | rfl | with_unfolding_all rfl | kernel_rfl) ?_)
  refine set_plain X₁ (ox := excO C t0) (od := none) ⟨hx₁, rfl, rfl, trivial⟩ T.sa ?_
  refine exc_osa X₁ hx₁ hcl (show refsVE (.ref C :: bm) = true from hbm) rfl T.noN (fun h₃ tk₃ dx k₃ dn dne hx₃ hn₃ => ?_)
  show wpAny _ _ (execs _ _) _ _ _
  have z : s.heap.objs.size < h₁.objs.size := hn.lt
  exact wpAny_execs_nil (hq h₃ tk₃ dx ⟨fun b o hb e => k₃ b o hb (k b o e), hx₃, Nat.le_of_lt (Nat.lt_of_lt_of_le z dn), dne, hn₃⟩)
theorem low_made_NotTwo (T : LowTxt_NotTwo K mg C fI) {v : Value} (X : K.In s.heap) (hlim : s.heap.NoLimit) (hroom : A.depth + 1 < recursionLimit)
    (hq : ∀ h' tk e d, OwnMade_NotTwo s.heap h' e C d v → R (.ok (.ret (.ref e))) { s with heap := h', toks := tk }) :
    codeAny (model prog w) A (.call (.ref C) ⟨[v], []⟩) R s := by
  obtain ⟨nm, q, N, bs, bm, sn, sub, ab, col, dd, k0, k1, k2, k3, k5, hC, hbm⟩ := T.cls
  obtain ⟨hp, g, dr, tk, os⟩ := s
  have k : ∀ b o, hp.get? b = some o → ((hp.push (kdv_tup [v])).push (excO C hp.objs.size)).get? b = some o := fun b o e => Heap.get?_push_of_some _ (Heap.get?_push_of_some _ e)
  have hget : ((hp.push (kdv_tup [v])).push (excO C hp.objs.size)).get? (hp.objs.size + 1) = some (excO C hp.objs.size) := by heap_get
  have hnx : K.lookup (hp.objs.size + 1) = none := by
    cases e : K.lookup (hp.objs.size + 1) with
    | none => rfl
    | some o =>
      have z : hp.get? (hp.objs.size + 1) = some o := X _ _ e
      exact absurd (Nat.lt_of_succ_lt (Heap.lt_size z)) (Nat.lt_irrefl _)
  refine call_own F.excBase_ValueError (fun X => refsVE_contains X bm hbm) (X _ _ hC) (looks_findIn X T.iC) (fun self => bind_fn X self T.tC) (one_size v) ?_
  refine low_init_NotTwo (s := ⟨(hp.push (kdv_tup [v])).push (excO C hp.objs.size), g, dr, tk, os⟩) T (X.keeps k) (hlim.keeps k) hget hnx ?_ fun h' tk' dx ⟨k', hx, dn, dne, hns⟩ => ?_
  · show A.depth + 1 < recursionLimit
    exact hroom
  · have old : ∀ b o, hp.get? b = some o → h'.get? b = some o := fun b o e => k' b o (Nat.ne_of_lt (Nat.lt_succ_of_lt (Heap.lt_size e))) (k b o e)
    have z : hp.objs.size + 1 + 1 ≤ dx := by
      first
        | (simpa only [Heap.size_push] using dn)
        | exact dn
        | (have q := dn; rw [Heap.size_push, Heap.size_push] at q; exact q)
    exact ⟨rfl, hq h' tk' (hp.objs.size + 1) dx ⟨old, Nat.le_succ _, ⟨_, _, hx, rfl, rfl, rfl, rfl⟩, Nat.le_trans (Nat.le_trans (Nat.le_succ _) (Nat.le_succ _)) z, dne, hns⟩⟩
theorem low_initK_NotTwo (T : LowTxt_NotTwo K mg C fI) {x t0 : Addr} {v : Value} (X : K.In s.heap) (hlim : s.heap.NoLimit) (hx : s.heap.get? x = some (excO C t0)) (hnx : K.lookup x = none) (hroom : A.depth < recursionLimit)
    (hq : ∀ h' tk dx, InitEnd_NotTwo s.heap h' x C dx t0 v → R (.ok (.ret .none)) { s with heap := h', toks := tk }) :
    codeAny (model prog w) A (.call (.ref fI) ⟨[.ref x], [(("count" : Str), v)]⟩) R s := by
  obtain ⟨oc, od, doc, pm, an, cdv, ct, osl, p1, p2, q1, q2, q3, q4, ho, hcd⟩ := T.fn
  obtain ⟨nm, q, N, bs, bm, sn, sub, ab, col, dd, k0, k1, k2, k3, k5, hC, hbm⟩ := T.cls
  have hcl : clsIn K C = some { name := nm, bases := bs, mro := .ref C :: bm, ns := N, qualname := q, hasDict := true, slotNames := sn, subclasses := sub, abstract := ab, collection := col, hasDel := false } := by unfold clsIn; rw [hC] <;> rfl
  refine Att.call_fn (binds := [("self", .ref x), ("count", v)]) X hlim ho hcd hroom (BindsTo.of_eq (by first | rfl | with_unfolding_all rfl)) (by first | rfl | decide | with_unfolding_all rfl) (fun s₁ IC => ?_) rfl rfl rfl
  obtain ⟨h₁, tk₁, rfl⟩ := IC.toInCall.same
  have k : ∀ b o, s.heap.get? b = some o → h₁.get? b = some o := IC.toInCall.keep
  have hn := IC.toInCall.ns
  have hxL : s.heap.objs.size ≠ x := Nat.ne_of_gt (Heap.lt_size hx)
  have X₁ : K.In h₁ := X.keeps k
  have hx₁ := k _ _ hx
  -- self.by = by
  show wpAny _ _ (execs _ _) _ _ _
  refine wpAny_execs_cons (plainObj_wpAny_Assign_Attribute ?_)
  refine ldC (v := v) hn (by first | rfl | with_unfolding_all rfl | kernel_rfl) (ldC (v := .ref x) hn (by first | rfl | with_unfolding_all rfl | kernel_rfl) ?_)
  refine set_plain X₁ (ox := excO C t0) (od := none) ⟨hx₁, rfl, rfl, trivial⟩ T.sa ?_
  refine exc_osa X₁ hx₁ hcl (show refsVE (.ref C :: bm) = true from hbm) rfl T.noN (fun h₃ tk₃ dx k₃ dn dne hx₃ hn₃ => ?_)
  show wpAny _ _ (execs _ _) _ _ _
  have z : s.heap.objs.size < h₁.objs.size := hn.lt
  exact wpAny_execs_nil (hq h₃ tk₃ dx ⟨fun b o hb e => k₃ b o hb (k b o e), hx₃, Nat.le_of_lt (Nat.lt_of_lt_of_le z dn), dne, hn₃⟩)
theorem low_madeK_NotTwo (T : LowTxt_NotTwo K mg C fI) {v : Value} (X : K.In s.heap) (hlim : s.heap.NoLimit) (hroom : A.depth + 1 < recursionLimit)
    (hq : ∀ h' tk e d, OwnMade_NotTwo s.heap h' e C d v → R (.ok (.ret (.ref e))) { s with heap := h', toks := tk }) :
    codeAny (model prog w) A (.call (.ref C) ⟨[], [(("count" : Str), v)]⟩) R s := by
  obtain ⟨nm, q, N, bs, bm, sn, sub, ab, col, dd, k0, k1, k2, k3, k5, hC, hbm⟩ := T.cls
  obtain ⟨hp, g, dr, tk, os⟩ := s
  have k : ∀ b o, hp.get? b = some o → ((hp.push (kdv_tup [])).push (excO C hp.objs.size)).get? b = some o := fun b o e => Heap.get?_push_of_some _ (Heap.get?_push_of_some _ e)
  have hget : ((hp.push (kdv_tup [])).push (excO C hp.objs.size)).get? (hp.objs.size + 1) = some (excO C hp.objs.size) := by heap_get
  have hnx : K.lookup (hp.objs.size + 1) = none := by
    cases e : K.lookup (hp.objs.size + 1) with
    | none => rfl
    | some o =>
      have z : hp.get? (hp.objs.size + 1) = some o := X _ _ e
      exact absurd (Nat.lt_of_succ_lt (Heap.lt_size z)) (Nat.lt_irrefl _)
  refine call_ownK F.excBase_ValueError (fun X => refsVE_contains X bm hbm) (X _ _ hC) (looks_findIn (X.keeps k) T.iC) (fun self => bind_fn (X.keeps k) self T.tC) ?_
  refine low_initK_NotTwo (s := ⟨(hp.push (kdv_tup [])).push (excO C hp.objs.size), g, dr, tk, os⟩) T (X.keeps k) (hlim.keeps k) hget hnx ?_ fun h' tk' dx ⟨k', hx, dn, dne, hns⟩ => ?_
  · show A.depth + 1 < recursionLimit
    exact hroom
  · have old : ∀ b o, hp.get? b = some o → h'.get? b = some o := fun b o e => k' b o (Nat.ne_of_lt (Nat.lt_succ_of_lt (Heap.lt_size e))) (k b o e)
    have z : hp.objs.size + 1 + 1 ≤ dx := by
      first
        | (simpa only [Heap.size_push] using dn)
        | exact dn
        | (have q := dn; rw [Heap.size_push, Heap.size_push] at q; exact q)
    exact ⟨rfl, hq h' tk' (hp.objs.size + 1) dx ⟨old, Nat.le_succ _, ⟨_, _, hx, rfl, rfl, rfl, rfl⟩, Nat.le_trans (Nat.le_trans (Nat.le_succ _) (Nat.le_succ _)) z, dne, hns⟩⟩
end
end LowX_NotTwo
end PySem
namespace L2
open PySem PySem.Spec PyProof.Rows
theorem relO_low_NotTwo {v : V} {v' : Value} (r : RelV v v') (f : Str) : RelO (List.lookup f [(("count" : Str), v)]) (if f = "count" then some v' else none) := by
  by_cases hw : f = "count"
  · subst hw
    rw [if_pos rfl]
    have q : List.lookup ("count" : Str) [(("count" : Str), v)] = some v := by simp [List.lookup]
    rw [q]
    exact r
  · rw [if_neg hw]
    have qw : (f == ("count" : Str)) = false := by simpa using hw
    have q2 : List.lookup f [(("count" : Str), v)] = none := by simp [List.lookup, qw]
    rw [q2]
    trivial
section
variable {X : Cx} {C fI : Addr}
/-- Low(e) -/
def tMkLow_NotTwo (C : Addr) (ta : TA) : St → Hp → XK → Prop := fun σ H Q => ta σ H fun vs H1 => ∃ v, vs = [v] ∧ ∀ d, H1 d = none → Q (.ref C) (some d) (upd H1 d (.xd [(("count" : Str), v)]))
theorem pmk_low_NotTwo {a : Expr} {ta : TA} {p pos : Pos} {k : Nat} (T : PySem.LowX_NotTwo.LowTxt_NotTwo X.K X.mg C fI) (hr : Room k X.A) (ha : PA X [a] ta) (hg : Gl X "NotTwo" := by rfl)
    (he : starEach (a :: []) X.env = (false, eval a X.env) :: starEach [] X.env := by rfl) (hpl : (backTo pos (starEach [] X.env)).any (·.1) = false := by rfl) :
    PMk X (.Call (.Name "NotTwo" p) [a] [] pos) (tMkLow_NotTwo C ta) := by
  intro pins s σ H Q I h
  refine wpAny_Call_Name_kw (ld_glob I hg T.gC ?_)
  refine PySem.W.callWith_K (h₀ := X.base) I.ok.mod.kin T.kC (thn (ha.run pos pins s σ H _ I h) fun us s1 hh => ?_) he hpl
  obtain ⟨vs, H1, I1, r1, v, ev, q1⟩ := hh
  subst ev
  refine ⟨I1.kIn, ?_⟩
  cases r1 with
  | cons rv rn =>
    rename_i v' us'
    cases rn
    show wpAny _ _ (call (.ref C) [v']) _ _ _
    have hlim := I1.nolimit
    obtain ⟨hp, g, dr, tk, os⟩ := s1
    refine wpAny_call (PySem.LowX_NotTwo.low_made_NotTwo T I1.kIn hlim (by have := hr.dp; omega) fun h' tk' e d M => ?_)
    show MkP X pins σ Q (.ref e) ⟨h', g, dr, tk', os⟩
    obtain ⟨oe, fv, hoe, hc, hd, hdat, h1⟩ := M.obj
    have hns := M.ns
    obtain ⟨G', g1, g2⟩ := restrict h' fun b => decide (b ≠ e)
    have gk : ∀ b, b ≠ e → G'.get? b = h'.get? b := fun b hb => g1 b (decide_eq_true hb)
    have ge : G'.get? e = none := g2 e (by simp)
    have old : ∀ b o, hp.get? b = some o → G'.get? b = some o := fun b o q => (gk b (Nat.ne_of_lt (Nat.lt_of_lt_of_le (Heap.lt_size q) M.new))).trans (M.keep b o q)
    have ob : ObjOk X.prog X.w (upd H1 d (.xd [(("count" : Str), v)])) G' d (.xd [(("count" : Str), v)]) :=
      ⟨_, hns.at (fun o q => (gk d M.dne).trans q), fun f => relO_low_NotTwo rv f⟩
    have J : Inv X pins σ (upd H1 d (.xd [(("count" : Str), v)])) ⟨G', g, dr, tk', os⟩ := I1.laid (t' := tk') old M.dbig ob
    refine ⟨e, oe, fv, ⟨G', g, dr, tk', os⟩, _, .ref C, some d, rfl, J, fun b o q => ?_, ge, hoe, ⟨hc, hd⟩, hdat, h1, ?_, rfl, I1.bare, raises_own T.exC T.tyC, q1 d (I1.hok.fresh M.dbig)⟩
    · by_cases hb : b = e
      · have q' : G'.get? b = some o := q
        rw [hb, ge] at q'; cases q'
      · exact (gk b hb).symm.trans q
    · rw [upd_ne (Ne.symm M.dne)]
      exact I1.hok.fresh M.new
/-- NotTwo(e), held as a value -/
theorem pe_lowV_NotTwo {a : Expr} {ta : TA} {p pos : Pos} {k : Nat} (T : PySem.LowX_NotTwo.LowTxt_NotTwo X.K X.mg C fI) (hr : Room k X.A) (ha : PA X [a] ta) (hg : Gl X "NotTwo" := by rfl)
    (he : starEach (a :: []) X.env = (false, eval a X.env) :: starEach [] X.env := by rfl) (hpl : (backTo pos (starEach [] X.env)).any (·.1) = false := by rfl) :
    PE X (.Call (.Name "NotTwo" p) [a] [] pos) (tLowV C "count" ta) := by
  refine .mk fun pins s σ H Q I h => ?_
  refine wpAny_Call_Name_kw (ld_glob I hg T.gC ?_)
  refine PySem.W.callWith_K (h₀ := X.base) I.ok.mod.kin T.kC (thn (ha.run pos pins s σ H _ I h) fun us s1 hh => ?_) he hpl
  obtain ⟨vs, H1, I1, r1, v, ev, q1⟩ := hh
  subst ev
  refine ⟨I1.kIn, ?_⟩
  cases r1 with
  | cons rv rn =>
    rename_i v' us'
    cases rn
    show wpAny _ _ (call (.ref C) [v']) _ _ _
    have hlim := I1.nolimit
    obtain ⟨hp, g, dr, tk, os⟩ := s1
    refine wpAny_call (PySem.LowX_NotTwo.low_made_NotTwo T I1.kIn hlim (by have := hr.dp; omega) fun h' tk' e d M => ?_)
    exact lowV_end I1 rv M.keep M.new M.obj M.dbig M.dne M.ns (fun f => relO_low_NotTwo rv f) ⟨v, rfl, q1⟩
/-- NotTwo(count = e), held as a value -/
theorem pe_lowVk_NotTwo {kws : List Keyword} {tk : TA} {p pos : Pos} {k : Nat} (T : PySem.LowX_NotTwo.LowTxt_NotTwo X.K X.mg C fI) (hr : Room k X.A) (ha : PK X kws tk) (hg : Gl X "NotTwo" := by rfl)
    (hall : (backToKw pos (keywordEach kws X.env)).all (·.1.isSome) = true := by rfl) (hks : (backToKw pos (keywordEach kws X.env)).filterMap (·.1) = [("count" : Str)] := by rfl)
    (hpl : ((backTo pos (starEach [] X.env)).any (·.1) || (backToKw pos (keywordEach kws X.env)).any (·.1.isNone)) = false := by rfl) :
    PE X (.Call (.Name "NotTwo" p) [] kws pos) (tLowV C "count" tk) := by
  refine .mk fun pins s σ H Q I h => ?_
  refine wpAny_Call_Name_kw (ld_glob I hg T.gC ?_)
  refine PySem.W.callWith_KW0 (h₀ := X.base) I.ok.mod.kin T.kC hall (thn (ha.run pos pins s σ H _ I h) fun us s1 hh => ?_) hpl
  obtain ⟨vs, H1, I1, r1, v, ev, q1⟩ := hh
  subst ev
  refine ⟨I1.kIn, ?_⟩
  rw [hks]
  cases r1 with
  | cons rv rn =>
    rename_i v' us'
    cases rn
    show wpAny _ _ (call (.ref C) [] [(("count" : Str), v')]) _ _ _
    have hlim := I1.nolimit
    obtain ⟨hp, g, dr, tk, os⟩ := s1
    refine wpAny_call (PySem.LowX_NotTwo.low_madeK_NotTwo T I1.kIn hlim (by have := hr.dp; omega) fun h' tk' e d M => ?_)
    exact lowV_end I1 rv M.keep M.new M.obj M.dbig M.dne M.ns (fun f => relO_low_NotTwo rv f) ⟨v, rfl, q1⟩
end
end L2

namespace PySem
namespace LowX_BadCount
open PySem.W PySem.Calls PyProof.Rows PySem.HandSPX
/-! ### the text of __init__ -/
def iA (p1 p2 : Pos) : Arguments := { posonlyargs := [], args := [{ arg := "self", annotation := none, pos := p1 }, { arg := "count", annotation := none, pos := p2 }], vararg := none, kwonlyargs := [], kw_defaults := [], kwarg := none, defaults := [] }
def iB (q1 q2 q3 q4 : Pos) : List Stmt := [.Assign [.Attribute (.Name "self" q1) "count" q2] (.Name "count" q3) q4]
def iS : Scope := { kind := .function, names := [(PySem.Str.ofString "self", .local), (PySem.Str.ofString "count", .local)], isGenerator := false, isCoroutine := false, more := [] }
/-- what the written part says of Low, at C, and of its __init__, at fI -/
structure LowTxt_BadCount (K : Frag) (mg : Str → Option Value) (C fI : Addr) : Prop where
  gC : mg "BadCount" = some (.ref C)
  cls : ∃ nm q N bs bm sn sub ab col dd k0 k1 k2 k3 k5, K.lookup C = some (excClassObj nm q C N bs bm true sn sub ab col dd k0 k1 k2 k3 k5 "ValueError.__new__") ∧ refsVE bm = true
  sa : findIn K (.ref C) "__setattr__" = some (some (.builtin "object.__setattr__"))
  ga : findIn K (.ref C) "__getattribute__" = some (some (.builtin "BaseException.__getattribute__"))
  gg : findIn K (.ref C) "__getattr__" = some none
  noN : findIn K (.ref C) "count" = some none
  iC : findIn K (.ref C) "__init__" = some (some (.ref fI))
  tC : typeIn K (.ref fI) = some (.type "function")
  kC : keepIn K (.ref C) = true
  exC : subIn K (.ref C) (.type "BaseException") = some true
  tyC : typeIn K (.ref C) = some (.type "type")
  hdC : hasDictIn K C = true
  te : exmOne K (.ref C) (.ref C) = some true
  fn : ∃ (oc : Value) (od : Option Addr) (doc pm : Value) (an : Option Addr) (cdv ct : Value) (osl : Array (Option Value)) (p1 p2 q1 q2 q3 q4 : Pos),
    K.lookup fI = some ⟨oc, od, .func (fnOf "__init__" "BadCount.__init__" (iA p1 p2) (iB q1 q2 q3 q4) iS .none .none doc pm an cdv ct), osl⟩ ∧ codeIn K cdv "BadCount.__init__" = true
theorem one_size (v : Value) : [v].length ≤ sizeLine := by
  rw [sizeLine_eq]
  exact (by decide : 1 ≤ 16777216)
theorem kept_but {K : Frag} {h h' : Heap} {x : Addr} (X : K.In h) (hx : K.lookup x = none) (k : ∀ b o, b ≠ x → h.get? b = some o → h'.get? b = some o) : K.In h' := fun a o e =>
  k a o (fun z => by rw [z, hx] at e; cases e) (X a o e)
theorem ldC {M : Model} {s : Shared} {name : Str} {scope : Scope} {L a : Addr} {cd : Value} {m : Str → Option Value} {x : Str} {pos : Pos} {v : Value} {Q : Value → Shared → Prop} {A : Around} {E : Value → Shared → Prop} (hn : s.heap.Ns L m) (hv : m x = some v) (h : Q v s)
    (hk : scope.kind = .function := by rfl) (hl : (envOfC name scope L a cd).kindOf x = some .local := by rfl) (hd : (x == ("__debug__" : Str)) = false := by decide) :
    wpAny M A (eval (.Name x pos) (envOfC name scope L a cd)) Q E s := wpAny_Name (wpAny_loadName_local hk hl hn hv h) hd
/-- what __init__ leaves of a fresh exception at x -/
structure InitEnd_BadCount (h h' : Heap) (x C dx t1 : Addr) (v : Value) : Prop where
  keep : ∀ b o, b ≠ x → h.get? b = some o → h'.get? b = some o
  obj : h'.get? x = some { cls := .ref C, dict := some dx, data := .fields #[.ref t1, .none, .none, .none, .bool false, .none] }
  dbig : h.objs.size ≤ dx
  dne : dx ≠ x
  ns : h'.Ns1 dx (fun y => if y = "count" then some v else none)
/-- a made Low -/
structure OwnMade_BadCount (h h' : Heap) (e C d : Addr) (v : Value) : Prop where
  keep : ∀ b o, h.get? b = some o → h'.get? b = some o
  new : h.objs.size ≤ e
  obj : ∃ oe vs, h'.get? e = some oe ∧ oe.cls = .ref C ∧ oe.dict = some d ∧ oe.data = .fields vs ∧ vs[1]? = some .none
  dbig : h.objs.size ≤ d
  dne : d ≠ e
  ns : h'.Ns1 d (fun y => if y = "count" then some v else none)
section
variable {prog : Program} {w : World} {A : Around} {E : Value → Shared → Prop} {R : Result → Shared → Prop} {s : Shared} {K : Frag} {mg : Str → Option Value} {C fI : Addr}
theorem low_init_BadCount (T : LowTxt_BadCount K mg C fI) {x t0 : Addr} {v : Value} (X : K.In s.heap) (hlim : s.heap.NoLimit) (hx : s.heap.get? x = some (excO C t0)) (hnx : K.lookup x = none) (hroom : A.depth < recursionLimit)
    (hq : ∀ h' tk dx, InitEnd_BadCount s.heap h' x C dx t0 v → R (.ok (.ret .none)) { s with heap := h', toks := tk }) :
    codeAny (model prog w) A (.call (.ref fI) ⟨[.ref x, v], []⟩) R s := by
  obtain ⟨oc, od, doc, pm, an, cdv, ct, osl, p1, p2, q1, q2, q3, q4, ho, hcd⟩ := T.fn
  obtain ⟨nm, q, N, bs, bm, sn, sub, ab, col, dd, k0, k1, k2, k3, k5, hC, hbm⟩ := T.cls
  have hcl : clsIn K C = some { name := nm, bases := bs, mro := .ref C :: bm, ns := N, qualname := q, hasDict := true, slotNames := sn, subclasses := sub, abstract := ab, collection := col, hasDel := false } := by unfold clsIn; rw [hC] <;> rfl
  refine Att.call_fn (binds := [("self", .ref x), ("count", v)]) X hlim ho hcd hroom (BindsTo.of_eq (by first | rfl | with_unfolding_all rfl)) (by first | rfl | decide | with_unfolding_all rfl) (fun s₁ IC => ?_) rfl rfl rfl
  obtain ⟨h₁, tk₁, rfl⟩ := IC.toInCall.same
  have k : ∀ b o, s.heap.get? b = some o → h₁.get? b = some o := IC.toInCall.keep
  have hn := IC.toInCall.ns
  have hxL : s.heap.objs.size ≠ x := Nat.ne_of_gt (Heap.lt_size hx)
  have X₁ : K.In h₁ := X.keeps k
  have hx₁ := k _ _ hx
  -- self.by = by
  show wpAny _ _ (execs _ _) _ _ _
  refine wpAny_execs_cons (plainObj_wpAny_Assign_Attribute ?_)
  refine ldC (v := v) hn (by first | rfl | with_unfolding_all rfl | kernel_rfl) (ldC (v := .ref x) hn (by first | rfl | with_unfolding_all rfl | kernel_rfl) ?_)
  refine set_plain X₁ (ox := excO C t0) (od := none) ⟨hx₁, rfl, rfl, trivial⟩ T.sa ?_
  refine exc_osa X₁ hx₁ hcl (show refsVE (.ref C :: bm) = true from hbm) rfl T.noN (fun h₃ tk₃ dx k₃ dn dne hx₃ hn₃ => ?_)
  show wpAny _ _ (execs _ _) _ _ _
  have z : s.heap.objs.size < h₁.objs.size := hn.lt
  exact wpAny_execs_nil (hq h₃ tk₃ dx ⟨fun b o hb e => k₃ b o hb (k b o e), hx₃, Nat.le_of_lt (Nat.lt_of_lt_of_le z dn), dne, hn₃⟩)
theorem low_made_BadCount (T : LowTxt_BadCount K mg C fI) {v : Value} (X : K.In s.heap) (hlim : s.heap.NoLimit) (hroom : A.depth + 1 < recursionLimit)
    (hq : ∀ h' tk e d, OwnMade_BadCount s.heap h' e C d v → R (.ok (.ret (.ref e))) { s with heap := h', toks := tk }) :
    codeAny (model prog w) A (.call (.ref C) ⟨[v], []⟩) R s := by
  obtain ⟨nm, q, N, bs, bm, sn, sub, ab, col, dd, k0, k1, k2, k3, k5, hC, hbm⟩ := T.cls
  obtain ⟨hp, g, dr, tk, os⟩ := s
  have k : ∀ b o, hp.get? b = some o → ((hp.push (kdv_tup [v])).push (excO C hp.objs.size)).get? b = some o := fun b o e => Heap.get?_push_of_some _ (Heap.get?_push_of_some _ e)
  have hget : ((hp.push (kdv_tup [v])).push (excO C hp.objs.size)).get? (hp.objs.size + 1) = some (excO C hp.objs.size) := by heap_get
  have hnx : K.lookup (hp.objs.size + 1) = none := by
    cases e : K.lookup (hp.objs.size + 1) with
    | none => rfl
    | some o =>
      have z : hp.get? (hp.objs.size + 1) = some o := X _ _ e
      exact absurd (Nat.lt_of_succ_lt (Heap.lt_size z)) (Nat.lt_irrefl _)
  refine call_own F.excBase_ValueError (fun X => refsVE_contains X bm hbm) (X _ _ hC) (looks_findIn X T.iC) (fun self => bind_fn X self T.tC) (one_size v) ?_
  refine low_init_BadCount (s := ⟨(hp.push (kdv_tup [v])).push (excO C hp.objs.size), g, dr, tk, os⟩) T (X.keeps k) (hlim.keeps k) hget hnx ?_ fun h' tk' dx ⟨k', hx, dn, dne, hns⟩ => ?_
  · show A.depth + 1 < recursionLimit
    exact hroom
  · have old : ∀ b o, hp.get? b = some o → h'.get? b = some o := fun b o e => k' b o (Nat.ne_of_lt (Nat.lt_succ_of_lt (Heap.lt_size e))) (k b o e)
    have z : hp.objs.size + 1 + 1 ≤ dx := by
      first
        | (simpa only [Heap.size_push] using dn)
        | exact dn
        | (have q := dn; rw [Heap.size_push, Heap.size_push] at q; exact q)
    exact ⟨rfl, hq h' tk' (hp.objs.size + 1) dx ⟨old, Nat.le_succ _, ⟨_, _, hx, rfl, rfl, rfl, rfl⟩, Nat.le_trans (Nat.le_trans (Nat.le_succ _) (Nat.le_succ _)) z, dne, hns⟩⟩
theorem low_initK_BadCount (T : LowTxt_BadCount K mg C fI) {x t0 : Addr} {v : Value} (X : K.In s.heap) (hlim : s.heap.NoLimit) (hx : s.heap.get? x = some (excO C t0)) (hnx : K.lookup x = none) (hroom : A.depth < recursionLimit)
    (hq : ∀ h' tk dx, InitEnd_BadCount s.heap h' x C dx t0 v → R (.ok (.ret .none)) { s with heap := h', toks := tk }) :
    codeAny (model prog w) A (.call (.ref fI) ⟨[.ref x], [(("count" : Str), v)]⟩) R s := by
  obtain ⟨oc, od, doc, pm, an, cdv, ct, osl, p1, p2, q1, q2, q3, q4, ho, hcd⟩ := T.fn
  obtain ⟨nm, q, N, bs, bm, sn, sub, ab, col, dd, k0, k1, k2, k3, k5, hC, hbm⟩ := T.cls
  have hcl : clsIn K C = some { name := nm, bases := bs, mro := .ref C :: bm, ns := N, qualname := q, hasDict := true, slotNames := sn, subclasses := sub, abstract := ab, collection := col, hasDel := false } := by unfold clsIn; rw [hC] <;> rfl
  refine Att.call_fn (binds := [("self", .ref x), ("count", v)]) X hlim ho hcd hroom (BindsTo.of_eq (by first | rfl | with_unfolding_all rfl)) (by first | rfl | decide | with_unfolding_all rfl) (fun s₁ IC => ?_) rfl rfl rfl
  obtain ⟨h₁, tk₁, rfl⟩ := IC.toInCall.same
  have k : ∀ b o, s.heap.get? b = some o → h₁.get? b = some o := IC.toInCall.keep
  have hn := IC.toInCall.ns
  have hxL : s.heap.objs.size ≠ x := Nat.ne_of_gt (Heap.lt_size hx)
  have X₁ : K.In h₁ := X.keeps k
  have hx₁ := k _ _ hx
  -- self.by = by
  show wpAny _ _ (execs _ _) _ _ _
  refine wpAny_execs_cons (plainObj_wpAny_Assign_Attribute ?_)
  refine ldC (v := v) hn (by first | rfl | with_unfolding_all rfl | kernel_rfl) (ldC (v := .ref x) hn (by first | rfl | with_unfolding_all rfl | kernel_rfl) ?_)
  refine set_plain X₁ (ox := excO C t0) (od := none) ⟨hx₁, rfl, rfl, trivial⟩ T.sa ?_
  refine exc_osa X₁ hx₁ hcl (show refsVE (.ref C :: bm) = true from hbm) rfl T.noN (fun h₃ tk₃ dx k₃ dn dne hx₃ hn₃ => ?_)
  show wpAny _ _ (execs _ _) _ _ _
  have z : s.heap.objs.size < h₁.objs.size := hn.lt
  exact wpAny_execs_nil (hq h₃ tk₃ dx ⟨fun b o hb e => k₃ b o hb (k b o e), hx₃, Nat.le_of_lt (Nat.lt_of_lt_of_le z dn), dne, hn₃⟩)
theorem low_madeK_BadCount (T : LowTxt_BadCount K mg C fI) {v : Value} (X : K.In s.heap) (hlim : s.heap.NoLimit) (hroom : A.depth + 1 < recursionLimit)
    (hq : ∀ h' tk e d, OwnMade_BadCount s.heap h' e C d v → R (.ok (.ret (.ref e))) { s with heap := h', toks := tk }) :
    codeAny (model prog w) A (.call (.ref C) ⟨[], [(("count" : Str), v)]⟩) R s := by
  obtain ⟨nm, q, N, bs, bm, sn, sub, ab, col, dd, k0, k1, k2, k3, k5, hC, hbm⟩ := T.cls
  obtain ⟨hp, g, dr, tk, os⟩ := s
  have k : ∀ b o, hp.get? b = some o → ((hp.push (kdv_tup [])).push (excO C hp.objs.size)).get? b = some o := fun b o e => Heap.get?_push_of_some _ (Heap.get?_push_of_some _ e)
  have hget : ((hp.push (kdv_tup [])).push (excO C hp.objs.size)).get? (hp.objs.size + 1) = some (excO C hp.objs.size) := by heap_get
  have hnx : K.lookup (hp.objs.size + 1) = none := by
    cases e : K.lookup (hp.objs.size + 1) with
    | none => rfl
    | some o =>
      have z : hp.get? (hp.objs.size + 1) = some o := X _ _ e
      exact absurd (Nat.lt_of_succ_lt (Heap.lt_size z)) (Nat.lt_irrefl _)
  refine call_ownK F.excBase_ValueError (fun X => refsVE_contains X bm hbm) (X _ _ hC) (looks_findIn (X.keeps k) T.iC) (fun self => bind_fn (X.keeps k) self T.tC) ?_
  refine low_initK_BadCount (s := ⟨(hp.push (kdv_tup [])).push (excO C hp.objs.size), g, dr, tk, os⟩) T (X.keeps k) (hlim.keeps k) hget hnx ?_ fun h' tk' dx ⟨k', hx, dn, dne, hns⟩ => ?_
  · show A.depth + 1 < recursionLimit
    exact hroom
  · have old : ∀ b o, hp.get? b = some o → h'.get? b = some o := fun b o e => k' b o (Nat.ne_of_lt (Nat.lt_succ_of_lt (Heap.lt_size e))) (k b o e)
    have z : hp.objs.size + 1 + 1 ≤ dx := by
      first
        | (simpa only [Heap.size_push] using dn)
        | exact dn
        | (have q := dn; rw [Heap.size_push, Heap.size_push] at q; exact q)
    exact ⟨rfl, hq h' tk' (hp.objs.size + 1) dx ⟨old, Nat.le_succ _, ⟨_, _, hx, rfl, rfl, rfl, rfl⟩, Nat.le_trans (Nat.le_trans (Nat.le_succ _) (Nat.le_succ _)) z, dne, hns⟩⟩
end
end LowX_BadCount
end PySem
namespace L2
open PySem PySem.Spec PyProof.Rows
theorem relO_low_BadCount {v : V} {v' : Value} (r : RelV v v') (f : Str) : RelO (List.lookup f [(("count" : Str), v)]) (if f = "count" then some v' else none) := by
  by_cases hw : f = "count"
  · subst hw
    rw [if_pos rfl]
    have q : List.lookup ("count" : Str) [(("count" : Str), v)] = some v := by simp [List.lookup]
    rw [q]
    exact r
  · rw [if_neg hw]
    have qw : (f == ("count" : Str)) = false := by simpa using hw
    have q2 : List.lookup f [(("count" : Str), v)] = none := by simp [List.lookup, qw]
    rw [q2]
    trivial
section
variable {X : Cx} {C fI : Addr}
/-- Low(e) -/
def tMkLow_BadCount (C : Addr) (ta : TA) : St → Hp → XK → Prop := fun σ H Q => ta σ H fun vs H1 => ∃ v, vs = [v] ∧ ∀ d, H1 d = none → Q (.ref C) (some d) (upd H1 d (.xd [(("count" : Str), v)]))
theorem pmk_low_BadCount {a : Expr} {ta : TA} {p pos : Pos} {k : Nat} (T : PySem.LowX_BadCount.LowTxt_BadCount X.K X.mg C fI) (hr : Room k X.A) (ha : PA X [a] ta) (hg : Gl X "BadCount" := by rfl)
    (he : starEach (a :: []) X.env = (false, eval a X.env) :: starEach [] X.env := by rfl) (hpl : (backTo pos (starEach [] X.env)).any (·.1) = false := by rfl) :
    PMk X (.Call (.Name "BadCount" p) [a] [] pos) (tMkLow_BadCount C ta) := by
  intro pins s σ H Q I h
  refine wpAny_Call_Name_kw (ld_glob I hg T.gC ?_)
  refine PySem.W.callWith_K (h₀ := X.base) I.ok.mod.kin T.kC (thn (ha.run pos pins s σ H _ I h) fun us s1 hh => ?_) he hpl
  obtain ⟨vs, H1, I1, r1, v, ev, q1⟩ := hh
  subst ev
  refine ⟨I1.kIn, ?_⟩
  cases r1 with
  | cons rv rn =>
    rename_i v' us'
    cases rn
    show wpAny _ _ (call (.ref C) [v']) _ _ _
    have hlim := I1.nolimit
    obtain ⟨hp, g, dr, tk, os⟩ := s1
    refine wpAny_call (PySem.LowX_BadCount.low_made_BadCount T I1.kIn hlim (by have := hr.dp; omega) fun h' tk' e d M => ?_)
    show MkP X pins σ Q (.ref e) ⟨h', g, dr, tk', os⟩
    obtain ⟨oe, fv, hoe, hc, hd, hdat, h1⟩ := M.obj
    have hns := M.ns
    obtain ⟨G', g1, g2⟩ := restrict h' fun b => decide (b ≠ e)
    have gk : ∀ b, b ≠ e → G'.get? b = h'.get? b := fun b hb => g1 b (decide_eq_true hb)
    have ge : G'.get? e = none := g2 e (by simp)
    have old : ∀ b o, hp.get? b = some o → G'.get? b = some o := fun b o q => (gk b (Nat.ne_of_lt (Nat.lt_of_lt_of_le (Heap.lt_size q) M.new))).trans (M.keep b o q)
    have ob : ObjOk X.prog X.w (upd H1 d (.xd [(("count" : Str), v)])) G' d (.xd [(("count" : Str), v)]) :=
      ⟨_, hns.at (fun o q => (gk d M.dne).trans q), fun f => relO_low_BadCount rv f⟩
    have J : Inv X pins σ (upd H1 d (.xd [(("count" : Str), v)])) ⟨G', g, dr, tk', os⟩ := I1.laid (t' := tk') old M.dbig ob
    refine ⟨e, oe, fv, ⟨G', g, dr, tk', os⟩, _, .ref C, some d, rfl, J, fun b o q => ?_, ge, hoe, ⟨hc, hd⟩, hdat, h1, ?_, rfl, I1.bare, raises_own T.exC T.tyC, q1 d (I1.hok.fresh M.dbig)⟩
    · by_cases hb : b = e
      · have q' : G'.get? b = some o := q
        rw [hb, ge] at q'; cases q'
      · exact (gk b hb).symm.trans q
    · rw [upd_ne (Ne.symm M.dne)]
      exact I1.hok.fresh M.new
/-- BadCount(e), held as a value -/
theorem pe_lowV_BadCount {a : Expr} {ta : TA} {p pos : Pos} {k : Nat} (T : PySem.LowX_BadCount.LowTxt_BadCount X.K X.mg C fI) (hr : Room k X.A) (ha : PA X [a] ta) (hg : Gl X "BadCount" := by rfl)
    (he : starEach (a :: []) X.env = (false, eval a X.env) :: starEach [] X.env := by rfl) (hpl : (backTo pos (starEach [] X.env)).any (·.1) = false := by rfl) :
    PE X (.Call (.Name "BadCount" p) [a] [] pos) (tLowV C "count" ta) := by
  refine .mk fun pins s σ H Q I h => ?_
  refine wpAny_Call_Name_kw (ld_glob I hg T.gC ?_)
  refine PySem.W.callWith_K (h₀ := X.base) I.ok.mod.kin T.kC (thn (ha.run pos pins s σ H _ I h) fun us s1 hh => ?_) he hpl
  obtain ⟨vs, H1, I1, r1, v, ev, q1⟩ := hh
  subst ev
  refine ⟨I1.kIn, ?_⟩
  cases r1 with
  | cons rv rn =>
    rename_i v' us'
    cases rn
    show wpAny _ _ (call (.ref C) [v']) _ _ _
    have hlim := I1.nolimit
    obtain ⟨hp, g, dr, tk, os⟩ := s1
    refine wpAny_call (PySem.LowX_BadCount.low_made_BadCount T I1.kIn hlim (by have := hr.dp; omega) fun h' tk' e d M => ?_)
    exact lowV_end I1 rv M.keep M.new M.obj M.dbig M.dne M.ns (fun f => relO_low_BadCount rv f) ⟨v, rfl, q1⟩
/-- BadCount(count = e), held as a value -/
theorem pe_lowVk_BadCount {kws : List Keyword} {tk : TA} {p pos : Pos} {k : Nat} (T : PySem.LowX_BadCount.LowTxt_BadCount X.K X.mg C fI) (hr : Room k X.A) (ha : PK X kws tk) (hg : Gl X "BadCount" := by rfl)
    (hall : (backToKw pos (keywordEach kws X.env)).all (·.1.isSome) = true := by rfl) (hks : (backToKw pos (keywordEach kws X.env)).filterMap (·.1) = [("count" : Str)] := by rfl)
    (hpl : ((backTo pos (starEach [] X.env)).any (·.1) || (backToKw pos (keywordEach kws X.env)).any (·.1.isNone)) = false := by rfl) :
    PE X (.Call (.Name "BadCount" p) [] kws pos) (tLowV C "count" tk) := by
  refine .mk fun pins s σ H Q I h => ?_
  refine wpAny_Call_Name_kw (ld_glob I hg T.gC ?_)
  refine PySem.W.callWith_KW0 (h₀ := X.base) I.ok.mod.kin T.kC hall (thn (ha.run pos pins s σ H _ I h) fun us s1 hh => ?_) hpl
  obtain ⟨vs, H1, I1, r1, v, ev, q1⟩ := hh
  subst ev
  refine ⟨I1.kIn, ?_⟩
  rw [hks]
  cases r1 with
  | cons rv rn =>
    rename_i v' us'
    cases rn
    show wpAny _ _ (call (.ref C) [] [(("count" : Str), v')]) _ _ _
    have hlim := I1.nolimit
    obtain ⟨hp, g, dr, tk, os⟩ := s1
    refine wpAny_call (PySem.LowX_BadCount.low_madeK_BadCount T I1.kIn hlim (by have := hr.dp; omega) fun h' tk' e d M => ?_)
    exact lowV_end I1 rv M.keep M.new M.obj M.dbig M.dne M.ns (fun f => relO_low_BadCount rv f) ⟨v, rfl, q1⟩
end
end L2

namespace PySem
namespace LowX_NotReliable
open PySem.W PySem.Calls PyProof.Rows PySem.HandSPX
/-! ### the text of __init__ -/
def iA (p1 p2 : Pos) : Arguments := { posonlyargs := [], args := [{ arg := "self", annotation := none, pos := p1 }, { arg := "name", annotation := none, pos := p2 }], vararg := none, kwonlyargs := [], kw_defaults := [], kwarg := none, defaults := [] }
def iB (q1 q2 q3 q4 : Pos) : List Stmt := [.Assign [.Attribute (.Name "self" q1) "name" q2] (.Name "name" q3) q4]
def iS : Scope := { kind := .function, names := [(PySem.Str.ofString "self", .local), (PySem.Str.ofString "name", .local)], isGenerator := false, isCoroutine := false, more := [] }
/-- what the written part says of Low, at C, and of its __init__, at fI -/
structure LowTxt_NotReliable (K : Frag) (mg : Str → Option Value) (C fI : Addr) : Prop where
  gC : mg "NotReliable" = some (.ref C)
  cls : ∃ nm q N bs bm sn sub ab col dd k0 k1 k2 k3 k5, K.lookup C = some (excClassObj nm q C N bs bm true sn sub ab col dd k0 k1 k2 k3 k5 "ValueError.__new__") ∧ refsVE bm = true
  sa : findIn K (.ref C) "__setattr__" = some (some (.builtin "object.__setattr__"))
  ga : findIn K (.ref C) "__getattribute__" = some (some (.builtin "BaseException.__getattribute__"))
  gg : findIn K (.ref C) "__getattr__" = some none
  noN : findIn K (.ref C) "name" = some none
  iC : findIn K (.ref C) "__init__" = some (some (.ref fI))
  tC : typeIn K (.ref fI) = some (.type "function")
  kC : keepIn K (.ref C) = true
  exC : subIn K (.ref C) (.type "BaseException") = some true
  tyC : typeIn K (.ref C) = some (.type "type")
  hdC : hasDictIn K C = true
  te : exmOne K (.ref C) (.ref C) = some true
  fn : ∃ (oc : Value) (od : Option Addr) (doc pm : Value) (an : Option Addr) (cdv ct : Value) (osl : Array (Option Value)) (p1 p2 q1 q2 q3 q4 : Pos),
    K.lookup fI = some ⟨oc, od, .func (fnOf "__init__" "NotReliable.__init__" (iA p1 p2) (iB q1 q2 q3 q4) iS .none .none doc pm an cdv ct), osl⟩ ∧ codeIn K cdv "NotReliable.__init__" = true
theorem one_size (v : Value) : [v].length ≤ sizeLine := by
  rw [sizeLine_eq]
  exact (by decide : 1 ≤ 16777216)
theorem kept_but {K : Frag} {h h' : Heap} {x : Addr} (X : K.In h) (hx : K.lookup x = none) (k : ∀ b o, b ≠ x → h.get? b = some o → h'.get? b = some o) : K.In h' := fun a o e =>
  k a o (fun z => by rw [z, hx] at e; cases e) (X a o e)
theorem ldC {M : Model} {s : Shared} {name : Str} {scope : Scope} {L a : Addr} {cd : Value} {m : Str → Option Value} {x : Str} {pos : Pos} {v : Value} {Q : Value → Shared → Prop} {A : Around} {E : Value → Shared → Prop} (hn : s.heap.Ns L m) (hv : m x = some v) (h : Q v s)
    (hk : scope.kind = .function := by rfl) (hl : (envOfC name scope L a cd).kindOf x = some .local := by rfl) (hd : (x == ("__debug__" : Str)) = false := by decide) :
    wpAny M A (eval (.Name x pos) (envOfC name scope L a cd)) Q E s := wpAny_Name (wpAny_loadName_local hk hl hn hv h) hd
/-- what __init__ leaves of a fresh exception at x -/
structure InitEnd_NotReliable (h h' : Heap) (x C dx t1 : Addr) (v : Value) : Prop where
  keep : ∀ b o, b ≠ x → h.get? b = some o → h'.get? b = some o
  obj : h'.get? x = some { cls := .ref C, dict := some dx, data := .fields #[.ref t1, .none, .none, .none, .bool false, .none] }
  dbig : h.objs.size ≤ dx
  dne : dx ≠ x
  ns : h'.Ns1 dx (fun y => if y = "name" then some v else none)
/-- a made Low -/
structure OwnMade_NotReliable (h h' : Heap) (e C d : Addr) (v : Value) : Prop where
  keep : ∀ b o, h.get? b = some o → h'.get? b = some o
  new : h.objs.size ≤ e
  obj : ∃ oe vs, h'.get? e = some oe ∧ oe.cls = .ref C ∧ oe.dict = some d ∧ oe.data = .fields vs ∧ vs[1]? = some .none
  dbig : h.objs.size ≤ d
  dne : d ≠ e
  ns : h'.Ns1 d (fun y => if y = "name" then some v else none)
section
variable {prog : Program} {w : World} {A : Around} {E : Value → Shared → Prop} {R : Result → Shared → Prop} {s : Shared} {K : Frag} {mg : Str → Option Value} {C fI : Addr}
theorem low_init_NotReliable (T : LowTxt_NotReliable K mg C fI) {x t0 : Addr} {v : Value} (X : K.In s.heap) (hlim : s.heap.NoLimit) (hx : s.heap.get? x = some (excO C t0)) (hnx : K.lookup x = none) (hroom : A.depth < recursionLimit)
    (hq : ∀ h' tk dx, InitEnd_NotReliable s.heap h' x C dx t0 v → R (.ok (.ret .none)) { s with heap := h', toks := tk }) :
    codeAny (model prog w) A (.call (.ref fI) ⟨[.ref x, v], []⟩) R s := by
  obtain ⟨oc, od, doc, pm, an, cdv, ct, osl, p1, p2, q1, q2, q3, q4, ho, hcd⟩ := T.fn
  obtain ⟨nm, q, N, bs, bm, sn, sub, ab, col, dd, k0, k1, k2, k3, k5, hC, hbm⟩ := T.cls
  have hcl : clsIn K C = some { name := nm, bases := bs, mro := .ref C :: bm, ns := N, qualname := q, hasDict := true, slotNames := sn, subclasses := sub, abstract := ab, collection := col, hasDel := false } := by unfold clsIn; rw [hC] <;> rfl
  refine Att.call_fn (binds := [("self", .ref x), ("name", v)]) X hlim ho hcd hroom (BindsTo.of_eq (by first | rfl | with_unfolding_all rfl)) (by first | rfl | decide | with_unfolding_all rfl) (fun s₁ IC => ?_) rfl rfl rfl
  obtain ⟨h₁, tk₁, rfl⟩ := IC.toInCall.same
  have k : ∀ b o, s.heap.get? b = some o → h₁.get? b = some o := IC.toInCall.keep
  have hn := IC.toInCall.ns
  have hxL : s.heap.objs.size ≠ x := Nat.ne_of_gt (Heap.lt_size hx)
  have X₁ : K.In h₁ := X.keeps k
  have hx₁ := k _ _ hx
  -- self.by = by
  show wpAny _ _ (execs _ _) _ _ _
  refine wpAny_execs_cons (plainObj_wpAny_Assign_Attribute ?_)
  refine ldC (v := v) hn (by first | rfl | with_unfolding_all rfl | kernel_rfl) (ldC (v := .ref x) hn (by first | rfl | with_unfolding_all rfl | kernel_rfl) ?_)
  refine set_plain X₁ (ox := excO C t0) (od := none) ⟨hx₁, rfl, rfl, trivial⟩ T.sa ?_
  refine exc_osa X₁ hx₁ hcl (show refsVE (.ref C :: bm) = true from hbm) rfl T.noN (fun h₃ tk₃ dx k₃ dn dne hx₃ hn₃ => ?_)
  show wpAny _ _ (execs _ _) _ _ _
  have z : s.heap.objs.size < h₁.objs.size := hn.lt
  exact wpAny_execs_nil (hq h₃ tk₃ dx ⟨fun b o hb e => k₃ b o hb (k b o e), hx₃, Nat.le_of_lt (Nat.lt_of_lt_of_le z dn), dne, hn₃⟩)
theorem low_made_NotReliable (T : LowTxt_NotReliable K mg C fI) {v : Value} (X : K.In s.heap) (hlim : s.heap.NoLimit) (hroom : A.depth + 1 < recursionLimit)
    (hq : ∀ h' tk e d, OwnMade_NotReliable s.heap h' e C d v → R (.ok (.ret (.ref e))) { s with heap := h', toks := tk }) :
    codeAny (model prog w) A (.call (.ref C) ⟨[v], []⟩) R s := by
  obtain ⟨nm, q, N, bs, bm, sn, sub, ab, col, dd, k0, k1, k2, k3, k5, hC, hbm⟩ := T.cls
  obtain ⟨hp, g, dr, tk, os⟩ := s
  have k : ∀ b o, hp.get? b = some o → ((hp.push (kdv_tup [v])).push (excO C hp.objs.size)).get? b = some o := fun b o e => Heap.get?_push_of_some _ (Heap.get?_push_of_some _ e)
  have hget : ((hp.push (kdv_tup [v])).push (excO C hp.objs.size)).get? (hp.objs.size + 1) = some (excO C hp.objs.size) := by heap_get
  have hnx : K.lookup (hp.objs.size + 1) = none := by
    cases e : K.lookup (hp.objs.size + 1) with
    | none => rfl
    | some o =>
      have z : hp.get? (hp.objs.size + 1) = some o := X _ _ e
      exact absurd (Nat.lt_of_succ_lt (Heap.lt_size z)) (Nat.lt_irrefl _)
  refine call_own F.excBase_ValueError (fun X => refsVE_contains X bm hbm) (X _ _ hC) (looks_findIn X T.iC) (fun self => bind_fn X self T.tC) (one_size v) ?_
  refine low_init_NotReliable (s := ⟨(hp.push (kdv_tup [v])).push (excO C hp.objs.size), g, dr, tk, os⟩) T (X.keeps k) (hlim.keeps k) hget hnx ?_ fun h' tk' dx ⟨k', hx, dn, dne, hns⟩ => ?_
  · show A.depth + 1 < recursionLimit
    exact hroom
  · have old : ∀ b o, hp.get? b = some o → h'.get? b = some o := fun b o e => k' b o (Nat.ne_of_lt (Nat.lt_succ_of_lt (Heap.lt_size e))) (k b o e)
    have z : hp.objs.size + 1 + 1 ≤ dx := by
      first
        | (simpa only [Heap.size_push] using dn)
        | exact dn
        | (have q := dn; rw [Heap.size_push, Heap.size_push] at q; exact q)
    exact ⟨rfl, hq h' tk' (hp.objs.size + 1) dx ⟨old, Nat.le_succ _, ⟨_, _, hx, rfl, rfl, rfl, rfl⟩, Nat.le_trans (Nat.le_trans (Nat.le_succ _) (Nat.le_succ _)) z, dne, hns⟩⟩
theorem low_initK_NotReliable (T : LowTxt_NotReliable K mg C fI) {x t0 : Addr} {v : Value} (X : K.In s.heap) (hlim : s.heap.NoLimit) (hx : s.heap.get? x = some (excO C t0)) (hnx : K.lookup x = none) (hroom : A.depth < recursionLimit)
    (hq : ∀ h' tk dx, InitEnd_NotReliable s.heap h' x C dx t0 v → R (.ok (.ret .none)) { s with heap := h', toks := tk }) :
    codeAny (model prog w) A (.call (.ref fI) ⟨[.ref x], [(("name" : Str), v)]⟩) R s := by
  obtain ⟨oc, od, doc, pm, an, cdv, ct, osl, p1, p2, q1, q2, q3, q4, ho, hcd⟩ := T.fn
  obtain ⟨nm, q, N, bs, bm, sn, sub, ab, col, dd, k0, k1, k2, k3, k5, hC, hbm⟩ := T.cls
  have hcl : clsIn K C = some { name := nm, bases := bs, mro := .ref C :: bm, ns := N, qualname := q, hasDict := true, slotNames := sn, subclasses := sub, abstract := ab, collection := col, hasDel := false } := by unfold clsIn; rw [hC] <;> rfl
  refine Att.call_fn (binds := [("self", .ref x), ("name", v)]) X hlim ho hcd hroom (BindsTo.of_eq (by first | rfl | with_unfolding_all rfl)) (by first | rfl | decide | with_unfolding_all rfl) (fun s₁ IC => ?_) rfl rfl rfl
  obtain ⟨h₁, tk₁, rfl⟩ := IC.toInCall.same
  have k : ∀ b o, s.heap.get? b = some o → h₁.get? b = some o := IC.toInCall.keep
  have hn := IC.toInCall.ns
  have hxL : s.heap.objs.size ≠ x := Nat.ne_of_gt (Heap.lt_size hx)
  have X₁ : K.In h₁ := X.keeps k
  have hx₁ := k _ _ hx
  -- self.by = by
  show wpAny _ _ (execs _ _) _ _ _
  refine wpAny_execs_cons (plainObj_wpAny_Assign_Attribute ?_)
  refine ldC (v := v) hn (by first | rfl | with_unfolding_all rfl | kernel_rfl) (ldC (v := .ref x) hn (by first | rfl | with_unfolding_all rfl | kernel_rfl) ?_)
  refine set_plain X₁ (ox := excO C t0) (od := none) ⟨hx₁, rfl, rfl, trivial⟩ T.sa ?_
  refine exc_osa X₁ hx₁ hcl (show refsVE (.ref C :: bm) = true from hbm) rfl T.noN (fun h₃ tk₃ dx k₃ dn dne hx₃ hn₃ => ?_)
  show wpAny _ _ (execs _ _) _ _ _
  have z : s.heap.objs.size < h₁.objs.size := hn.lt
  exact wpAny_execs_nil (hq h₃ tk₃ dx ⟨fun b o hb e => k₃ b o hb (k b o e), hx₃, Nat.le_of_lt (Nat.lt_of_lt_of_le z dn), dne, hn₃⟩)
theorem low_madeK_NotReliable (T : LowTxt_NotReliable K mg C fI) {v : Value} (X : K.In s.heap) (hlim : s.heap.NoLimit) (hroom : A.depth + 1 < recursionLimit)
    (hq : ∀ h' tk e d, OwnMade_NotReliable s.heap h' e C d v → R (.ok (.ret (.ref e))) { s with heap := h', toks := tk }) :
    codeAny (model prog w) A (.call (.ref C) ⟨[], [(("name" : Str), v)]⟩) R s := by
  obtain ⟨nm, q, N, bs, bm, sn, sub, ab, col, dd, k0, k1, k2, k3, k5, hC, hbm⟩ := T.cls
  obtain ⟨hp, g, dr, tk, os⟩ := s
  have k : ∀ b o, hp.get? b = some o → ((hp.push (kdv_tup [])).push (excO C hp.objs.size)).get? b = some o := fun b o e => Heap.get?_push_of_some _ (Heap.get?_push_of_some _ e)
  have hget : ((hp.push (kdv_tup [])).push (excO C hp.objs.size)).get? (hp.objs.size + 1) = some (excO C hp.objs.size) := by heap_get
  have hnx : K.lookup (hp.objs.size + 1) = none := by
    cases e : K.lookup (hp.objs.size + 1) with
    | none => rfl
    | some o =>
      have z : hp.get? (hp.objs.size + 1) = some o := X _ _ e
      exact absurd (Nat.lt_of_succ_lt (Heap.lt_size z)) (Nat.lt_irrefl _)
  refine call_ownK F.excBase_ValueError (fun X => refsVE_contains X bm hbm) (X _ _ hC) (looks_findIn (X.keeps k) T.iC) (fun self => bind_fn (X.keeps k) self T.tC) ?_
  refine low_initK_NotReliable (s := ⟨(hp.push (kdv_tup [])).push (excO C hp.objs.size), g, dr, tk, os⟩) T (X.keeps k) (hlim.keeps k) hget hnx ?_ fun h' tk' dx ⟨k', hx, dn, dne, hns⟩ => ?_
  · show A.depth + 1 < recursionLimit
    exact hroom
  · have old : ∀ b o, hp.get? b = some o → h'.get? b = some o := fun b o e => k' b o (Nat.ne_of_lt (Nat.lt_succ_of_lt (Heap.lt_size e))) (k b o e)
    have z : hp.objs.size + 1 + 1 ≤ dx := by
      first
        | (simpa only [Heap.size_push] using dn)
        | exact dn
        | (have q := dn; rw [Heap.size_push, Heap.size_push] at q; exact q)
    exact ⟨rfl, hq h' tk' (hp.objs.size + 1) dx ⟨old, Nat.le_succ _, ⟨_, _, hx, rfl, rfl, rfl, rfl⟩, Nat.le_trans (Nat.le_trans (Nat.le_succ _) (Nat.le_succ _)) z, dne, hns⟩⟩
end
end LowX_NotReliable
end PySem
namespace L2
open PySem PySem.Spec PyProof.Rows
theorem relO_low_NotReliable {v : V} {v' : Value} (r : RelV v v') (f : Str) : RelO (List.lookup f [(("name" : Str), v)]) (if f = "name" then some v' else none) := by
  by_cases hw : f = "name"
  · subst hw
    rw [if_pos rfl]
    have q : List.lookup ("name" : Str) [(("name" : Str), v)] = some v := by simp [List.lookup]
    rw [q]
    exact r
  · rw [if_neg hw]
    have qw : (f == ("name" : Str)) = false := by simpa using hw
    have q2 : List.lookup f [(("name" : Str), v)] = none := by simp [List.lookup, qw]
    rw [q2]
    trivial
section
variable {X : Cx} {C fI : Addr}
/-- Low(e) -/
def tMkLow_NotReliable (C : Addr) (ta : TA) : St → Hp → XK → Prop := fun σ H Q => ta σ H fun vs H1 => ∃ v, vs = [v] ∧ ∀ d, H1 d = none → Q (.ref C) (some d) (upd H1 d (.xd [(("name" : Str), v)]))
theorem pmk_low_NotReliable {a : Expr} {ta : TA} {p pos : Pos} {k : Nat} (T : PySem.LowX_NotReliable.LowTxt_NotReliable X.K X.mg C fI) (hr : Room k X.A) (ha : PA X [a] ta) (hg : Gl X "NotReliable" := by rfl)
    (he : starEach (a :: []) X.env = (false, eval a X.env) :: starEach [] X.env := by rfl) (hpl : (backTo pos (starEach [] X.env)).any (·.1) = false := by rfl) :
    PMk X (.Call (.Name "NotReliable" p) [a] [] pos) (tMkLow_NotReliable C ta) := by
  intro pins s σ H Q I h
  refine wpAny_Call_Name_kw (ld_glob I hg T.gC ?_)
  refine PySem.W.callWith_K (h₀ := X.base) I.ok.mod.kin T.kC (thn (ha.run pos pins s σ H _ I h) fun us s1 hh => ?_) he hpl
  obtain ⟨vs, H1, I1, r1, v, ev, q1⟩ := hh
  subst ev
  refine ⟨I1.kIn, ?_⟩
  cases r1 with
  | cons rv rn =>
    rename_i v' us'
    cases rn
    show wpAny _ _ (call (.ref C) [v']) _ _ _
    have hlim := I1.nolimit
    obtain ⟨hp, g, dr, tk, os⟩ := s1
    refine wpAny_call (PySem.LowX_NotReliable.low_made_NotReliable T I1.kIn hlim (by have := hr.dp; omega) fun h' tk' e d M => ?_)
    show MkP X pins σ Q (.ref e) ⟨h', g, dr, tk', os⟩
    obtain ⟨oe, fv, hoe, hc, hd, hdat, h1⟩ := M.obj
    have hns := M.ns
    obtain ⟨G', g1, g2⟩ := restrict h' fun b => decide (b ≠ e)
    have gk : ∀ b, b ≠ e → G'.get? b = h'.get? b := fun b hb => g1 b (decide_eq_true hb)
    have ge : G'.get? e = none := g2 e (by simp)
    have old : ∀ b o, hp.get? b = some o → G'.get? b = some o := fun b o q => (gk b (Nat.ne_of_lt (Nat.lt_of_lt_of_le (Heap.lt_size q) M.new))).trans (M.keep b o q)
    have ob : ObjOk X.prog X.w (upd H1 d (.xd [(("name" : Str), v)])) G' d (.xd [(("name" : Str), v)]) :=
      ⟨_, hns.at (fun o q => (gk d M.dne).trans q), fun f => relO_low_NotReliable rv f⟩
    have J : Inv X pins σ (upd H1 d (.xd [(("name" : Str), v)])) ⟨G', g, dr, tk', os⟩ := I1.laid (t' := tk') old M.dbig ob
    refine ⟨e, oe, fv, ⟨G', g, dr, tk', os⟩, _, .ref C, some d, rfl, J, fun b o q => ?_, ge, hoe, ⟨hc, hd⟩, hdat, h1, ?_, rfl, I1.bare, raises_own T.exC T.tyC, q1 d (I1.hok.fresh M.dbig)⟩
    · by_cases hb : b = e
      · have q' : G'.get? b = some o := q
        rw [hb, ge] at q'; cases q'
      · exact (gk b hb).symm.trans q
    · rw [upd_ne (Ne.symm M.dne)]
      exact I1.hok.fresh M.new
/-- NotReliable(e), held as a value -/
theorem pe_lowV_NotReliable {a : Expr} {ta : TA} {p pos : Pos} {k : Nat} (T : PySem.LowX_NotReliable.LowTxt_NotReliable X.K X.mg C fI) (hr : Room k X.A) (ha : PA X [a] ta) (hg : Gl X "NotReliable" := by rfl)
    (he : starEach (a :: []) X.env = (false, eval a X.env) :: starEach [] X.env := by rfl) (hpl : (backTo pos (starEach [] X.env)).any (·.1) = false := by rfl) :
    PE X (.Call (.Name "NotReliable" p) [a] [] pos) (tLowV C "name" ta) := by
  refine .mk fun pins s σ H Q I h => ?_
  refine wpAny_Call_Name_kw (ld_glob I hg T.gC ?_)
  refine PySem.W.callWith_K (h₀ := X.base) I.ok.mod.kin T.kC (thn (ha.run pos pins s σ H _ I h) fun us s1 hh => ?_) he hpl
  obtain ⟨vs, H1, I1, r1, v, ev, q1⟩ := hh
  subst ev
  refine ⟨I1.kIn, ?_⟩
  cases r1 with
  | cons rv rn =>
    rename_i v' us'
    cases rn
    show wpAny _ _ (call (.ref C) [v']) _ _ _
    have hlim := I1.nolimit
    obtain ⟨hp, g, dr, tk, os⟩ := s1
    refine wpAny_call (PySem.LowX_NotReliable.low_made_NotReliable T I1.kIn hlim (by have := hr.dp; omega) fun h' tk' e d M => ?_)
    exact lowV_end I1 rv M.keep M.new M.obj M.dbig M.dne M.ns (fun f => relO_low_NotReliable rv f) ⟨v, rfl, q1⟩
/-- NotReliable(name = e), held as a value -/
theorem pe_lowVk_NotReliable {kws : List Keyword} {tk : TA} {p pos : Pos} {k : Nat} (T : PySem.LowX_NotReliable.LowTxt_NotReliable X.K X.mg C fI) (hr : Room k X.A) (ha : PK X kws tk) (hg : Gl X "NotReliable" := by rfl)
    (hall : (backToKw pos (keywordEach kws X.env)).all (·.1.isSome) = true := by rfl) (hks : (backToKw pos (keywordEach kws X.env)).filterMap (·.1) = [("name" : Str)] := by rfl)
    (hpl : ((backTo pos (starEach [] X.env)).any (·.1) || (backToKw pos (keywordEach kws X.env)).any (·.1.isNone)) = false := by rfl) :
    PE X (.Call (.Name "NotReliable" p) [] kws pos) (tLowV C "name" tk) := by
  refine .mk fun pins s σ H Q I h => ?_
  refine wpAny_Call_Name_kw (ld_glob I hg T.gC ?_)
  refine PySem.W.callWith_KW0 (h₀ := X.base) I.ok.mod.kin T.kC hall (thn (ha.run pos pins s σ H _ I h) fun us s1 hh => ?_) hpl
  obtain ⟨vs, H1, I1, r1, v, ev, q1⟩ := hh
  subst ev
  refine ⟨I1.kIn, ?_⟩
  rw [hks]
  cases r1 with
  | cons rv rn =>
    rename_i v' us'
    cases rn
    show wpAny _ _ (call (.ref C) [] [(("name" : Str), v')]) _ _ _
    have hlim := I1.nolimit
    obtain ⟨hp, g, dr, tk, os⟩ := s1
    refine wpAny_call (PySem.LowX_NotReliable.low_madeK_NotReliable T I1.kIn hlim (by have := hr.dp; omega) fun h' tk' e d M => ?_)
    exact lowV_end I1 rv M.keep M.new M.obj M.dbig M.dne M.ns (fun f => relO_low_NotReliable rv f) ⟨v, rfl, q1⟩
end
end L2

namespace PySem
namespace LowX_BadWeight
open PySem.W PySem.Calls PyProof.Rows PySem.HandSPX
/-! ### the text of __init__ -/
def iA (p1 p2 : Pos) : Arguments := { posonlyargs := [], args := [{ arg := "self", annotation := none, pos := p1 }, { arg := "value", annotation := none, pos := p2 }], vararg := none, kwonlyargs := [], kw_defaults := [], kwarg := none, defaults := [] }
def iB (q1 q2 q3 q4 : Pos) : List Stmt := [.Assign [.Attribute (.Name "self" q1) "value" q2] (.Name "value" q3) q4]
def iS : Scope := { kind := .function, names := [(PySem.Str.ofString "self", .local), (PySem.Str.ofString "value", .local)], isGenerator := false, isCoroutine := false, more := [] }
/-- what the written part says of Low, at C, and of its __init__, at fI -/
structure LowTxt_BadWeight (K : Frag) (mg : Str → Option Value) (C fI : Addr) : Prop where
  gC : mg "BadWeight" = some (.ref C)
  cls : ∃ nm q N bs bm sn sub ab col dd k0 k1 k2 k3 k5, K.lookup C = some (excClassObj nm q C N bs bm true sn sub ab col dd k0 k1 k2 k3 k5 "ValueError.__new__") ∧ refsVE bm = true
  sa : findIn K (.ref C) "__setattr__" = some (some (.builtin "object.__setattr__"))
  ga : findIn K (.ref C) "__getattribute__" = some (some (.builtin "BaseException.__getattribute__"))
  gg : findIn K (.ref C) "__getattr__" = some none
  noN : findIn K (.ref C) "value" = some none
  iC : findIn K (.ref C) "__init__" = some (some (.ref fI))
  tC : typeIn K (.ref fI) = some (.type "function")
  kC : keepIn K (.ref C) = true
  exC : subIn K (.ref C) (.type "BaseException") = some true
  tyC : typeIn K (.ref C) = some (.type "type")
  hdC : hasDictIn K C = true
  te : exmOne K (.ref C) (.ref C) = some true
  fn : ∃ (oc : Value) (od : Option Addr) (doc pm : Value) (an : Option Addr) (cdv ct : Value) (osl : Array (Option Value)) (p1 p2 q1 q2 q3 q4 : Pos),
    K.lookup fI = some ⟨oc, od, .func (fnOf "__init__" "BadWeight.__init__" (iA p1 p2) (iB q1 q2 q3 q4) iS .none .none doc pm an cdv ct), osl⟩ ∧ codeIn K cdv "BadWeight.__init__" = true
theorem one_size (v : Value) : [v].length ≤ sizeLine := by
  rw [sizeLine_eq]
  exact (by decide : 1 ≤ 16777216)
theorem kept_but {K : Frag} {h h' : Heap} {x : Addr} (X : K.In h) (hx : K.lookup x = none) (k : ∀ b o, b ≠ x → h.get? b = some o → h'.get? b = some o) : K.In h' := fun a o e =>
  k a o (fun z => by rw [z, hx] at e; cases e) (X a o e)
theorem ldC {M : Model} {s : Shared} {name : Str} {scope : Scope} {L a : Addr} {cd : Value} {m : Str → Option Value} {x : Str} {pos : Pos} {v : Value} {Q : Value → Shared → Prop} {A : Around} {E : Value → Shared → Prop} (hn : s.heap.Ns L m) (hv : m x = some v) (h : Q v s)
    (hk : scope.kind = .function := by rfl) (hl : (envOfC name scope L a cd).kindOf x = some .local := by rfl) (hd : (x == ("__debug__" : Str)) = false := by decide) :
    wpAny M A (eval (.Name x pos) (envOfC name scope L a cd)) Q E s := wpAny_Name (wpAny_loadName_local hk hl hn hv h) hd
/-- what __init__ leaves of a fresh exception at x -/
structure InitEnd_BadWeight (h h' : Heap) (x C dx t1 : Addr) (v : Value) : Prop where
  keep : ∀ b o, b ≠ x → h.get? b = some o → h'.get? b = some o
  obj : h'.get? x = some { cls := .ref C, dict := some dx, data := .fields #[.ref t1, .none, .none, .none, .bool false, .none] }
  dbig : h.objs.size ≤ dx
  dne : dx ≠ x
  ns : h'.Ns1 dx (fun y => if y = "value" then some v else none)
/-- a made Low -/
structure OwnMade_BadWeight (h h' : Heap) (e C d : Addr) (v : Value) : Prop where
  keep : ∀ b o, h.get? b = some o → h'.get? b = some o
  new : h.objs.size ≤ e
  obj : ∃ oe vs, h'.get? e = some oe ∧ oe.cls = .ref C ∧ oe.dict = some d ∧ oe.data = .fields vs ∧ vs[1]? = some .none
  dbig : h.objs.size ≤ d
  dne : d ≠ e
  ns : h'.Ns1 d (fun y => if y = "value" then some v else none)
section
variable {prog : Program} {w : World} {A : Around} {E : Value → Shared → Prop} {R : Result → Shared → Prop} {s : Shared} {K : Frag} {mg : Str → Option Value} {C fI : Addr}
theorem low_init_BadWeight (T : LowTxt_BadWeight K mg C fI) {x t0 : Addr} {v : Value} (X : K.In s.heap) (hlim : s.heap.NoLimit) (hx : s.heap.get? x = some (excO C t0)) (hnx : K.lookup x = none) (hroom : A.depth < recursionLimit)
    (hq : ∀ h' tk dx, InitEnd_BadWeight s.heap h' x C dx t0 v → R (.ok (.ret .none)) { s with heap := h', toks := tk }) :
    codeAny (model prog w) A (.call (.ref fI) ⟨[.ref x, v], []⟩) R s := by
  obtain ⟨oc, od, doc, pm, an, cdv, ct, osl, p1, p2, q1, q2, q3, q4, ho, hcd⟩ := T.fn
  obtain ⟨nm, q, N, bs, bm, sn, sub, ab, col, dd, k0, k1, k2, k3, k5, hC, hbm⟩ := T.cls
  have hcl : clsIn K C = some { name := nm, bases := bs, mro := .ref C :: bm, ns := N, qualname := q, hasDict := true, slotNames := sn, subclasses := sub, abstract := ab, collection := col, hasDel := false } := by unfold clsIn; rw [hC] <;> rfl
  refine Att.call_fn (binds := [("self", .ref x), ("value", v)]) X hlim ho hcd hroom (BindsTo.of_eq (by first | rfl | with_unfolding_all rfl)) (by first | rfl | decide | with_unfolding_all rfl) (fun s₁ IC => ?_) rfl rfl rfl
  obtain ⟨h₁, tk₁, rfl⟩ := IC.toInCall.same
  have k : ∀ b o, s.heap.get? b = some o → h₁.get? b = some o := IC.toInCall.keep
  have hn := IC.toInCall.ns
  have hxL : s.heap.objs.size ≠ x := Nat.ne_of_gt (Heap.lt_size hx)
  have X₁ : K.In h₁ := X.keeps k
  have hx₁ := k _ _ hx
  -- self.by = by
  show wpAny _ _ (execs _ _) _ _ _
  refine wpAny_execs_cons (plainObj_wpAny_Assign_Attribute ?_)
  refine ldC (v := v) hn (by first | rfl | with_unfolding_all rfl | kernel_rfl) (ldC (v := .ref x) hn (by first | rfl | with_unfolding_all rfl | kernel_rfl) ?_)
  refine set_plain X₁ (ox := excO C t0) (od := none) ⟨hx₁, rfl, rfl, trivial⟩ T.sa ?_
  refine exc_osa X₁ hx₁ hcl (show refsVE (.ref C :: bm) = true from hbm) rfl T.noN (fun h₃ tk₃ dx k₃ dn dne hx₃ hn₃ => ?_)
  show wpAny _ _ (execs _ _) _ _ _
  have z : s.heap.objs.size < h₁.objs.size := hn.lt
  exact wpAny_execs_nil (hq h₃ tk₃ dx ⟨fun b o hb e => k₃ b o hb (k b o e), hx₃, Nat.le_of_lt (Nat.lt_of_lt_of_le z dn), dne, hn₃⟩)
theorem low_made_BadWeight (T : LowTxt_BadWeight K mg C fI) {v : Value} (X : K.In s.heap) (hlim : s.heap.NoLimit) (hroom : A.depth + 1 < recursionLimit)
    (hq : ∀ h' tk e d, OwnMade_BadWeight s.heap h' e C d v → R (.ok (.ret (.ref e))) { s with heap := h', toks := tk }) :
    codeAny (model prog w) A (.call (.ref C) ⟨[v], []⟩) R s := by
  obtain ⟨nm, q, N, bs, bm, sn, sub, ab, col, dd, k0, k1, k2, k3, k5, hC, hbm⟩ := T.cls
  obtain ⟨hp, g, dr, tk, os⟩ := s
  have k : ∀ b o, hp.get? b = some o → ((hp.push (kdv_tup [v])).push (excO C hp.objs.size)).get? b = some o := fun b o e => Heap.get?_push_of_some _ (Heap.get?_push_of_some _ e)
  have hget : ((hp.push (kdv_tup [v])).push (excO C hp.objs.size)).get? (hp.objs.size + 1) = some (excO C hp.objs.size) := by heap_get
  have hnx : K.lookup (hp.objs.size + 1) = none := by
    cases e : K.lookup (hp.objs.size + 1) with
    | none => rfl
    | some o =>
      have z : hp.get? (hp.objs.size + 1) = some o := X _ _ e
      exact absurd (Nat.lt_of_succ_lt (Heap.lt_size z)) (Nat.lt_irrefl _)
  refine call_own F.excBase_ValueError (fun X => refsVE_contains X bm hbm) (X _ _ hC) (looks_findIn X T.iC) (fun self => bind_fn X self T.tC) (one_size v) ?_
  refine low_init_BadWeight (s := ⟨(hp.push (kdv_tup [v])).push (excO C hp.objs.size), g, dr, tk, os⟩) T (X.keeps k) (hlim.keeps k) hget hnx ?_ fun h' tk' dx ⟨k', hx, dn, dne, hns⟩ => ?_
  · show A.depth + 1 < recursionLimit
    exact hroom
  · have old : ∀ b o, hp.get? b = some o → h'.get? b = some o := fun b o e => k' b o (Nat.ne_of_lt (Nat.lt_succ_of_lt (Heap.lt_size e))) (k b o e)
    have z : hp.objs.size + 1 + 1 ≤ dx := by
      first
        | (simpa only [Heap.size_push] using dn)
        | exact dn
        | (have q := dn; rw [Heap.size_push, Heap.size_push] at q; exact q)
    exact ⟨rfl, hq h' tk' (hp.objs.size + 1) dx ⟨old, Nat.le_succ _, ⟨_, _, hx, rfl, rfl, rfl, rfl⟩, Nat.le_trans (Nat.le_trans (Nat.le_succ _) (Nat.le_succ _)) z, dne, hns⟩⟩
theorem low_initK_BadWeight (T : LowTxt_BadWeight K mg C fI) {x t0 : Addr} {v : Value} (X : K.In s.heap) (hlim : s.heap.NoLimit) (hx : s.heap.get? x = some (excO C t0)) (hnx : K.lookup x = none) (hroom : A.depth < recursionLimit)
    (hq : ∀ h' tk dx, InitEnd_BadWeight s.heap h' x C dx t0 v → R (.ok (.ret .none)) { s with heap := h', toks := tk }) :
    codeAny (model prog w) A (.call (.ref fI) ⟨[.ref x], [(("value" : Str), v)]⟩) R s := by
  obtain ⟨oc, od, doc, pm, an, cdv, ct, osl, p1, p2, q1, q2, q3, q4, ho, hcd⟩ := T.fn
  obtain ⟨nm, q, N, bs, bm, sn, sub, ab, col, dd, k0, k1, k2, k3, k5, hC, hbm⟩ := T.cls
  have hcl : clsIn K C = some { name := nm, bases := bs, mro := .ref C :: bm, ns := N, qualname := q, hasDict := true, slotNames := sn, subclasses := sub, abstract := ab, collection := col, hasDel := false } := by unfold clsIn; rw [hC] <;> rfl
  refine Att.call_fn (binds := [("self", .ref x), ("value", v)]) X hlim ho hcd hroom (BindsTo.of_eq (by first | rfl | with_unfolding_all rfl)) (by first | rfl | decide | with_unfolding_all rfl) (fun s₁ IC => ?_) rfl rfl rfl
  obtain ⟨h₁, tk₁, rfl⟩ := IC.toInCall.same
  have k : ∀ b o, s.heap.get? b = some o → h₁.get? b = some o := IC.toInCall.keep
  have hn := IC.toInCall.ns
  have hxL : s.heap.objs.size ≠ x := Nat.ne_of_gt (Heap.lt_size hx)
  have X₁ : K.In h₁ := X.keeps k
  have hx₁ := k _ _ hx
  -- self.by = by
  show wpAny _ _ (execs _ _) _ _ _
  refine wpAny_execs_cons (plainObj_wpAny_Assign_Attribute ?_)
  refine ldC (v := v) hn (by first | rfl | with_unfolding_all rfl | kernel_rfl) (ldC (v := .ref x) hn (by first | rfl | with_unfolding_all rfl | kernel_rfl) ?_)
  refine set_plain X₁ (ox := excO C t0) (od := none) ⟨hx₁, rfl, rfl, trivial⟩ T.sa ?_
  refine exc_osa X₁ hx₁ hcl (show refsVE (.ref C :: bm) = true from hbm) rfl T.noN (fun h₃ tk₃ dx k₃ dn dne hx₃ hn₃ => ?_)
  show wpAny _ _ (execs _ _) _ _ _
  have z : s.heap.objs.size < h₁.objs.size := hn.lt
  exact wpAny_execs_nil (hq h₃ tk₃ dx ⟨fun b o hb e => k₃ b o hb (k b o e), hx₃, Nat.le_of_lt (Nat.lt_of_lt_of_le z dn), dne, hn₃⟩)
theorem low_madeK_BadWeight (T : LowTxt_BadWeight K mg C fI) {v : Value} (X : K.In s.heap) (hlim : s.heap.NoLimit) (hroom : A.depth + 1 < recursionLimit)
    (hq : ∀ h' tk e d, OwnMade_BadWeight s.heap h' e C d v → R (.ok (.ret (.ref e))) { s with heap := h', toks := tk }) :
    codeAny (model prog w) A (.call (.ref C) ⟨[], [(("value" : Str), v)]⟩) R s := by
  obtain ⟨nm, q, N, bs, bm, sn, sub, ab, col, dd, k0, k1, k2, k3, k5, hC, hbm⟩ := T.cls
  obtain ⟨hp, g, dr, tk, os⟩ := s
  have k : ∀ b o, hp.get? b = some o → ((hp.push (kdv_tup [])).push (excO C hp.objs.size)).get? b = some o := fun b o e => Heap.get?_push_of_some _ (Heap.get?_push_of_some _ e)
  have hget : ((hp.push (kdv_tup [])).push (excO C hp.objs.size)).get? (hp.objs.size + 1) = some (excO C hp.objs.size) := by heap_get
  have hnx : K.lookup (hp.objs.size + 1) = none := by
    cases e : K.lookup (hp.objs.size + 1) with
    | none => rfl
    | some o =>
      have z : hp.get? (hp.objs.size + 1) = some o := X _ _ e
      exact absurd (Nat.lt_of_succ_lt (Heap.lt_size z)) (Nat.lt_irrefl _)
  refine call_ownK F.excBase_ValueError (fun X => refsVE_contains X bm hbm) (X _ _ hC) (looks_findIn (X.keeps k) T.iC) (fun self => bind_fn (X.keeps k) self T.tC) ?_
  refine low_initK_BadWeight (s := ⟨(hp.push (kdv_tup [])).push (excO C hp.objs.size), g, dr, tk, os⟩) T (X.keeps k) (hlim.keeps k) hget hnx ?_ fun h' tk' dx ⟨k', hx, dn, dne, hns⟩ => ?_
  · show A.depth + 1 < recursionLimit
    exact hroom
  · have old : ∀ b o, hp.get? b = some o → h'.get? b = some o := fun b o e => k' b o (Nat.ne_of_lt (Nat.lt_succ_of_lt (Heap.lt_size e))) (k b o e)
    have z : hp.objs.size + 1 + 1 ≤ dx := by
      first
        | (simpa only [Heap.size_push] using dn)
        | exact dn
        | (have q := dn; rw [Heap.size_push, Heap.size_push] at q; exact q)
    exact ⟨rfl, hq h' tk' (hp.objs.size + 1) dx ⟨old, Nat.le_succ _, ⟨_, _, hx, rfl, rfl, rfl, rfl⟩, Nat.le_trans (Nat.le_trans (Nat.le_succ _) (Nat.le_succ _)) z, dne, hns⟩⟩
end
end LowX_BadWeight
end PySem
namespace L2
open PySem PySem.Spec PyProof.Rows
theorem relO_low_BadWeight {v : V} {v' : Value} (r : RelV v v') (f : Str) : RelO (List.lookup f [(("value" : Str), v)]) (if f = "value" then some v' else none) := by
  by_cases hw : f = "value"
  · subst hw
    rw [if_pos rfl]
    have q : List.lookup ("value" : Str) [(("value" : Str), v)] = some v := by simp [List.lookup]
    rw [q]
    exact r
  · rw [if_neg hw]
    have qw : (f == ("value" : Str)) = false := by simpa using hw
    have q2 : List.lookup f [(("value" : Str), v)] = none := by simp [List.lookup, qw]
    rw [q2]
    trivial
section
variable {X : Cx} {C fI : Addr}
/-- Low(e) -/
def tMkLow_BadWeight (C : Addr) (ta : TA) : St → Hp → XK → Prop := fun σ H Q => ta σ H fun vs H1 => ∃ v, vs = [v] ∧ ∀ d, H1 d = none → Q (.ref C) (some d) (upd H1 d (.xd [(("value" : Str), v)]))
theorem pmk_low_BadWeight {a : Expr} {ta : TA} {p pos : Pos} {k : Nat} (T : PySem.LowX_BadWeight.LowTxt_BadWeight X.K X.mg C fI) (hr : Room k X.A) (ha : PA X [a] ta) (hg : Gl X "BadWeight" := by rfl)
    (he : starEach (a :: []) X.env = (false, eval a X.env) :: starEach [] X.env := by rfl) (hpl : (backTo pos (starEach [] X.env)).any (·.1) = false := by rfl) :
    PMk X (.Call (.Name "BadWeight" p) [a] [] pos) (tMkLow_BadWeight C ta) := by
  intro pins s σ H Q I h
  refine wpAny_Call_Name_kw (ld_glob I hg T.gC ?_)
  refine PySem.W.callWith_K (h₀ := X.base) I.ok.mod.kin T.kC (thn (ha.run pos pins s σ H _ I h) fun us s1 hh => ?_) he hpl
  obtain ⟨vs, H1, I1, r1, v, ev, q1⟩ := hh
  subst ev
  refine ⟨I1.kIn, ?_⟩
  cases r1 with
  | cons rv rn =>
    rename_i v' us'
    cases rn
    show wpAny _ _ (call (.ref C) [v']) _ _ _
    have hlim := I1.nolimit
    obtain ⟨hp, g, dr, tk, os⟩ := s1
    refine wpAny_call (PySem.LowX_BadWeight.low_made_BadWeight T I1.kIn hlim (by have := hr.dp; omega) fun h' tk' e d M => ?_)
    show MkP X pins σ Q (.ref e) ⟨h', g, dr, tk', os⟩
    obtain ⟨oe, fv, hoe, hc, hd, hdat, h1⟩ := M.obj
    have hns := M.ns
    obtain ⟨G', g1, g2⟩ := restrict h' fun b => decide (b ≠ e)
    have gk : ∀ b, b ≠ e → G'.get? b = h'.get? b := fun b hb => g1 b (decide_eq_true hb)
    have ge : G'.get? e = none := g2 e (by simp)
    have old : ∀ b o, hp.get? b = some o → G'.get? b = some o := fun b o q => (gk b (Nat.ne_of_lt (Nat.lt_of_lt_of_le (Heap.lt_size q) M.new))).trans (M.keep b o q)
    have ob : ObjOk X.prog X.w (upd H1 d (.xd [(("value" : Str), v)])) G' d (.xd [(("value" : Str), v)]) :=
      ⟨_, hns.at (fun o q => (gk d M.dne).trans q), fun f => relO_low_BadWeight rv f⟩
    have J : Inv X pins σ (upd H1 d (.xd [(("value" : Str), v)])) ⟨G', g, dr, tk', os⟩ := I1.laid (t' := tk') old M.dbig ob
    refine ⟨e, oe, fv, ⟨G', g, dr, tk', os⟩, _, .ref C, some d, rfl, J, fun b o q => ?_, ge, hoe, ⟨hc, hd⟩, hdat, h1, ?_, rfl, I1.bare, raises_own T.exC T.tyC, q1 d (I1.hok.fresh M.dbig)⟩
    · by_cases hb : b = e
      · have q' : G'.get? b = some o := q
        rw [hb, ge] at q'; cases q'
      · exact (gk b hb).symm.trans q
    · rw [upd_ne (Ne.symm M.dne)]
      exact I1.hok.fresh M.new
/-- BadWeight(e), held as a value -/
theorem pe_lowV_BadWeight {a : Expr} {ta : TA} {p pos : Pos} {k : Nat} (T : PySem.LowX_BadWeight.LowTxt_BadWeight X.K X.mg C fI) (hr : Room k X.A) (ha : PA X [a] ta) (hg : Gl X "BadWeight" := by rfl)
    (he : starEach (a :: []) X.env = (false, eval a X.env) :: starEach [] X.env := by rfl) (hpl : (backTo pos (starEach [] X.env)).any (·.1) = false := by rfl) :
    PE X (.Call (.Name "BadWeight" p) [a] [] pos) (tLowV C "value" ta) := by
  refine .mk fun pins s σ H Q I h => ?_
  refine wpAny_Call_Name_kw (ld_glob I hg T.gC ?_)
  refine PySem.W.callWith_K (h₀ := X.base) I.ok.mod.kin T.kC (thn (ha.run pos pins s σ H _ I h) fun us s1 hh => ?_) he hpl
  obtain ⟨vs, H1, I1, r1, v, ev, q1⟩ := hh
  subst ev
  refine ⟨I1.kIn, ?_⟩
  cases r1 with
  | cons rv rn =>
    rename_i v' us'
    cases rn
    show wpAny _ _ (call (.ref C) [v']) _ _ _
    have hlim := I1.nolimit
    obtain ⟨hp, g, dr, tk, os⟩ := s1
    refine wpAny_call (PySem.LowX_BadWeight.low_made_BadWeight T I1.kIn hlim (by have := hr.dp; omega) fun h' tk' e d M => ?_)
    exact lowV_end I1 rv M.keep M.new M.obj M.dbig M.dne M.ns (fun f => relO_low_BadWeight rv f) ⟨v, rfl, q1⟩
/-- BadWeight(value = e), held as a value -/
theorem pe_lowVk_BadWeight {kws : List Keyword} {tk : TA} {p pos : Pos} {k : Nat} (T : PySem.LowX_BadWeight.LowTxt_BadWeight X.K X.mg C fI) (hr : Room k X.A) (ha : PK X kws tk) (hg : Gl X "BadWeight" := by rfl)
    (hall : (backToKw pos (keywordEach kws X.env)).all (·.1.isSome) = true := by rfl) (hks : (backToKw pos (keywordEach kws X.env)).filterMap (·.1) = [("value" : Str)] := by rfl)
    (hpl : ((backTo pos (starEach [] X.env)).any (·.1) || (backToKw pos (keywordEach kws X.env)).any (·.1.isNone)) = false := by rfl) :
    PE X (.Call (.Name "BadWeight" p) [] kws pos) (tLowV C "value" tk) := by
  refine .mk fun pins s σ H Q I h => ?_
  refine wpAny_Call_Name_kw (ld_glob I hg T.gC ?_)
  refine PySem.W.callWith_KW0 (h₀ := X.base) I.ok.mod.kin T.kC hall (thn (ha.run pos pins s σ H _ I h) fun us s1 hh => ?_) hpl
  obtain ⟨vs, H1, I1, r1, v, ev, q1⟩ := hh
  subst ev
  refine ⟨I1.kIn, ?_⟩
  rw [hks]
  cases r1 with
  | cons rv rn =>
    rename_i v' us'
    cases rn
    show wpAny _ _ (call (.ref C) [] [(("value" : Str), v')]) _ _ _
    have hlim := I1.nolimit
    obtain ⟨hp, g, dr, tk, os⟩ := s1
    refine wpAny_call (PySem.LowX_BadWeight.low_madeK_BadWeight T I1.kIn hlim (by have := hr.dp; omega) fun h' tk' e d M => ?_)
    exact lowV_end I1 rv M.keep M.new M.obj M.dbig M.dne M.ns (fun f => relO_low_BadWeight rv f) ⟨v, rfl, q1⟩
end
end L2

namespace PySem
namespace LowX_BadPairs
open PySem.W PySem.Calls PyProof.Rows PySem.HandSPX
/-! ### the text of __init__ -/
def iA (p1 p2 : Pos) : Arguments := { posonlyargs := [], args := [{ arg := "self", annotation := none, pos := p1 }, { arg := "pairs", annotation := none, pos := p2 }], vararg := none, kwonlyargs := [], kw_defaults := [], kwarg := none, defaults := [] }
def iB (q1 q2 q3 q4 : Pos) : List Stmt := [.Assign [.Attribute (.Name "self" q1) "pairs" q2] (.Name "pairs" q3) q4]
def iS : Scope := { kind := .function, names := [(PySem.Str.ofString "self", .local), (PySem.Str.ofString "pairs", .local)], isGenerator := false, isCoroutine := false, more := [] }
/-- what the written part says of Low, at C, and of its __init__, at fI -/
structure LowTxt_BadPairs (K : Frag) (mg : Str → Option Value) (C fI : Addr) : Prop where
  gC : mg "BadPairs" = some (.ref C)
  cls : ∃ nm q N bs bm sn sub ab col dd k0 k1 k2 k3 k5, K.lookup C = some (excClassObj nm q C N bs bm true sn sub ab col dd k0 k1 k2 k3 k5 "ValueError.__new__") ∧ refsVE bm = true
  sa : findIn K (.ref C) "__setattr__" = some (some (.builtin "object.__setattr__"))
  ga : findIn K (.ref C) "__getattribute__" = some (some (.builtin "BaseException.__getattribute__"))
  gg : findIn K (.ref C) "__getattr__" = some none
  noN : findIn K (.ref C) "pairs" = some none
  iC : findIn K (.ref C) "__init__" = some (some (.ref fI))
  tC : typeIn K (.ref fI) = some (.type "function")
  kC : keepIn K (.ref C) = true
  exC : subIn K (.ref C) (.type "BaseException") = some true
  tyC : typeIn K (.ref C) = some (.type "type")
  hdC : hasDictIn K C = true
  te : exmOne K (.ref C) (.ref C) = some true
  fn : ∃ (oc : Value) (od : Option Addr) (doc pm : Value) (an : Option Addr) (cdv ct : Value) (osl : Array (Option Value)) (p1 p2 q1 q2 q3 q4 : Pos),
    K.lookup fI = some ⟨oc, od, .func (fnOf "__init__" "BadPairs.__init__" (iA p1 p2) (iB q1 q2 q3 q4) iS .none .none doc pm an cdv ct), osl⟩ ∧ codeIn K cdv "BadPairs.__init__" = true
theorem one_size (v : Value) : [v].length ≤ sizeLine := by
  rw [sizeLine_eq]
  exact (by decide : 1 ≤ 16777216)
theorem kept_but {K : Frag} {h h' : Heap} {x : Addr} (X : K.In h) (hx : K.lookup x = none) (k : ∀ b o, b ≠ x → h.get? b = some o → h'.get? b = some o) : K.In h' := fun a o e =>
  k a o (fun z => by rw [z, hx] at e; cases e) (X a o e)
theorem ldC {M : Model} {s : Shared} {name : Str} {scope : Scope} {L a : Addr} {cd : Value} {m : Str → Option Value} {x : Str} {pos : Pos} {v : Value} {Q : Value → Shared → Prop} {A : Around} {E : Value → Shared → Prop} (hn : s.heap.Ns L m) (hv : m x = some v) (h : Q v s)
    (hk : scope.kind = .function := by rfl) (hl : (envOfC name scope L a cd).kindOf x = some .local := by rfl) (hd : (x == ("__debug__" : Str)) = false := by decide) :
    wpAny M A (eval (.Name x pos) (envOfC name scope L a cd)) Q E s := wpAny_Name (wpAny_loadName_local hk hl hn hv h) hd
/-- what __init__ leaves of a fresh exception at x -/
structure InitEnd_BadPairs (h h' : Heap) (x C dx t1 : Addr) (v : Value) : Prop where
  keep : ∀ b o, b ≠ x → h.get? b = some o → h'.get? b = some o
  obj : h'.get? x = some { cls := .ref C, dict := some dx, data := .fields #[.ref t1, .none, .none, .none, .bool false, .none] }
  dbig : h.objs.size ≤ dx
  dne : dx ≠ x
  ns : h'.Ns1 dx (fun y => if y = "pairs" then some v else none)
/-- a made Low -/
structure OwnMade_BadPairs (h h' : Heap) (e C d : Addr) (v : Value) : Prop where
  keep : ∀ b o, h.get? b = some o → h'.get? b = some o
  new : h.objs.size ≤ e
  obj : ∃ oe vs, h'.get? e = some oe ∧ oe.cls = .ref C ∧ oe.dict = some d ∧ oe.data = .fields vs ∧ vs[1]? = some .none
  dbig : h.objs.size ≤ d
  dne : d ≠ e
  ns : h'.Ns1 d (fun y => if y = "pairs" then some v else none)
section
variable {prog : Program} {w : World} {A : Around} {E : Value → Shared → Prop} {R : Result → Shared → Prop} {s : Shared} {K : Frag} {mg : Str → Option Value} {C fI : Addr}
theorem low_init_BadPairs (T : LowTxt_BadPairs K mg C fI) {x t0 : Addr} {v : Value} (X : K.In s.heap) (hlim : s.heap.NoLimit) (hx : s.heap.get? x = some (excO C t0)) (hnx : K.lookup x = none) (hroom : A.depth < recursionLimit)
    (hq : ∀ h' tk dx, InitEnd_BadPairs s.heap h' x C dx t0 v → R (.ok (.ret .none)) { s with heap := h', toks := tk }) :
    codeAny (model prog w) A (.call (.ref fI) ⟨[.ref x, v], []⟩) R s := by
  obtain ⟨oc, od, doc, pm, an, cdv, ct, osl, p1, p2, q1, q2, q3, q4, ho, hcd⟩ := T.fn
  obtain ⟨nm, q, N, bs, bm, sn, sub, ab, col, dd, k0, k1, k2, k3, k5, hC, hbm⟩ := T.cls
  have hcl : clsIn K C = some { name := nm, bases := bs, mro := .ref C :: bm, ns := N, qualname := q, hasDict := true, slotNames := sn, subclasses := sub, abstract := ab, collection := col, hasDel := false } := by unfold clsIn; rw [hC] <;> rfl
  refine Att.call_fn (binds := [("self", .ref x), ("pairs", v)]) X hlim ho hcd hroom (BindsTo.of_eq (by first | rfl | with_unfolding_all rfl)) (by first | rfl | decide | with_unfolding_all rfl) (fun s₁ IC => ?_) rfl rfl rfl
  obtain ⟨h₁, tk₁, rfl⟩ := IC.toInCall.same
  have k : ∀ b o, s.heap.get? b = some o → h₁.get? b = some o := IC.toInCall.keep
  have hn := IC.toInCall.ns
  have hxL : s.heap.objs.size ≠ x := Nat.ne_of_gt (Heap.lt_size hx)
  have X₁ : K.In h₁ := X.keeps k
  have hx₁ := k _ _ hx
  -- self.by = by
  show wpAny _ _ (execs _ _) _ _ _
  refine wpAny_execs_cons (plainObj_wpAny_Assign_Attribute ?_)
  refine ldC (v := v) hn (by first | rfl | with_unfolding_all rfl | kernel_rfl) (ldC (v := .ref x) hn (by first | rfl | with_unfolding_all rfl | kernel_rfl) ?_)
  refine set_plain X₁ (ox := excO C t0) (od := none) ⟨hx₁, rfl, rfl, trivial⟩ T.sa ?_
  refine exc_osa X₁ hx₁ hcl (show refsVE (.ref C :: bm) = true from hbm) rfl T.noN (fun h₃ tk₃ dx k₃ dn dne hx₃ hn₃ => ?_)
  show wpAny _ _ (execs _ _) _ _ _
  have z : s.heap.objs.size < h₁.objs.size := hn.lt
  exact wpAny_execs_nil (hq h₃ tk₃ dx ⟨fun b o hb e => k₃ b o hb (k b o e), hx₃, Nat.le_of_lt (Nat.lt_of_lt_of_le z dn), dne, hn₃⟩)
theorem low_made_BadPairs (T : LowTxt_BadPairs K mg C fI) {v : Value} (X : K.In s.heap) (hlim : s.heap.NoLimit) (hroom : A.depth + 1 < recursionLimit)
    (hq : ∀ h' tk e d, OwnMade_BadPairs s.heap h' e C d v → R (.ok (.ret (.ref e))) { s with heap := h', toks := tk }) :
    codeAny (model prog w) A (.call (.ref C) ⟨[v], []⟩) R s := by
  obtain ⟨nm, q, N, bs, bm, sn, sub, ab, col, dd, k0, k1, k2, k3, k5, hC, hbm⟩ := T.cls
  obtain ⟨hp, g, dr, tk, os⟩ := s
  have k : ∀ b o, hp.get? b = some o → ((hp.push (kdv_tup [v])).push (excO C hp.objs.size)).get? b = some o := fun b o e => Heap.get?_push_of_some _ (Heap.get?_push_of_some _ e)
  have hget : ((hp.push (kdv_tup [v])).push (excO C hp.objs.size)).get? (hp.objs.size + 1) = some (excO C hp.objs.size) := by heap_get
  have hnx : K.lookup (hp.objs.size + 1) = none := by
    cases e : K.lookup (hp.objs.size + 1) with
    | none => rfl
    | some o =>
      have z : hp.get? (hp.objs.size + 1) = some o := X _ _ e
      exact absurd (Nat.lt_of_succ_lt (Heap.lt_size z)) (Nat.lt_irrefl _)
  refine call_own F.excBase_ValueError (fun X => refsVE_contains X bm hbm) (X _ _ hC) (looks_findIn X T.iC) (fun self => bind_fn X self T.tC) (one_size v) ?_
  refine low_init_BadPairs (s := ⟨(hp.push (kdv_tup [v])).push (excO C hp.objs.size), g, dr, tk, os⟩) T (X.keeps k) (hlim.keeps k) hget hnx ?_ fun h' tk' dx ⟨k', hx, dn, dne, hns⟩ => ?_
  · show A.depth + 1 < recursionLimit
    exact hroom
  · have old : ∀ b o, hp.get? b = some o → h'.get? b = some o := fun b o e => k' b o (Nat.ne_of_lt (Nat.lt_succ_of_lt (Heap.lt_size e))) (k b o e)
    have z : hp.objs.size + 1 + 1 ≤ dx := by
      first
        | (simpa only [Heap.size_push] using dn)
        | exact dn
        | (have q := dn; rw [Heap.size_push, Heap.size_push] at q; exact q)
    exact ⟨rfl, hq h' tk' (hp.objs.size + 1) dx ⟨old, Nat.le_succ _, ⟨_, _, hx, rfl, rfl, rfl, rfl⟩, Nat.le_trans (Nat.le_trans (Nat.le_succ _) (Nat.le_succ _)) z, dne, hns⟩⟩
theorem low_initK_BadPairs (T : LowTxt_BadPairs K mg C fI) {x t0 : Addr} {v : Value} (X : K.In s.heap) (hlim : s.heap.NoLimit) (hx : s.heap.get? x = some (excO C t0)) (hnx : K.lookup x = none) (hroom : A.depth < recursionLimit)
    (hq : ∀ h' tk dx, InitEnd_BadPairs s.heap h' x C dx t0 v → R (.ok (.ret .none)) { s with heap := h', toks := tk }) :
    codeAny (model prog w) A (.call (.ref fI) ⟨[.ref x], [(("pairs" : Str), v)]⟩) R s := by
  obtain ⟨oc, od, doc, pm, an, cdv, ct, osl, p1, p2, q1, q2, q3, q4, ho, hcd⟩ := T.fn
  obtain ⟨nm, q, N, bs, bm, sn, sub, ab, col, dd, k0, k1, k2, k3, k5, hC, hbm⟩ := T.cls
  have hcl : clsIn K C = some { name := nm, bases := bs, mro := .ref C :: bm, ns := N, qualname := q, hasDict := true, slotNames := sn, subclasses := sub, abstract := ab, collection := col, hasDel := false } := by unfold clsIn; rw [hC] <;> rfl
  refine Att.call_fn (binds := [("self", .ref x), ("pairs", v)]) X hlim ho hcd hroom (BindsTo.of_eq (by first | rfl | with_unfolding_all rfl)) (by first | rfl | decide | with_unfolding_all rfl) (fun s₁ IC => ?_) rfl rfl rfl
  obtain ⟨h₁, tk₁, rfl⟩ := IC.toInCall.same
  have k : ∀ b o, s.heap.get? b = some o → h₁.get? b = some o := IC.toInCall.keep
  have hn := IC.toInCall.ns
  have hxL : s.heap.objs.size ≠ x := Nat.ne_of_gt (Heap.lt_size hx)
  have X₁ : K.In h₁ := X.keeps k
  have hx₁ := k _ _ hx
  -- self.by = by
  show wpAny _ _ (execs _ _) _ _ _
  refine wpAny_execs_cons (plainObj_wpAny_Assign_Attribute ?_)
  refine ldC (v := v) hn (by first | rfl | with_unfolding_all rfl | kernel_rfl) (ldC (v := .ref x) hn (by first | rfl | with_unfolding_all rfl | kernel_rfl) ?_)
  refine set_plain X₁ (ox := excO C t0) (od := none) ⟨hx₁, rfl, rfl, trivial⟩ T.sa ?_
  refine exc_osa X₁ hx₁ hcl (show refsVE (.ref C :: bm) = true from hbm) rfl T.noN (fun h₃ tk₃ dx k₃ dn dne hx₃ hn₃ => ?_)
  show wpAny _ _ (execs _ _) _ _ _
  have z : s.heap.objs.size < h₁.objs.size := hn.lt
  exact wpAny_execs_nil (hq h₃ tk₃ dx ⟨fun b o hb e => k₃ b o hb (k b o e), hx₃, Nat.le_of_lt (Nat.lt_of_lt_of_le z dn), dne, hn₃⟩)
theorem low_madeK_BadPairs (T : LowTxt_BadPairs K mg C fI) {v : Value} (X : K.In s.heap) (hlim : s.heap.NoLimit) (hroom : A.depth + 1 < recursionLimit)
    (hq : ∀ h' tk e d, OwnMade_BadPairs s.heap h' e C d v → R (.ok (.ret (.ref e))) { s with heap := h', toks := tk }) :
    codeAny (model prog w) A (.call (.ref C) ⟨[], [(("pairs" : Str), v)]⟩) R s := by
  obtain ⟨nm, q, N, bs, bm, sn, sub, ab, col, dd, k0, k1, k2, k3, k5, hC, hbm⟩ := T.cls
  obtain ⟨hp, g, dr, tk, os⟩ := s
  have k : ∀ b o, hp.get? b = some o → ((hp.push (kdv_tup [])).push (excO C hp.objs.size)).get? b = some o := fun b o e => Heap.get?_push_of_some _ (Heap.get?_push_of_some _ e)
  have hget : ((hp.push (kdv_tup [])).push (excO C hp.objs.size)).get? (hp.objs.size + 1) = some (excO C hp.objs.size) := by heap_get
  have hnx : K.lookup (hp.objs.size + 1) = none := by
    cases e : K.lookup (hp.objs.size + 1) with
    | none => rfl
    | some o =>
      have z : hp.get? (hp.objs.size + 1) = some o := X _ _ e
      exact absurd (Nat.lt_of_succ_lt (Heap.lt_size z)) (Nat.lt_irrefl _)
  refine call_ownK F.excBase_ValueError (fun X => refsVE_contains X bm hbm) (X _ _ hC) (looks_findIn (X.keeps k) T.iC) (fun self => bind_fn (X.keeps k) self T.tC) ?_
  refine low_initK_BadPairs (s := ⟨(hp.push (kdv_tup [])).push (excO C hp.objs.size), g, dr, tk, os⟩) T (X.keeps k) (hlim.keeps k) hget hnx ?_ fun h' tk' dx ⟨k', hx, dn, dne, hns⟩ => ?_
  · show A.depth + 1 < recursionLimit
    exact hroom
  · have old : ∀ b o, hp.get? b = some o → h'.get? b = some o := fun b o e => k' b o (Nat.ne_of_lt (Nat.lt_succ_of_lt (Heap.lt_size e))) (k b o e)
    have z : hp.objs.size + 1 + 1 ≤ dx := by
      first
        | (simpa only [Heap.size_push] using dn)
        | exact dn
        | (have q := dn; rw [Heap.size_push, Heap.size_push] at q; exact q)
    exact ⟨rfl, hq h' tk' (hp.objs.size + 1) dx ⟨old, Nat.le_succ _, ⟨_, _, hx, rfl, rfl, rfl, rfl⟩, Nat.le_trans (Nat.le_trans (Nat.le_succ _) (Nat.le_succ _)) z, dne, hns⟩⟩
end
end LowX_BadPairs
end PySem
namespace L2
open PySem PySem.Spec PyProof.Rows
theorem relO_low_BadPairs {v : V} {v' : Value} (r : RelV v v') (f : Str) : RelO (List.lookup f [(("pairs" : Str), v)]) (if f = "pairs" then some v' else none) := by
  by_cases hw : f = "pairs"
  · subst hw
    rw [if_pos rfl]
    have q : List.lookup ("pairs" : Str) [(("pairs" : Str), v)] = some v := by simp [List.lookup]
    rw [q]
    exact r
  · rw [if_neg hw]
    have qw : (f == ("pairs" : Str)) = false := by simpa using hw
    have q2 : List.lookup f [(("pairs" : Str), v)] = none := by simp [List.lookup, qw]
    rw [q2]
    trivial
section
variable {X : Cx} {C fI : Addr}
/-- Low(e) -/
def tMkLow_BadPairs (C : Addr) (ta : TA) : St → Hp → XK → Prop := fun σ H Q => ta σ H fun vs H1 => ∃ v, vs = [v] ∧ ∀ d, H1 d = none → Q (.ref C) (some d) (upd H1 d (.xd [(("pairs" : Str), v)]))
theorem pmk_low_BadPairs {a : Expr} {ta : TA} {p pos : Pos} {k : Nat} (T : PySem.LowX_BadPairs.LowTxt_BadPairs X.K X.mg C fI) (hr : Room k X.A) (ha : PA X [a] ta) (hg : Gl X "BadPairs" := by rfl)
    (he : starEach (a :: []) X.env = (false, eval a X.env) :: starEach [] X.env := by rfl) (hpl : (backTo pos (starEach [] X.env)).any (·.1) = false := by rfl) :
    PMk X (.Call (.Name "BadPairs" p) [a] [] pos) (tMkLow_BadPairs C ta) := by
  intro pins s σ H Q I h
  refine wpAny_Call_Name_kw (ld_glob I hg T.gC ?_)
  refine PySem.W.callWith_K (h₀ := X.base) I.ok.mod.kin T.kC (thn (ha.run pos pins s σ H _ I h) fun us s1 hh => ?_) he hpl
  obtain ⟨vs, H1, I1, r1, v, ev, q1⟩ := hh
  subst ev
  refine ⟨I1.kIn, ?_⟩
  cases r1 with
  | cons rv rn =>
    rename_i v' us'
    cases rn
    show wpAny _ _ (call (.ref C) [v']) _ _ _
    have hlim := I1.nolimit
    obtain ⟨hp, g, dr, tk, os⟩ := s1
    refine wpAny_call (PySem.LowX_BadPairs.low_made_BadPairs T I1.kIn hlim (by have := hr.dp; omega) fun h' tk' e d M => ?_)
    show MkP X pins σ Q (.ref e) ⟨h', g, dr, tk', os⟩
    obtain ⟨oe, fv, hoe, hc, hd, hdat, h1⟩ := M.obj
    have hns := M.ns
    obtain ⟨G', g1, g2⟩ := restrict h' fun b => decide (b ≠ e)
    have gk : ∀ b, b ≠ e → G'.get? b = h'.get? b := fun b hb => g1 b (decide_eq_true hb)
    have ge : G'.get? e = none := g2 e (by simp)
    have old : ∀ b o, hp.get? b = some o → G'.get? b = some o := fun b o q => (gk b (Nat.ne_of_lt (Nat.lt_of_lt_of_le (Heap.lt_size q) M.new))).trans (M.keep b o q)
    have ob : ObjOk X.prog X.w (upd H1 d (.xd [(("pairs" : Str), v)])) G' d (.xd [(("pairs" : Str), v)]) :=
      ⟨_, hns.at (fun o q => (gk d M.dne).trans q), fun f => relO_low_BadPairs rv f⟩
    have J : Inv X pins σ (upd H1 d (.xd [(("pairs" : Str), v)])) ⟨G', g, dr, tk', os⟩ := I1.laid (t' := tk') old M.dbig ob
    refine ⟨e, oe, fv, ⟨G', g, dr, tk', os⟩, _, .ref C, some d, rfl, J, fun b o q => ?_, ge, hoe, ⟨hc, hd⟩, hdat, h1, ?_, rfl, I1.bare, raises_own T.exC T.tyC, q1 d (I1.hok.fresh M.dbig)⟩
    · by_cases hb : b = e
      · have q' : G'.get? b = some o := q
        rw [hb, ge] at q'; cases q'
      · exact (gk b hb).symm.trans q
    · rw [upd_ne (Ne.symm M.dne)]
      exact I1.hok.fresh M.new
/-- BadPairs(e), held as a value -/
theorem pe_lowV_BadPairs {a : Expr} {ta : TA} {p pos : Pos} {k : Nat} (T : PySem.LowX_BadPairs.LowTxt_BadPairs X.K X.mg C fI) (hr : Room k X.A) (ha : PA X [a] ta) (hg : Gl X "BadPairs" := by rfl)
    (he : starEach (a :: []) X.env = (false, eval a X.env) :: starEach [] X.env := by rfl) (hpl : (backTo pos (starEach [] X.env)).any (·.1) = false := by rfl) :
    PE X (.Call (.Name "BadPairs" p) [a] [] pos) (tLowV C "pairs" ta) := by
  refine .mk fun pins s σ H Q I h => ?_
  refine wpAny_Call_Name_kw (ld_glob I hg T.gC ?_)
  refine PySem.W.callWith_K (h₀ := X.base) I.ok.mod.kin T.kC (thn (ha.run pos pins s σ H _ I h) fun us s1 hh => ?_) he hpl
  obtain ⟨vs, H1, I1, r1, v, ev, q1⟩ := hh
  subst ev
  refine ⟨I1.kIn, ?_⟩
  cases r1 with
  | cons rv rn =>
    rename_i v' us'
    cases rn
    show wpAny _ _ (call (.ref C) [v']) _ _ _
    have hlim := I1.nolimit
    obtain ⟨hp, g, dr, tk, os⟩ := s1
    refine wpAny_call (PySem.LowX_BadPairs.low_made_BadPairs T I1.kIn hlim (by have := hr.dp; omega) fun h' tk' e d M => ?_)
    exact lowV_end I1 rv M.keep M.new M.obj M.dbig M.dne M.ns (fun f => relO_low_BadPairs rv f) ⟨v, rfl, q1⟩
/-- BadPairs(pairs = e), held as a value -/
theorem pe_lowVk_BadPairs {kws : List Keyword} {tk : TA} {p pos : Pos} {k : Nat} (T : PySem.LowX_BadPairs.LowTxt_BadPairs X.K X.mg C fI) (hr : Room k X.A) (ha : PK X kws tk) (hg : Gl X "BadPairs" := by rfl)
    (hall : (backToKw pos (keywordEach kws X.env)).all (·.1.isSome) = true := by rfl) (hks : (backToKw pos (keywordEach kws X.env)).filterMap (·.1) = [("pairs" : Str)] := by rfl)
    (hpl : ((backTo pos (starEach [] X.env)).any (·.1) || (backToKw pos (keywordEach kws X.env)).any (·.1.isNone)) = false := by rfl) :
    PE X (.Call (.Name "BadPairs" p) [] kws pos) (tLowV C "pairs" tk) := by
  refine .mk fun pins s σ H Q I h => ?_
  refine wpAny_Call_Name_kw (ld_glob I hg T.gC ?_)
  refine PySem.W.callWith_KW0 (h₀ := X.base) I.ok.mod.kin T.kC hall (thn (ha.run pos pins s σ H _ I h) fun us s1 hh => ?_) hpl
  obtain ⟨vs, H1, I1, r1, v, ev, q1⟩ := hh
  subst ev
  refine ⟨I1.kIn, ?_⟩
  rw [hks]
  cases r1 with
  | cons rv rn =>
    rename_i v' us'
    cases rn
    show wpAny _ _ (call (.ref C) [] [(("pairs" : Str), v')]) _ _ _
    have hlim := I1.nolimit
    obtain ⟨hp, g, dr, tk, os⟩ := s1
    refine wpAny_call (PySem.LowX_BadPairs.low_madeK_BadPairs T I1.kIn hlim (by have := hr.dp; omega) fun h' tk' e d M => ?_)
    exact lowV_end I1 rv M.keep M.new M.obj M.dbig M.dne M.ns (fun f => relO_low_BadPairs rv f) ⟨v, rfl, q1⟩
end
end L2

namespace PySem
namespace LowX_BadProfile
open PySem.W PySem.Calls PyProof.Rows PySem.HandSPX
/-! ### the text of __init__ -/
def iA (p1 p2 : Pos) : Arguments := { posonlyargs := [], args := [{ arg := "self", annotation := none, pos := p1 }, { arg := "profile", annotation := none, pos := p2 }], vararg := none, kwonlyargs := [], kw_defaults := [], kwarg := none, defaults := [] }
def iB (q1 q2 q3 q4 : Pos) : List Stmt := [.Assign [.Attribute (.Name "self" q1) "profile" q2] (.Name "profile" q3) q4]
def iS : Scope := { kind := .function, names := [(PySem.Str.ofString "self", .local), (PySem.Str.ofString "profile", .local)], isGenerator := false, isCoroutine := false, more := [] }
/-- what the written part says of Low, at C, and of its __init__, at fI -/
structure LowTxt_BadProfile (K : Frag) (mg : Str → Option Value) (C fI : Addr) : Prop where
  gC : mg "BadProfile" = some (.ref C)
  cls : ∃ nm q N bs bm sn sub ab col dd k0 k1 k2 k3 k5, K.lookup C = some (excClassObj nm q C N bs bm true sn sub ab col dd k0 k1 k2 k3 k5 "ValueError.__new__") ∧ refsVE bm = true
  sa : findIn K (.ref C) "__setattr__" = some (some (.builtin "object.__setattr__"))
  ga : findIn K (.ref C) "__getattribute__" = some (some (.builtin "BaseException.__getattribute__"))
  gg : findIn K (.ref C) "__getattr__" = some none
  noN : findIn K (.ref C) "profile" = some none
  iC : findIn K (.ref C) "__init__" = some (some (.ref fI))
  tC : typeIn K (.ref fI) = some (.type "function")
  kC : keepIn K (.ref C) = true
  exC : subIn K (.ref C) (.type "BaseException") = some true
  tyC : typeIn K (.ref C) = some (.type "type")
  hdC : hasDictIn K C = true
  te : exmOne K (.ref C) (.ref C) = some true
  fn : ∃ (oc : Value) (od : Option Addr) (doc pm : Value) (an : Option Addr) (cdv ct : Value) (osl : Array (Option Value)) (p1 p2 q1 q2 q3 q4 : Pos),
    K.lookup fI = some ⟨oc, od, .func (fnOf "__init__" "BadProfile.__init__" (iA p1 p2) (iB q1 q2 q3 q4) iS .none .none doc pm an cdv ct), osl⟩ ∧ codeIn K cdv "BadProfile.__init__" = true
theorem one_size (v : Value) : [v].length ≤ sizeLine := by
  rw [sizeLine_eq]
  exact (by decide : 1 ≤ 16777216)
theorem kept_but {K : Frag} {h h' : Heap} {x : Addr} (X : K.In h) (hx : K.lookup x = none) (k : ∀ b o, b ≠ x → h.get? b = some o → h'.get? b = some o) : K.In h' := fun a o e =>
  k a o (fun z => by rw [z, hx] at e; cases e) (X a o e)
theorem ldC {M : Model} {s : Shared} {name : Str} {scope : Scope} {L a : Addr} {cd : Value} {m : Str → Option Value} {x : Str} {pos : Pos} {v : Value} {Q : Value → Shared → Prop} {A : Around} {E : Value → Shared → Prop} (hn : s.heap.Ns L m) (hv : m x = some v) (h : Q v s)
    (hk : scope.kind = .function := by rfl) (hl : (envOfC name scope L a cd).kindOf x = some .local := by rfl) (hd : (x == ("__debug__" : Str)) = false := by decide) :
    wpAny M A (eval (.Name x pos) (envOfC name scope L a cd)) Q E s := wpAny_Name (wpAny_loadName_local hk hl hn hv h) hd
/-- what __init__ leaves of a fresh exception at x -/
structure InitEnd_BadProfile (h h' : Heap) (x C dx t1 : Addr) (v : Value) : Prop where
  keep : ∀ b o, b ≠ x → h.get? b = some o → h'.get? b = some o
  obj : h'.get? x = some { cls := .ref C, dict := some dx, data := .fields #[.ref t1, .none, .none, .none, .bool false, .none] }
  dbig : h.objs.size ≤ dx
  dne : dx ≠ x
  ns : h'.Ns1 dx (fun y => if y = "profile" then some v else none)
/-- a made Low -/
structure OwnMade_BadProfile (h h' : Heap) (e C d : Addr) (v : Value) : Prop where
  keep : ∀ b o, h.get? b = some o → h'.get? b = some o
  new : h.objs.size ≤ e
  obj : ∃ oe vs, h'.get? e = some oe ∧ oe.cls = .ref C ∧ oe.dict = some d ∧ oe.data = .fields vs ∧ vs[1]? = some .none
  dbig : h.objs.size ≤ d
  dne : d ≠ e
  ns : h'.Ns1 d (fun y => if y = "profile" then some v else none)
section
variable {prog : Program} {w : World} {A : Around} {E : Value → Shared → Prop} {R : Result → Shared → Prop} {s : Shared} {K : Frag} {mg : Str → Option Value} {C fI : Addr}
theorem low_init_BadProfile (T : LowTxt_BadProfile K mg C fI) {x t0 : Addr} {v : Value} (X : K.In s.heap) (hlim : s.heap.NoLimit) (hx : s.heap.get? x = some (excO C t0)) (hnx : K.lookup x = none) (hroom : A.depth < recursionLimit)
    (hq : ∀ h' tk dx, InitEnd_BadProfile s.heap h' x C dx t0 v → R (.ok (.ret .none)) { s with heap := h', toks := tk }) :
    codeAny (model prog w) A (.call (.ref fI) ⟨[.ref x, v], []⟩) R s := by
  obtain ⟨oc, od, doc, pm, an, cdv, ct, osl, p1, p2, q1, q2, q3, q4, ho, hcd⟩ := T.fn
  obtain ⟨nm, q, N, bs, bm, sn, sub, ab, col, dd, k0, k1, k2, k3, k5, hC, hbm⟩ := T.cls
  have hcl : clsIn K C = some { name := nm, bases := bs, mro := .ref C :: bm, ns := N, qualname := q, hasDict := true, slotNames := sn, subclasses := sub, abstract := ab, collection := col, hasDel := false } := by unfold clsIn; rw [hC] <;> rfl
  refine Att.call_fn (binds := [("self", .ref x), ("profile", v)]) X hlim ho hcd hroom (BindsTo.of_eq (by first | rfl | with_unfolding_all rfl)) (by first | rfl | decide | with_unfolding_all rfl) (fun s₁ IC => ?_) rfl rfl rfl
  obtain ⟨h₁, tk₁, rfl⟩ := IC.toInCall.same
  have k : ∀ b o, s.heap.get? b = some o → h₁.get? b = some o := IC.toInCall.keep
  have hn := IC.toInCall.ns
  have hxL : s.heap.objs.size ≠ x := Nat.ne_of_gt (Heap.lt_size hx)
  have X₁ : K.In h₁ := X.keeps k
  have hx₁ := k _ _ hx
  -- self.by = by
  show wpAny _ _ (execs _ _) _ _ _
  refine wpAny_execs_cons (plainObj_wpAny_Assign_Attribute ?_)
  refine ldC (v := v) hn (by first | rfl | with_unfolding_all rfl | kernel_rfl) (ldC (v := .ref x) hn (by first | rfl | with_unfolding_all rfl | kernel_rfl) ?_)
  refine set_plain X₁ (ox := excO C t0) (od := none) ⟨hx₁, rfl, rfl, trivial⟩ T.sa ?_
  refine exc_osa X₁ hx₁ hcl (show refsVE (.ref C :: bm) = true from hbm) rfl T.noN (fun h₃ tk₃ dx k₃ dn dne hx₃ hn₃ => ?_)
  show wpAny _ _ (execs _ _) _ _ _
  have z : s.heap.objs.size < h₁.objs.size := hn.lt
  exact wpAny_execs_nil (hq h₃ tk₃ dx ⟨fun b o hb e => k₃ b o hb (k b o e), hx₃, Nat.le_of_lt (Nat.lt_of_lt_of_le z dn), dne, hn₃⟩)
theorem low_made_BadProfile (T : LowTxt_BadProfile K mg C fI) {v : Value} (X : K.In s.heap) (hlim : s.heap.NoLimit) (hroom : A.depth + 1 < recursionLimit)
    (hq : ∀ h' tk e d, OwnMade_BadProfile s.heap h' e C d v → R (.ok (.ret (.ref e))) { s with heap := h', toks := tk }) :
    codeAny (model prog w) A (.call (.ref C) ⟨[v], []⟩) R s := by
  obtain ⟨nm, q, N, bs, bm, sn, sub, ab, col, dd, k0, k1, k2, k3, k5, hC, hbm⟩ := T.cls
  obtain ⟨hp, g, dr, tk, os⟩ := s
  have k : ∀ b o, hp.get? b = some o → ((hp.push (kdv_tup [v])).push (excO C hp.objs.size)).get? b = some o := fun b o e => Heap.get?_push_of_some _ (Heap.get?_push_of_some _ e)
  have hget : ((hp.push (kdv_tup [v])).push (excO C hp.objs.size)).get? (hp.objs.size + 1) = some (excO C hp.objs.size) := by heap_get
  have hnx : K.lookup (hp.objs.size + 1) = none := by
    cases e : K.lookup (hp.objs.size + 1) with
    | none => rfl
    | some o =>
      have z : hp.get? (hp.objs.size + 1) = some o := X _ _ e
      exact absurd (Nat.lt_of_succ_lt (Heap.lt_size z)) (Nat.lt_irrefl _)
  refine call_own F.excBase_ValueError (fun X => refsVE_contains X bm hbm) (X _ _ hC) (looks_findIn X T.iC) (fun self => bind_fn X self T.tC) (one_size v) ?_
  refine low_init_BadProfile (s := ⟨(hp.push (kdv_tup [v])).push (excO C hp.objs.size), g, dr, tk, os⟩) T (X.keeps k) (hlim.keeps k) hget hnx ?_ fun h' tk' dx ⟨k', hx, dn, dne, hns⟩ => ?_
  · show A.depth + 1 < recursionLimit
    exact hroom
  · have old : ∀ b o, hp.get? b = some o → h'.get? b = some o := fun b o e => k' b o (Nat.ne_of_lt (Nat.lt_succ_of_lt (Heap.lt_size e))) (k b o e)
    have z : hp.objs.size + 1 + 1 ≤ dx := by
      first
        | (simpa only [Heap.size_push] using dn)
        | exact dn
        | (have q := dn; rw [Heap.size_push, Heap.size_push] at q; exact q)
    exact ⟨rfl, hq h' tk' (hp.objs.size + 1) dx ⟨old, Nat.le_succ _, ⟨_, _, hx, rfl, rfl, rfl, rfl⟩, Nat.le_trans (Nat.le_trans (Nat.le_succ _) (Nat.le_succ _)) z, dne, hns⟩⟩
theorem low_initK_BadProfile (T : LowTxt_BadProfile K mg C fI) {x t0 : Addr} {v : Value} (X : K.In s.heap) (hlim : s.heap.NoLimit) (hx : s.heap.get? x = some (excO C t0)) (hnx : K.lookup x = none) (hroom : A.depth < recursionLimit)
    (hq : ∀ h' tk dx, InitEnd_BadProfile s.heap h' x C dx t0 v → R (.ok (.ret .none)) { s with heap := h', toks := tk }) :
    codeAny (model prog w) A (.call (.ref fI) ⟨[.ref x], [(("profile" : Str), v)]⟩) R s := by
  obtain ⟨oc, od, doc, pm, an, cdv, ct, osl, p1, p2, q1, q2, q3, q4, ho, hcd⟩ := T.fn
  obtain ⟨nm, q, N, bs, bm, sn, sub, ab, col, dd, k0, k1, k2, k3, k5, hC, hbm⟩ := T.cls
  have hcl : clsIn K C = some { name := nm, bases := bs, mro := .ref C :: bm, ns := N, qualname := q, hasDict := true, slotNames := sn, subclasses := sub, abstract := ab, collection := col, hasDel := false } := by unfold clsIn; rw [hC] <;> rfl
  refine Att.call_fn (binds := [("self", .ref x), ("profile", v)]) X hlim ho hcd hroom (BindsTo.of_eq (by first | rfl | with_unfolding_all rfl)) (by first | rfl | decide | with_unfolding_all rfl) (fun s₁ IC => ?_) rfl rfl rfl
  obtain ⟨h₁, tk₁, rfl⟩ := IC.toInCall.same
  have k : ∀ b o, s.heap.get? b = some o → h₁.get? b = some o := IC.toInCall.keep
  have hn := IC.toInCall.ns
  have hxL : s.heap.objs.size ≠ x := Nat.ne_of_gt (Heap.lt_size hx)
  have X₁ : K.In h₁ := X.keeps k
  have hx₁ := k _ _ hx
  -- self.by = by
  show wpAny _ _ (execs _ _) _ _ _
  refine wpAny_execs_cons (plainObj_wpAny_Assign_Attribute ?_)
  refine ldC (v := v) hn (by first | rfl | with_unfolding_all rfl | kernel_rfl) (ldC (v := .ref x) hn (by first | rfl | with_unfolding_all rfl | kernel_rfl) ?_)
  refine set_plain X₁ (ox := excO C t0) (od := none) ⟨hx₁, rfl, rfl, trivial⟩ T.sa ?_
  refine exc_osa X₁ hx₁ hcl (show refsVE (.ref C :: bm) = true from hbm) rfl T.noN (fun h₃ tk₃ dx k₃ dn dne hx₃ hn₃ => ?_)
  show wpAny _ _ (execs _ _) _ _ _
  have z : s.heap.objs.size < h₁.objs.size := hn.lt
  exact wpAny_execs_nil (hq h₃ tk₃ dx ⟨fun b o hb e => k₃ b o hb (k b o e), hx₃, Nat.le_of_lt (Nat.lt_of_lt_of_le z dn), dne, hn₃⟩)
theorem low_madeK_BadProfile (T : LowTxt_BadProfile K mg C fI) {v : Value} (X : K.In s.heap) (hlim : s.heap.NoLimit) (hroom : A.depth + 1 < recursionLimit)
    (hq : ∀ h' tk e d, OwnMade_BadProfile s.heap h' e C d v → R (.ok (.ret (.ref e))) { s with heap := h', toks := tk }) :
    codeAny (model prog w) A (.call (.ref C) ⟨[], [(("profile" : Str), v)]⟩) R s := by
  obtain ⟨nm, q, N, bs, bm, sn, sub, ab, col, dd, k0, k1, k2, k3, k5, hC, hbm⟩ := T.cls
  obtain ⟨hp, g, dr, tk, os⟩ := s
  have k : ∀ b o, hp.get? b = some o → ((hp.push (kdv_tup [])).push (excO C hp.objs.size)).get? b = some o := fun b o e => Heap.get?_push_of_some _ (Heap.get?_push_of_some _ e)
  have hget : ((hp.push (kdv_tup [])).push (excO C hp.objs.size)).get? (hp.objs.size + 1) = some (excO C hp.objs.size) := by heap_get
  have hnx : K.lookup (hp.objs.size + 1) = none := by
    cases e : K.lookup (hp.objs.size + 1) with
    | none => rfl
    | some o =>
      have z : hp.get? (hp.objs.size + 1) = some o := X _ _ e
      exact absurd (Nat.lt_of_succ_lt (Heap.lt_size z)) (Nat.lt_irrefl _)
  refine call_ownK F.excBase_ValueError (fun X => refsVE_contains X bm hbm) (X _ _ hC) (looks_findIn (X.keeps k) T.iC) (fun self => bind_fn (X.keeps k) self T.tC) ?_
  refine low_initK_BadProfile (s := ⟨(hp.push (kdv_tup [])).push (excO C hp.objs.size), g, dr, tk, os⟩) T (X.keeps k) (hlim.keeps k) hget hnx ?_ fun h' tk' dx ⟨k', hx, dn, dne, hns⟩ => ?_
  · show A.depth + 1 < recursionLimit
    exact hroom
  · have old : ∀ b o, hp.get? b = some o → h'.get? b = some o := fun b o e => k' b o (Nat.ne_of_lt (Nat.lt_succ_of_lt (Heap.lt_size e))) (k b o e)
    have z : hp.objs.size + 1 + 1 ≤ dx := by
      first
        | (simpa only [Heap.size_push] using dn)
        | exact dn
        | (have q := dn; rw [Heap.size_push, Heap.size_push] at q; exact q)
    exact ⟨rfl, hq h' tk' (hp.objs.size + 1) dx ⟨old, Nat.le_succ _, ⟨_, _, hx, rfl, rfl, rfl, rfl⟩, Nat.le_trans (Nat.le_trans (Nat.le_succ _) (Nat.le_succ _)) z, dne, hns⟩⟩
end
end LowX_BadProfile
end PySem
namespace L2
open PySem PySem.Spec PyProof.Rows
theorem relO_low_BadProfile {v : V} {v' : Value} (r : RelV v v') (f : Str) : RelO (List.lookup f [(("profile" : Str), v)]) (if f = "profile" then some v' else none) := by
  by_cases hw : f = "profile"
  · subst hw
    rw [if_pos rfl]
    have q : List.lookup ("profile" : Str) [(("profile" : Str), v)] = some v := by simp [List.lookup]
    rw [q]
    exact r
  · rw [if_neg hw]
    have qw : (f == ("profile" : Str)) = false := by simpa using hw
    have q2 : List.lookup f [(("profile" : Str), v)] = none := by simp [List.lookup, qw]
    rw [q2]
    trivial
section
variable {X : Cx} {C fI : Addr}
/-- Low(e) -/
def tMkLow_BadProfile (C : Addr) (ta : TA) : St → Hp → XK → Prop := fun σ H Q => ta σ H fun vs H1 => ∃ v, vs = [v] ∧ ∀ d, H1 d = none → Q (.ref C) (some d) (upd H1 d (.xd [(("profile" : Str), v)]))
theorem pmk_low_BadProfile {a : Expr} {ta : TA} {p pos : Pos} {k : Nat} (T : PySem.LowX_BadProfile.LowTxt_BadProfile X.K X.mg C fI) (hr : Room k X.A) (ha : PA X [a] ta) (hg : Gl X "BadProfile" := by rfl)
    (he : starEach (a :: []) X.env = (false, eval a X.env) :: starEach [] X.env := by rfl) (hpl : (backTo pos (starEach [] X.env)).any (·.1) = false := by rfl) :
    PMk X (.Call (.Name "BadProfile" p) [a] [] pos) (tMkLow_BadProfile C ta) := by
  intro pins s σ H Q I h
  refine wpAny_Call_Name_kw (ld_glob I hg T.gC ?_)
  refine PySem.W.callWith_K (h₀ := X.base) I.ok.mod.kin T.kC (thn (ha.run pos pins s σ H _ I h) fun us s1 hh => ?_) he hpl
  obtain ⟨vs, H1, I1, r1, v, ev, q1⟩ := hh
  subst ev
  refine ⟨I1.kIn, ?_⟩
  cases r1 with
  | cons rv rn =>
    rename_i v' us'
    cases rn
    show wpAny _ _ (call (.ref C) [v']) _ _ _
    have hlim := I1.nolimit
    obtain ⟨hp, g, dr, tk, os⟩ := s1
    refine wpAny_call (PySem.LowX_BadProfile.low_made_BadProfile T I1.kIn hlim (by have := hr.dp; omega) fun h' tk' e d M => ?_)
    show MkP X pins σ Q (.ref e) ⟨h', g, dr, tk', os⟩
    obtain ⟨oe, fv, hoe, hc, hd, hdat, h1⟩ := M.obj
    have hns := M.ns
    obtain ⟨G', g1, g2⟩ := restrict h' fun b => decide (b ≠ e)
    have gk : ∀ b, b ≠ e → G'.get? b = h'.get? b := fun b hb => g1 b (decide_eq_true hb)
    have ge : G'.get? e = none := g2 e (by simp)
    have old : ∀ b o, hp.get? b = some o → G'.get? b = some o := fun b o q => (gk b (Nat.ne_of_lt (Nat.lt_of_lt_of_le (Heap.lt_size q) M.new))).trans (M.keep b o q)
    have ob : ObjOk X.prog X.w (upd H1 d (.xd [(("profile" : Str), v)])) G' d (.xd [(("profile" : Str), v)]) :=
      ⟨_, hns.at (fun o q => (gk d M.dne).trans q), fun f => relO_low_BadProfile rv f⟩
    have J : Inv X pins σ (upd H1 d (.xd [(("profile" : Str), v)])) ⟨G', g, dr, tk', os⟩ := I1.laid (t' := tk') old M.dbig ob
    refine ⟨e, oe, fv, ⟨G', g, dr, tk', os⟩, _, .ref C, some d, rfl, J, fun b o q => ?_, ge, hoe, ⟨hc, hd⟩, hdat, h1, ?_, rfl, I1.bare, raises_own T.exC T.tyC, q1 d (I1.hok.fresh M.dbig)⟩
    · by_cases hb : b = e
      · have q' : G'.get? b = some o := q
        rw [hb, ge] at q'; cases q'
      · exact (gk b hb).symm.trans q
    · rw [upd_ne (Ne.symm M.dne)]
      exact I1.hok.fresh M.new
/-- BadProfile(e), held as a value -/
theorem pe_lowV_BadProfile {a : Expr} {ta : TA} {p pos : Pos} {k : Nat} (T : PySem.LowX_BadProfile.LowTxt_BadProfile X.K X.mg C fI) (hr : Room k X.A) (ha : PA X [a] ta) (hg : Gl X "BadProfile" := by rfl)
    (he : starEach (a :: []) X.env = (false, eval a X.env) :: starEach [] X.env := by rfl) (hpl : (backTo pos (starEach [] X.env)).any (·.1) = false := by rfl) :
    PE X (.Call (.Name "BadProfile" p) [a] [] pos) (tLowV C "profile" ta) := by
  refine .mk fun pins s σ H Q I h => ?_
  refine wpAny_Call_Name_kw (ld_glob I hg T.gC ?_)
  refine PySem.W.callWith_K (h₀ := X.base) I.ok.mod.kin T.kC (thn (ha.run pos pins s σ H _ I h) fun us s1 hh => ?_) he hpl
  obtain ⟨vs, H1, I1, r1, v, ev, q1⟩ := hh
  subst ev
  refine ⟨I1.kIn, ?_⟩
  cases r1 with
  | cons rv rn =>
    rename_i v' us'
    cases rn
    show wpAny _ _ (call (.ref C) [v']) _ _ _
    have hlim := I1.nolimit
    obtain ⟨hp, g, dr, tk, os⟩ := s1
    refine wpAny_call (PySem.LowX_BadProfile.low_made_BadProfile T I1.kIn hlim (by have := hr.dp; omega) fun h' tk' e d M => ?_)
    exact lowV_end I1 rv M.keep M.new M.obj M.dbig M.dne M.ns (fun f => relO_low_BadProfile rv f) ⟨v, rfl, q1⟩
/-- BadProfile(profile = e), held as a value -/
theorem pe_lowVk_BadProfile {kws : List Keyword} {tk : TA} {p pos : Pos} {k : Nat} (T : PySem.LowX_BadProfile.LowTxt_BadProfile X.K X.mg C fI) (hr : Room k X.A) (ha : PK X kws tk) (hg : Gl X "BadProfile" := by rfl)
    (hall : (backToKw pos (keywordEach kws X.env)).all (·.1.isSome) = true := by rfl) (hks : (backToKw pos (keywordEach kws X.env)).filterMap (·.1) = [("profile" : Str)] := by rfl)
    (hpl : ((backTo pos (starEach [] X.env)).any (·.1) || (backToKw pos (keywordEach kws X.env)).any (·.1.isNone)) = false := by rfl) :
    PE X (.Call (.Name "BadProfile" p) [] kws pos) (tLowV C "profile" tk) := by
  refine .mk fun pins s σ H Q I h => ?_
  refine wpAny_Call_Name_kw (ld_glob I hg T.gC ?_)
  refine PySem.W.callWith_KW0 (h₀ := X.base) I.ok.mod.kin T.kC hall (thn (ha.run pos pins s σ H _ I h) fun us s1 hh => ?_) hpl
  obtain ⟨vs, H1, I1, r1, v, ev, q1⟩ := hh
  subst ev
  refine ⟨I1.kIn, ?_⟩
  rw [hks]
  cases r1 with
  | cons rv rn =>
    rename_i v' us'
    cases rn
    show wpAny _ _ (call (.ref C) [] [(("profile" : Str), v')]) _ _ _
    have hlim := I1.nolimit
    obtain ⟨hp, g, dr, tk, os⟩ := s1
    refine wpAny_call (PySem.LowX_BadProfile.low_madeK_BadProfile T I1.kIn hlim (by have := hr.dp; omega) fun h' tk' e d M => ?_)
    exact lowV_end I1 rv M.keep M.new M.obj M.dbig M.dne M.ns (fun f => relO_low_BadProfile rv f) ⟨v, rfl, q1⟩
end
end L2

set_option Elab.async false
set_option linter.all false
set_option maxRecDepth 100000
set_option maxHeartbeats 2000000
namespace K01
open PySem PySem.Spec PyProof.Rows L2 Evl LawK
def topS (i : Nat) : Stmt := PySem.Challenge.pw_saidchances_k01_errors.main.body.getD i (.Pass ⟨0, 0, 0, 0⟩)
structure EC where
  ByZero : Addr
  BadText : Addr
  OpenDays : Addr
  NoOutcomes : Addr
  NothingToUndo : Addr
  UnlikeProfiles : Addr
  BadNumber : Addr
  BadPeople : Addr
  BadLines : Addr
  BadLine : Addr
  NoCell : Addr
  BadCells : Addr
  UnknownName : Addr
  NotSaid : Addr
  BadChance : Addr
  BadActor : Addr
  BadScore : Addr
  BadGains : Addr
  BadStakes : Addr
  NotTwo : Addr
  BadCount : Addr
  NotReliable : Addr
  BadWeight : Addr
  BadPairs : Addr
  BadProfile : Addr
  Rain : Addr
def EC.all (E : EC) : List Addr := [E.ByZero, E.BadText, E.OpenDays, E.NoOutcomes, E.NothingToUndo, E.UnlikeProfiles, E.BadNumber, E.BadPeople, E.BadLines, E.BadLine, E.NoCell, E.BadCells, E.UnknownName, E.NotSaid, E.BadChance, E.BadActor, E.BadScore, E.BadGains, E.BadStakes, E.NotTwo, E.BadCount, E.NotReliable, E.BadWeight, E.BadPairs, E.BadProfile]
def tabs (E : EC) : List (Addr × Str) := [(E.BadNumber, ("value" : Str)), (E.BadPeople, ("people" : Str)), (E.BadLines, ("lines" : Str))] ++ [(E.BadLine, ("line" : Str)), (E.NoCell, ("cell" : Str)), (E.BadCells, ("cells" : Str))] ++ [(E.UnknownName, ("name" : Str)), (E.NotSaid, ("chance" : Str)), (E.BadChance, ("value" : Str))] ++ [(E.BadActor, ("actor" : Str)), (E.BadScore, ("score" : Str)), (E.BadGains, ("gains" : Str))] ++ [(E.BadStakes, ("stakes" : Str)), (E.NotTwo, ("count" : Str)), (E.BadCount, ("count" : Str))] ++ [(E.NotReliable, ("name" : Str)), (E.BadWeight, ("value" : Str)), (E.BadPairs, ("pairs" : Str))] ++ [(E.BadProfile, ("profile" : Str))] ++ [(E.BadNumber, ("value" : Str)), (E.BadPeople, ("people" : Str))] ++ [(E.BadLines, ("lines" : Str)), (E.BadLine, ("line" : Str))] ++ [(E.NoCell, ("cell" : Str)), (E.BadCells, ("cells" : Str))] ++ [(E.UnknownName, ("name" : Str)), (E.NotSaid, ("chance" : Str))] ++ [(E.BadChance, ("value" : Str)), (E.BadActor, ("actor" : Str))] ++ [(E.BadScore, ("score" : Str)), (E.BadGains, ("gains" : Str))] ++ [(E.BadStakes, ("stakes" : Str)), (E.NotTwo, ("count" : Str))] ++ [(E.BadCount, ("count" : Str)), (E.NotReliable, ("name" : Str))] ++ [(E.BadWeight, ("value" : Str)), (E.BadPairs, ("pairs" : Str))] ++ [(E.BadProfile, ("profile" : Str))]
structure ETxt (K : PySem.W.Frag) (mg : Str → Option Value) (E J : EC) : Prop where
  z_sum : mg "sum" = none
  z_abs : mg "abs" = none
  z_list : mg "list" = none
  z_int : mg "int" = none
  z_len : mg "len" = none
  z_range : mg "range" = none
  z_repr : mg "repr" = none
  z_isinstance : mg "isinstance" = none
  z_ValueError : mg "ValueError" = none
  g_RainError : ∃ u, mg "RainError" = some u ∧ RelV (.ref E.Rain) u
  g_ByZero : ∃ u, mg "ByZero" = some u ∧ RelV (.ref E.ByZero) u
  g_BadText : ∃ u, mg "BadText" = some u ∧ RelV (.ref E.BadText) u
  g_OpenDays : ∃ u, mg "OpenDays" = some u ∧ RelV (.ref E.OpenDays) u
  g_NoOutcomes : ∃ u, mg "NoOutcomes" = some u ∧ RelV (.ref E.NoOutcomes) u
  g_NothingToUndo : ∃ u, mg "NothingToUndo" = some u ∧ RelV (.ref E.NothingToUndo) u
  g_UnlikeProfiles : ∃ u, mg "UnlikeProfiles" = some u ∧ RelV (.ref E.UnlikeProfiles) u
  g_BadNumber : ∃ u, mg "BadNumber" = some u ∧ RelV (.ref E.BadNumber) u
  g_BadPeople : ∃ u, mg "BadPeople" = some u ∧ RelV (.ref E.BadPeople) u
  g_BadLines : ∃ u, mg "BadLines" = some u ∧ RelV (.ref E.BadLines) u
  g_BadLine : ∃ u, mg "BadLine" = some u ∧ RelV (.ref E.BadLine) u
  g_NoCell : ∃ u, mg "NoCell" = some u ∧ RelV (.ref E.NoCell) u
  g_BadCells : ∃ u, mg "BadCells" = some u ∧ RelV (.ref E.BadCells) u
  g_UnknownName : ∃ u, mg "UnknownName" = some u ∧ RelV (.ref E.UnknownName) u
  g_NotSaid : ∃ u, mg "NotSaid" = some u ∧ RelV (.ref E.NotSaid) u
  g_BadChance : ∃ u, mg "BadChance" = some u ∧ RelV (.ref E.BadChance) u
  g_BadActor : ∃ u, mg "BadActor" = some u ∧ RelV (.ref E.BadActor) u
  g_BadScore : ∃ u, mg "BadScore" = some u ∧ RelV (.ref E.BadScore) u
  g_BadGains : ∃ u, mg "BadGains" = some u ∧ RelV (.ref E.BadGains) u
  g_BadStakes : ∃ u, mg "BadStakes" = some u ∧ RelV (.ref E.BadStakes) u
  g_NotTwo : ∃ u, mg "NotTwo" = some u ∧ RelV (.ref E.NotTwo) u
  g_BadCount : ∃ u, mg "BadCount" = some u ∧ RelV (.ref E.BadCount) u
  g_NotReliable : ∃ u, mg "NotReliable" = some u ∧ RelV (.ref E.NotReliable) u
  g_BadWeight : ∃ u, mg "BadWeight" = some u ∧ RelV (.ref E.BadWeight) u
  g_BadPairs : ∃ u, mg "BadPairs" = some u ∧ RelV (.ref E.BadPairs) u
  g_BadProfile : ∃ u, mg "BadProfile" = some u ∧ RelV (.ref E.BadProfile) u
  x_ByZero : PySem.W.excIn K E.ByZero [.type "ValueError", .type "Exception", .type "BaseException", .type "object"] "ValueError.__new__" = true
  m_ByZero : mg "ByZero" = some (.ref E.ByZero)
  k_ByZero : PySem.W.keepIn K (.ref E.ByZero) = true
  x_BadText : PySem.W.excIn K E.BadText [.type "ValueError", .type "Exception", .type "BaseException", .type "object"] "ValueError.__new__" = true
  m_BadText : mg "BadText" = some (.ref E.BadText)
  k_BadText : PySem.W.keepIn K (.ref E.BadText) = true
  x_OpenDays : PySem.W.excIn K E.OpenDays [.type "ValueError", .type "Exception", .type "BaseException", .type "object"] "ValueError.__new__" = true
  m_OpenDays : mg "OpenDays" = some (.ref E.OpenDays)
  k_OpenDays : PySem.W.keepIn K (.ref E.OpenDays) = true
  x_NoOutcomes : PySem.W.excIn K E.NoOutcomes [.type "ValueError", .type "Exception", .type "BaseException", .type "object"] "ValueError.__new__" = true
  m_NoOutcomes : mg "NoOutcomes" = some (.ref E.NoOutcomes)
  k_NoOutcomes : PySem.W.keepIn K (.ref E.NoOutcomes) = true
  x_NothingToUndo : PySem.W.excIn K E.NothingToUndo [.type "ValueError", .type "Exception", .type "BaseException", .type "object"] "ValueError.__new__" = true
  m_NothingToUndo : mg "NothingToUndo" = some (.ref E.NothingToUndo)
  k_NothingToUndo : PySem.W.keepIn K (.ref E.NothingToUndo) = true
  x_UnlikeProfiles : PySem.W.excIn K E.UnlikeProfiles [.type "ValueError", .type "Exception", .type "BaseException", .type "object"] "ValueError.__new__" = true
  m_UnlikeProfiles : mg "UnlikeProfiles" = some (.ref E.UnlikeProfiles)
  k_UnlikeProfiles : PySem.W.keepIn K (.ref E.UnlikeProfiles) = true
  l_BadNumber : PySem.LowX_BadNumber.LowTxt_BadNumber K mg E.BadNumber J.BadNumber
  l_BadPeople : PySem.LowX_BadPeople.LowTxt_BadPeople K mg E.BadPeople J.BadPeople
  l_BadLines : PySem.LowX_BadLines.LowTxt_BadLines K mg E.BadLines J.BadLines
  l_BadLine : PySem.LowX_BadLine.LowTxt_BadLine K mg E.BadLine J.BadLine
  l_NoCell : PySem.LowX_NoCell.LowTxt_NoCell K mg E.NoCell J.NoCell
  l_BadCells : PySem.LowX_BadCells.LowTxt_BadCells K mg E.BadCells J.BadCells
  l_UnknownName : PySem.LowX_UnknownName.LowTxt_UnknownName K mg E.UnknownName J.UnknownName
  l_NotSaid : PySem.LowX_NotSaid.LowTxt_NotSaid K mg E.NotSaid J.NotSaid
  l_BadChance : PySem.LowX_BadChance.LowTxt_BadChance K mg E.BadChance J.BadChance
  l_BadActor : PySem.LowX_BadActor.LowTxt_BadActor K mg E.BadActor J.BadActor
  l_BadScore : PySem.LowX_BadScore.LowTxt_BadScore K mg E.BadScore J.BadScore
  l_BadGains : PySem.LowX_BadGains.LowTxt_BadGains K mg E.BadGains J.BadGains
  l_BadStakes : PySem.LowX_BadStakes.LowTxt_BadStakes K mg E.BadStakes J.BadStakes
  l_NotTwo : PySem.LowX_NotTwo.LowTxt_NotTwo K mg E.NotTwo J.NotTwo
  l_BadCount : PySem.LowX_BadCount.LowTxt_BadCount K mg E.BadCount J.BadCount
  l_NotReliable : PySem.LowX_NotReliable.LowTxt_NotReliable K mg E.NotReliable J.NotReliable
  l_BadWeight : PySem.LowX_BadWeight.LowTxt_BadWeight K mg E.BadWeight J.BadWeight
  l_BadPairs : PySem.LowX_BadPairs.LowTxt_BadPairs K mg E.BadPairs J.BadPairs
  l_BadProfile : PySem.LowX_BadProfile.LowTxt_BadProfile K mg E.BadProfile J.BadProfile
  kits : Kits K E.all E.Rain
/-! ### start and draw -/
section
variable {P : Program} {w : World} {K : PySem.W.Frag} {mg : Str → Option Value} {base : Heap} {E : EC} {J : EC}
abbrev s__law_start : Stmt := topS 28
theorem sc__law_start : FnScope ["_law_script", "_law_spare", "_law_great"] ["_law_script"] (defScope s__law_start) := ⟨rfl, rfl, rfl, by decide +kernel, rfl, by decide +kernel, by decide +kernel⟩
theorem ok_start {f : Addr} {fd : FuncData} (F : Fun K "_law_start" "_law_start" s__law_start f fd) (T : ETxt K mg E J) : FnOk P w K mg base CX0 1 f fd ["_law_script"] (spStart K) := by
  refine F.ok sc__law_start (fun vs H Q E h => ?_) (fun cdv A outer s H vs Q E hr h => ?_)
  · obtain ⟨a, ns, rfl, _⟩ := h
    rfl
  · obtain ⟨a, ns, rfl, hS, hl, q⟩ := h
    refine ⟨_, (pss_cons (ps_set (i := 1) sc__law_start.nd rfl (Or.inl rfl) (pe_op op_add pe_int (pe_op op_mod (pe_callB (cr_sum rfl) (by rfl) T.z_sum (by decide +kernel) (pa_cons (pe_slice sl_list (pv 0) po_none (po_some pe_int)) pa_nil)) pe_int)))
      (pss_one (ps_ret (pe_lst (pa_cons (pe_lc (own := [("_law_great", 2)]) rfl sc__law_start.nd (pi_list (pv 0)) (blkOk_by (own := [("_law_great", 2)]) (N := ["_law_script", "_law_spare", "_law_great"]) (sc := defScope s__law_start) (by decide +kernel)) (fun _ _ _ _ _ => (pg_name (i := 2) sc__law_start.nd rfl (Or.inl rfl))) (fun _ _ _ _ _ => (pts_one (pt_cmpR op_ge (pe_callB call_abs (by rfl) T.z_abs (by decide +kernel) (pa_cons (pv 2) pa_nil)) (pe_op op_pow pe_int pe_int) (nomark _)))) (fun _ _ _ _ _ => (pe_callB call_abs (by rfl) T.z_abs (by decide +kernel) (pa_cons (pv 2) pa_nil)))) (pa_cons (pe_op op_cat (pe_callTy call_list_of (by rfl) T.z_list (by decide +kernel) (pa_cons (pv 0) pa_nil)) (pe_lst (pa_cons (pv 1) pa_nil))) (pa_cons pe_int pa_nil))))))), ?_⟩
    -- spare
    refine ⟨.ref a, rfl, 1, rfl, a, _, rfl, hS, fun c nc => ?_⟩
    have eC : cutV (ns.map V.int) none (some 1) = (ns.take 1).map V.int := by
      unfold cutV
      rw [HT.sIx_none, show HT.sIx (ns.map V.int).length (ns.map V.int).length (some 1) = min 1 (ns.map V.int).length from HT.sIx_nat _ _ 1, List.drop_zero, Nat.sub_zero, List.map_take, List.length_map]
      cases ns with
      | nil => rfl
      | cons x r => simp
    rw [eC]
    refine ⟨c, ns.take 1, rfl, .inl (.inl upd_same), _, _, rfl, rfl, (by show (0 : Int) < 1000003; decide), _, _, rfl, rfl, ?_⟩
    have x1 : Ex H (upd H c (.lst ((ns.take 1).map V.int))) := Ex.new nc
    generalize upd H c (.lst ((ns.take 1).map V.int)) = H1 at x1
    -- the great ones
    have hS1 := ex_l x1 hS
    refine ⟨.ref a, rfl, a, rfl, ⟨_, hS1⟩, fun D hD => ?_⟩
    have xD : Ex H1 (upd H1 D (.lst [])) := Ex.new hD
    refine lc_list (K := K) (a := a) (xs := ns.map V.int) (fun i H' => Ex H1 H' ∧ ∃ xs : List Int, xs.length ≤ i ∧ H' D = some (.lst (xs.map V.int))) ⟨xD, [], Nat.le_refl _, upd_same⟩ (fun i H' _ h => ex_l h.1 hS1) (fun i x H' hi h => ?_) (fun H' h => ?_)
    · obtain ⟨xe, xs, hxl, hx⟩ := h
      have hil : i < (ns.map V.int).length := (List.getElem?_eq_some_iff.mp hi).1
      rw [List.length_map] at hil
      obtain ⟨z, rfl⟩ : ∃ z, x = V.int z := by
        rw [List.getElem?_map] at hi
        cases e : ns[i]? with
        | none => rw [e] at hi; cases hi
        | some z => rw [e] at hi; exact ⟨z, (Option.some.inj hi).symm⟩
      refine ⟨rfl, .int z, rfl, z, rfl, 10, 18, rfl, rfl, ⟨by decide, by decide, by decide⟩, _, _, rfl, rfl, _, rfl, ?_⟩
      refine ite2 (fun _ => ?_) (fun _ => ⟨xe, xs, by omega, hx⟩)
      refine ⟨.int z, rfl, z, rfl, _, hx, ?_, xe.mut hD, xs ++ [if z < 0 then -z else z], ?_, ?_⟩
      · rw [List.length_map]
        exact small1000 (by omega)
      · rw [List.length_append]
        show xs.length + 1 ≤ i + 1
        omega
      · rw [upd_same, List.map_append]
        rfl
    · obtain ⟨xe, xs, hxl, hx⟩ := h
      -- list(script) + [spare]
      refine ⟨.ref a, rfl, a, _, rfl, .inl (ex_l xe hS1), fun l hl2 => ?_⟩
      refine ⟨_, rfl, (by show 1 ≤ sizeLine; decide), fun m hm => ?_⟩
      have lm : l ≠ m := fun e => by
        subst e
        rw [upd_same] at hm
        cases hm
      refine ⟨l, m, _, _, rfl, rfl, (by rw [upd_ne lm, upd_same]), upd_same, ?_, fun b nb => ?_⟩
      · rw [List.length_map]
        show ns.length + 1 ≤ sizeLine
        exact Nat.le_of_lt (small1000 (by omega))
      · refine ⟨(by show 3 ≤ sizeLine; decide), fun p np => ?_⟩
        refine q p _ ?_
        have x2 : Ex H' (upd (upd (upd (upd H' l (.lst (ns.map V.int))) m (.lst [V.int (5 + (ns.take 1).sum % 1000003)])) b (.lst (ns.map V.int ++ [V.int (5 + (ns.take 1).sum % 1000003)]))) p (.lst [.ref D, .ref b, .int 0])) :=
          (((Ex.new hl2).trans (Ex.new hm)).trans (Ex.new nb)).trans (Ex.new np)
        have x12 : Ex H H' := x1.trans xe
        have n1 : (upd (upd H' l (.lst (ns.map V.int))) m (.lst [V.int (5 + (ns.take 1).sum % 1000003)])) D = some (.lst (xs.map V.int)) := ((Ex.new hl2).trans (Ex.new hm)) _ _ hx
        have Db : D ≠ b := fun e => by rw [e, nb] at n1; cases n1
        have n2 := Ex.new (o := .lst (ns.map V.int ++ [V.int (5 + (ns.take 1).sum % 1000003)])) nb _ _ n1
        have Dp : D ≠ p := fun e => by rw [e, np] at n2; cases n2
        have bp : b ≠ p := fun e => by rw [← e, upd_same] at np; cases np
        have gb : H b = none := fresh_back (x12.trans ((Ex.new hl2).trans (Ex.new hm))) nb
        have gp : H p = none := fresh_back (x12.trans (((Ex.new hl2).trans (Ex.new hm)).trans (Ex.new nb))) np
        exact ⟨D, b, xs, ns ++ [5 + (ns.take 1).sum % 1000003], 0, ⟨x12.trans x2, upd_same, x2 _ _ hx, by rw [upd_ne bp, upd_same, List.map_append]; rfl, gp, fresh_back x1 hD, gb, Dp, bp, Db⟩, by decide, by decide, by simp⟩
abbrev s__law_draw : Stmt := topS 29
theorem sc__law_draw : FnScope ["_law_box", "_law_size", "_law_digit", "_law_mixed"] ["_law_box", "_law_size"] (defScope s__law_draw) := ⟨rfl, rfl, rfl, by decide +kernel, rfl, by decide +kernel, by decide +kernel⟩
theorem ok_draw {f : Addr} {fd : FuncData} (F : Fun K "_law_draw" "_law_draw" s__law_draw f fd) (T : ETxt K mg E J) : FnOk P w K mg base CX0 1 f fd ["_law_box", "_law_size"] spDraw := by
  refine F.ok sc__law_draw (fun vs H Q E h => ?_) (fun cdv A outer s H vs Q E hr h => ?_)
  · obtain ⟨p, k, G, m, rfl, _⟩ := h
    rfl
  · obtain ⟨p, k, G, m, rfl, k0, kb, hm, ⟨a0, b, xs0, ys, n, S0, n0, n1, hy⟩, q⟩ := h
    refine ⟨_, (pss_cons (ps_asg (pe_op op_add (pe_ix ix_list (pv 0) pe_int (fun _ _ => rfl)) pe_int) (pg_sub (pv 0) pe_int set_list))
      (pss_cut (ps_while PassesOwn.never (PW.pt (pw_and (pt_cmpR (op_neD hr.units) (pe_ix ix_list (pv 0) pe_int (fun _ _ => rfl)) (pe_lst pa_nil) (nomark _)) (pw_and1 (pt_cmpR op_eq (pe_ix ix_list (pe_ix ix_list (pv 0) pe_int (fun _ _ => rfl)) pe_int (fun _ _ => rfl)) pe_int (nomark _)))))
        (pss_one (ps_asg (pe_slice sl_list (pe_ix ix_list (pv 0) pe_int (fun _ _ => rfl)) (po_some pe_int) po_none) (pg_sub (pv 0) pe_int set_list))))
      (pss_cons (ps_if (pt_cmpR (op_neD hr.units) (pe_ix ix_list (pv 0) pe_int (fun _ _ => rfl)) (pe_lst pa_nil) (nomark _))
        (pss_cons (ps_set (i := 2) sc__law_draw.nd rfl (Or.inl rfl) (pe_op op_mod (pe_callTy call_int1 (by rfl) T.z_int (by decide +kernel) (pa_cons (pe_ix ix_list (pe_ix ix_list (pv 0) pe_int (fun _ _ => rfl)) pe_int (fun _ _ => rfl)) pa_nil)) (pv 1)))
        (pss_cons (ps_asg (pe_op op_fdivW (pe_ix ix_list (pe_ix ix_list (pv 0) pe_int (fun _ _ => rfl)) pe_int (fun _ _ => rfl)) (pv 1)) (pg_sub (pe_ix ix_list (pv 0) pe_int (fun _ _ => rfl)) pe_int set_list))
        (pss_one (ps_ret (pv 2)))))
        pss_nil)
      (pss_cons (ps_set (i := 3) sc__law_draw.nd rfl (Or.inl rfl) (pe_op op_modA (pe_callTy call_int1 (by rfl) T.z_int (by decide +kernel) (pa_cons (pe_ix ix_list (pe_ix ix_list (pv 0) pe_int (fun _ _ => rfl)) (pe_op op_mod (pe_callTy call_int1 (by rfl) T.z_int (by decide +kernel) (pa_cons (pe_ix ix_list (pv 0) pe_int (fun _ _ => rfl)) pa_nil)) (pe_callB call_len_seq (by rfl) T.z_len (by decide +kernel) (pa_cons (pe_ix ix_list (pv 0) pe_int (fun _ _ => rfl)) pa_nil))) (fun _ _ => rfl)) pa_nil)) pe_int))
      (pss_cons (ps_set (i := 3) sc__law_draw.nd rfl (Or.inl rfl) (pe_op op_modA (pe_callTy call_int1 (by rfl) T.z_int (by decide +kernel) (pa_cons (pe_op op_pow (pe_op op_add (pe_op op_add (pe_op op_mul (pv 3) pe_int) (pe_op op_mul (pe_ix ix_list (pv 0) pe_int (fun _ _ => rfl)) pe_int)) pe_int) pe_int) pa_nil)) pe_int))
      (pss_one (ps_ret (pe_op op_mod (pe_op op_fdiv (pe_op op_modA (pe_callTy call_int1 (by rfl) T.z_int (by decide +kernel) (pa_cons (pe_op op_pow (pe_op op_add (pe_op op_add (pe_op op_mul (pv 3) pe_int) (pe_op op_mul (pe_ix ix_list (pv 0) pe_int (fun _ _ => rfl)) pe_int)) pe_int) pe_int) pa_nil)) pe_int) pe_int) (pv 1))))))))), ?_⟩
    -- the count
    refine ⟨.ref p, rfl, p, _, 2, .int n, rfl, rfl, .inl (.inl S0.hp), rfl, n, 1, rfl, rfl, .ref p, rfl, p, _, 2, 2, rfl, rfl, S0.hp, rfl, ?_⟩
    have S1 := S0.setn (k := n + 1)
    show tSeq _ _ _ _ (upd H p (.lst [.ref a0, .ref b, .int (n + 1)]))
    generalize upd H p (.lst [.ref a0, .ref b, .int (n + 1)]) = H1 at S1
    -- zeros ahead fall away
    refine ⟨fun σ H' => ∃ a xs, σ = [some (.ref p), some (.int k), none, none] ∧ SBe G H' p a b xs ys (n + 1), ?_, ?_⟩
    · refine ⟨fun j σ H' => ∃ a xs, σ = [some (.ref p), some (.int k), none, none] ∧ SBe G H' p a b xs ys (n + 1) ∧ xs.length = j, ⟨_, a0, xs0, rfl, S1, rfl⟩, ?_⟩
      rintro j σ H2 ⟨a, xs, rfl, S2, hj⟩
      refine ⟨.ref p, rfl, p, _, 0, .ref a, rfl, rfl, .inl (.inl S2.hp), rfl, Nat.zero_le _, fun o no => ?_⟩
      have S3 := S2.ext (Ex.new (o := .lst []) no)
      refine ⟨.list (xs.map .int), .list [], .lst (.inl (.inl S3.ha)) (dp_ints xs), .lst (.inl (.inl upd_same)) .nil, shaped_ints xs, by decide, _, rfl, ?_⟩
      rw [eqv_nil]
      generalize upd H2 o (.lst []) = H3 at S3
      cases xs with
      | nil =>
        refine iteF (iteF ?_)
        exact ⟨a, [], rfl, S3⟩
      | cons z r =>
        refine iteT ?_
        refine ⟨.ref p, rfl, p, _, 0, .ref a, rfl, rfl, .inl (.inl S3.hp), rfl, a, _, 0, .int z, rfl, rfl, .inl (.inl S3.ha), atI_nat (j := 0) rfl, rfl, _, rfl, ?_⟩
        refine ite2 (fun ez => ?_) (fun nz => ⟨a, _, rfl, S3⟩)
        refine ⟨fun σ' H' => ∃ a xs, σ' = [some (.ref p), some (.int k), none, none] ∧ SBe G H' p a b xs ys (n + 1) ∧ xs.length < j, fun σ' H' ⟨a, xs, e, S, l⟩ => ⟨_, l, a, xs, e, S, rfl⟩, ?_⟩
        refine ⟨.ref p, rfl, p, _, 0, .ref a, rfl, rfl, .inl (.inl S3.hp), rfl, 1, rfl, a, _, rfl, .inl (.inl S3.ha), fun c nc => ?_⟩
        have eC : cutV ((z :: r).map V.int) (some 1) none = r.map V.int := by
          unfold cutV
          rw [HT.sIx_none, show HT.sIx ((z :: r).map V.int).length 0 (some 1) = min 1 ((z :: r).map V.int).length from HT.sIx_nat _ _ 1]
          have e1 : min 1 ((z :: r).map V.int).length = 1 := by rw [List.length_map, List.length_cons]; omega
          rw [e1]
          show List.take (((z :: r).map V.int).length - 1) (r.map V.int) = r.map V.int
          rw [List.length_map]
          exact List.take_of_length_le (by rw [List.length_map]; exact Nat.le_refl _)
        rw [eC]
        refine ⟨.ref p, rfl, p, _, 0, 0, rfl, rfl, (by rw [upd_ne (fun e => by rw [← e, S3.hp] at nc; cases nc)]; exact S3.hp), rfl, ?_⟩
        exact ⟨c, r, rfl, S3.newa nc, by rw [← hj]; exact Nat.lt_succ_self _⟩
    · rintro σ H2 ⟨a, xs, rfl, S2⟩
      refine ⟨.ref p, rfl, p, _, 0, .ref a, rfl, rfl, .inl (.inl S2.hp), rfl, Nat.zero_le _, fun o no => ?_⟩
      have S3 := S2.ext (Ex.new (o := .lst []) no)
      refine ⟨.list (xs.map .int), .list [], .lst (.inl (.inl S3.ha)) (dp_ints xs), .lst (.inl (.inl upd_same)) .nil, shaped_ints xs, by decide, _, rfl, ?_⟩
      rw [eqv_nil]
      generalize upd H2 o (.lst []) = H3 at S3
      cases xs with
      | cons z r =>
        refine iteT ?_
        -- the digit
        refine ⟨.ref p, rfl, p, _, 0, .ref a, rfl, rfl, .inl (.inl S3.hp), rfl, a, _, 0, .int z, rfl, rfl, .inl (.inl S3.ha), atI_nat (j := 0) rfl, .inl ⟨z, rfl, .int k, rfl, z, k, rfl, rfl, k0, ?_⟩⟩
        refine ⟨.ref p, rfl, p, _, 0, .ref a, rfl, rfl, .inl (.inl S3.hp), rfl, a, _, 0, .int z, rfl, rfl, .inl (.inl S3.ha), atI_nat (j := 0) rfl, .int k, rfl, z, k, rfl, rfl, ⟨k0, kb⟩, ?_⟩
        refine ⟨.ref p, rfl, p, _, 0, .ref a, rfl, rfl, .inl (.inl S3.hp), rfl, a, _, 0, 0, rfl, rfl, S3.ha, show ixN _ ((0 : Nat) : Int) = some 0 from ixN_nat (by rw [List.length_map, List.length_cons]; omega), ?_⟩
        refine ⟨.int (z % k), rfl, q _ _ (Int.emod_nonneg _ (by omega)) (Int.emod_lt_of_pos _ k0) ⟨a, b, z / k :: r, ys, n + 1, S3.seta (zs := z / k :: r), by omega, by omega, hy⟩⟩
      | nil =>
        refine iteF ?_
        -- the mixed one
        obtain ⟨y, hyy⟩ : ∃ y, (ys.map V.int)[((n + 1) % ((ys.map V.int).length : Int)).toNat]? = some (.int y) := by
          have l0 : 0 < ys.length := List.length_pos_iff.mpr hy
          have l1 : (0 : Int) < ((ys.map V.int).length : Int) := by rw [List.length_map]; omega
          have l2 := Int.emod_lt_of_pos (n + 1) l1
          have l3 := Int.emod_nonneg (n + 1) (show ((ys.map V.int).length : Int) ≠ 0 by omega)
          rw [List.length_map] at l2 l3
          have l4 : ((n + 1) % (ys.length : Int)).toNat < ys.length := by omega
          refine ⟨ys[((n + 1) % (ys.length : Int)).toNat], ?_⟩
          rw [List.length_map, List.getElem?_map, List.getElem?_eq_getElem l4]
          rfl
        have l0 : 0 < ys.length := List.length_pos_iff.mpr hy
        have l1 : (0 : Int) < ((ys.map V.int).length : Int) := by rw [List.length_map]; omega
        have l3 := Int.emod_nonneg (n + 1) (show ((ys.map V.int).length : Int) ≠ 0 by omega)
        refine ⟨.ref p, rfl, p, _, 1, .ref b, rfl, rfl, .inl (.inl S3.hp), rfl, .ref p, rfl, p, _, 2, .int (n + 1), rfl, rfl, .inl (.inl S3.hp), rfl, .inl ⟨n + 1, rfl, ?_⟩⟩
        refine ⟨.ref p, rfl, p, _, 1, .ref b, rfl, rfl, .inl (.inl S3.hp), rfl, b, _, rfl, .inl (.inl (.inl S3.hb)), n + 1, _, rfl, rfl, l1, ?_⟩
        refine ⟨b, _, _, .int y, rfl, rfl, .inl (.inl S3.hb), at_of (Int.toNat_of_nonneg l3).symm hyy, .inl ⟨y, rfl, y, 2147483647, rfl, rfl, (by show (0 : Int) < 2147483647; decide), fun u m0 m1 _ => ?_⟩⟩
        refine ⟨.int u, rfl, u, _, rfl, rfl, .inl ⟨by omega, by omega⟩, .ref p, rfl, p, _, 2, .int (n + 1), rfl, rfl, .inl (.inl S3.hp), rfl, n + 1, _, rfl, rfl, .inl ⟨by omega, by omega⟩, _, _, rfl, rfl, _, _, rfl, rfl, _, 5, rfl, rfl, ⟨by decide, by decide, by omega⟩, .inl ⟨_, rfl, _, 2147483647, rfl, rfl, (by show (0 : Int) < 2147483647; decide), fun v v0 v1 _ => ?_⟩⟩
        refine ⟨.int v, rfl, v, _, rfl, rfl, .inl ⟨by omega, by omega⟩, .ref p, rfl, p, _, 2, .int (n + 1), rfl, rfl, .inl (.inl S3.hp), rfl, n + 1, _, rfl, rfl, .inl ⟨by omega, by omega⟩, _, _, rfl, rfl, _, _, rfl, rfl, _, 5, rfl, rfl, ⟨by decide, by decide, by omega⟩, .inl ⟨_, rfl, _, 2147483629, rfl, rfl, (by show (0 : Int) < 2147483629; decide), fun w w0 w1 _ => ⟨_, 16, rfl, rfl, ⟨by decide, by decide⟩, .int k, rfl, _, k, rfl, rfl, k0, ?_⟩⟩⟩
        exact q _ _ (Int.emod_nonneg _ (by omega)) (Int.emod_lt_of_pos _ k0) ⟨a, b, [], ys, n + 1, S3, by omega, by omega, hy⟩
end

/-! ### the law's own defs -/
def flds : List Str := ["value", "people", "lines", "line", "cell", "cells", "name", "chance", "actor", "score", "gains", "stakes", "count", "pairs", "profile"]
def OneOf (E : EC) (H : Hp) (x : V) : Prop := ∃ a C fs, x = .ref a ∧ C ∈ E.all ∧ ExAt H a C fs
theorem oneOf_mo {E : EC} : ∀ (H1 H2 : Hp) (v : V), Ex H1 H2 → OneOf E H1 v → OneOf E H2 v := fun _ _ _ e ⟨a, C, fs, h1, h2, h3⟩ => ⟨a, C, fs, h1, h2, h3.ex e⟩
theorem en_exc0 {E : EC} {C : Addr} {σ : L2.St} {H : Hp} (m : C ∈ E.all) : EvN (fun _ H Q => ∀ a, H a = none → Q (.ref a) (upd H a (ExV C none a))) σ H (OneOf E) := fun H1 e Q q a ha =>
  q (.ref a) _ (Ex.new ha) ⟨a, C, none, rfl, m, none, by rw [nw_new ha, upd_same], trivial⟩
theorem q_firstP1 {σ : L2.St} {H : Hp} {ta : TA} {v : V} {t : List (Addr × Str)} {D : L2.Ends} {tz : TS} (hs : σ = [some v, none]) (h : ∀ σ : L2.St, σ = [some v, none] → EvNA ta [some v, none] H (PairsX v t)) (l : t.length ≤ 1000) (k : ∀ p H2, LX v H H2 p t → tz D [some v, some (.ref p)] H2) : tSeq (tAsg (tLst ta) (gName 1)) tz D σ H := by
  subst hs
  exact q_firstP (h _ rfl) l k
theorem q_moreP1 {H H0 : Hp} {ta : TA} {v : V} {p : Addr} {t t2 : List (Addr × Str)} {D : L2.Ends} {tz : TS} (L : LX v H0 H p t) (h : EvNA ta [some v, some (.ref p)] H (PairsX v t2)) (l : t.length + t2.length ≤ 1000) (k : ∀ p H2, LX v H0 H2 p (t ++ t2) → tz D [some v, some (.ref p)] H2) :
    tSeq (tAsg (tOp rCat (tVar 1) (tLst ta)) (gName 1)) tz D [some v, some (.ref p)] H := q_moreP L rfl h l k
theorem q_asgL3 {σ : L2.St} {H : Hp} {te : TE} {x y z : Option V} {xs : List V} {D : L2.Ends} {tz : TS} (hs : σ = [x, y, z]) (h : EvL te [x, y, z] H xs) (k : ∀ p H1, H p = none → Ex H H1 → H1 p = some (.lst xs) → tz D [x, some (.ref p), z] H1) : tSeq (tAsg te (gName 1)) tz D σ H := by
  subst hs
  exact q_asgL h k
structure TabOk (K : PySem.W.Frag) (E : EC) (p : Addr × Str) : Prop where
  c : p.1 ∈ E.all
  x : ExCls K p.1
  n : PySem.W.findIn K (.ref p.1) p.2 = some none
  f : p.2 ∈ flds
section
variable {P : Program} {w : World} {K : PySem.W.Frag} {mg : Str → Option Value} {base : Heap} {E J : EC}
theorem tab_ok (T : ETxt K mg E J) : ∀ p ∈ tabs E, TabOk K E p := by
  intro p hp
  unfold tabs at hp
  simp only [List.mem_append, List.mem_cons, List.not_mem_nil, or_false, or_assoc] at hp
  rcases hp with rfl | rfl | rfl | rfl | rfl | rfl | rfl | rfl | rfl | rfl | rfl | rfl | rfl | rfl | rfl | rfl | rfl | rfl | rfl | rfl | rfl | rfl | rfl | rfl | rfl | rfl | rfl | rfl | rfl | rfl | rfl | rfl | rfl | rfl | rfl | rfl | rfl | rfl
  · exact ⟨by simp [EC.all], T.kits.c _ (by simp [EC.all]), T.l_BadNumber.noN, by simp [flds]⟩
  · exact ⟨by simp [EC.all], T.kits.c _ (by simp [EC.all]), T.l_BadPeople.noN, by simp [flds]⟩
  · exact ⟨by simp [EC.all], T.kits.c _ (by simp [EC.all]), T.l_BadLines.noN, by simp [flds]⟩
  · exact ⟨by simp [EC.all], T.kits.c _ (by simp [EC.all]), T.l_BadLine.noN, by simp [flds]⟩
  · exact ⟨by simp [EC.all], T.kits.c _ (by simp [EC.all]), T.l_NoCell.noN, by simp [flds]⟩
  · exact ⟨by simp [EC.all], T.kits.c _ (by simp [EC.all]), T.l_BadCells.noN, by simp [flds]⟩
  · exact ⟨by simp [EC.all], T.kits.c _ (by simp [EC.all]), T.l_UnknownName.noN, by simp [flds]⟩
  · exact ⟨by simp [EC.all], T.kits.c _ (by simp [EC.all]), T.l_NotSaid.noN, by simp [flds]⟩
  · exact ⟨by simp [EC.all], T.kits.c _ (by simp [EC.all]), T.l_BadChance.noN, by simp [flds]⟩
  · exact ⟨by simp [EC.all], T.kits.c _ (by simp [EC.all]), T.l_BadActor.noN, by simp [flds]⟩
  · exact ⟨by simp [EC.all], T.kits.c _ (by simp [EC.all]), T.l_BadScore.noN, by simp [flds]⟩
  · exact ⟨by simp [EC.all], T.kits.c _ (by simp [EC.all]), T.l_BadGains.noN, by simp [flds]⟩
  · exact ⟨by simp [EC.all], T.kits.c _ (by simp [EC.all]), T.l_BadStakes.noN, by simp [flds]⟩
  · exact ⟨by simp [EC.all], T.kits.c _ (by simp [EC.all]), T.l_NotTwo.noN, by simp [flds]⟩
  · exact ⟨by simp [EC.all], T.kits.c _ (by simp [EC.all]), T.l_BadCount.noN, by simp [flds]⟩
  · exact ⟨by simp [EC.all], T.kits.c _ (by simp [EC.all]), T.l_NotReliable.noN, by simp [flds]⟩
  · exact ⟨by simp [EC.all], T.kits.c _ (by simp [EC.all]), T.l_BadWeight.noN, by simp [flds]⟩
  · exact ⟨by simp [EC.all], T.kits.c _ (by simp [EC.all]), T.l_BadPairs.noN, by simp [flds]⟩
  · exact ⟨by simp [EC.all], T.kits.c _ (by simp [EC.all]), T.l_BadProfile.noN, by simp [flds]⟩
  · exact ⟨by simp [EC.all], T.kits.c _ (by simp [EC.all]), T.l_BadNumber.noN, by simp [flds]⟩
  · exact ⟨by simp [EC.all], T.kits.c _ (by simp [EC.all]), T.l_BadPeople.noN, by simp [flds]⟩
  · exact ⟨by simp [EC.all], T.kits.c _ (by simp [EC.all]), T.l_BadLines.noN, by simp [flds]⟩
  · exact ⟨by simp [EC.all], T.kits.c _ (by simp [EC.all]), T.l_BadLine.noN, by simp [flds]⟩
  · exact ⟨by simp [EC.all], T.kits.c _ (by simp [EC.all]), T.l_NoCell.noN, by simp [flds]⟩
  · exact ⟨by simp [EC.all], T.kits.c _ (by simp [EC.all]), T.l_BadCells.noN, by simp [flds]⟩
  · exact ⟨by simp [EC.all], T.kits.c _ (by simp [EC.all]), T.l_UnknownName.noN, by simp [flds]⟩
  · exact ⟨by simp [EC.all], T.kits.c _ (by simp [EC.all]), T.l_NotSaid.noN, by simp [flds]⟩
  · exact ⟨by simp [EC.all], T.kits.c _ (by simp [EC.all]), T.l_BadChance.noN, by simp [flds]⟩
  · exact ⟨by simp [EC.all], T.kits.c _ (by simp [EC.all]), T.l_BadActor.noN, by simp [flds]⟩
  · exact ⟨by simp [EC.all], T.kits.c _ (by simp [EC.all]), T.l_BadScore.noN, by simp [flds]⟩
  · exact ⟨by simp [EC.all], T.kits.c _ (by simp [EC.all]), T.l_BadGains.noN, by simp [flds]⟩
  · exact ⟨by simp [EC.all], T.kits.c _ (by simp [EC.all]), T.l_BadStakes.noN, by simp [flds]⟩
  · exact ⟨by simp [EC.all], T.kits.c _ (by simp [EC.all]), T.l_NotTwo.noN, by simp [flds]⟩
  · exact ⟨by simp [EC.all], T.kits.c _ (by simp [EC.all]), T.l_BadCount.noN, by simp [flds]⟩
  · exact ⟨by simp [EC.all], T.kits.c _ (by simp [EC.all]), T.l_NotReliable.noN, by simp [flds]⟩
  · exact ⟨by simp [EC.all], T.kits.c _ (by simp [EC.all]), T.l_BadWeight.noN, by simp [flds]⟩
  · exact ⟨by simp [EC.all], T.kits.c _ (by simp [EC.all]), T.l_BadPairs.noN, by simp [flds]⟩
  · exact ⟨by simp [EC.all], T.kits.c _ (by simp [EC.all]), T.l_BadProfile.noN, by simp [flds]⟩
def spBare (E : EC) : Sp := fun vs H Q _ => vs = [] ∧ ∀ (p : Addr) (xs : List V) (H2 : Hp), Ex H H2 → H p = none → H2 p = some (.lst xs) → AllN (OneOf E) 6 H2 xs → Q (.ref p) H2
abbrev s__law_bare : Stmt := topS 30
theorem sc__law_bare : FnScope [] [] (defScope s__law_bare) := ⟨rfl, rfl, rfl, by decide +kernel, rfl, by decide +kernel, by decide +kernel⟩
theorem ok_bare {f : Addr} {fd : FuncData} (F0 : Fun K "_law_bare" "_law_bare" s__law_bare f fd) (T : ETxt K mg E J) : FnOk P w K mg base CX0 1 f fd [] (spBare E) := by
  refine F0.ok sc__law_bare (fun vs H Q E h => ?_) (fun cdv A outer s H vs Q E' hr h => ?_)
  · obtain ⟨rfl, _⟩ := h
    rfl
  · obtain ⟨rfl, q⟩ := h
    refine ⟨_, (pss_one (ps_ret (pe_lst (pa_cons (pe_exc0V PySem.F.excBase_ValueError T.x_ByZero T.m_ByZero T.k_ByZero (by rfl)) (pa_cons (pe_exc0V PySem.F.excBase_ValueError T.x_BadText T.m_BadText T.k_BadText (by rfl)) (pa_cons (pe_exc0V PySem.F.excBase_ValueError T.x_OpenDays T.m_OpenDays T.k_OpenDays (by rfl)) (pa_cons (pe_exc0V PySem.F.excBase_ValueError T.x_NoOutcomes T.m_NoOutcomes T.k_NoOutcomes (by rfl)) (pa_cons (pe_exc0V PySem.F.excBase_ValueError T.x_NothingToUndo T.m_NothingToUndo T.k_NothingToUndo (by rfl)) (pa_cons (pe_exc0V PySem.F.excBase_ValueError T.x_UnlikeProfiles T.m_UnlikeProfiles T.k_UnlikeProfiles (by rfl)) pa_nil))))))))), ?_⟩
    have z : ∀ σ, EvNA _ σ H (AllN (OneOf E) 6) := fun σ => el_cons oneOf_mo (en_exc0 (C := E.ByZero) (by simp [EC.all])) (el_cons oneOf_mo (en_exc0 (C := E.BadText) (by simp [EC.all])) (el_cons oneOf_mo (en_exc0 (C := E.OpenDays) (by simp [EC.all])) (el_cons oneOf_mo (en_exc0 (C := E.NoOutcomes) (by simp [EC.all])) (el_cons oneOf_mo (en_exc0 (C := E.NothingToUndo) (by simp [EC.all])) (el_cons oneOf_mo (en_exc0 (C := E.UnlikeProfiles) (by simp [EC.all])) el_nil)))))
    refine x_ret (x_lst ?_)
    exact z _ H (Ex.refl H) _ fun xs H2 e2 px => ⟨by rw [px.1]; exact sz_of (by decide), fun p hp => q p xs _ (e2.trans (Ex.new hp)) (fresh_back e2 hp) upd_same ⟨px.1, fun x hx => oneOf_mo _ _ _ (nw_ex.trans (Ex.new hp)) (px.2 x hx)⟩⟩
def spPairs (E : EC) : Sp := fun vs H Q _ => ∃ v, vs = [v] ∧ ∀ (p : Addr) (H2 : Hp), LX v H H2 p (tabs E) → Q (.ref p) H2
abbrev s__law_pairs : Stmt := topS 31
theorem sc__law_pairs : FnScope ["_law_thing", "_law_found"] ["_law_thing"] (defScope s__law_pairs) := ⟨rfl, rfl, rfl, by decide +kernel, rfl, by decide +kernel, by decide +kernel⟩
theorem ok_pairs {f : Addr} {fd : FuncData} (F0 : Fun K "_law_pairs" "_law_pairs" s__law_pairs f fd) (T : ETxt K mg E J) : FnOk P w K mg base CX0 2 f fd ["_law_thing"] (spPairs E) := by
  refine F0.ok sc__law_pairs (fun vs H Q E h => ?_) (fun cdv A outer s H vs Q E' hr h => ?_)
  · obtain ⟨v, rfl, _⟩ := h
    rfl
  · obtain ⟨v, rfl, q⟩ := h
    refine ⟨_, (pss_cons (ps_set (i := 1) sc__law_pairs.nd rfl (Or.inl rfl) (pe_lst (pa_cons (pe_tup (pa_cons (pe_lowV_BadNumber T.l_BadNumber hr (pa_cons (pv 0) pa_nil)) (pa_cons pe_str pa_nil))) (pa_cons (pe_tup (pa_cons (pe_lowV_BadPeople T.l_BadPeople hr (pa_cons (pv 0) pa_nil)) (pa_cons pe_str pa_nil))) (pa_cons (pe_tup (pa_cons (pe_lowV_BadLines T.l_BadLines hr (pa_cons (pv 0) pa_nil)) (pa_cons pe_str pa_nil))) pa_nil)))))
      (pss_cons (ps_set (i := 1) sc__law_pairs.nd rfl (Or.inl rfl) (pe_op op_cat (pv 1) (pe_lst (pa_cons (pe_tup (pa_cons (pe_lowV_BadLine T.l_BadLine hr (pa_cons (pv 0) pa_nil)) (pa_cons pe_str pa_nil))) (pa_cons (pe_tup (pa_cons (pe_lowV_NoCell T.l_NoCell hr (pa_cons (pv 0) pa_nil)) (pa_cons pe_str pa_nil))) (pa_cons (pe_tup (pa_cons (pe_lowV_BadCells T.l_BadCells hr (pa_cons (pv 0) pa_nil)) (pa_cons pe_str pa_nil))) pa_nil))))))
      (pss_cons (ps_set (i := 1) sc__law_pairs.nd rfl (Or.inl rfl) (pe_op op_cat (pv 1) (pe_lst (pa_cons (pe_tup (pa_cons (pe_lowV_UnknownName T.l_UnknownName hr (pa_cons (pv 0) pa_nil)) (pa_cons pe_str pa_nil))) (pa_cons (pe_tup (pa_cons (pe_lowV_NotSaid T.l_NotSaid hr (pa_cons (pv 0) pa_nil)) (pa_cons pe_str pa_nil))) (pa_cons (pe_tup (pa_cons (pe_lowV_BadChance T.l_BadChance hr (pa_cons (pv 0) pa_nil)) (pa_cons pe_str pa_nil))) pa_nil))))))
      (pss_cons (ps_set (i := 1) sc__law_pairs.nd rfl (Or.inl rfl) (pe_op op_cat (pv 1) (pe_lst (pa_cons (pe_tup (pa_cons (pe_lowV_BadActor T.l_BadActor hr (pa_cons (pv 0) pa_nil)) (pa_cons pe_str pa_nil))) (pa_cons (pe_tup (pa_cons (pe_lowV_BadScore T.l_BadScore hr (pa_cons (pv 0) pa_nil)) (pa_cons pe_str pa_nil))) (pa_cons (pe_tup (pa_cons (pe_lowV_BadGains T.l_BadGains hr (pa_cons (pv 0) pa_nil)) (pa_cons pe_str pa_nil))) pa_nil))))))
      (pss_cons (ps_set (i := 1) sc__law_pairs.nd rfl (Or.inl rfl) (pe_op op_cat (pv 1) (pe_lst (pa_cons (pe_tup (pa_cons (pe_lowV_BadStakes T.l_BadStakes hr (pa_cons (pv 0) pa_nil)) (pa_cons pe_str pa_nil))) (pa_cons (pe_tup (pa_cons (pe_lowV_NotTwo T.l_NotTwo hr (pa_cons (pv 0) pa_nil)) (pa_cons pe_str pa_nil))) (pa_cons (pe_tup (pa_cons (pe_lowV_BadCount T.l_BadCount hr (pa_cons (pv 0) pa_nil)) (pa_cons pe_str pa_nil))) pa_nil))))))
      (pss_cons (ps_set (i := 1) sc__law_pairs.nd rfl (Or.inl rfl) (pe_op op_cat (pv 1) (pe_lst (pa_cons (pe_tup (pa_cons (pe_lowV_NotReliable T.l_NotReliable hr (pa_cons (pv 0) pa_nil)) (pa_cons pe_str pa_nil))) (pa_cons (pe_tup (pa_cons (pe_lowV_BadWeight T.l_BadWeight hr (pa_cons (pv 0) pa_nil)) (pa_cons pe_str pa_nil))) (pa_cons (pe_tup (pa_cons (pe_lowV_BadPairs T.l_BadPairs hr (pa_cons (pv 0) pa_nil)) (pa_cons pe_str pa_nil))) pa_nil))))))
      (pss_cons (ps_set (i := 1) sc__law_pairs.nd rfl (Or.inl rfl) (pe_op op_cat (pv 1) (pe_lst (pa_cons (pe_tup (pa_cons (pe_lowV_BadProfile T.l_BadProfile hr (pa_cons (pv 0) pa_nil)) (pa_cons pe_str pa_nil))) pa_nil))))
      (pss_cons (ps_set (i := 1) sc__law_pairs.nd rfl (Or.inl rfl) (pe_op op_cat (pv 1) (pe_lst (pa_cons (pe_tup (pa_cons (pe_lowVk_BadNumber T.l_BadNumber hr (pk_cons (pv 0) pk_nil)) (pa_cons pe_str pa_nil))) (pa_cons (pe_tup (pa_cons (pe_lowVk_BadPeople T.l_BadPeople hr (pk_cons (pv 0) pk_nil)) (pa_cons pe_str pa_nil))) pa_nil)))))
      (pss_cons (ps_set (i := 1) sc__law_pairs.nd rfl (Or.inl rfl) (pe_op op_cat (pv 1) (pe_lst (pa_cons (pe_tup (pa_cons (pe_lowVk_BadLines T.l_BadLines hr (pk_cons (pv 0) pk_nil)) (pa_cons pe_str pa_nil))) (pa_cons (pe_tup (pa_cons (pe_lowVk_BadLine T.l_BadLine hr (pk_cons (pv 0) pk_nil)) (pa_cons pe_str pa_nil))) pa_nil)))))
      (pss_cons (ps_set (i := 1) sc__law_pairs.nd rfl (Or.inl rfl) (pe_op op_cat (pv 1) (pe_lst (pa_cons (pe_tup (pa_cons (pe_lowVk_NoCell T.l_NoCell hr (pk_cons (pv 0) pk_nil)) (pa_cons pe_str pa_nil))) (pa_cons (pe_tup (pa_cons (pe_lowVk_BadCells T.l_BadCells hr (pk_cons (pv 0) pk_nil)) (pa_cons pe_str pa_nil))) pa_nil)))))
      (pss_cons (ps_set (i := 1) sc__law_pairs.nd rfl (Or.inl rfl) (pe_op op_cat (pv 1) (pe_lst (pa_cons (pe_tup (pa_cons (pe_lowVk_UnknownName T.l_UnknownName hr (pk_cons (pv 0) pk_nil)) (pa_cons pe_str pa_nil))) (pa_cons (pe_tup (pa_cons (pe_lowVk_NotSaid T.l_NotSaid hr (pk_cons (pv 0) pk_nil)) (pa_cons pe_str pa_nil))) pa_nil)))))
      (pss_cons (ps_set (i := 1) sc__law_pairs.nd rfl (Or.inl rfl) (pe_op op_cat (pv 1) (pe_lst (pa_cons (pe_tup (pa_cons (pe_lowVk_BadChance T.l_BadChance hr (pk_cons (pv 0) pk_nil)) (pa_cons pe_str pa_nil))) (pa_cons (pe_tup (pa_cons (pe_lowVk_BadActor T.l_BadActor hr (pk_cons (pv 0) pk_nil)) (pa_cons pe_str pa_nil))) pa_nil)))))
      (pss_cons (ps_set (i := 1) sc__law_pairs.nd rfl (Or.inl rfl) (pe_op op_cat (pv 1) (pe_lst (pa_cons (pe_tup (pa_cons (pe_lowVk_BadScore T.l_BadScore hr (pk_cons (pv 0) pk_nil)) (pa_cons pe_str pa_nil))) (pa_cons (pe_tup (pa_cons (pe_lowVk_BadGains T.l_BadGains hr (pk_cons (pv 0) pk_nil)) (pa_cons pe_str pa_nil))) pa_nil)))))
      (pss_cons (ps_set (i := 1) sc__law_pairs.nd rfl (Or.inl rfl) (pe_op op_cat (pv 1) (pe_lst (pa_cons (pe_tup (pa_cons (pe_lowVk_BadStakes T.l_BadStakes hr (pk_cons (pv 0) pk_nil)) (pa_cons pe_str pa_nil))) (pa_cons (pe_tup (pa_cons (pe_lowVk_NotTwo T.l_NotTwo hr (pk_cons (pv 0) pk_nil)) (pa_cons pe_str pa_nil))) pa_nil)))))
      (pss_cons (ps_set (i := 1) sc__law_pairs.nd rfl (Or.inl rfl) (pe_op op_cat (pv 1) (pe_lst (pa_cons (pe_tup (pa_cons (pe_lowVk_BadCount T.l_BadCount hr (pk_cons (pv 0) pk_nil)) (pa_cons pe_str pa_nil))) (pa_cons (pe_tup (pa_cons (pe_lowVk_NotReliable T.l_NotReliable hr (pk_cons (pv 0) pk_nil)) (pa_cons pe_str pa_nil))) pa_nil)))))
      (pss_cons (ps_set (i := 1) sc__law_pairs.nd rfl (Or.inl rfl) (pe_op op_cat (pv 1) (pe_lst (pa_cons (pe_tup (pa_cons (pe_lowVk_BadWeight T.l_BadWeight hr (pk_cons (pv 0) pk_nil)) (pa_cons pe_str pa_nil))) (pa_cons (pe_tup (pa_cons (pe_lowVk_BadPairs T.l_BadPairs hr (pk_cons (pv 0) pk_nil)) (pa_cons pe_str pa_nil))) pa_nil)))))
      (pss_cons (ps_set (i := 1) sc__law_pairs.nd rfl (Or.inl rfl) (pe_op op_cat (pv 1) (pe_lst (pa_cons (pe_tup (pa_cons (pe_lowVk_BadProfile T.l_BadProfile hr (pk_cons (pv 0) pk_nil)) (pa_cons pe_str pa_nil))) pa_nil))))
      (pss_one (ps_ret (pv 1)))))))))))))))))))), ?_⟩
    refine q_firstP1 (v := v) (show start _ _ = [some v, none] from rfl) (fun σ e => (ep_cons (e1 (j := 0) rfl) (ep_cons (e1 (j := 0) rfl) (ep_cons (e1 (j := 0) rfl) ep_nil)))) (by simp) fun p1 H1 L1 => ?_
    refine q_moreP1 L1 (ep_cons (e1 (j := 0) rfl) (ep_cons (e1 (j := 0) rfl) (ep_cons (e1 (j := 0) rfl) ep_nil))) (by simp) fun p2 H2 L2 => ?_
    refine q_moreP1 L2 (ep_cons (e1 (j := 0) rfl) (ep_cons (e1 (j := 0) rfl) (ep_cons (e1 (j := 0) rfl) ep_nil))) (by simp) fun p3 H3 L3 => ?_
    refine q_moreP1 L3 (ep_cons (e1 (j := 0) rfl) (ep_cons (e1 (j := 0) rfl) (ep_cons (e1 (j := 0) rfl) ep_nil))) (by simp) fun p4 H4 L4 => ?_
    refine q_moreP1 L4 (ep_cons (e1 (j := 0) rfl) (ep_cons (e1 (j := 0) rfl) (ep_cons (e1 (j := 0) rfl) ep_nil))) (by simp) fun p5 H5 L5 => ?_
    refine q_moreP1 L5 (ep_cons (e1 (j := 0) rfl) (ep_cons (e1 (j := 0) rfl) (ep_cons (e1 (j := 0) rfl) ep_nil))) (by simp) fun p6 H6 L6 => ?_
    refine q_moreP1 L6 (ep_cons (e1 (j := 0) rfl) ep_nil) (by simp) fun p7 H7 L7 => ?_
    refine q_moreP1 L7 (ep_cons (e1 (j := 0) rfl) (ep_cons (e1 (j := 0) rfl) ep_nil)) (by simp) fun p8 H8 L8 => ?_
    refine q_moreP1 L8 (ep_cons (e1 (j := 0) rfl) (ep_cons (e1 (j := 0) rfl) ep_nil)) (by simp) fun p9 H9 L9 => ?_
    refine q_moreP1 L9 (ep_cons (e1 (j := 0) rfl) (ep_cons (e1 (j := 0) rfl) ep_nil)) (by simp) fun p10 H10 L10 => ?_
    refine q_moreP1 L10 (ep_cons (e1 (j := 0) rfl) (ep_cons (e1 (j := 0) rfl) ep_nil)) (by simp) fun p11 H11 L11 => ?_
    refine q_moreP1 L11 (ep_cons (e1 (j := 0) rfl) (ep_cons (e1 (j := 0) rfl) ep_nil)) (by simp) fun p12 H12 L12 => ?_
    refine q_moreP1 L12 (ep_cons (e1 (j := 0) rfl) (ep_cons (e1 (j := 0) rfl) ep_nil)) (by simp) fun p13 H13 L13 => ?_
    refine q_moreP1 L13 (ep_cons (e1 (j := 0) rfl) (ep_cons (e1 (j := 0) rfl) ep_nil)) (by simp) fun p14 H14 L14 => ?_
    refine q_moreP1 L14 (ep_cons (e1 (j := 0) rfl) (ep_cons (e1 (j := 0) rfl) ep_nil)) (by simp) fun p15 H15 L15 => ?_
    refine q_moreP1 L15 (ep_cons (e1 (j := 0) rfl) (ep_cons (e1 (j := 0) rfl) ep_nil)) (by simp) fun p16 H16 L16 => ?_
    refine q_moreP1 L16 (ep_cons (e1 (j := 0) rfl) ep_nil) (by simp) fun p17 H17 L17 => ?_
    exact ⟨.ref p17, rfl, q p17 H17 L17⟩
theorem q_held {σ : L2.St} {H : Hp} {D : L2.Ends} {tz : TS} {a C : Addr} {f g : Str} {v : V} (hi0 : σ[0]? = some (some (.ref a))) (hi1 : σ[1]? = some (some (.str f))) (he : ExAt H a C (some [(f, v)])) (k : ExCls K C) (nf : PySem.W.findIn K (.ref C) f = some none)
    (q : ∀ H2, Ex H H2 → D.rt v H2) (h : f ≠ g → ∀ H1, Ex H H1 → tz D σ H1) : tSeq (tIfS (tTest (tOp rEq (tVar 1) (tC (.str g)))) (tRet (tFldE K (tVar 0) g)) tNext) tz D σ H := by
  refine q_when (et_test (ev_op (ev_var hi1) ev_c (rv_eq rfl))) (fun hb H1 e1 => ?_) (fun hb H1 e1 => h (fun z => ?_) H1 e1)
  · have e : f = g := V.str.inj (of_decide_eq_true hb)
    subst e
    exact ⟨.ref a, hi0, a, C, _, v, rfl, he.ex e1, k, nf, by simp [List.lookup], q H1 e1⟩
  · subst z
    simp at hb
def spHeld (K : PySem.W.Frag) : Sp := fun vs H Q _ => ∃ a C f v, vs = [.ref a, .str f] ∧ ExAt H a C (some [(f, v)]) ∧ ExCls K C ∧ PySem.W.findIn K (.ref C) f = some none ∧ f ∈ flds ∧ ∀ H2, Ex H H2 → Q v H2
abbrev s__law_held : Stmt := topS 32
theorem sc__law_held : FnScope ["_law_error", "_law_field"] ["_law_error", "_law_field"] (defScope s__law_held) := ⟨rfl, rfl, rfl, by decide +kernel, rfl, by decide +kernel, by decide +kernel⟩
theorem ok_held {f : Addr} {fd : FuncData} (F0 : Fun K "_law_held" "_law_held" s__law_held f fd) : FnOk P w K mg base CX0 1 f fd ["_law_error", "_law_field"] (spHeld K) := by
  refine F0.ok sc__law_held (fun vs H Q E h => ?_) (fun cdv A outer s H vs Q E' hr h => ?_)
  · obtain ⟨_, _, _, _, rfl, _⟩ := h
    rfl
  · obtain ⟨a, C, f, v, rfl, he, k, nf, hf, q⟩ := h
    refine ⟨_, (pss_cons (ps_if (pt_cmpR op_eq (pv 1) pe_str (nomark _))
        (pss_one (ps_ret (pe_fldE (pv 0))))
        pss_nil)
      (pss_cons (ps_if (pt_cmpR op_eq (pv 1) pe_str (nomark _))
        (pss_one (ps_ret (pe_fldE (pv 0))))
        pss_nil)
      (pss_cons (ps_if (pt_cmpR op_eq (pv 1) pe_str (nomark _))
        (pss_one (ps_ret (pe_fldE (pv 0))))
        pss_nil)
      (pss_cons (ps_if (pt_cmpR op_eq (pv 1) pe_str (nomark _))
        (pss_one (ps_ret (pe_fldE (pv 0))))
        pss_nil)
      (pss_cons (ps_if (pt_cmpR op_eq (pv 1) pe_str (nomark _))
        (pss_one (ps_ret (pe_fldE (pv 0))))
        pss_nil)
      (pss_cons (ps_if (pt_cmpR op_eq (pv 1) pe_str (nomark _))
        (pss_one (ps_ret (pe_fldE (pv 0))))
        pss_nil)
      (pss_cons (ps_if (pt_cmpR op_eq (pv 1) pe_str (nomark _))
        (pss_one (ps_ret (pe_fldE (pv 0))))
        pss_nil)
      (pss_cons (ps_if (pt_cmpR op_eq (pv 1) pe_str (nomark _))
        (pss_one (ps_ret (pe_fldE (pv 0))))
        pss_nil)
      (pss_cons (ps_if (pt_cmpR op_eq (pv 1) pe_str (nomark _))
        (pss_one (ps_ret (pe_fldE (pv 0))))
        pss_nil)
      (pss_cons (ps_if (pt_cmpR op_eq (pv 1) pe_str (nomark _))
        (pss_one (ps_ret (pe_fldE (pv 0))))
        pss_nil)
      (pss_cons (ps_if (pt_cmpR op_eq (pv 1) pe_str (nomark _))
        (pss_one (ps_ret (pe_fldE (pv 0))))
        pss_nil)
      (pss_cons (ps_if (pt_cmpR op_eq (pv 1) pe_str (nomark _))
        (pss_one (ps_ret (pe_fldE (pv 0))))
        pss_nil)
      (pss_cons (ps_if (pt_cmpR op_eq (pv 1) pe_str (nomark _))
        (pss_one (ps_ret (pe_fldE (pv 0))))
        pss_nil)
      (pss_cons (ps_if (pt_cmpR op_eq (pv 1) pe_str (nomark _))
        (pss_one (ps_ret (pe_fldE (pv 0))))
        pss_nil)
      (pss_cons (ps_if (pt_cmpR op_eq (pv 1) pe_str (nomark _))
        (pss_one (ps_ret (pe_fldE (pv 0))))
        pss_nil)
      (pss_one (ps_ret pe_non))))))))))))))))), ?_⟩
    refine q_held rfl rfl he k nf q (fun n1 H1 e1 => ?_)
    have x1 := e1
    refine q_held rfl rfl (he.ex x1) k nf (fun H2 e2 => q H2 (x1.trans e2)) (fun n2 H2 e2 => ?_)
    have x2 := x1.trans e2
    refine q_held rfl rfl (he.ex x2) k nf (fun H2 e2 => q H2 (x2.trans e2)) (fun n3 H3 e3 => ?_)
    have x3 := x2.trans e3
    refine q_held rfl rfl (he.ex x3) k nf (fun H2 e2 => q H2 (x3.trans e2)) (fun n4 H4 e4 => ?_)
    have x4 := x3.trans e4
    refine q_held rfl rfl (he.ex x4) k nf (fun H2 e2 => q H2 (x4.trans e2)) (fun n5 H5 e5 => ?_)
    have x5 := x4.trans e5
    refine q_held rfl rfl (he.ex x5) k nf (fun H2 e2 => q H2 (x5.trans e2)) (fun n6 H6 e6 => ?_)
    have x6 := x5.trans e6
    refine q_held rfl rfl (he.ex x6) k nf (fun H2 e2 => q H2 (x6.trans e2)) (fun n7 H7 e7 => ?_)
    have x7 := x6.trans e7
    refine q_held rfl rfl (he.ex x7) k nf (fun H2 e2 => q H2 (x7.trans e2)) (fun n8 H8 e8 => ?_)
    have x8 := x7.trans e8
    refine q_held rfl rfl (he.ex x8) k nf (fun H2 e2 => q H2 (x8.trans e2)) (fun n9 H9 e9 => ?_)
    have x9 := x8.trans e9
    refine q_held rfl rfl (he.ex x9) k nf (fun H2 e2 => q H2 (x9.trans e2)) (fun n10 H10 e10 => ?_)
    have x10 := x9.trans e10
    refine q_held rfl rfl (he.ex x10) k nf (fun H2 e2 => q H2 (x10.trans e2)) (fun n11 H11 e11 => ?_)
    have x11 := x10.trans e11
    refine q_held rfl rfl (he.ex x11) k nf (fun H2 e2 => q H2 (x11.trans e2)) (fun n12 H12 e12 => ?_)
    have x12 := x11.trans e12
    refine q_held rfl rfl (he.ex x12) k nf (fun H2 e2 => q H2 (x12.trans e2)) (fun n13 H13 e13 => ?_)
    have x13 := x12.trans e13
    refine q_held rfl rfl (he.ex x13) k nf (fun H2 e2 => q H2 (x13.trans e2)) (fun n14 H14 e14 => ?_)
    have x14 := x13.trans e14
    refine q_held rfl rfl (he.ex x14) k nf (fun H2 e2 => q H2 (x14.trans e2)) (fun n15 H15 e15 => ?_)
    have x15 := x14.trans e15
    exact absurd hf (by unfold flds; simp [n1, n2, n3, n4, n5, n6, n7, n8, n9, n10, n11, n12, n13, n14, n15])
def spKinds (E : EC) : Sp := fun vs H Q _ => ∃ a C fs, vs = [.ref a] ∧ C ∈ E.all ∧ ExAt H a C fs ∧ ∀ H2, Ex H H2 → Q (.int 1) H2
abbrev s__law_kinds : Stmt := topS 33
theorem sc__law_kinds : FnScope ["_law_error", "_law_found", "_law_fits"] ["_law_error"] (defScope s__law_kinds) := ⟨rfl, rfl, rfl, by decide +kernel, rfl, by decide +kernel, by decide +kernel⟩
theorem ok_kinds {f : Addr} {fd : FuncData} (F0 : Fun K "_law_kinds" "_law_kinds" s__law_kinds f fd) (T : ETxt K mg E J) : FnOk P w K mg base CX0 1 f fd ["_law_error"] (spKinds E) := by
  refine F0.ok sc__law_kinds (fun vs H Q E h => ?_) (fun cdv A outer s H vs Q E' hr h => ?_)
  · obtain ⟨_, _, _, rfl, _⟩ := h
    rfl
  · obtain ⟨a, C, fs, rfl, hC, he, q⟩ := h
    refine ⟨_, (pss_cons (ps_set (i := 1) sc__law_kinds.nd rfl (Or.inl rfl) (pe_lst (pa_cons (pe_callB call_isiE (by rfl) T.z_isinstance (by decide +kernel) (pa_cons (pv 0) (pa_cons (pe_k0 rfl T.g_ByZero) pa_nil))) (pa_cons (pe_callB call_isiE (by rfl) T.z_isinstance (by decide +kernel) (pa_cons (pv 0) (pa_cons (pe_k0 rfl T.g_BadText) pa_nil))) (pa_cons (pe_callB call_isiE (by rfl) T.z_isinstance (by decide +kernel) (pa_cons (pv 0) (pa_cons (pe_k0 rfl T.g_OpenDays) pa_nil))) pa_nil)))))
      (pss_cons (ps_set (i := 1) sc__law_kinds.nd rfl (Or.inl rfl) (pe_op op_cat (pv 1) (pe_lst (pa_cons (pe_callB call_isiE (by rfl) T.z_isinstance (by decide +kernel) (pa_cons (pv 0) (pa_cons (pe_k0 rfl T.g_NoOutcomes) pa_nil))) (pa_cons (pe_callB call_isiE (by rfl) T.z_isinstance (by decide +kernel) (pa_cons (pv 0) (pa_cons (pe_k0 rfl T.g_NothingToUndo) pa_nil))) (pa_cons (pe_callB call_isiE (by rfl) T.z_isinstance (by decide +kernel) (pa_cons (pv 0) (pa_cons (pe_k0 rfl T.g_UnlikeProfiles) pa_nil))) pa_nil))))))
      (pss_cons (ps_set (i := 1) sc__law_kinds.nd rfl (Or.inl rfl) (pe_op op_cat (pv 1) (pe_lst (pa_cons (pe_callB call_isiE (by rfl) T.z_isinstance (by decide +kernel) (pa_cons (pv 0) (pa_cons (pe_k0 rfl T.g_BadNumber) pa_nil))) (pa_cons (pe_callB call_isiE (by rfl) T.z_isinstance (by decide +kernel) (pa_cons (pv 0) (pa_cons (pe_k0 rfl T.g_BadPeople) pa_nil))) (pa_cons (pe_callB call_isiE (by rfl) T.z_isinstance (by decide +kernel) (pa_cons (pv 0) (pa_cons (pe_k0 rfl T.g_BadLines) pa_nil))) pa_nil))))))
      (pss_cons (ps_set (i := 1) sc__law_kinds.nd rfl (Or.inl rfl) (pe_op op_cat (pv 1) (pe_lst (pa_cons (pe_callB call_isiE (by rfl) T.z_isinstance (by decide +kernel) (pa_cons (pv 0) (pa_cons (pe_k0 rfl T.g_BadLine) pa_nil))) (pa_cons (pe_callB call_isiE (by rfl) T.z_isinstance (by decide +kernel) (pa_cons (pv 0) (pa_cons (pe_k0 rfl T.g_NoCell) pa_nil))) (pa_cons (pe_callB call_isiE (by rfl) T.z_isinstance (by decide +kernel) (pa_cons (pv 0) (pa_cons (pe_k0 rfl T.g_BadCells) pa_nil))) pa_nil))))))
      (pss_cons (ps_set (i := 1) sc__law_kinds.nd rfl (Or.inl rfl) (pe_op op_cat (pv 1) (pe_lst (pa_cons (pe_callB call_isiE (by rfl) T.z_isinstance (by decide +kernel) (pa_cons (pv 0) (pa_cons (pe_k0 rfl T.g_UnknownName) pa_nil))) (pa_cons (pe_callB call_isiE (by rfl) T.z_isinstance (by decide +kernel) (pa_cons (pv 0) (pa_cons (pe_k0 rfl T.g_NotSaid) pa_nil))) (pa_cons (pe_callB call_isiE (by rfl) T.z_isinstance (by decide +kernel) (pa_cons (pv 0) (pa_cons (pe_k0 rfl T.g_BadChance) pa_nil))) pa_nil))))))
      (pss_cons (ps_set (i := 1) sc__law_kinds.nd rfl (Or.inl rfl) (pe_op op_cat (pv 1) (pe_lst (pa_cons (pe_callB call_isiE (by rfl) T.z_isinstance (by decide +kernel) (pa_cons (pv 0) (pa_cons (pe_k0 rfl T.g_BadActor) pa_nil))) (pa_cons (pe_callB call_isiE (by rfl) T.z_isinstance (by decide +kernel) (pa_cons (pv 0) (pa_cons (pe_k0 rfl T.g_BadScore) pa_nil))) (pa_cons (pe_callB call_isiE (by rfl) T.z_isinstance (by decide +kernel) (pa_cons (pv 0) (pa_cons (pe_k0 rfl T.g_BadGains) pa_nil))) pa_nil))))))
      (pss_cons (ps_set (i := 1) sc__law_kinds.nd rfl (Or.inl rfl) (pe_op op_cat (pv 1) (pe_lst (pa_cons (pe_callB call_isiE (by rfl) T.z_isinstance (by decide +kernel) (pa_cons (pv 0) (pa_cons (pe_k0 rfl T.g_BadStakes) pa_nil))) (pa_cons (pe_callB call_isiE (by rfl) T.z_isinstance (by decide +kernel) (pa_cons (pv 0) (pa_cons (pe_k0 rfl T.g_NotTwo) pa_nil))) (pa_cons (pe_callB call_isiE (by rfl) T.z_isinstance (by decide +kernel) (pa_cons (pv 0) (pa_cons (pe_k0 rfl T.g_BadCount) pa_nil))) pa_nil))))))
      (pss_cons (ps_set (i := 1) sc__law_kinds.nd rfl (Or.inl rfl) (pe_op op_cat (pv 1) (pe_lst (pa_cons (pe_callB call_isiE (by rfl) T.z_isinstance (by decide +kernel) (pa_cons (pv 0) (pa_cons (pe_k0 rfl T.g_NotReliable) pa_nil))) (pa_cons (pe_callB call_isiE (by rfl) T.z_isinstance (by decide +kernel) (pa_cons (pv 0) (pa_cons (pe_k0 rfl T.g_BadWeight) pa_nil))) (pa_cons (pe_callB call_isiE (by rfl) T.z_isinstance (by decide +kernel) (pa_cons (pv 0) (pa_cons (pe_k0 rfl T.g_BadPairs) pa_nil))) pa_nil))))))
      (pss_cons (ps_set (i := 1) sc__law_kinds.nd rfl (Or.inl rfl) (pe_op op_cat (pv 1) (pe_lst (pa_cons (pe_callB call_isiE (by rfl) T.z_isinstance (by decide +kernel) (pa_cons (pv 0) (pa_cons (pe_k0 rfl T.g_BadProfile) pa_nil))) pa_nil))))
      (pss_one (ps_ret (pe_callB call_len_seq (by rfl) T.z_len (by decide +kernel) (pa_cons (pe_lc (own := [("_law_fits", 2)]) rfl sc__law_kinds.nd (pi_list (pv 1)) (blkOk_by (own := [("_law_fits", 2)]) (N := ["_law_error", "_law_found", "_law_fits"]) (sc := defScope s__law_kinds) (by decide +kernel)) (fun _ _ _ _ _ => (pg_name (i := 2) sc__law_kinds.nd rfl (Or.inl rfl))) (fun _ _ _ _ _ => (pts_one (pt_val (pv 2)))) (fun _ _ _ _ _ => (pv 2))) pa_nil))))))))))))), ?_⟩
    have i1 : ∀ {σ : L2.St} {H1 : Hp} {D : Addr}, Ex H H1 → σ[0]? = some (some (.ref a)) → D ∈ E.all → Ev (tCB (rIsiE K) (tCons (tVar 0) (tCons (tC (.ref D)) tNil))) σ H1 (.bl (decide (C = D))) := fun e hi m =>
      ev_isiE (ev_var hi) (he.ex e) (T.kits.c C hC) (T.kits.one hC m) (.own _)
    refine q_asgL3 (show start _ _ = [some (.ref a), none, none] from rfl) (el_lst (ea_cons (i1 (Ex.refl H) rfl (by simp [EC.all])) (ea_cons (i1 (Ex.refl H) rfl (by simp [EC.all])) (ea_cons (i1 (Ex.refl H) rfl (by simp [EC.all])) ea_nil))) (by simp)) fun p1 H1 _ x1 h1 => ?_
    refine q_asgL3 rfl (el_cat (ev_var rfl) h1 (el_lst (ea_cons (i1 x1 rfl (by simp [EC.all])) (ea_cons (i1 x1 rfl (by simp [EC.all])) (ea_cons (i1 x1 rfl (by simp [EC.all])) ea_nil))) (by simp)) (by simp)) fun p2 H2 _ e2 h2 => ?_
    have x2 := x1.trans e2
    refine q_asgL3 rfl (el_cat (ev_var rfl) h2 (el_lst (ea_cons (i1 x2 rfl (by simp [EC.all])) (ea_cons (i1 x2 rfl (by simp [EC.all])) (ea_cons (i1 x2 rfl (by simp [EC.all])) ea_nil))) (by simp)) (by simp)) fun p3 H3 _ e3 h3 => ?_
    have x3 := x2.trans e3
    refine q_asgL3 rfl (el_cat (ev_var rfl) h3 (el_lst (ea_cons (i1 x3 rfl (by simp [EC.all])) (ea_cons (i1 x3 rfl (by simp [EC.all])) (ea_cons (i1 x3 rfl (by simp [EC.all])) ea_nil))) (by simp)) (by simp)) fun p4 H4 _ e4 h4 => ?_
    have x4 := x3.trans e4
    refine q_asgL3 rfl (el_cat (ev_var rfl) h4 (el_lst (ea_cons (i1 x4 rfl (by simp [EC.all])) (ea_cons (i1 x4 rfl (by simp [EC.all])) (ea_cons (i1 x4 rfl (by simp [EC.all])) ea_nil))) (by simp)) (by simp)) fun p5 H5 _ e5 h5 => ?_
    have x5 := x4.trans e5
    refine q_asgL3 rfl (el_cat (ev_var rfl) h5 (el_lst (ea_cons (i1 x5 rfl (by simp [EC.all])) (ea_cons (i1 x5 rfl (by simp [EC.all])) (ea_cons (i1 x5 rfl (by simp [EC.all])) ea_nil))) (by simp)) (by simp)) fun p6 H6 _ e6 h6 => ?_
    have x6 := x5.trans e6
    refine q_asgL3 rfl (el_cat (ev_var rfl) h6 (el_lst (ea_cons (i1 x6 rfl (by simp [EC.all])) (ea_cons (i1 x6 rfl (by simp [EC.all])) (ea_cons (i1 x6 rfl (by simp [EC.all])) ea_nil))) (by simp)) (by simp)) fun p7 H7 _ e7 h7 => ?_
    have x7 := x6.trans e7
    refine q_asgL3 rfl (el_cat (ev_var rfl) h7 (el_lst (ea_cons (i1 x7 rfl (by simp [EC.all])) (ea_cons (i1 x7 rfl (by simp [EC.all])) (ea_cons (i1 x7 rfl (by simp [EC.all])) ea_nil))) (by simp)) (by simp)) fun p8 H8 _ e8 h8 => ?_
    have x8 := x7.trans e8
    refine q_asgL3 rfl (el_cat (ev_var rfl) h8 (el_lst (ea_cons (i1 x8 rfl (by simp [EC.all])) ea_nil) (by simp)) (by simp)) fun p9 H9 _ e9 h9 => ?_
    have x9 := x8.trans e9
    have hx : H9 p9 = some (.lst (E.all.map fun D => V.bl (decide (C = D)))) := h9
    have it : ∀ (i : Nat) (x : V), (E.all.map fun D => V.bl (decide (C = D)))[i]? = some x → x = .bl (decide (E.all[i]? = some C)) := by
      intro i x hi
      rw [List.getElem?_map] at hi
      cases e : E.all[i]? with
      | none => rw [e] at hi; cases hi
      | some D =>
        rw [e] at hi
        cases hi
        exact congrArg V.bl (decide_eq_decide.mpr ⟨fun z => by rw [z], fun z => (Option.some.inj z).symm⟩)
    refine s_ret (ev_is (ev_lenN (el_lcL (fun i => decide (E.all[i]? = some C)) (fun _ => .bl true) (ev_var rfl) (sq_of hx) (by simp [EC.all]) (fun _ => rfl) (fun i x H1 _ hi => ?_) (fun i x H1 _ hi hf => ?_))) (w := .int 1) ?_) fun H9 e9 => q H9 (x9.trans e9)
    · rw [it i x hi]
      exact et_B (ev_var rfl)
    · rw [it i x hi, hf]
      exact ev_var rfl
    · rw [List.length_map]
      unfold given
      rw [List.length_map, count_one (List.nodup_cons.mp T.kits.nd).2 hC]
      rfl
def spRight (E : EC) : Sp := fun vs H Q _ => ∃ a C fs, vs = [.ref a] ∧ C ∈ E.all ∧ ExAt H a C fs ∧ ∀ H2, Ex H H2 → Q (.bl true) H2
abbrev s__law_right : Stmt := topS 34
theorem sc__law_right : FnScope ["_law_error"] ["_law_error"] (defScope s__law_right) := ⟨rfl, rfl, rfl, by decide +kernel, rfl, by decide +kernel, by decide +kernel⟩
theorem ok_right {f : Addr} {fd : FuncData} (F0 : Fun K "_law_right" "_law_right" s__law_right f fd) (T : ETxt K mg E J) (c__law_kinds : CalF P w K mg base 1 "_law_kinds" (spKinds E) []) : FnOk P w K mg base CX0 2 f fd ["_law_error"] (spRight E) := by
  refine F0.ok sc__law_right (fun vs H Q E h => ?_) (fun cdv A outer s H vs Q E' hr h => ?_)
  · obtain ⟨_, _, _, rfl, _⟩ := h
    rfl
  · obtain ⟨a, C, fs, rfl, hC, he, q⟩ := h
    refine ⟨_, (pss_one (ps_ret (pe_and (pe_cmpR op_eq (pe_cF c__law_kinds hr (by decide) rfl (pa_cons (pv 0) pa_nil)) pe_int (nomark _)) (pe_and (pe_callB call_isiE (by rfl) T.z_isinstance (by decide +kernel) (pa_cons (pv 0) (pa_cons (pe_k0 rfl T.g_RainError) pa_nil))) (pe_one (pe_callB call_isiE (by rfl) T.z_isinstance (by decide +kernel) (pa_cons (pv 0) (pa_cons (pe_bltn (by rfl) T.z_ValueError (by decide +kernel) (show RelV (.ty "ValueError") (.type "ValueError") from rfl)) pa_nil)))))))), ?_⟩
    refine s_ret (v := .bl true) (ev_is (ev_andV (a := true) (ev_is (ev_op (ev_call (ea_cons (ev_var rfl) ea_nil) (z := .int 1) (fun H1 e1 Q' q' E2 => ⟨a, C, fs, rfl, hC, he.ex e1, fun H2 e2 => q' H2 e2⟩)) ev_c (rv_eq rfl)) (by simp)) (fun _ =>
      ev_andV (a := true) (b := true) (ev_isiE (ev_var rfl) he (T.kits.c C hC) ((T.kits.m C hC).kitR T.kits.r1 T.kits.r2) (.own _)) (fun _ => ev_isiE (ev_var rfl) he (T.kits.c C hC) (T.kits.m C hC).kitV (.ty _)))) rfl) fun H2 e2 => q H2 e2
end

end K01
set_option Elab.async false
set_option linter.all false
set_option maxRecDepth 100000
set_option maxHeartbeats 2000000
namespace K01
open PySem PySem.Spec PyProof.Rows L2 Evl LawK
/-! ### the law -/
section
variable {P : Program} {w : World} {K : PySem.W.Frag} {mg : Str → Option Value} {base : Heap} {E J : EC}
theorem things_ok {σ : L2.St} {H : Hp} {tp tn : TE} (h1 : Ev tp σ H (.int 100000000000)) (h2 : Ev tn σ H (.int (-5))) :
    EvNA (tCons (tC .non) (tCons (tC (.bl true)) (tCons tp (tCons (tC (.str "a b")) (tCons (tLstS (tCons (tC (.int 1)) (tCons (tLstS (tCons (tC (.int 2)) tNil)) tNil))) (tCons (tTup (tCons (tC (.int 1)) (tCons (tC (.str "x")) tNil)))
      (tCons (tDisp [(tC (.str "a"), tC (.int 1))]) (tCons tn (tCons (tC (.str "")) (tCons (tDispT (tTup (tCons (tC (.str "a")) (tCons (tC (.int 2)) tNil))) (tC .non)) tNil)))))))))) σ H (AllN ReqE 10) :=
  el_cons reqE_mo (en_v ev_c fun _ => ⟨_, .non⟩) (el_cons reqE_mo (en_v ev_c fun _ => ⟨_, .bl _⟩) (el_cons reqE_mo (en_v h1 fun _ => ⟨_, .int _ (by decide +kernel)⟩) (el_cons reqE_mo (en_v ev_c fun _ => ⟨_, .str _ (by decide +kernel)⟩)
    (el_cons reqE_mo (en_req (d := .list [.int 1, .list [.int 2]]) (en_lstS (ed_cons (en_v ev_c fun _ => .int 1) (ed_cons (en_lstS (ed_cons (en_v ev_c fun _ => .int 2) ed_nil) (by simp)) ed_nil)) (by simp)) rfl (by decide +kernel) (by decide +kernel) (by decide +kernel))
    (el_cons reqE_mo (en_req (d := .tuple [.int 1, .str "x"]) (en_tup (ed_cons (en_v ev_c fun _ => .int 1) (ed_cons (en_v ev_c fun _ => .str "x") ed_nil)) (by simp)) rfl (by decide +kernel) (by decide +kernel) (by decide +kernel))
    (el_cons reqE_mo (en_req (d := .dict [(.str "a", .int 1)]) (en_dK fun _ => .int 1) rfl (by decide +kernel) (by decide +kernel) (by decide +kernel))
    (el_cons reqE_mo (en_v h2 fun _ => ⟨_, .int _ (by decide +kernel)⟩) (el_cons reqE_mo (en_v ev_c fun _ => ⟨_, .str _ (by decide +kernel)⟩)
    (el_cons reqE_mo (en_req (d := .dict [(.tuple [.str "a", .int 2], .none)]) (en_dT fun _ => .non) rfl (by decide +kernel) (by decide +kernel) (by decide +kernel)) el_nil)))))))))
theorem u_na {σ : L2.St} {H : Hp} {ta : TA} {P : Hp → List V → Prop} {Q : List V → Hp → Prop} (h : EvNA ta σ H P) (k : ∀ v H2, Ex H H2 → P (nw H H2) v → Q v H2) : ta σ H Q := h H (Ex.refl H) Q k
theorem u_n {σ : L2.St} {H : Hp} {te : TE} {P : Hp → V → Prop} {Q : VK} (h : EvN te σ H P) (k : ∀ v H2, Ex H H2 → P (nw H H2) v → Q v H2) : te σ H Q := h H (Ex.refl H) Q k
theorem held_ok {H : Hp} {v : V} {C : Addr} {f : Str} {e : Addr} (t : TabOk K E (C, f)) (he : ExAt H e C (some [(f, v)])) : SpV (spHeld K) [.ref e, .str f] H v := fun H1 e1 Q' q' E2 =>
  ⟨e, C, f, v, rfl, he.ex e1, t.x, t.n, t.f, fun H2 e2 => q' H2 e2⟩
theorem right_ok {H : Hp} {C : Addr} {fs : Option (List (Str × V))} {e : Addr} (h : C ∈ E.all) (he : ExAt H e C fs) : SpV (spRight E) [.ref e] H (.bl true) := fun H1 e1 Q' q' E2 =>
  ⟨e, C, fs, rfl, h, he.ex e1, fun H2 e2 => q' H2 e2⟩
/-- what is appended to does not lie among the pairs -/
theorem but_keep {H H2 : Hp} {t : Addr} {xs ys : List V} (ht : H t = some (.lst xs)) (e : Ex H H2) (a : Addr) (o : HO) (n : ∀ l, o ≠ .lst l) (h : H a = some o) : upd H2 t (.lst ys) a = some o := by
  have ne : a ≠ t := fun z => by
    rw [z, ht] at h
    cases h
    exact n _ rfl
  rw [upd_ne ne]
  exact e _ _ h
abbrev s_law : Stmt := topS 35
theorem sc_law : FnScope ["_law_script", "_law_box", "_law_things", "_law_error", "_law_turn", "_law_thing", "_law_field", "_law_told"] ["_law_script"] (defScope s_law) := ⟨rfl, rfl, rfl, by decide +kernel, rfl, by decide +kernel, by decide +kernel⟩
theorem ok_law {f : Addr} {fd : FuncData} (F0 : Fun K "law" "law" s_law f fd) (T : ETxt K mg E J) (c__law_start : CalF P w K mg base 1 "_law_start" (spStart K) []) (c__law_draw : CalF P w K mg base 1 "_law_draw" spDraw []) (c__law_bare : CalF P w K mg base 1 "_law_bare" (spBare E) [])
    (c__law_pairs : CalF P w K mg base 2 "_law_pairs" (spPairs E) []) (c__law_held : CalF P w K mg base 1 "_law_held" (spHeld K) []) (c__law_right : CalF P w K mg base 2 "_law_right" (spRight E) []) : FnG P w K mg base CX0 5 f fd ["_law_script"] (LawK.spLaw K) := by
  refine F0.okG sc_law (fun vs H Q E h => ?_) (fun cdv A outer s H vs Q E' gA hr h => ?_)
  · obtain ⟨a, ns, rfl, _⟩ := h
    rfl
  · obtain ⟨a, ns, rfl, hS, hl, q⟩ := h
    refine ⟨_, PSs.nox (pss_cons (ps_set (i := 1) sc_law.nd rfl (Or.inl rfl) (pe_cF c__law_start hr (by decide) rfl (pa_cons (pv 0) pa_nil)))
      (pss_cons (ps_set (i := 2) sc_law.nd rfl (Or.inl rfl) (pe_lst (pa_cons pe_non (pa_cons pe_bl (pa_cons (pe_op op_pow pe_int pe_int) (pa_cons pe_str (pa_cons (pe_lstS (pa_cons pe_int (pa_cons (pe_lstS (pa_cons pe_int pa_nil)) pa_nil))) (pa_cons (pe_tup (pa_cons pe_int (pa_cons pe_str pa_nil))) (pa_cons (pe_disp (pps_cons pe_str pe_int pps_nil) (by rfl) (by rfl) (fun z => by cases z) (by decide)) (pa_cons (pe_un un_neg pe_int) (pa_cons pe_str (pa_cons (pe_dispT (pps_cons (pe_tup (pa_cons pe_str (pa_cons pe_int pa_nil))) pe_non pps_nil) (by exact hr.units)) pa_nil))))))))))))
      (pss_cons (ps_if (pt_cmpR (op_neD hr.units) (pe_lc (own := [("_law_error", 3)]) rfl sc_law.nd (pi_list (pe_cF0 c__law_bare hr (by decide) rfl )) (blkOk_by (own := [("_law_error", 3)]) (N := ["_law_script", "_law_box", "_law_things", "_law_error", "_law_turn", "_law_thing", "_law_field", "_law_told"]) (sc := defScope s_law) (by decide +kernel)) (fun _ _ _ _ _ => (pg_name (i := 3) sc_law.nd rfl (Or.inl rfl))) (fun _ _ _ _ _ => (pts_one (pt_not (pt_val (pe_cF c__law_right hr (by decide) rfl (pa_cons (pv 3) pa_nil)))))) (fun _ _ _ _ _ => (pv 3))) (pe_lst pa_nil) (nomark _))
        (pss_one (ps_ret pe_bl))
        pss_nil)
      (pss_cons (ps_for PassesOwn.never rfl (pi_range1 rfl T.z_range (pa_cons pe_int pa_nil)) (pg_name (i := 4) sc_law.nd rfl (Or.inl rfl))
        (pss_cons (ps_set (i := 5) sc_law.nd rfl (Or.inl rfl) (pe_ix ix_list (pv 2) (pe_cF c__law_draw hr (by decide) rfl (pa_cons (pv 1) (pa_cons pe_int pa_nil))) (fun _ _ => rfl)))
        (pss_one (ps_for PassesOwn.never rfl (pi_list (pe_cF c__law_pairs hr (by decide) rfl (pa_cons (pv 5) pa_nil))) (pg_tup (by rfl) (pgs_cons (pg_name (i := 3) sc_law.nd rfl (Or.inl rfl)) (pgs_cons (pg_name (i := 6) sc_law.nd rfl (Or.inl rfl)) pgs_nil)))
          (pss_one (ps_if (PW.pt (pw_or (pt_not (pt_val (pe_cF c__law_right hr (by decide) rfl (pa_cons (pv 3) pa_nil)))) (pw_or1 (pt_cmpR op_ne (pe_callB (cr_reprQ (K := K) (by exact hr.units) (by exact gA)) (by rfl) T.z_repr (by decide +kernel) (pa_cons (pe_cF c__law_held hr (by decide) rfl (pa_cons (pv 3) (pa_cons (pv 6) pa_nil))) pa_nil)) (pe_callB (cr_reprQ (K := K) (by exact hr.units) (by exact gA)) (by rfl) T.z_repr (by decide +kernel) (pa_cons (pv 5) pa_nil)) (nomark _)))))
            (pss_one (ps_ret pe_bl))
            pss_nil))))))
      (pss_cons (ps_set (i := 5) sc_law.nd rfl (Or.inl rfl) (pe_lstS (pa_cons pe_int (pa_cons (pe_lstS (pa_cons pe_int pa_nil)) (pa_cons (pe_disp (pps_cons pe_str pe_int pps_nil) (by rfl) (by rfl) (fun z => by cases z) (by decide)) pa_nil)))))
      (pss_cons (ps_set (i := 7) sc_law.nd rfl (Or.inl rfl) (pe_cF c__law_pairs hr (by decide) rfl (pa_cons (pv 5) pa_nil)))
      (pss_cons (ps_expr (pe_bm PySem.F.plainAttrs_list PySem.F.slot_list_append PySem.F.type_list_append mt_append (pv 5) (pa_cons (pe_cF c__law_draw hr (by decide) rfl (pa_cons (pv 1) (pa_cons pe_int pa_nil))) pa_nil)))
      (pss_cons (ps_for PassesOwn.never rfl (pi_list (pv 7)) (pg_tup (by rfl) (pgs_cons (pg_name (i := 3) sc_law.nd rfl (Or.inl rfl)) (pgs_cons (pg_name (i := 6) sc_law.nd rfl (Or.inl rfl)) pgs_nil)))
        (pss_one (ps_if (pt_cmpR op_ne (pe_callB (cr_reprQ (K := K) (by exact hr.units) (by exact gA)) (by rfl) T.z_repr (by decide +kernel) (pa_cons (pe_cF c__law_held hr (by decide) rfl (pa_cons (pv 3) (pa_cons (pv 6) pa_nil))) pa_nil)) (pe_callB (cr_reprQ (K := K) (by exact hr.units) (by exact gA)) (by rfl) T.z_repr (by decide +kernel) (pa_cons (pv 5) pa_nil)) (nomark _))
          (pss_one (ps_ret pe_bl))
          pss_nil)))
      (pss_one (ps_ret pe_bl)))))))))), ?_⟩
    refine ⟨.ref a, rfl, a, ns, rfl, hS, hl, fun p H1 S0 => ?_⟩
    dsimp only [gName]
    refine x_seq (x_set (x_lst ?_))
    refine u_na (things_ok (ev_op ev_c ev_c (rv_I ⟨by decide, by decide, by decide⟩)) (ev_un ev_c ru_neg)) fun ts H2 e2 pt => ⟨by rw [pt.1]; exact sz_of (by decide), fun L hL => ?_⟩
    have e3 := e2.trans (Ex.new (o := .lst ts) hL)
    have hT : ∀ x ∈ ts, ReqE (grow H H1 (upd H2 L (.lst ts))) x := fun x hx => reqE_mo _ _ _ nw_grow (reqE_mo _ _ _ (nw_r (Ex.new hL)) (pt.2 x hx))
    have hG := (grow_new (G := H) (H2 := upd H2 L (.lst ts)) (fresh_back e2 hL)).trans upd_same
    have S1 := S0.grow e3
    have lt : ts.length = 10 := pt.1
    dsimp only
    generalize upd H2 L (.lst ts) = H3 at S1 hG hT e3
    generalize grow H H1 H3 = G1 at S1 hG hT
    -- the bare ones
    refine q_when (b := false) (et_test (ev_is (ev_opLL (xs := []) (ys := []) ?lc (el_lst ea_nil (by simp)) (fun p1 p2 H4 h1 h2 _ H5 e5 Q' q' => ⟨.list [], .list [], .lst (sq_of (e5 _ _ h1)) .nil, .lst (sq_of (e5 _ _ h2)) .nil, by decide, by decide, q' H5 (Ex.refl H5)⟩)) rfl)) (fun z => by cases z) (fun _ H4 e4 => ?_)
    case lc =>
      intro H4 e4 Q4 q4
      refine ⟨rfl, fun p5 xs H5 e5 n5 h5 ax => ⟨p5, rfl, ⟨xs, sq_of h5⟩, fun Dl hD => ?_⟩⟩
      refine lc_list (xs := xs) (Cw H5 (fun _ => false) (fun _ => .non) Dl) ⟨hD, Ex.new hD, upd_same⟩ (fun i H' _ pp => sq_of (pp.2.1 _ _ h5)) (fun i x H' hi pp => ?_) (fun H' pp => q4 Dl H' (fresh_back e5 hD) (e5.trans pp.2.1) (by have z := pp.2.2; rwa [show given xs.length (fun _ => false) (fun _ => V.non) = [] from by unfold given; simp] at z))
      obtain ⟨b, C, fs, rfl, hC, hb⟩ := ax.2 _ (List.mem_of_getElem? hi)
      have hi6 : i < 6 := by have := (List.getElem?_eq_some_iff.mp hi).1; rw [ax.1] at this; exact this
      exact ⟨rfl, cw_turn pp (by omega) (et_is (et_not (et_B (ev_call (ea_cons (ev_var rfl) ea_nil) (right_ok hC hb)))) rfl) (fun h => by cases h)⟩
    -- two things
    have S2 := S1.ext e4
    refine q_forR1 (ea_cons ev_c ea_nil) (by decide) (fun i σ' H' => ∃ x3 x4 x5 x6, σ' = [some (.ref a), some (.ref p), some (.ref L), x3, x4, x5, x6, none] ∧ SB G1 H' p i) (fun H5 e5 => ⟨_, _, _, _, rfl, S2.ext e5⟩) (fun i σ' H5 hi hw => ?_) (fun σ' H5 hw => ?_)
    · obtain ⟨x3, x4, x5, x6, rfl, S⟩ := hw
      refine x_seq (x_set ?_)
      refine ⟨.ref L, rfl, u_pickL (K := K) S hG lt rfl ev_c (by decide) (by decide) (by omega) fun c v H6 hc S6 => ?_⟩
      obtain ⟨z, hz⟩ := hT v (List.mem_of_getElem? hc)
      refine ⟨v, rfl, v, rfl, fun q' H7 LX7 => ?_⟩
      obtain ⟨e7, n7, xs, h7, px⟩ := LX7
      refine ⟨q', rfl, ⟨xs, sq_of h7⟩, for_list (xs := xs) (fun j σ' H' => ∃ x3 x6, σ' = [some (.ref a), some (.ref p), some (.ref L), x3, some (.int (i : Int)), some v, x6, none] ∧ Ex H7 H') ⟨_, _, rfl, Ex.refl H7⟩ (fun j σ' H' _ hw => ?_) (fun j x σ' H' hx hw => ?_) (fun σ' H' hw => ?_)⟩
      · obtain ⟨_, _, _, e⟩ := hw
        exact sq_of (e _ _ h7)
      · obtain ⟨x3, x6, rfl, e8⟩ := hw
        obtain ⟨⟨C, f⟩, hm, qq, ee, rfl, hq, he⟩ := pget px hx
        have ex8 := (nw_ex (H := H6) (H2 := H7)).trans e8
        have tk := tab_ok T _ hm
        have he' := he.ex ex8
        refine ⟨qq, _, rfl, st_of (ex8 _ _ hq), rfl, _, _, rfl, _, _, rfl, rfl, ?_⟩
        have rq := hz.keep ((S6.ex.trans e7).trans e8)
        refine s_when (b := false) (et_or (a := false) (b := false) (et_is (et_not (et_B (ev_call (ea_cons (ev_var rfl) ea_nil) (right_ok tk.c he')))) rfl) (fun _ => et_is (et_test (ev_op (ev_reprQ (ev_call (ea_cons (ev_var rfl) (ea_cons (ev_var rfl) ea_nil)) (held_ok tk he')) rq) (ev_reprQ (ev_var rfl) rq) (rv_ne rfl))) (by simp))) (fun z => by cases z) (fun _ H9 e9 => ⟨_, _, rfl, e8.trans e9⟩)
      · obtain ⟨x3, x6, rfl, e8⟩ := hw
        exact ⟨_, _, _, _, rfl, S6.ext (e7.trans e8)⟩
    · obtain ⟨x3, x4, x5, x6, rfl, S⟩ := hw
      refine x_seq (x_set ?_)
      refine u_n (en_lstS (ed_cons (en_v ev_c fun _ => .int 1) (ed_cons (en_lstS (ed_cons (en_v ev_c fun _ => .int 2) ed_nil) (by simp)) (ed_cons (en_dK fun _ => .int 3) ed_nil))) (by simp)) fun v H6 e6 dv => ?_
      cases dv with
      | @lst t xs _ ht ts ha =>
      cases ha with
      | cons h1 r =>
      cases h1
      cases r with
      | cons h2 r =>
      cases h2 with
      | @lst u ys _ hu us hy =>
      cases hy with
      | cons h3 r3 =>
      cases h3
      cases r3
      cases r with
      | cons h4 r4 =>
      cases r4
      cases h4 with
      | @dK w4 _ _ _ hw4 h5 =>
      cases h5
      dsimp only
      refine x_seq (x_set ?_)
      refine ⟨.ref t, rfl, .ref t, rfl, fun q' H7 LX7 => ?_⟩
      obtain ⟨e7, n7, told, h7, px⟩ := LX7
      have S7 := S.grow (e6.trans e7)
      have gt := nw_grow (G := G1) _ _ (nw_r e7 _ _ ht)
      have gu := nw_grow (G := G1) _ _ (nw_r e7 _ _ hu)
      have gw := nw_grow (G := G1) _ _ (nw_r e7 _ _ hw4)
      have gq := (grow_new (G := G1) (H2 := H7) (fresh_back e6 n7)).trans h7
      have gx := (px.ex (nw_l e6)).ex (nw_grow (G := G1))
      have qt : q' ≠ t := fun z => by rw [z, nw_ex _ _ ht] at n7; cases n7
      dsimp only
      generalize grow G1 H5 H7 = G7 at S7 gt gu gw gq gx
      have ut : u ≠ t := fun z => by rw [z, gt] at gu; cases gu
      refine x_seq ?_
      refine ⟨.ref t, rfl, Or.inl ⟨rfl, _, sq_of (S7.ex _ _ gt)⟩, u_draw S7 rfl ev_c (by decide) (by decide +kernel) (by decide) fun r H8 r0 r1 S8 => ⟨t, _, .int r, rfl, rfl, S8.ex _ _ gt, (by show 3 < sizeLine; decide), ?_⟩⟩
      dsimp only [List.cons_append, List.nil_append]
      have px9 := gx.keep (but_keep (ys := [.int 1, .ref u, .ref w4, .int r]) gt S8.ex)
      have hq9 : upd H8 t (.lst [.int 1, .ref u, .ref w4, .int r]) q' = some (.lst told) := by rw [upd_ne qt]; exact S8.ex _ _ gq
      have hu9 : upd H8 t (.lst [.int 1, .ref u, .ref w4, .int r]) u = some (.lst [.int 2]) := by rw [upd_ne ut]; exact S8.ex _ _ gu
      have hw9 := but_keep (ys := [.int 1, .ref u, .ref w4, .int r]) gt S8.ex _ _ (fun l z => by cases z) gw
      have d9 : Dq (upd H8 t (.lst [.int 1, .ref u, .ref w4, .int r])) (.ref t) (.list [.int 1, .list [.int 2], .dict [(.str "a", .int 3)], .int r]) := .lst upd_same ts (.cons (.int 1) (.cons (.lst hu9 us (.cons (.int 2) .nil)) (.cons (.dK hw9 (.int 3)) (.cons (.int r) .nil))))
      have rq9 : ∃ z, Req (upd H8 t (.lst [.int 1, .ref u, .ref w4, .int r])) (.ref t) z := by
        refine ⟨_, .dat d9 ?_ ?_ ?_⟩ <;> (have : r = 0 ∨ r = 1 ∨ r = 2 ∨ r = 3 ∨ r = 4 ∨ r = 5 ∨ r = 6 ∨ r = 7 ∨ r = 8 := by omega) <;> rcases this with rfl | rfl | rfl | rfl | rfl | rfl | rfl | rfl | rfl <;> decide +kernel
      obtain ⟨z, hz⟩ := rq9
      generalize upd H8 t (.lst [.int 1, .ref u, .ref w4, .int r]) = H9 at px9 hq9 hz
      refine x_seq ?_
      refine ⟨.ref q', rfl, q', rfl, ⟨_, sq_of hq9⟩, for_list (xs := told) (fun j σ' H' => ∃ x3 x6, σ' = [some (.ref a), some (.ref p), some (.ref L), x3, x4, some (.ref t), x6, some (.ref q')] ∧ Ex H9 H') ⟨_, _, rfl, Ex.refl H9⟩ (fun j σ' H' _ hw => ?_) (fun j x σ' H' hx hw => ?_) (fun σ' H' hw => q _)⟩
      · obtain ⟨_, _, _, e⟩ := hw
        exact sq_of (e _ _ hq9)
      · obtain ⟨x3, x6, rfl, e8⟩ := hw
        obtain ⟨⟨C, f⟩, hm, qq, ee, rfl, hq, he⟩ := pget px9 hx
        have tk := tab_ok T _ hm
        have he' := he.ex e8
        refine ⟨qq, _, rfl, st_of (e8 _ _ hq), rfl, _, _, rfl, _, _, rfl, rfl, ?_⟩
        have rq := hz.keep e8
        refine s_when (b := false) (et_is (et_test (ev_op (ev_reprQ (ev_call (ea_cons (ev_var rfl) (ea_cons (ev_var rfl) ea_nil)) (held_ok tk he')) rq) (ev_reprQ (ev_var rfl) rq) (rv_ne rfl))) (by simp)) (fun z => by cases z) (fun _ H9 e9 => ⟨_, _, rfl, e8.trans e9⟩)
end

theorem exm_self {K : PySem.W.Frag} {S : Addr} (h1 : PySem.W.subIn K (.ref S) (.type "BaseException") = some true) (h2 : PySem.W.isClsIn K S = true) (h3 : PySem.W.typeIn K (.ref S) = some (.type "type")) (h4 : PySem.W.subIn K (.ref S) (.ref S) = some true) :
    PySem.W.exmOne K (.ref S) (.ref S) = some true := by
  have h2' : (PySem.W.clsIn K S).isSome = true := h2
  have e2 : ((PySem.W.clsIn K S).isSome && PySem.W.typeIn K (.ref S) == some (.type "type")) = true := by rw [h2', h3] <;> rfl
  unfold PySem.W.exmOne PySem.W.kitCls
  rw [h1]
  dsimp only
  rw [e2]
  exact h4
structure ErrOk (K : PySem.W.Frag) (mg : Str → Option Value) (R C : Addr) (x : Str) (L : Prop) : Prop where
  g : mg x = some (.ref C)
  l : L
  m : MroF K R C
  c : ExCls K C
structure BareOk (K : PySem.W.Frag) (mg : Str → Option Value) (R C : Addr) (x : Str) : Prop where
  g : mg x = some (.ref C)
  e : PySem.W.excIn K C [.type "ValueError", .type "Exception", .type "BaseException", .type "object"] "ValueError.__new__" = true
  k : PySem.W.keepIn K (.ref C) = true
  m : MroF K R C
  c : ExCls K C
theorem mk_bare {K : PySem.W.Frag} {h : Heap} {mg : Str → Option Value} {R C : Addr} (X : K.In h) (G : h.Ns mainGlobals mg) (qn : PySem.W.specialIn K (.builtin "object.__class__") "__get__" = some (some (.builtin "getset_descriptor.__get__"))) (qt : PySem.W.takesIn K (.builtin "object.__class__") = some true) {x : Str} (a : PySem.W.nsIn K mainGlobals x = some (some (.ref C))) (e : PySem.W.excIn K C [.type "ValueError", .type "Exception", .type "BaseException", .type "object"] "ValueError.__new__" = true) (kc : PySem.W.keepIn K (.ref C) = true)
    (y : (PySem.W.clsIn K C).map (·.mro) = some [.ref C, .ref R, .type "ValueError", .type "Exception", .type "BaseException", .type "object"]) (ty : PySem.W.typeIn K (.ref C) = some (.type "type")) (ga : PySem.W.findIn K (.ref C) "__getattribute__" = some (some (.builtin "BaseException.__getattribute__"))) (gg : PySem.W.findIn K (.ref C) "__getattr__" = some none)
    (ca : PySem.W.findIn K (.ref C) "__class__" = some (some (.builtin "object.__class__"))) (hd : PySem.W.hasDictIn K C = true) : BareOk K mg R C x := ⟨PySem.W.mg_of X G a, e, kc, .of y ty, (MroF.of y ty).cls ga gg ca qn qt hd⟩
theorem mk_BadNumber {K : PySem.W.Frag} {h : Heap} {mg : Str → Option Value} {R C fi : Addr} (X : K.In h) (G : h.Ns mainGlobals mg) (qn : PySem.W.specialIn K (.builtin "object.__class__") "__get__" = some (some (.builtin "getset_descriptor.__get__"))) (qt : PySem.W.takesIn K (.builtin "object.__class__") = some true) {nm q : Str} {N : Addr} {bs : List Value} {sn : List Str} {sub : List Value} {ab : Bool} {col : Option Bool} {dd : Option Addr} {m0 m1 m2 m3 m5 : Option Value} {od an : Option Addr} {sl : Array (Option Value)} {oc dc pm cd ct : Value} (a : PySem.W.nsIn K mainGlobals "BadNumber" = some (some (.ref C))) (x : K.lookup C = some (excClassObj nm q C N bs [.ref R, .type "ValueError", .type "Exception", .type "BaseException", .type "object"] true sn sub ab col dd m0 m1 m2 m3 m5 "ValueError.__new__")) (sa : PySem.W.findIn K (.ref C) "__setattr__" = some (some (.builtin "object.__setattr__"))) (ga : PySem.W.findIn K (.ref C) "__getattribute__" = some (some (.builtin "BaseException.__getattribute__"))) (gg : PySem.W.findIn K (.ref C) "__getattr__" = some none) (nb : PySem.W.findIn K (.ref C) "value" = some none) (at_ : PySem.W.findIn K (.ref C) "__init__" = some (some (.ref fi))) (t : PySem.W.typeIn K (.ref fi) = some (.type "function")) (l : K.lookup fi = some ⟨oc, od, .func (PySem.W.fnOf "__init__" "BadNumber.__init__" (PySem.LowX_BadNumber.iA ⟨18, 17, 18, 21⟩ ⟨18, 23, 18, 28⟩) (PySem.LowX_BadNumber.iB ⟨19, 8, 19, 12⟩ ⟨19, 8, 19, 18⟩ ⟨19, 21, 19, 26⟩ ⟨19, 8, 19, 26⟩) PySem.LowX_BadNumber.iS .none .none dc pm an cd ct), sl⟩) (c : PySem.W.codeIn K cd "BadNumber.__init__" = true) (kc : PySem.W.keepIn K (.ref C) = true) (e : PySem.W.subIn K (.ref C) (.type "BaseException") = some true) (ty : PySem.W.typeIn K (.ref C) = some (.type "type")) (hd : PySem.W.hasDictIn K C = true) (ic : PySem.W.isClsIn K C = true) (ss : PySem.W.subIn K (.ref C) (.ref C) = some true) (ca : PySem.W.findIn K (.ref C) "__class__" = some (some (.builtin "object.__class__"))) : ErrOk K mg R C "BadNumber" (PySem.LowX_BadNumber.LowTxt_BadNumber K mg C fi) := by
  have hx : PySem.W.clsIn K C = some { name := nm, bases := bs, mro := [.ref C, .ref R, .type "ValueError", .type "Exception", .type "BaseException", .type "object"], ns := N, qualname := q, hasDict := true, slotNames := sn, subclasses := sub, abstract := ab, collection := col, hasDel := false } := by unfold PySem.W.clsIn; rw [x] <;> rfl
  have y : MroF K R C := ⟨⟨_, hx, rfl⟩, ty⟩
  exact ⟨PySem.W.mg_of X G a, { gC := PySem.W.mg_of X G a, cls := ⟨_, _, _, _, _, _, _, _, _, _, _, _, _, _, _, x, by rfl⟩, sa := sa, ga := ga, gg := gg, noN := nb, iC := at_, tC := t, kC := kc, exC := e, tyC := ty, hdC := hd, te := exm_self e ic ty ss, fn := ⟨_, _, _, _, _, _, _, _, _, _, _, _, _, _, l, c⟩ }, y, y.cls ga gg ca qn qt hd⟩
theorem mk_BadPeople {K : PySem.W.Frag} {h : Heap} {mg : Str → Option Value} {R C fi : Addr} (X : K.In h) (G : h.Ns mainGlobals mg) (qn : PySem.W.specialIn K (.builtin "object.__class__") "__get__" = some (some (.builtin "getset_descriptor.__get__"))) (qt : PySem.W.takesIn K (.builtin "object.__class__") = some true) {nm q : Str} {N : Addr} {bs : List Value} {sn : List Str} {sub : List Value} {ab : Bool} {col : Option Bool} {dd : Option Addr} {m0 m1 m2 m3 m5 : Option Value} {od an : Option Addr} {sl : Array (Option Value)} {oc dc pm cd ct : Value} (a : PySem.W.nsIn K mainGlobals "BadPeople" = some (some (.ref C))) (x : K.lookup C = some (excClassObj nm q C N bs [.ref R, .type "ValueError", .type "Exception", .type "BaseException", .type "object"] true sn sub ab col dd m0 m1 m2 m3 m5 "ValueError.__new__")) (sa : PySem.W.findIn K (.ref C) "__setattr__" = some (some (.builtin "object.__setattr__"))) (ga : PySem.W.findIn K (.ref C) "__getattribute__" = some (some (.builtin "BaseException.__getattribute__"))) (gg : PySem.W.findIn K (.ref C) "__getattr__" = some none) (nb : PySem.W.findIn K (.ref C) "people" = some none) (at_ : PySem.W.findIn K (.ref C) "__init__" = some (some (.ref fi))) (t : PySem.W.typeIn K (.ref fi) = some (.type "function")) (l : K.lookup fi = some ⟨oc, od, .func (PySem.W.fnOf "__init__" "BadPeople.__init__" (PySem.LowX_BadPeople.iA ⟨22, 17, 22, 21⟩ ⟨22, 23, 22, 29⟩) (PySem.LowX_BadPeople.iB ⟨23, 8, 23, 12⟩ ⟨23, 8, 23, 19⟩ ⟨23, 22, 23, 28⟩ ⟨23, 8, 23, 28⟩) PySem.LowX_BadPeople.iS .none .none dc pm an cd ct), sl⟩) (c : PySem.W.codeIn K cd "BadPeople.__init__" = true) (kc : PySem.W.keepIn K (.ref C) = true) (e : PySem.W.subIn K (.ref C) (.type "BaseException") = some true) (ty : PySem.W.typeIn K (.ref C) = some (.type "type")) (hd : PySem.W.hasDictIn K C = true) (ic : PySem.W.isClsIn K C = true) (ss : PySem.W.subIn K (.ref C) (.ref C) = some true) (ca : PySem.W.findIn K (.ref C) "__class__" = some (some (.builtin "object.__class__"))) : ErrOk K mg R C "BadPeople" (PySem.LowX_BadPeople.LowTxt_BadPeople K mg C fi) := by
  have hx : PySem.W.clsIn K C = some { name := nm, bases := bs, mro := [.ref C, .ref R, .type "ValueError", .type "Exception", .type "BaseException", .type "object"], ns := N, qualname := q, hasDict := true, slotNames := sn, subclasses := sub, abstract := ab, collection := col, hasDel := false } := by unfold PySem.W.clsIn; rw [x] <;> rfl
  have y : MroF K R C := ⟨⟨_, hx, rfl⟩, ty⟩
  exact ⟨PySem.W.mg_of X G a, { gC := PySem.W.mg_of X G a, cls := ⟨_, _, _, _, _, _, _, _, _, _, _, _, _, _, _, x, by rfl⟩, sa := sa, ga := ga, gg := gg, noN := nb, iC := at_, tC := t, kC := kc, exC := e, tyC := ty, hdC := hd, te := exm_self e ic ty ss, fn := ⟨_, _, _, _, _, _, _, _, _, _, _, _, _, _, l, c⟩ }, y, y.cls ga gg ca qn qt hd⟩
theorem mk_BadLines {K : PySem.W.Frag} {h : Heap} {mg : Str → Option Value} {R C fi : Addr} (X : K.In h) (G : h.Ns mainGlobals mg) (qn : PySem.W.specialIn K (.builtin "object.__class__") "__get__" = some (some (.builtin "getset_descriptor.__get__"))) (qt : PySem.W.takesIn K (.builtin "object.__class__") = some true) {nm q : Str} {N : Addr} {bs : List Value} {sn : List Str} {sub : List Value} {ab : Bool} {col : Option Bool} {dd : Option Addr} {m0 m1 m2 m3 m5 : Option Value} {od an : Option Addr} {sl : Array (Option Value)} {oc dc pm cd ct : Value} (a : PySem.W.nsIn K mainGlobals "BadLines" = some (some (.ref C))) (x : K.lookup C = some (excClassObj nm q C N bs [.ref R, .type "ValueError", .type "Exception", .type "BaseException", .type "object"] true sn sub ab col dd m0 m1 m2 m3 m5 "ValueError.__new__")) (sa : PySem.W.findIn K (.ref C) "__setattr__" = some (some (.builtin "object.__setattr__"))) (ga : PySem.W.findIn K (.ref C) "__getattribute__" = some (some (.builtin "BaseException.__getattribute__"))) (gg : PySem.W.findIn K (.ref C) "__getattr__" = some none) (nb : PySem.W.findIn K (.ref C) "lines" = some none) (at_ : PySem.W.findIn K (.ref C) "__init__" = some (some (.ref fi))) (t : PySem.W.typeIn K (.ref fi) = some (.type "function")) (l : K.lookup fi = some ⟨oc, od, .func (PySem.W.fnOf "__init__" "BadLines.__init__" (PySem.LowX_BadLines.iA ⟨26, 17, 26, 21⟩ ⟨26, 23, 26, 28⟩) (PySem.LowX_BadLines.iB ⟨27, 8, 27, 12⟩ ⟨27, 8, 27, 18⟩ ⟨27, 21, 27, 26⟩ ⟨27, 8, 27, 26⟩) PySem.LowX_BadLines.iS .none .none dc pm an cd ct), sl⟩) (c : PySem.W.codeIn K cd "BadLines.__init__" = true) (kc : PySem.W.keepIn K (.ref C) = true) (e : PySem.W.subIn K (.ref C) (.type "BaseException") = some true) (ty : PySem.W.typeIn K (.ref C) = some (.type "type")) (hd : PySem.W.hasDictIn K C = true) (ic : PySem.W.isClsIn K C = true) (ss : PySem.W.subIn K (.ref C) (.ref C) = some true) (ca : PySem.W.findIn K (.ref C) "__class__" = some (some (.builtin "object.__class__"))) : ErrOk K mg R C "BadLines" (PySem.LowX_BadLines.LowTxt_BadLines K mg C fi) := by
  have hx : PySem.W.clsIn K C = some { name := nm, bases := bs, mro := [.ref C, .ref R, .type "ValueError", .type "Exception", .type "BaseException", .type "object"], ns := N, qualname := q, hasDict := true, slotNames := sn, subclasses := sub, abstract := ab, collection := col, hasDel := false } := by unfold PySem.W.clsIn; rw [x] <;> rfl
  have y : MroF K R C := ⟨⟨_, hx, rfl⟩, ty⟩
  exact ⟨PySem.W.mg_of X G a, { gC := PySem.W.mg_of X G a, cls := ⟨_, _, _, _, _, _, _, _, _, _, _, _, _, _, _, x, by rfl⟩, sa := sa, ga := ga, gg := gg, noN := nb, iC := at_, tC := t, kC := kc, exC := e, tyC := ty, hdC := hd, te := exm_self e ic ty ss, fn := ⟨_, _, _, _, _, _, _, _, _, _, _, _, _, _, l, c⟩ }, y, y.cls ga gg ca qn qt hd⟩
theorem mk_BadLine {K : PySem.W.Frag} {h : Heap} {mg : Str → Option Value} {R C fi : Addr} (X : K.In h) (G : h.Ns mainGlobals mg) (qn : PySem.W.specialIn K (.builtin "object.__class__") "__get__" = some (some (.builtin "getset_descriptor.__get__"))) (qt : PySem.W.takesIn K (.builtin "object.__class__") = some true) {nm q : Str} {N : Addr} {bs : List Value} {sn : List Str} {sub : List Value} {ab : Bool} {col : Option Bool} {dd : Option Addr} {m0 m1 m2 m3 m5 : Option Value} {od an : Option Addr} {sl : Array (Option Value)} {oc dc pm cd ct : Value} (a : PySem.W.nsIn K mainGlobals "BadLine" = some (some (.ref C))) (x : K.lookup C = some (excClassObj nm q C N bs [.ref R, .type "ValueError", .type "Exception", .type "BaseException", .type "object"] true sn sub ab col dd m0 m1 m2 m3 m5 "ValueError.__new__")) (sa : PySem.W.findIn K (.ref C) "__setattr__" = some (some (.builtin "object.__setattr__"))) (ga : PySem.W.findIn K (.ref C) "__getattribute__" = some (some (.builtin "BaseException.__getattribute__"))) (gg : PySem.W.findIn K (.ref C) "__getattr__" = some none) (nb : PySem.W.findIn K (.ref C) "line" = some none) (at_ : PySem.W.findIn K (.ref C) "__init__" = some (some (.ref fi))) (t : PySem.W.typeIn K (.ref fi) = some (.type "function")) (l : K.lookup fi = some ⟨oc, od, .func (PySem.W.fnOf "__init__" "BadLine.__init__" (PySem.LowX_BadLine.iA ⟨30, 17, 30, 21⟩ ⟨30, 23, 30, 27⟩) (PySem.LowX_BadLine.iB ⟨31, 8, 31, 12⟩ ⟨31, 8, 31, 17⟩ ⟨31, 20, 31, 24⟩ ⟨31, 8, 31, 24⟩) PySem.LowX_BadLine.iS .none .none dc pm an cd ct), sl⟩) (c : PySem.W.codeIn K cd "BadLine.__init__" = true) (kc : PySem.W.keepIn K (.ref C) = true) (e : PySem.W.subIn K (.ref C) (.type "BaseException") = some true) (ty : PySem.W.typeIn K (.ref C) = some (.type "type")) (hd : PySem.W.hasDictIn K C = true) (ic : PySem.W.isClsIn K C = true) (ss : PySem.W.subIn K (.ref C) (.ref C) = some true) (ca : PySem.W.findIn K (.ref C) "__class__" = some (some (.builtin "object.__class__"))) : ErrOk K mg R C "BadLine" (PySem.LowX_BadLine.LowTxt_BadLine K mg C fi) := by
  have hx : PySem.W.clsIn K C = some { name := nm, bases := bs, mro := [.ref C, .ref R, .type "ValueError", .type "Exception", .type "BaseException", .type "object"], ns := N, qualname := q, hasDict := true, slotNames := sn, subclasses := sub, abstract := ab, collection := col, hasDel := false } := by unfold PySem.W.clsIn; rw [x] <;> rfl
  have y : MroF K R C := ⟨⟨_, hx, rfl⟩, ty⟩
  exact ⟨PySem.W.mg_of X G a, { gC := PySem.W.mg_of X G a, cls := ⟨_, _, _, _, _, _, _, _, _, _, _, _, _, _, _, x, by rfl⟩, sa := sa, ga := ga, gg := gg, noN := nb, iC := at_, tC := t, kC := kc, exC := e, tyC := ty, hdC := hd, te := exm_self e ic ty ss, fn := ⟨_, _, _, _, _, _, _, _, _, _, _, _, _, _, l, c⟩ }, y, y.cls ga gg ca qn qt hd⟩
theorem mk_NoCell {K : PySem.W.Frag} {h : Heap} {mg : Str → Option Value} {R C fi : Addr} (X : K.In h) (G : h.Ns mainGlobals mg) (qn : PySem.W.specialIn K (.builtin "object.__class__") "__get__" = some (some (.builtin "getset_descriptor.__get__"))) (qt : PySem.W.takesIn K (.builtin "object.__class__") = some true) {nm q : Str} {N : Addr} {bs : List Value} {sn : List Str} {sub : List Value} {ab : Bool} {col : Option Bool} {dd : Option Addr} {m0 m1 m2 m3 m5 : Option Value} {od an : Option Addr} {sl : Array (Option Value)} {oc dc pm cd ct : Value} (a : PySem.W.nsIn K mainGlobals "NoCell" = some (some (.ref C))) (x : K.lookup C = some (excClassObj nm q C N bs [.ref R, .type "ValueError", .type "Exception", .type "BaseException", .type "object"] true sn sub ab col dd m0 m1 m2 m3 m5 "ValueError.__new__")) (sa : PySem.W.findIn K (.ref C) "__setattr__" = some (some (.builtin "object.__setattr__"))) (ga : PySem.W.findIn K (.ref C) "__getattribute__" = some (some (.builtin "BaseException.__getattribute__"))) (gg : PySem.W.findIn K (.ref C) "__getattr__" = some none) (nb : PySem.W.findIn K (.ref C) "cell" = some none) (at_ : PySem.W.findIn K (.ref C) "__init__" = some (some (.ref fi))) (t : PySem.W.typeIn K (.ref fi) = some (.type "function")) (l : K.lookup fi = some ⟨oc, od, .func (PySem.W.fnOf "__init__" "NoCell.__init__" (PySem.LowX_NoCell.iA ⟨34, 17, 34, 21⟩ ⟨34, 23, 34, 27⟩) (PySem.LowX_NoCell.iB ⟨35, 8, 35, 12⟩ ⟨35, 8, 35, 17⟩ ⟨35, 20, 35, 24⟩ ⟨35, 8, 35, 24⟩) PySem.LowX_NoCell.iS .none .none dc pm an cd ct), sl⟩) (c : PySem.W.codeIn K cd "NoCell.__init__" = true) (kc : PySem.W.keepIn K (.ref C) = true) (e : PySem.W.subIn K (.ref C) (.type "BaseException") = some true) (ty : PySem.W.typeIn K (.ref C) = some (.type "type")) (hd : PySem.W.hasDictIn K C = true) (ic : PySem.W.isClsIn K C = true) (ss : PySem.W.subIn K (.ref C) (.ref C) = some true) (ca : PySem.W.findIn K (.ref C) "__class__" = some (some (.builtin "object.__class__"))) : ErrOk K mg R C "NoCell" (PySem.LowX_NoCell.LowTxt_NoCell K mg C fi) := by
  have hx : PySem.W.clsIn K C = some { name := nm, bases := bs, mro := [.ref C, .ref R, .type "ValueError", .type "Exception", .type "BaseException", .type "object"], ns := N, qualname := q, hasDict := true, slotNames := sn, subclasses := sub, abstract := ab, collection := col, hasDel := false } := by unfold PySem.W.clsIn; rw [x] <;> rfl
  have y : MroF K R C := ⟨⟨_, hx, rfl⟩, ty⟩
  exact ⟨PySem.W.mg_of X G a, { gC := PySem.W.mg_of X G a, cls := ⟨_, _, _, _, _, _, _, _, _, _, _, _, _, _, _, x, by rfl⟩, sa := sa, ga := ga, gg := gg, noN := nb, iC := at_, tC := t, kC := kc, exC := e, tyC := ty, hdC := hd, te := exm_self e ic ty ss, fn := ⟨_, _, _, _, _, _, _, _, _, _, _, _, _, _, l, c⟩ }, y, y.cls ga gg ca qn qt hd⟩
theorem mk_BadCells {K : PySem.W.Frag} {h : Heap} {mg : Str → Option Value} {R C fi : Addr} (X : K.In h) (G : h.Ns mainGlobals mg) (qn : PySem.W.specialIn K (.builtin "object.__class__") "__get__" = some (some (.builtin "getset_descriptor.__get__"))) (qt : PySem.W.takesIn K (.builtin "object.__class__") = some true) {nm q : Str} {N : Addr} {bs : List Value} {sn : List Str} {sub : List Value} {ab : Bool} {col : Option Bool} {dd : Option Addr} {m0 m1 m2 m3 m5 : Option Value} {od an : Option Addr} {sl : Array (Option Value)} {oc dc pm cd ct : Value} (a : PySem.W.nsIn K mainGlobals "BadCells" = some (some (.ref C))) (x : K.lookup C = some (excClassObj nm q C N bs [.ref R, .type "ValueError", .type "Exception", .type "BaseException", .type "object"] true sn sub ab col dd m0 m1 m2 m3 m5 "ValueError.__new__")) (sa : PySem.W.findIn K (.ref C) "__setattr__" = some (some (.builtin "object.__setattr__"))) (ga : PySem.W.findIn K (.ref C) "__getattribute__" = some (some (.builtin "BaseException.__getattribute__"))) (gg : PySem.W.findIn K (.ref C) "__getattr__" = some none) (nb : PySem.W.findIn K (.ref C) "cells" = some none) (at_ : PySem.W.findIn K (.ref C) "__init__" = some (some (.ref fi))) (t : PySem.W.typeIn K (.ref fi) = some (.type "function")) (l : K.lookup fi = some ⟨oc, od, .func (PySem.W.fnOf "__init__" "BadCells.__init__" (PySem.LowX_BadCells.iA ⟨38, 17, 38, 21⟩ ⟨38, 23, 38, 28⟩) (PySem.LowX_BadCells.iB ⟨39, 8, 39, 12⟩ ⟨39, 8, 39, 18⟩ ⟨39, 21, 39, 26⟩ ⟨39, 8, 39, 26⟩) PySem.LowX_BadCells.iS .none .none dc pm an cd ct), sl⟩) (c : PySem.W.codeIn K cd "BadCells.__init__" = true) (kc : PySem.W.keepIn K (.ref C) = true) (e : PySem.W.subIn K (.ref C) (.type "BaseException") = some true) (ty : PySem.W.typeIn K (.ref C) = some (.type "type")) (hd : PySem.W.hasDictIn K C = true) (ic : PySem.W.isClsIn K C = true) (ss : PySem.W.subIn K (.ref C) (.ref C) = some true) (ca : PySem.W.findIn K (.ref C) "__class__" = some (some (.builtin "object.__class__"))) : ErrOk K mg R C "BadCells" (PySem.LowX_BadCells.LowTxt_BadCells K mg C fi) := by
  have hx : PySem.W.clsIn K C = some { name := nm, bases := bs, mro := [.ref C, .ref R, .type "ValueError", .type "Exception", .type "BaseException", .type "object"], ns := N, qualname := q, hasDict := true, slotNames := sn, subclasses := sub, abstract := ab, collection := col, hasDel := false } := by unfold PySem.W.clsIn; rw [x] <;> rfl
  have y : MroF K R C := ⟨⟨_, hx, rfl⟩, ty⟩
  exact ⟨PySem.W.mg_of X G a, { gC := PySem.W.mg_of X G a, cls := ⟨_, _, _, _, _, _, _, _, _, _, _, _, _, _, _, x, by rfl⟩, sa := sa, ga := ga, gg := gg, noN := nb, iC := at_, tC := t, kC := kc, exC := e, tyC := ty, hdC := hd, te := exm_self e ic ty ss, fn := ⟨_, _, _, _, _, _, _, _, _, _, _, _, _, _, l, c⟩ }, y, y.cls ga gg ca qn qt hd⟩
theorem mk_UnknownName {K : PySem.W.Frag} {h : Heap} {mg : Str → Option Value} {R C fi : Addr} (X : K.In h) (G : h.Ns mainGlobals mg) (qn : PySem.W.specialIn K (.builtin "object.__class__") "__get__" = some (some (.builtin "getset_descriptor.__get__"))) (qt : PySem.W.takesIn K (.builtin "object.__class__") = some true) {nm q : Str} {N : Addr} {bs : List Value} {sn : List Str} {sub : List Value} {ab : Bool} {col : Option Bool} {dd : Option Addr} {m0 m1 m2 m3 m5 : Option Value} {od an : Option Addr} {sl : Array (Option Value)} {oc dc pm cd ct : Value} (a : PySem.W.nsIn K mainGlobals "UnknownName" = some (some (.ref C))) (x : K.lookup C = some (excClassObj nm q C N bs [.ref R, .type "ValueError", .type "Exception", .type "BaseException", .type "object"] true sn sub ab col dd m0 m1 m2 m3 m5 "ValueError.__new__")) (sa : PySem.W.findIn K (.ref C) "__setattr__" = some (some (.builtin "object.__setattr__"))) (ga : PySem.W.findIn K (.ref C) "__getattribute__" = some (some (.builtin "BaseException.__getattribute__"))) (gg : PySem.W.findIn K (.ref C) "__getattr__" = some none) (nb : PySem.W.findIn K (.ref C) "name" = some none) (at_ : PySem.W.findIn K (.ref C) "__init__" = some (some (.ref fi))) (t : PySem.W.typeIn K (.ref fi) = some (.type "function")) (l : K.lookup fi = some ⟨oc, od, .func (PySem.W.fnOf "__init__" "UnknownName.__init__" (PySem.LowX_UnknownName.iA ⟨42, 17, 42, 21⟩ ⟨42, 23, 42, 27⟩) (PySem.LowX_UnknownName.iB ⟨43, 8, 43, 12⟩ ⟨43, 8, 43, 17⟩ ⟨43, 20, 43, 24⟩ ⟨43, 8, 43, 24⟩) PySem.LowX_UnknownName.iS .none .none dc pm an cd ct), sl⟩) (c : PySem.W.codeIn K cd "UnknownName.__init__" = true) (kc : PySem.W.keepIn K (.ref C) = true) (e : PySem.W.subIn K (.ref C) (.type "BaseException") = some true) (ty : PySem.W.typeIn K (.ref C) = some (.type "type")) (hd : PySem.W.hasDictIn K C = true) (ic : PySem.W.isClsIn K C = true) (ss : PySem.W.subIn K (.ref C) (.ref C) = some true) (ca : PySem.W.findIn K (.ref C) "__class__" = some (some (.builtin "object.__class__"))) : ErrOk K mg R C "UnknownName" (PySem.LowX_UnknownName.LowTxt_UnknownName K mg C fi) := by
  have hx : PySem.W.clsIn K C = some { name := nm, bases := bs, mro := [.ref C, .ref R, .type "ValueError", .type "Exception", .type "BaseException", .type "object"], ns := N, qualname := q, hasDict := true, slotNames := sn, subclasses := sub, abstract := ab, collection := col, hasDel := false } := by unfold PySem.W.clsIn; rw [x] <;> rfl
  have y : MroF K R C := ⟨⟨_, hx, rfl⟩, ty⟩
  exact ⟨PySem.W.mg_of X G a, { gC := PySem.W.mg_of X G a, cls := ⟨_, _, _, _, _, _, _, _, _, _, _, _, _, _, _, x, by rfl⟩, sa := sa, ga := ga, gg := gg, noN := nb, iC := at_, tC := t, kC := kc, exC := e, tyC := ty, hdC := hd, te := exm_self e ic ty ss, fn := ⟨_, _, _, _, _, _, _, _, _, _, _, _, _, _, l, c⟩ }, y, y.cls ga gg ca qn qt hd⟩
theorem mk_NotSaid {K : PySem.W.Frag} {h : Heap} {mg : Str → Option Value} {R C fi : Addr} (X : K.In h) (G : h.Ns mainGlobals mg) (qn : PySem.W.specialIn K (.builtin "object.__class__") "__get__" = some (some (.builtin "getset_descriptor.__get__"))) (qt : PySem.W.takesIn K (.builtin "object.__class__") = some true) {nm q : Str} {N : Addr} {bs : List Value} {sn : List Str} {sub : List Value} {ab : Bool} {col : Option Bool} {dd : Option Addr} {m0 m1 m2 m3 m5 : Option Value} {od an : Option Addr} {sl : Array (Option Value)} {oc dc pm cd ct : Value} (a : PySem.W.nsIn K mainGlobals "NotSaid" = some (some (.ref C))) (x : K.lookup C = some (excClassObj nm q C N bs [.ref R, .type "ValueError", .type "Exception", .type "BaseException", .type "object"] true sn sub ab col dd m0 m1 m2 m3 m5 "ValueError.__new__")) (sa : PySem.W.findIn K (.ref C) "__setattr__" = some (some (.builtin "object.__setattr__"))) (ga : PySem.W.findIn K (.ref C) "__getattribute__" = some (some (.builtin "BaseException.__getattribute__"))) (gg : PySem.W.findIn K (.ref C) "__getattr__" = some none) (nb : PySem.W.findIn K (.ref C) "chance" = some none) (at_ : PySem.W.findIn K (.ref C) "__init__" = some (some (.ref fi))) (t : PySem.W.typeIn K (.ref fi) = some (.type "function")) (l : K.lookup fi = some ⟨oc, od, .func (PySem.W.fnOf "__init__" "NotSaid.__init__" (PySem.LowX_NotSaid.iA ⟨46, 17, 46, 21⟩ ⟨46, 23, 46, 29⟩) (PySem.LowX_NotSaid.iB ⟨47, 8, 47, 12⟩ ⟨47, 8, 47, 19⟩ ⟨47, 22, 47, 28⟩ ⟨47, 8, 47, 28⟩) PySem.LowX_NotSaid.iS .none .none dc pm an cd ct), sl⟩) (c : PySem.W.codeIn K cd "NotSaid.__init__" = true) (kc : PySem.W.keepIn K (.ref C) = true) (e : PySem.W.subIn K (.ref C) (.type "BaseException") = some true) (ty : PySem.W.typeIn K (.ref C) = some (.type "type")) (hd : PySem.W.hasDictIn K C = true) (ic : PySem.W.isClsIn K C = true) (ss : PySem.W.subIn K (.ref C) (.ref C) = some true) (ca : PySem.W.findIn K (.ref C) "__class__" = some (some (.builtin "object.__class__"))) : ErrOk K mg R C "NotSaid" (PySem.LowX_NotSaid.LowTxt_NotSaid K mg C fi) := by
  have hx : PySem.W.clsIn K C = some { name := nm, bases := bs, mro := [.ref C, .ref R, .type "ValueError", .type "Exception", .type "BaseException", .type "object"], ns := N, qualname := q, hasDict := true, slotNames := sn, subclasses := sub, abstract := ab, collection := col, hasDel := false } := by unfold PySem.W.clsIn; rw [x] <;> rfl
  have y : MroF K R C := ⟨⟨_, hx, rfl⟩, ty⟩
  exact ⟨PySem.W.mg_of X G a, { gC := PySem.W.mg_of X G a, cls := ⟨_, _, _, _, _, _, _, _, _, _, _, _, _, _, _, x, by rfl⟩, sa := sa, ga := ga, gg := gg, noN := nb, iC := at_, tC := t, kC := kc, exC := e, tyC := ty, hdC := hd, te := exm_self e ic ty ss, fn := ⟨_, _, _, _, _, _, _, _, _, _, _, _, _, _, l, c⟩ }, y, y.cls ga gg ca qn qt hd⟩
theorem mk_BadChance {K : PySem.W.Frag} {h : Heap} {mg : Str → Option Value} {R C fi : Addr} (X : K.In h) (G : h.Ns mainGlobals mg) (qn : PySem.W.specialIn K (.builtin "object.__class__") "__get__" = some (some (.builtin "getset_descriptor.__get__"))) (qt : PySem.W.takesIn K (.builtin "object.__class__") = some true) {nm q : Str} {N : Addr} {bs : List Value} {sn : List Str} {sub : List Value} {ab : Bool} {col : Option Bool} {dd : Option Addr} {m0 m1 m2 m3 m5 : Option Value} {od an : Option Addr} {sl : Array (Option Value)} {oc dc pm cd ct : Value} (a : PySem.W.nsIn K mainGlobals "BadChance" = some (some (.ref C))) (x : K.lookup C = some (excClassObj nm q C N bs [.ref R, .type "ValueError", .type "Exception", .type "BaseException", .type "object"] true sn sub ab col dd m0 m1 m2 m3 m5 "ValueError.__new__")) (sa : PySem.W.findIn K (.ref C) "__setattr__" = some (some (.builtin "object.__setattr__"))) (ga : PySem.W.findIn K (.ref C) "__getattribute__" = some (some (.builtin "BaseException.__getattribute__"))) (gg : PySem.W.findIn K (.ref C) "__getattr__" = some none) (nb : PySem.W.findIn K (.ref C) "value" = some none) (at_ : PySem.W.findIn K (.ref C) "__init__" = some (some (.ref fi))) (t : PySem.W.typeIn K (.ref fi) = some (.type "function")) (l : K.lookup fi = some ⟨oc, od, .func (PySem.W.fnOf "__init__" "BadChance.__init__" (PySem.LowX_BadChance.iA ⟨50, 17, 50, 21⟩ ⟨50, 23, 50, 28⟩) (PySem.LowX_BadChance.iB ⟨51, 8, 51, 12⟩ ⟨51, 8, 51, 18⟩ ⟨51, 21, 51, 26⟩ ⟨51, 8, 51, 26⟩) PySem.LowX_BadChance.iS .none .none dc pm an cd ct), sl⟩) (c : PySem.W.codeIn K cd "BadChance.__init__" = true) (kc : PySem.W.keepIn K (.ref C) = true) (e : PySem.W.subIn K (.ref C) (.type "BaseException") = some true) (ty : PySem.W.typeIn K (.ref C) = some (.type "type")) (hd : PySem.W.hasDictIn K C = true) (ic : PySem.W.isClsIn K C = true) (ss : PySem.W.subIn K (.ref C) (.ref C) = some true) (ca : PySem.W.findIn K (.ref C) "__class__" = some (some (.builtin "object.__class__"))) : ErrOk K mg R C "BadChance" (PySem.LowX_BadChance.LowTxt_BadChance K mg C fi) := by
  have hx : PySem.W.clsIn K C = some { name := nm, bases := bs, mro := [.ref C, .ref R, .type "ValueError", .type "Exception", .type "BaseException", .type "object"], ns := N, qualname := q, hasDict := true, slotNames := sn, subclasses := sub, abstract := ab, collection := col, hasDel := false } := by unfold PySem.W.clsIn; rw [x] <;> rfl
  have y : MroF K R C := ⟨⟨_, hx, rfl⟩, ty⟩
  exact ⟨PySem.W.mg_of X G a, { gC := PySem.W.mg_of X G a, cls := ⟨_, _, _, _, _, _, _, _, _, _, _, _, _, _, _, x, by rfl⟩, sa := sa, ga := ga, gg := gg, noN := nb, iC := at_, tC := t, kC := kc, exC := e, tyC := ty, hdC := hd, te := exm_self e ic ty ss, fn := ⟨_, _, _, _, _, _, _, _, _, _, _, _, _, _, l, c⟩ }, y, y.cls ga gg ca qn qt hd⟩
theorem mk_BadActor {K : PySem.W.Frag} {h : Heap} {mg : Str → Option Value} {R C fi : Addr} (X : K.In h) (G : h.Ns mainGlobals mg) (qn : PySem.W.specialIn K (.builtin "object.__class__") "__get__" = some (some (.builtin "getset_descriptor.__get__"))) (qt : PySem.W.takesIn K (.builtin "object.__class__") = some true) {nm q : Str} {N : Addr} {bs : List Value} {sn : List Str} {sub : List Value} {ab : Bool} {col : Option Bool} {dd : Option Addr} {m0 m1 m2 m3 m5 : Option Value} {od an : Option Addr} {sl : Array (Option Value)} {oc dc pm cd ct : Value} (a : PySem.W.nsIn K mainGlobals "BadActor" = some (some (.ref C))) (x : K.lookup C = some (excClassObj nm q C N bs [.ref R, .type "ValueError", .type "Exception", .type "BaseException", .type "object"] true sn sub ab col dd m0 m1 m2 m3 m5 "ValueError.__new__")) (sa : PySem.W.findIn K (.ref C) "__setattr__" = some (some (.builtin "object.__setattr__"))) (ga : PySem.W.findIn K (.ref C) "__getattribute__" = some (some (.builtin "BaseException.__getattribute__"))) (gg : PySem.W.findIn K (.ref C) "__getattr__" = some none) (nb : PySem.W.findIn K (.ref C) "actor" = some none) (at_ : PySem.W.findIn K (.ref C) "__init__" = some (some (.ref fi))) (t : PySem.W.typeIn K (.ref fi) = some (.type "function")) (l : K.lookup fi = some ⟨oc, od, .func (PySem.W.fnOf "__init__" "BadActor.__init__" (PySem.LowX_BadActor.iA ⟨54, 17, 54, 21⟩ ⟨54, 23, 54, 28⟩) (PySem.LowX_BadActor.iB ⟨55, 8, 55, 12⟩ ⟨55, 8, 55, 18⟩ ⟨55, 21, 55, 26⟩ ⟨55, 8, 55, 26⟩) PySem.LowX_BadActor.iS .none .none dc pm an cd ct), sl⟩) (c : PySem.W.codeIn K cd "BadActor.__init__" = true) (kc : PySem.W.keepIn K (.ref C) = true) (e : PySem.W.subIn K (.ref C) (.type "BaseException") = some true) (ty : PySem.W.typeIn K (.ref C) = some (.type "type")) (hd : PySem.W.hasDictIn K C = true) (ic : PySem.W.isClsIn K C = true) (ss : PySem.W.subIn K (.ref C) (.ref C) = some true) (ca : PySem.W.findIn K (.ref C) "__class__" = some (some (.builtin "object.__class__"))) : ErrOk K mg R C "BadActor" (PySem.LowX_BadActor.LowTxt_BadActor K mg C fi) := by
  have hx : PySem.W.clsIn K C = some { name := nm, bases := bs, mro := [.ref C, .ref R, .type "ValueError", .type "Exception", .type "BaseException", .type "object"], ns := N, qualname := q, hasDict := true, slotNames := sn, subclasses := sub, abstract := ab, collection := col, hasDel := false } := by unfold PySem.W.clsIn; rw [x] <;> rfl
  have y : MroF K R C := ⟨⟨_, hx, rfl⟩, ty⟩
  exact ⟨PySem.W.mg_of X G a, { gC := PySem.W.mg_of X G a, cls := ⟨_, _, _, _, _, _, _, _, _, _, _, _, _, _, _, x, by rfl⟩, sa := sa, ga := ga, gg := gg, noN := nb, iC := at_, tC := t, kC := kc, exC := e, tyC := ty, hdC := hd, te := exm_self e ic ty ss, fn := ⟨_, _, _, _, _, _, _, _, _, _, _, _, _, _, l, c⟩ }, y, y.cls ga gg ca qn qt hd⟩
theorem mk_BadScore {K : PySem.W.Frag} {h : Heap} {mg : Str → Option Value} {R C fi : Addr} (X : K.In h) (G : h.Ns mainGlobals mg) (qn : PySem.W.specialIn K (.builtin "object.__class__") "__get__" = some (some (.builtin "getset_descriptor.__get__"))) (qt : PySem.W.takesIn K (.builtin "object.__class__") = some true) {nm q : Str} {N : Addr} {bs : List Value} {sn : List Str} {sub : List Value} {ab : Bool} {col : Option Bool} {dd : Option Addr} {m0 m1 m2 m3 m5 : Option Value} {od an : Option Addr} {sl : Array (Option Value)} {oc dc pm cd ct : Value} (a : PySem.W.nsIn K mainGlobals "BadScore" = some (some (.ref C))) (x : K.lookup C = some (excClassObj nm q C N bs [.ref R, .type "ValueError", .type "Exception", .type "BaseException", .type "object"] true sn sub ab col dd m0 m1 m2 m3 m5 "ValueError.__new__")) (sa : PySem.W.findIn K (.ref C) "__setattr__" = some (some (.builtin "object.__setattr__"))) (ga : PySem.W.findIn K (.ref C) "__getattribute__" = some (some (.builtin "BaseException.__getattribute__"))) (gg : PySem.W.findIn K (.ref C) "__getattr__" = some none) (nb : PySem.W.findIn K (.ref C) "score" = some none) (at_ : PySem.W.findIn K (.ref C) "__init__" = some (some (.ref fi))) (t : PySem.W.typeIn K (.ref fi) = some (.type "function")) (l : K.lookup fi = some ⟨oc, od, .func (PySem.W.fnOf "__init__" "BadScore.__init__" (PySem.LowX_BadScore.iA ⟨58, 17, 58, 21⟩ ⟨58, 23, 58, 28⟩) (PySem.LowX_BadScore.iB ⟨59, 8, 59, 12⟩ ⟨59, 8, 59, 18⟩ ⟨59, 21, 59, 26⟩ ⟨59, 8, 59, 26⟩) PySem.LowX_BadScore.iS .none .none dc pm an cd ct), sl⟩) (c : PySem.W.codeIn K cd "BadScore.__init__" = true) (kc : PySem.W.keepIn K (.ref C) = true) (e : PySem.W.subIn K (.ref C) (.type "BaseException") = some true) (ty : PySem.W.typeIn K (.ref C) = some (.type "type")) (hd : PySem.W.hasDictIn K C = true) (ic : PySem.W.isClsIn K C = true) (ss : PySem.W.subIn K (.ref C) (.ref C) = some true) (ca : PySem.W.findIn K (.ref C) "__class__" = some (some (.builtin "object.__class__"))) : ErrOk K mg R C "BadScore" (PySem.LowX_BadScore.LowTxt_BadScore K mg C fi) := by
  have hx : PySem.W.clsIn K C = some { name := nm, bases := bs, mro := [.ref C, .ref R, .type "ValueError", .type "Exception", .type "BaseException", .type "object"], ns := N, qualname := q, hasDict := true, slotNames := sn, subclasses := sub, abstract := ab, collection := col, hasDel := false } := by unfold PySem.W.clsIn; rw [x] <;> rfl
  have y : MroF K R C := ⟨⟨_, hx, rfl⟩, ty⟩
  exact ⟨PySem.W.mg_of X G a, { gC := PySem.W.mg_of X G a, cls := ⟨_, _, _, _, _, _, _, _, _, _, _, _, _, _, _, x, by rfl⟩, sa := sa, ga := ga, gg := gg, noN := nb, iC := at_, tC := t, kC := kc, exC := e, tyC := ty, hdC := hd, te := exm_self e ic ty ss, fn := ⟨_, _, _, _, _, _, _, _, _, _, _, _, _, _, l, c⟩ }, y, y.cls ga gg ca qn qt hd⟩
theorem mk_BadGains {K : PySem.W.Frag} {h : Heap} {mg : Str → Option Value} {R C fi : Addr} (X : K.In h) (G : h.Ns mainGlobals mg) (qn : PySem.W.specialIn K (.builtin "object.__class__") "__get__" = some (some (.builtin "getset_descriptor.__get__"))) (qt : PySem.W.takesIn K (.builtin "object.__class__") = some true) {nm q : Str} {N : Addr} {bs : List Value} {sn : List Str} {sub : List Value} {ab : Bool} {col : Option Bool} {dd : Option Addr} {m0 m1 m2 m3 m5 : Option Value} {od an : Option Addr} {sl : Array (Option Value)} {oc dc pm cd ct : Value} (a : PySem.W.nsIn K mainGlobals "BadGains" = some (some (.ref C))) (x : K.lookup C = some (excClassObj nm q C N bs [.ref R, .type "ValueError", .type "Exception", .type "BaseException", .type "object"] true sn sub ab col dd m0 m1 m2 m3 m5 "ValueError.__new__")) (sa : PySem.W.findIn K (.ref C) "__setattr__" = some (some (.builtin "object.__setattr__"))) (ga : PySem.W.findIn K (.ref C) "__getattribute__" = some (some (.builtin "BaseException.__getattribute__"))) (gg : PySem.W.findIn K (.ref C) "__getattr__" = some none) (nb : PySem.W.findIn K (.ref C) "gains" = some none) (at_ : PySem.W.findIn K (.ref C) "__init__" = some (some (.ref fi))) (t : PySem.W.typeIn K (.ref fi) = some (.type "function")) (l : K.lookup fi = some ⟨oc, od, .func (PySem.W.fnOf "__init__" "BadGains.__init__" (PySem.LowX_BadGains.iA ⟨62, 17, 62, 21⟩ ⟨62, 23, 62, 28⟩) (PySem.LowX_BadGains.iB ⟨63, 8, 63, 12⟩ ⟨63, 8, 63, 18⟩ ⟨63, 21, 63, 26⟩ ⟨63, 8, 63, 26⟩) PySem.LowX_BadGains.iS .none .none dc pm an cd ct), sl⟩) (c : PySem.W.codeIn K cd "BadGains.__init__" = true) (kc : PySem.W.keepIn K (.ref C) = true) (e : PySem.W.subIn K (.ref C) (.type "BaseException") = some true) (ty : PySem.W.typeIn K (.ref C) = some (.type "type")) (hd : PySem.W.hasDictIn K C = true) (ic : PySem.W.isClsIn K C = true) (ss : PySem.W.subIn K (.ref C) (.ref C) = some true) (ca : PySem.W.findIn K (.ref C) "__class__" = some (some (.builtin "object.__class__"))) : ErrOk K mg R C "BadGains" (PySem.LowX_BadGains.LowTxt_BadGains K mg C fi) := by
  have hx : PySem.W.clsIn K C = some { name := nm, bases := bs, mro := [.ref C, .ref R, .type "ValueError", .type "Exception", .type "BaseException", .type "object"], ns := N, qualname := q, hasDict := true, slotNames := sn, subclasses := sub, abstract := ab, collection := col, hasDel := false } := by unfold PySem.W.clsIn; rw [x] <;> rfl
  have y : MroF K R C := ⟨⟨_, hx, rfl⟩, ty⟩
  exact ⟨PySem.W.mg_of X G a, { gC := PySem.W.mg_of X G a, cls := ⟨_, _, _, _, _, _, _, _, _, _, _, _, _, _, _, x, by rfl⟩, sa := sa, ga := ga, gg := gg, noN := nb, iC := at_, tC := t, kC := kc, exC := e, tyC := ty, hdC := hd, te := exm_self e ic ty ss, fn := ⟨_, _, _, _, _, _, _, _, _, _, _, _, _, _, l, c⟩ }, y, y.cls ga gg ca qn qt hd⟩
theorem mk_BadStakes {K : PySem.W.Frag} {h : Heap} {mg : Str → Option Value} {R C fi : Addr} (X : K.In h) (G : h.Ns mainGlobals mg) (qn : PySem.W.specialIn K (.builtin "object.__class__") "__get__" = some (some (.builtin "getset_descriptor.__get__"))) (qt : PySem.W.takesIn K (.builtin "object.__class__") = some true) {nm q : Str} {N : Addr} {bs : List Value} {sn : List Str} {sub : List Value} {ab : Bool} {col : Option Bool} {dd : Option Addr} {m0 m1 m2 m3 m5 : Option Value} {od an : Option Addr} {sl : Array (Option Value)} {oc dc pm cd ct : Value} (a : PySem.W.nsIn K mainGlobals "BadStakes" = some (some (.ref C))) (x : K.lookup C = some (excClassObj nm q C N bs [.ref R, .type "ValueError", .type "Exception", .type "BaseException", .type "object"] true sn sub ab col dd m0 m1 m2 m3 m5 "ValueError.__new__")) (sa : PySem.W.findIn K (.ref C) "__setattr__" = some (some (.builtin "object.__setattr__"))) (ga : PySem.W.findIn K (.ref C) "__getattribute__" = some (some (.builtin "BaseException.__getattribute__"))) (gg : PySem.W.findIn K (.ref C) "__getattr__" = some none) (nb : PySem.W.findIn K (.ref C) "stakes" = some none) (at_ : PySem.W.findIn K (.ref C) "__init__" = some (some (.ref fi))) (t : PySem.W.typeIn K (.ref fi) = some (.type "function")) (l : K.lookup fi = some ⟨oc, od, .func (PySem.W.fnOf "__init__" "BadStakes.__init__" (PySem.LowX_BadStakes.iA ⟨66, 17, 66, 21⟩ ⟨66, 23, 66, 29⟩) (PySem.LowX_BadStakes.iB ⟨67, 8, 67, 12⟩ ⟨67, 8, 67, 19⟩ ⟨67, 22, 67, 28⟩ ⟨67, 8, 67, 28⟩) PySem.LowX_BadStakes.iS .none .none dc pm an cd ct), sl⟩) (c : PySem.W.codeIn K cd "BadStakes.__init__" = true) (kc : PySem.W.keepIn K (.ref C) = true) (e : PySem.W.subIn K (.ref C) (.type "BaseException") = some true) (ty : PySem.W.typeIn K (.ref C) = some (.type "type")) (hd : PySem.W.hasDictIn K C = true) (ic : PySem.W.isClsIn K C = true) (ss : PySem.W.subIn K (.ref C) (.ref C) = some true) (ca : PySem.W.findIn K (.ref C) "__class__" = some (some (.builtin "object.__class__"))) : ErrOk K mg R C "BadStakes" (PySem.LowX_BadStakes.LowTxt_BadStakes K mg C fi) := by
  have hx : PySem.W.clsIn K C = some { name := nm, bases := bs, mro := [.ref C, .ref R, .type "ValueError", .type "Exception", .type "BaseException", .type "object"], ns := N, qualname := q, hasDict := true, slotNames := sn, subclasses := sub, abstract := ab, collection := col, hasDel := false } := by unfold PySem.W.clsIn; rw [x] <;> rfl
  have y : MroF K R C := ⟨⟨_, hx, rfl⟩, ty⟩
  exact ⟨PySem.W.mg_of X G a, { gC := PySem.W.mg_of X G a, cls := ⟨_, _, _, _, _, _, _, _, _, _, _, _, _, _, _, x, by rfl⟩, sa := sa, ga := ga, gg := gg, noN := nb, iC := at_, tC := t, kC := kc, exC := e, tyC := ty, hdC := hd, te := exm_self e ic ty ss, fn := ⟨_, _, _, _, _, _, _, _, _, _, _, _, _, _, l, c⟩ }, y, y.cls ga gg ca qn qt hd⟩
theorem mk_NotTwo {K : PySem.W.Frag} {h : Heap} {mg : Str → Option Value} {R C fi : Addr} (X : K.In h) (G : h.Ns mainGlobals mg) (qn : PySem.W.specialIn K (.builtin "object.__class__") "__get__" = some (some (.builtin "getset_descriptor.__get__"))) (qt : PySem.W.takesIn K (.builtin "object.__class__") = some true) {nm q : Str} {N : Addr} {bs : List Value} {sn : List Str} {sub : List Value} {ab : Bool} {col : Option Bool} {dd : Option Addr} {m0 m1 m2 m3 m5 : Option Value} {od an : Option Addr} {sl : Array (Option Value)} {oc dc pm cd ct : Value} (a : PySem.W.nsIn K mainGlobals "NotTwo" = some (some (.ref C))) (x : K.lookup C = some (excClassObj nm q C N bs [.ref R, .type "ValueError", .type "Exception", .type "BaseException", .type "object"] true sn sub ab col dd m0 m1 m2 m3 m5 "ValueError.__new__")) (sa : PySem.W.findIn K (.ref C) "__setattr__" = some (some (.builtin "object.__setattr__"))) (ga : PySem.W.findIn K (.ref C) "__getattribute__" = some (some (.builtin "BaseException.__getattribute__"))) (gg : PySem.W.findIn K (.ref C) "__getattr__" = some none) (nb : PySem.W.findIn K (.ref C) "count" = some none) (at_ : PySem.W.findIn K (.ref C) "__init__" = some (some (.ref fi))) (t : PySem.W.typeIn K (.ref fi) = some (.type "function")) (l : K.lookup fi = some ⟨oc, od, .func (PySem.W.fnOf "__init__" "NotTwo.__init__" (PySem.LowX_NotTwo.iA ⟨70, 17, 70, 21⟩ ⟨70, 23, 70, 28⟩) (PySem.LowX_NotTwo.iB ⟨71, 8, 71, 12⟩ ⟨71, 8, 71, 18⟩ ⟨71, 21, 71, 26⟩ ⟨71, 8, 71, 26⟩) PySem.LowX_NotTwo.iS .none .none dc pm an cd ct), sl⟩) (c : PySem.W.codeIn K cd "NotTwo.__init__" = true) (kc : PySem.W.keepIn K (.ref C) = true) (e : PySem.W.subIn K (.ref C) (.type "BaseException") = some true) (ty : PySem.W.typeIn K (.ref C) = some (.type "type")) (hd : PySem.W.hasDictIn K C = true) (ic : PySem.W.isClsIn K C = true) (ss : PySem.W.subIn K (.ref C) (.ref C) = some true) (ca : PySem.W.findIn K (.ref C) "__class__" = some (some (.builtin "object.__class__"))) : ErrOk K mg R C "NotTwo" (PySem.LowX_NotTwo.LowTxt_NotTwo K mg C fi) := by
  have hx : PySem.W.clsIn K C = some { name := nm, bases := bs, mro := [.ref C, .ref R, .type "ValueError", .type "Exception", .type "BaseException", .type "object"], ns := N, qualname := q, hasDict := true, slotNames := sn, subclasses := sub, abstract := ab, collection := col, hasDel := false } := by unfold PySem.W.clsIn; rw [x] <;> rfl
  have y : MroF K R C := ⟨⟨_, hx, rfl⟩, ty⟩
  exact ⟨PySem.W.mg_of X G a, { gC := PySem.W.mg_of X G a, cls := ⟨_, _, _, _, _, _, _, _, _, _, _, _, _, _, _, x, by rfl⟩, sa := sa, ga := ga, gg := gg, noN := nb, iC := at_, tC := t, kC := kc, exC := e, tyC := ty, hdC := hd, te := exm_self e ic ty ss, fn := ⟨_, _, _, _, _, _, _, _, _, _, _, _, _, _, l, c⟩ }, y, y.cls ga gg ca qn qt hd⟩
theorem mk_BadCount {K : PySem.W.Frag} {h : Heap} {mg : Str → Option Value} {R C fi : Addr} (X : K.In h) (G : h.Ns mainGlobals mg) (qn : PySem.W.specialIn K (.builtin "object.__class__") "__get__" = some (some (.builtin "getset_descriptor.__get__"))) (qt : PySem.W.takesIn K (.builtin "object.__class__") = some true) {nm q : Str} {N : Addr} {bs : List Value} {sn : List Str} {sub : List Value} {ab : Bool} {col : Option Bool} {dd : Option Addr} {m0 m1 m2 m3 m5 : Option Value} {od an : Option Addr} {sl : Array (Option Value)} {oc dc pm cd ct : Value} (a : PySem.W.nsIn K mainGlobals "BadCount" = some (some (.ref C))) (x : K.lookup C = some (excClassObj nm q C N bs [.ref R, .type "ValueError", .type "Exception", .type "BaseException", .type "object"] true sn sub ab col dd m0 m1 m2 m3 m5 "ValueError.__new__")) (sa : PySem.W.findIn K (.ref C) "__setattr__" = some (some (.builtin "object.__setattr__"))) (ga : PySem.W.findIn K (.ref C) "__getattribute__" = some (some (.builtin "BaseException.__getattribute__"))) (gg : PySem.W.findIn K (.ref C) "__getattr__" = some none) (nb : PySem.W.findIn K (.ref C) "count" = some none) (at_ : PySem.W.findIn K (.ref C) "__init__" = some (some (.ref fi))) (t : PySem.W.typeIn K (.ref fi) = some (.type "function")) (l : K.lookup fi = some ⟨oc, od, .func (PySem.W.fnOf "__init__" "BadCount.__init__" (PySem.LowX_BadCount.iA ⟨74, 17, 74, 21⟩ ⟨74, 23, 74, 28⟩) (PySem.LowX_BadCount.iB ⟨75, 8, 75, 12⟩ ⟨75, 8, 75, 18⟩ ⟨75, 21, 75, 26⟩ ⟨75, 8, 75, 26⟩) PySem.LowX_BadCount.iS .none .none dc pm an cd ct), sl⟩) (c : PySem.W.codeIn K cd "BadCount.__init__" = true) (kc : PySem.W.keepIn K (.ref C) = true) (e : PySem.W.subIn K (.ref C) (.type "BaseException") = some true) (ty : PySem.W.typeIn K (.ref C) = some (.type "type")) (hd : PySem.W.hasDictIn K C = true) (ic : PySem.W.isClsIn K C = true) (ss : PySem.W.subIn K (.ref C) (.ref C) = some true) (ca : PySem.W.findIn K (.ref C) "__class__" = some (some (.builtin "object.__class__"))) : ErrOk K mg R C "BadCount" (PySem.LowX_BadCount.LowTxt_BadCount K mg C fi) := by
  have hx : PySem.W.clsIn K C = some { name := nm, bases := bs, mro := [.ref C, .ref R, .type "ValueError", .type "Exception", .type "BaseException", .type "object"], ns := N, qualname := q, hasDict := true, slotNames := sn, subclasses := sub, abstract := ab, collection := col, hasDel := false } := by unfold PySem.W.clsIn; rw [x] <;> rfl
  have y : MroF K R C := ⟨⟨_, hx, rfl⟩, ty⟩
  exact ⟨PySem.W.mg_of X G a, { gC := PySem.W.mg_of X G a, cls := ⟨_, _, _, _, _, _, _, _, _, _, _, _, _, _, _, x, by rfl⟩, sa := sa, ga := ga, gg := gg, noN := nb, iC := at_, tC := t, kC := kc, exC := e, tyC := ty, hdC := hd, te := exm_self e ic ty ss, fn := ⟨_, _, _, _, _, _, _, _, _, _, _, _, _, _, l, c⟩ }, y, y.cls ga gg ca qn qt hd⟩
theorem mk_NotReliable {K : PySem.W.Frag} {h : Heap} {mg : Str → Option Value} {R C fi : Addr} (X : K.In h) (G : h.Ns mainGlobals mg) (qn : PySem.W.specialIn K (.builtin "object.__class__") "__get__" = some (some (.builtin "getset_descriptor.__get__"))) (qt : PySem.W.takesIn K (.builtin "object.__class__") = some true) {nm q : Str} {N : Addr} {bs : List Value} {sn : List Str} {sub : List Value} {ab : Bool} {col : Option Bool} {dd : Option Addr} {m0 m1 m2 m3 m5 : Option Value} {od an : Option Addr} {sl : Array (Option Value)} {oc dc pm cd ct : Value} (a : PySem.W.nsIn K mainGlobals "NotReliable" = some (some (.ref C))) (x : K.lookup C = some (excClassObj nm q C N bs [.ref R, .type "ValueError", .type "Exception", .type "BaseException", .type "object"] true sn sub ab col dd m0 m1 m2 m3 m5 "ValueError.__new__")) (sa : PySem.W.findIn K (.ref C) "__setattr__" = some (some (.builtin "object.__setattr__"))) (ga : PySem.W.findIn K (.ref C) "__getattribute__" = some (some (.builtin "BaseException.__getattribute__"))) (gg : PySem.W.findIn K (.ref C) "__getattr__" = some none) (nb : PySem.W.findIn K (.ref C) "name" = some none) (at_ : PySem.W.findIn K (.ref C) "__init__" = some (some (.ref fi))) (t : PySem.W.typeIn K (.ref fi) = some (.type "function")) (l : K.lookup fi = some ⟨oc, od, .func (PySem.W.fnOf "__init__" "NotReliable.__init__" (PySem.LowX_NotReliable.iA ⟨78, 17, 78, 21⟩ ⟨78, 23, 78, 27⟩) (PySem.LowX_NotReliable.iB ⟨79, 8, 79, 12⟩ ⟨79, 8, 79, 17⟩ ⟨79, 20, 79, 24⟩ ⟨79, 8, 79, 24⟩) PySem.LowX_NotReliable.iS .none .none dc pm an cd ct), sl⟩) (c : PySem.W.codeIn K cd "NotReliable.__init__" = true) (kc : PySem.W.keepIn K (.ref C) = true) (e : PySem.W.subIn K (.ref C) (.type "BaseException") = some true) (ty : PySem.W.typeIn K (.ref C) = some (.type "type")) (hd : PySem.W.hasDictIn K C = true) (ic : PySem.W.isClsIn K C = true) (ss : PySem.W.subIn K (.ref C) (.ref C) = some true) (ca : PySem.W.findIn K (.ref C) "__class__" = some (some (.builtin "object.__class__"))) : ErrOk K mg R C "NotReliable" (PySem.LowX_NotReliable.LowTxt_NotReliable K mg C fi) := by
  have hx : PySem.W.clsIn K C = some { name := nm, bases := bs, mro := [.ref C, .ref R, .type "ValueError", .type "Exception", .type "BaseException", .type "object"], ns := N, qualname := q, hasDict := true, slotNames := sn, subclasses := sub, abstract := ab, collection := col, hasDel := false } := by unfold PySem.W.clsIn; rw [x] <;> rfl
  have y : MroF K R C := ⟨⟨_, hx, rfl⟩, ty⟩
  exact ⟨PySem.W.mg_of X G a, { gC := PySem.W.mg_of X G a, cls := ⟨_, _, _, _, _, _, _, _, _, _, _, _, _, _, _, x, by rfl⟩, sa := sa, ga := ga, gg := gg, noN := nb, iC := at_, tC := t, kC := kc, exC := e, tyC := ty, hdC := hd, te := exm_self e ic ty ss, fn := ⟨_, _, _, _, _, _, _, _, _, _, _, _, _, _, l, c⟩ }, y, y.cls ga gg ca qn qt hd⟩
theorem mk_BadWeight {K : PySem.W.Frag} {h : Heap} {mg : Str → Option Value} {R C fi : Addr} (X : K.In h) (G : h.Ns mainGlobals mg) (qn : PySem.W.specialIn K (.builtin "object.__class__") "__get__" = some (some (.builtin "getset_descriptor.__get__"))) (qt : PySem.W.takesIn K (.builtin "object.__class__") = some true) {nm q : Str} {N : Addr} {bs : List Value} {sn : List Str} {sub : List Value} {ab : Bool} {col : Option Bool} {dd : Option Addr} {m0 m1 m2 m3 m5 : Option Value} {od an : Option Addr} {sl : Array (Option Value)} {oc dc pm cd ct : Value} (a : PySem.W.nsIn K mainGlobals "BadWeight" = some (some (.ref C))) (x : K.lookup C = some (excClassObj nm q C N bs [.ref R, .type "ValueError", .type "Exception", .type "BaseException", .type "object"] true sn sub ab col dd m0 m1 m2 m3 m5 "ValueError.__new__")) (sa : PySem.W.findIn K (.ref C) "__setattr__" = some (some (.builtin "object.__setattr__"))) (ga : PySem.W.findIn K (.ref C) "__getattribute__" = some (some (.builtin "BaseException.__getattribute__"))) (gg : PySem.W.findIn K (.ref C) "__getattr__" = some none) (nb : PySem.W.findIn K (.ref C) "value" = some none) (at_ : PySem.W.findIn K (.ref C) "__init__" = some (some (.ref fi))) (t : PySem.W.typeIn K (.ref fi) = some (.type "function")) (l : K.lookup fi = some ⟨oc, od, .func (PySem.W.fnOf "__init__" "BadWeight.__init__" (PySem.LowX_BadWeight.iA ⟨82, 17, 82, 21⟩ ⟨82, 23, 82, 28⟩) (PySem.LowX_BadWeight.iB ⟨83, 8, 83, 12⟩ ⟨83, 8, 83, 18⟩ ⟨83, 21, 83, 26⟩ ⟨83, 8, 83, 26⟩) PySem.LowX_BadWeight.iS .none .none dc pm an cd ct), sl⟩) (c : PySem.W.codeIn K cd "BadWeight.__init__" = true) (kc : PySem.W.keepIn K (.ref C) = true) (e : PySem.W.subIn K (.ref C) (.type "BaseException") = some true) (ty : PySem.W.typeIn K (.ref C) = some (.type "type")) (hd : PySem.W.hasDictIn K C = true) (ic : PySem.W.isClsIn K C = true) (ss : PySem.W.subIn K (.ref C) (.ref C) = some true) (ca : PySem.W.findIn K (.ref C) "__class__" = some (some (.builtin "object.__class__"))) : ErrOk K mg R C "BadWeight" (PySem.LowX_BadWeight.LowTxt_BadWeight K mg C fi) := by
  have hx : PySem.W.clsIn K C = some { name := nm, bases := bs, mro := [.ref C, .ref R, .type "ValueError", .type "Exception", .type "BaseException", .type "object"], ns := N, qualname := q, hasDict := true, slotNames := sn, subclasses := sub, abstract := ab, collection := col, hasDel := false } := by unfold PySem.W.clsIn; rw [x] <;> rfl
  have y : MroF K R C := ⟨⟨_, hx, rfl⟩, ty⟩
  exact ⟨PySem.W.mg_of X G a, { gC := PySem.W.mg_of X G a, cls := ⟨_, _, _, _, _, _, _, _, _, _, _, _, _, _, _, x, by rfl⟩, sa := sa, ga := ga, gg := gg, noN := nb, iC := at_, tC := t, kC := kc, exC := e, tyC := ty, hdC := hd, te := exm_self e ic ty ss, fn := ⟨_, _, _, _, _, _, _, _, _, _, _, _, _, _, l, c⟩ }, y, y.cls ga gg ca qn qt hd⟩
theorem mk_BadPairs {K : PySem.W.Frag} {h : Heap} {mg : Str → Option Value} {R C fi : Addr} (X : K.In h) (G : h.Ns mainGlobals mg) (qn : PySem.W.specialIn K (.builtin "object.__class__") "__get__" = some (some (.builtin "getset_descriptor.__get__"))) (qt : PySem.W.takesIn K (.builtin "object.__class__") = some true) {nm q : Str} {N : Addr} {bs : List Value} {sn : List Str} {sub : List Value} {ab : Bool} {col : Option Bool} {dd : Option Addr} {m0 m1 m2 m3 m5 : Option Value} {od an : Option Addr} {sl : Array (Option Value)} {oc dc pm cd ct : Value} (a : PySem.W.nsIn K mainGlobals "BadPairs" = some (some (.ref C))) (x : K.lookup C = some (excClassObj nm q C N bs [.ref R, .type "ValueError", .type "Exception", .type "BaseException", .type "object"] true sn sub ab col dd m0 m1 m2 m3 m5 "ValueError.__new__")) (sa : PySem.W.findIn K (.ref C) "__setattr__" = some (some (.builtin "object.__setattr__"))) (ga : PySem.W.findIn K (.ref C) "__getattribute__" = some (some (.builtin "BaseException.__getattribute__"))) (gg : PySem.W.findIn K (.ref C) "__getattr__" = some none) (nb : PySem.W.findIn K (.ref C) "pairs" = some none) (at_ : PySem.W.findIn K (.ref C) "__init__" = some (some (.ref fi))) (t : PySem.W.typeIn K (.ref fi) = some (.type "function")) (l : K.lookup fi = some ⟨oc, od, .func (PySem.W.fnOf "__init__" "BadPairs.__init__" (PySem.LowX_BadPairs.iA ⟨86, 17, 86, 21⟩ ⟨86, 23, 86, 28⟩) (PySem.LowX_BadPairs.iB ⟨87, 8, 87, 12⟩ ⟨87, 8, 87, 18⟩ ⟨87, 21, 87, 26⟩ ⟨87, 8, 87, 26⟩) PySem.LowX_BadPairs.iS .none .none dc pm an cd ct), sl⟩) (c : PySem.W.codeIn K cd "BadPairs.__init__" = true) (kc : PySem.W.keepIn K (.ref C) = true) (e : PySem.W.subIn K (.ref C) (.type "BaseException") = some true) (ty : PySem.W.typeIn K (.ref C) = some (.type "type")) (hd : PySem.W.hasDictIn K C = true) (ic : PySem.W.isClsIn K C = true) (ss : PySem.W.subIn K (.ref C) (.ref C) = some true) (ca : PySem.W.findIn K (.ref C) "__class__" = some (some (.builtin "object.__class__"))) : ErrOk K mg R C "BadPairs" (PySem.LowX_BadPairs.LowTxt_BadPairs K mg C fi) := by
  have hx : PySem.W.clsIn K C = some { name := nm, bases := bs, mro := [.ref C, .ref R, .type "ValueError", .type "Exception", .type "BaseException", .type "object"], ns := N, qualname := q, hasDict := true, slotNames := sn, subclasses := sub, abstract := ab, collection := col, hasDel := false } := by unfold PySem.W.clsIn; rw [x] <;> rfl
  have y : MroF K R C := ⟨⟨_, hx, rfl⟩, ty⟩
  exact ⟨PySem.W.mg_of X G a, { gC := PySem.W.mg_of X G a, cls := ⟨_, _, _, _, _, _, _, _, _, _, _, _, _, _, _, x, by rfl⟩, sa := sa, ga := ga, gg := gg, noN := nb, iC := at_, tC := t, kC := kc, exC := e, tyC := ty, hdC := hd, te := exm_self e ic ty ss, fn := ⟨_, _, _, _, _, _, _, _, _, _, _, _, _, _, l, c⟩ }, y, y.cls ga gg ca qn qt hd⟩
theorem mk_BadProfile {K : PySem.W.Frag} {h : Heap} {mg : Str → Option Value} {R C fi : Addr} (X : K.In h) (G : h.Ns mainGlobals mg) (qn : PySem.W.specialIn K (.builtin "object.__class__") "__get__" = some (some (.builtin "getset_descriptor.__get__"))) (qt : PySem.W.takesIn K (.builtin "object.__class__") = some true) {nm q : Str} {N : Addr} {bs : List Value} {sn : List Str} {sub : List Value} {ab : Bool} {col : Option Bool} {dd : Option Addr} {m0 m1 m2 m3 m5 : Option Value} {od an : Option Addr} {sl : Array (Option Value)} {oc dc pm cd ct : Value} (a : PySem.W.nsIn K mainGlobals "BadProfile" = some (some (.ref C))) (x : K.lookup C = some (excClassObj nm q C N bs [.ref R, .type "ValueError", .type "Exception", .type "BaseException", .type "object"] true sn sub ab col dd m0 m1 m2 m3 m5 "ValueError.__new__")) (sa : PySem.W.findIn K (.ref C) "__setattr__" = some (some (.builtin "object.__setattr__"))) (ga : PySem.W.findIn K (.ref C) "__getattribute__" = some (some (.builtin "BaseException.__getattribute__"))) (gg : PySem.W.findIn K (.ref C) "__getattr__" = some none) (nb : PySem.W.findIn K (.ref C) "profile" = some none) (at_ : PySem.W.findIn K (.ref C) "__init__" = some (some (.ref fi))) (t : PySem.W.typeIn K (.ref fi) = some (.type "function")) (l : K.lookup fi = some ⟨oc, od, .func (PySem.W.fnOf "__init__" "BadProfile.__init__" (PySem.LowX_BadProfile.iA ⟨90, 17, 90, 21⟩ ⟨90, 23, 90, 30⟩) (PySem.LowX_BadProfile.iB ⟨91, 8, 91, 12⟩ ⟨91, 8, 91, 20⟩ ⟨91, 23, 91, 30⟩ ⟨91, 8, 91, 30⟩) PySem.LowX_BadProfile.iS .none .none dc pm an cd ct), sl⟩) (c : PySem.W.codeIn K cd "BadProfile.__init__" = true) (kc : PySem.W.keepIn K (.ref C) = true) (e : PySem.W.subIn K (.ref C) (.type "BaseException") = some true) (ty : PySem.W.typeIn K (.ref C) = some (.type "type")) (hd : PySem.W.hasDictIn K C = true) (ic : PySem.W.isClsIn K C = true) (ss : PySem.W.subIn K (.ref C) (.ref C) = some true) (ca : PySem.W.findIn K (.ref C) "__class__" = some (some (.builtin "object.__class__"))) : ErrOk K mg R C "BadProfile" (PySem.LowX_BadProfile.LowTxt_BadProfile K mg C fi) := by
  have hx : PySem.W.clsIn K C = some { name := nm, bases := bs, mro := [.ref C, .ref R, .type "ValueError", .type "Exception", .type "BaseException", .type "object"], ns := N, qualname := q, hasDict := true, slotNames := sn, subclasses := sub, abstract := ab, collection := col, hasDel := false } := by unfold PySem.W.clsIn; rw [x] <;> rfl
  have y : MroF K R C := ⟨⟨_, hx, rfl⟩, ty⟩
  exact ⟨PySem.W.mg_of X G a, { gC := PySem.W.mg_of X G a, cls := ⟨_, _, _, _, _, _, _, _, _, _, _, _, _, _, _, x, by rfl⟩, sa := sa, ga := ga, gg := gg, noN := nb, iC := at_, tC := t, kC := kc, exC := e, tyC := ty, hdC := hd, te := exm_self e ic ty ss, fn := ⟨_, _, _, _, _, _, _, _, _, _, _, _, _, _, l, c⟩ }, y, y.cls ga gg ca qn qt hd⟩
theorem all_mk {l : PySem.W.OpenLaw} {w : World} {K : PySem.W.Frag} {h : Heap} {mg : Str → Option Value} {fa f__law_start f__law_draw f__law_bare f__law_pairs f__law_held f__law_kinds f__law_right f_law C_BadNumber fi_BadNumber C_BadPeople fi_BadPeople C_BadLines fi_BadLines C_BadLine fi_BadLine C_NoCell fi_NoCell C_BadCells fi_BadCells C_UnknownName fi_UnknownName C_NotSaid fi_NotSaid C_BadChance fi_BadChance C_BadActor fi_BadActor C_BadScore fi_BadScore C_BadGains fi_BadGains C_BadStakes fi_BadStakes C_NotTwo fi_NotTwo C_BadCount fi_BadCount C_NotReliable fi_NotReliable C_BadWeight fi_BadWeight C_BadPairs fi_BadPairs C_BadProfile fi_BadProfile C_ByZero C_BadText C_OpenDays C_NoOutcomes C_NothingToUndo C_UnlikeProfiles : Addr} (X : K.In h) (G : h.Ns mainGlobals mg) (hfa : mg "law" = some (.ref fa))
    {od__law_start an__law_start : Option Addr} {sl__law_start : Array (Option Value)} {oc__law_start kV__law_start dc__law_start pm__law_start cd__law_start ct__law_start : Value} {od__law_draw an__law_draw : Option Addr} {sl__law_draw : Array (Option Value)} {oc__law_draw kV__law_draw dc__law_draw pm__law_draw cd__law_draw ct__law_draw : Value} {od__law_bare an__law_bare : Option Addr} {sl__law_bare : Array (Option Value)} {oc__law_bare kV__law_bare dc__law_bare pm__law_bare cd__law_bare ct__law_bare : Value} {od__law_pairs an__law_pairs : Option Addr} {sl__law_pairs : Array (Option Value)} {oc__law_pairs kV__law_pairs dc__law_pairs pm__law_pairs cd__law_pairs ct__law_pairs : Value} {od__law_held an__law_held : Option Addr} {sl__law_held : Array (Option Value)} {oc__law_held kV__law_held dc__law_held pm__law_held cd__law_held ct__law_held : Value} {od__law_kinds an__law_kinds : Option Addr} {sl__law_kinds : Array (Option Value)} {oc__law_kinds kV__law_kinds dc__law_kinds pm__law_kinds cd__law_kinds ct__law_kinds : Value} {od__law_right an__law_right : Option Addr} {sl__law_right : Array (Option Value)} {oc__law_right kV__law_right dc__law_right pm__law_right cd__law_right ct__law_right : Value} {od_law an_law : Option Addr} {sl_law : Array (Option Value)} {oc_law kV_law dc_law pm_law cd_law ct_law : Value} {R : Addr}
    (a__law_start : PySem.W.nsIn K mainGlobals "_law_start" = some (some (.ref f__law_start)))
    (l__law_start : K.lookup f__law_start = some ⟨oc__law_start, od__law_start, .func (PySem.W.fnOf "_law_start" "_law_start" (defArgs s__law_start) (defBody s__law_start) (defScope s__law_start) .none kV__law_start dc__law_start pm__law_start an__law_start cd__law_start ct__law_start), sl__law_start⟩)
    (c__law_start : PySem.W.codeIn K cd__law_start "_law_start" = true)
    (k__law_start : PySem.W.keepIn K (.ref f__law_start) = true)
    (a__law_draw : PySem.W.nsIn K mainGlobals "_law_draw" = some (some (.ref f__law_draw)))
    (l__law_draw : K.lookup f__law_draw = some ⟨oc__law_draw, od__law_draw, .func (PySem.W.fnOf "_law_draw" "_law_draw" (defArgs s__law_draw) (defBody s__law_draw) (defScope s__law_draw) .none kV__law_draw dc__law_draw pm__law_draw an__law_draw cd__law_draw ct__law_draw), sl__law_draw⟩)
    (c__law_draw : PySem.W.codeIn K cd__law_draw "_law_draw" = true)
    (k__law_draw : PySem.W.keepIn K (.ref f__law_draw) = true)
    (a__law_bare : PySem.W.nsIn K mainGlobals "_law_bare" = some (some (.ref f__law_bare)))
    (l__law_bare : K.lookup f__law_bare = some ⟨oc__law_bare, od__law_bare, .func (PySem.W.fnOf "_law_bare" "_law_bare" (defArgs s__law_bare) (defBody s__law_bare) (defScope s__law_bare) .none kV__law_bare dc__law_bare pm__law_bare an__law_bare cd__law_bare ct__law_bare), sl__law_bare⟩)
    (c__law_bare : PySem.W.codeIn K cd__law_bare "_law_bare" = true)
    (k__law_bare : PySem.W.keepIn K (.ref f__law_bare) = true)
    (a__law_pairs : PySem.W.nsIn K mainGlobals "_law_pairs" = some (some (.ref f__law_pairs)))
    (l__law_pairs : K.lookup f__law_pairs = some ⟨oc__law_pairs, od__law_pairs, .func (PySem.W.fnOf "_law_pairs" "_law_pairs" (defArgs s__law_pairs) (defBody s__law_pairs) (defScope s__law_pairs) .none kV__law_pairs dc__law_pairs pm__law_pairs an__law_pairs cd__law_pairs ct__law_pairs), sl__law_pairs⟩)
    (c__law_pairs : PySem.W.codeIn K cd__law_pairs "_law_pairs" = true)
    (k__law_pairs : PySem.W.keepIn K (.ref f__law_pairs) = true)
    (a__law_held : PySem.W.nsIn K mainGlobals "_law_held" = some (some (.ref f__law_held)))
    (l__law_held : K.lookup f__law_held = some ⟨oc__law_held, od__law_held, .func (PySem.W.fnOf "_law_held" "_law_held" (defArgs s__law_held) (defBody s__law_held) (defScope s__law_held) .none kV__law_held dc__law_held pm__law_held an__law_held cd__law_held ct__law_held), sl__law_held⟩)
    (c__law_held : PySem.W.codeIn K cd__law_held "_law_held" = true)
    (k__law_held : PySem.W.keepIn K (.ref f__law_held) = true)
    (a__law_kinds : PySem.W.nsIn K mainGlobals "_law_kinds" = some (some (.ref f__law_kinds)))
    (l__law_kinds : K.lookup f__law_kinds = some ⟨oc__law_kinds, od__law_kinds, .func (PySem.W.fnOf "_law_kinds" "_law_kinds" (defArgs s__law_kinds) (defBody s__law_kinds) (defScope s__law_kinds) .none kV__law_kinds dc__law_kinds pm__law_kinds an__law_kinds cd__law_kinds ct__law_kinds), sl__law_kinds⟩)
    (c__law_kinds : PySem.W.codeIn K cd__law_kinds "_law_kinds" = true)
    (k__law_kinds : PySem.W.keepIn K (.ref f__law_kinds) = true)
    (a__law_right : PySem.W.nsIn K mainGlobals "_law_right" = some (some (.ref f__law_right)))
    (l__law_right : K.lookup f__law_right = some ⟨oc__law_right, od__law_right, .func (PySem.W.fnOf "_law_right" "_law_right" (defArgs s__law_right) (defBody s__law_right) (defScope s__law_right) .none kV__law_right dc__law_right pm__law_right an__law_right cd__law_right ct__law_right), sl__law_right⟩)
    (c__law_right : PySem.W.codeIn K cd__law_right "_law_right" = true)
    (k__law_right : PySem.W.keepIn K (.ref f__law_right) = true)
    (a_law : PySem.W.nsIn K mainGlobals "law" = some (some (.ref f_law)))
    (l_law : K.lookup f_law = some ⟨oc_law, od_law, .func (PySem.W.fnOf "law" "law" (defArgs s_law) (defBody s_law) (defScope s_law) .none kV_law dc_law pm_law an_law cd_law ct_law), sl_law⟩)
    (c_law : PySem.W.codeIn K cd_law "law" = true)
    (k_law : PySem.W.keepIn K (.ref f_law) = true)
    (o_BadNumber : ErrOk K mg R C_BadNumber "BadNumber" (PySem.LowX_BadNumber.LowTxt_BadNumber K mg C_BadNumber fi_BadNumber))
    (o_BadPeople : ErrOk K mg R C_BadPeople "BadPeople" (PySem.LowX_BadPeople.LowTxt_BadPeople K mg C_BadPeople fi_BadPeople))
    (o_BadLines : ErrOk K mg R C_BadLines "BadLines" (PySem.LowX_BadLines.LowTxt_BadLines K mg C_BadLines fi_BadLines))
    (o_BadLine : ErrOk K mg R C_BadLine "BadLine" (PySem.LowX_BadLine.LowTxt_BadLine K mg C_BadLine fi_BadLine))
    (o_NoCell : ErrOk K mg R C_NoCell "NoCell" (PySem.LowX_NoCell.LowTxt_NoCell K mg C_NoCell fi_NoCell))
    (o_BadCells : ErrOk K mg R C_BadCells "BadCells" (PySem.LowX_BadCells.LowTxt_BadCells K mg C_BadCells fi_BadCells))
    (o_UnknownName : ErrOk K mg R C_UnknownName "UnknownName" (PySem.LowX_UnknownName.LowTxt_UnknownName K mg C_UnknownName fi_UnknownName))
    (o_NotSaid : ErrOk K mg R C_NotSaid "NotSaid" (PySem.LowX_NotSaid.LowTxt_NotSaid K mg C_NotSaid fi_NotSaid))
    (o_BadChance : ErrOk K mg R C_BadChance "BadChance" (PySem.LowX_BadChance.LowTxt_BadChance K mg C_BadChance fi_BadChance))
    (o_BadActor : ErrOk K mg R C_BadActor "BadActor" (PySem.LowX_BadActor.LowTxt_BadActor K mg C_BadActor fi_BadActor))
    (o_BadScore : ErrOk K mg R C_BadScore "BadScore" (PySem.LowX_BadScore.LowTxt_BadScore K mg C_BadScore fi_BadScore))
    (o_BadGains : ErrOk K mg R C_BadGains "BadGains" (PySem.LowX_BadGains.LowTxt_BadGains K mg C_BadGains fi_BadGains))
    (o_BadStakes : ErrOk K mg R C_BadStakes "BadStakes" (PySem.LowX_BadStakes.LowTxt_BadStakes K mg C_BadStakes fi_BadStakes))
    (o_NotTwo : ErrOk K mg R C_NotTwo "NotTwo" (PySem.LowX_NotTwo.LowTxt_NotTwo K mg C_NotTwo fi_NotTwo))
    (o_BadCount : ErrOk K mg R C_BadCount "BadCount" (PySem.LowX_BadCount.LowTxt_BadCount K mg C_BadCount fi_BadCount))
    (o_NotReliable : ErrOk K mg R C_NotReliable "NotReliable" (PySem.LowX_NotReliable.LowTxt_NotReliable K mg C_NotReliable fi_NotReliable))
    (o_BadWeight : ErrOk K mg R C_BadWeight "BadWeight" (PySem.LowX_BadWeight.LowTxt_BadWeight K mg C_BadWeight fi_BadWeight))
    (o_BadPairs : ErrOk K mg R C_BadPairs "BadPairs" (PySem.LowX_BadPairs.LowTxt_BadPairs K mg C_BadPairs fi_BadPairs))
    (o_BadProfile : ErrOk K mg R C_BadProfile "BadProfile" (PySem.LowX_BadProfile.LowTxt_BadProfile K mg C_BadProfile fi_BadProfile))
    (o_ByZero : BareOk K mg R C_ByZero "ByZero")
    (o_BadText : BareOk K mg R C_BadText "BadText")
    (o_OpenDays : BareOk K mg R C_OpenDays "OpenDays")
    (o_NoOutcomes : BareOk K mg R C_NoOutcomes "NoOutcomes")
    (o_NothingToUndo : BareOk K mg R C_NothingToUndo "NothingToUndo")
    (o_UnlikeProfiles : BareOk K mg R C_UnlikeProfiles "UnlikeProfiles")
    (q_cn : PySem.W.specialIn K (.builtin "object.__class__") "__get__" = some (some (.builtin "getset_descriptor.__get__")))
    (q_ct : PySem.W.takesIn K (.builtin "object.__class__") = some true)
    (a_RainError : PySem.W.nsIn K mainGlobals "RainError" = some (some (.ref R)))
    (q_r1 : PySem.W.isClsIn K R = true)
    (q_r2 : PySem.W.typeIn K (.ref R) = some (.type "type"))
    (q_nd : [R, C_ByZero, C_BadText, C_OpenDays, C_NoOutcomes, C_NothingToUndo, C_UnlikeProfiles, C_BadNumber, C_BadPeople, C_BadLines, C_BadLine, C_NoCell, C_BadCells, C_UnknownName, C_NotSaid, C_BadChance, C_BadActor, C_BadScore, C_BadGains, C_BadStakes, C_NotTwo, C_BadCount, C_NotReliable, C_BadWeight, C_BadPairs, C_BadProfile].Nodup)
    (z_sum : PySem.W.nsIn K mainGlobals "sum" = some none)
    (z_abs : PySem.W.nsIn K mainGlobals "abs" = some none)
    (z_list : PySem.W.nsIn K mainGlobals "list" = some none)
    (z_int : PySem.W.nsIn K mainGlobals "int" = some none)
    (z_len : PySem.W.nsIn K mainGlobals "len" = some none)
    (z_range : PySem.W.nsIn K mainGlobals "range" = some none)
    (z_repr : PySem.W.nsIn K mainGlobals "repr" = some none)
    (z_isinstance : PySem.W.nsIn K mainGlobals "isinstance" = some none)
    (z_ValueError : PySem.W.nsIn K mainGlobals "ValueError" = some none)
    : ∃ fd : FuncData, (∀ (s : Shared) (v : Value), BindsTo s fd ⟨[v], []⟩ [("_law_script", v)]) ∧ ∀ base : Heap, K.In base → base.Ns mainGlobals mg → FnG l.prog w K mg base CX0 5 fa fd ["_law_script"] (LawK.spLaw K) := by
  have e := hfa.symm.trans (PySem.W.mg_of X G a_law)
  cases e
  have F__law_start := fun_mk (st := s__law_start) l__law_start c__law_start k__law_start
  have b__law_start := F__law_start.binds (ps := ["_law_script"]) fun _ _ _ _ _ _ us hl => match us, hl with | [_], _ => rfl
  have F__law_draw := fun_mk (st := s__law_draw) l__law_draw c__law_draw k__law_draw
  have b__law_draw := F__law_draw.binds (ps := ["_law_box", "_law_size"]) fun _ _ _ _ _ _ us hl => match us, hl with | [_, _], _ => rfl
  have F__law_bare := fun_mk (st := s__law_bare) l__law_bare c__law_bare k__law_bare
  have b__law_bare := F__law_bare.binds (ps := []) fun _ _ _ _ _ _ us hl => match us, hl with | [], _ => rfl
  have F__law_pairs := fun_mk (st := s__law_pairs) l__law_pairs c__law_pairs k__law_pairs
  have b__law_pairs := F__law_pairs.binds (ps := ["_law_thing"]) fun _ _ _ _ _ _ us hl => match us, hl with | [_], _ => rfl
  have F__law_held := fun_mk (st := s__law_held) l__law_held c__law_held k__law_held
  have b__law_held := F__law_held.binds (ps := ["_law_error", "_law_field"]) fun _ _ _ _ _ _ us hl => match us, hl with | [_, _], _ => rfl
  have F__law_kinds := fun_mk (st := s__law_kinds) l__law_kinds c__law_kinds k__law_kinds
  have b__law_kinds := F__law_kinds.binds (ps := ["_law_error"]) fun _ _ _ _ _ _ us hl => match us, hl with | [_], _ => rfl
  have F__law_right := fun_mk (st := s__law_right) l__law_right c__law_right k__law_right
  have b__law_right := F__law_right.binds (ps := ["_law_error"]) fun _ _ _ _ _ _ us hl => match us, hl with | [_], _ => rfl
  have F_law := fun_mk (st := s_law) l_law c_law k_law
  have b_law := F_law.binds (ps := ["_law_script"]) fun _ _ _ _ _ _ us hl => match us, hl with | [_], _ => rfl
  have KT : Kits K [C_ByZero, C_BadText, C_OpenDays, C_NoOutcomes, C_NothingToUndo, C_UnlikeProfiles, C_BadNumber, C_BadPeople, C_BadLines, C_BadLine, C_NoCell, C_BadCells, C_UnknownName, C_NotSaid, C_BadChance, C_BadActor, C_BadScore, C_BadGains, C_BadStakes, C_NotTwo, C_BadCount, C_NotReliable, C_BadWeight, C_BadPairs, C_BadProfile] R := ⟨(all_c o_ByZero.m (all_c o_BadText.m (all_c o_OpenDays.m (all_c o_NoOutcomes.m (all_c o_NothingToUndo.m (all_c o_UnlikeProfiles.m (all_c o_BadNumber.m (all_c o_BadPeople.m (all_c o_BadLines.m (all_c o_BadLine.m (all_c o_NoCell.m (all_c o_BadCells.m (all_c o_UnknownName.m (all_c o_NotSaid.m (all_c o_BadChance.m (all_c o_BadActor.m (all_c o_BadScore.m (all_c o_BadGains.m (all_c o_BadStakes.m (all_c o_NotTwo.m (all_c o_BadCount.m (all_c o_NotReliable.m (all_c o_BadWeight.m (all_c o_BadPairs.m (all_c o_BadProfile.m all_n))))))))))))))))))))))))), (all_c o_ByZero.c (all_c o_BadText.c (all_c o_OpenDays.c (all_c o_NoOutcomes.c (all_c o_NothingToUndo.c (all_c o_UnlikeProfiles.c (all_c o_BadNumber.c (all_c o_BadPeople.c (all_c o_BadLines.c (all_c o_BadLine.c (all_c o_NoCell.c (all_c o_BadCells.c (all_c o_UnknownName.c (all_c o_NotSaid.c (all_c o_BadChance.c (all_c o_BadActor.c (all_c o_BadScore.c (all_c o_BadGains.c (all_c o_BadStakes.c (all_c o_NotTwo.c (all_c o_BadCount.c (all_c o_NotReliable.c (all_c o_BadWeight.c (all_c o_BadPairs.c (all_c o_BadProfile.c all_n))))))))))))))))))))))))), q_nd, q_r1, q_r2⟩
  have T : ETxt K mg ⟨C_ByZero, C_BadText, C_OpenDays, C_NoOutcomes, C_NothingToUndo, C_UnlikeProfiles, C_BadNumber, C_BadPeople, C_BadLines, C_BadLine, C_NoCell, C_BadCells, C_UnknownName, C_NotSaid, C_BadChance, C_BadActor, C_BadScore, C_BadGains, C_BadStakes, C_NotTwo, C_BadCount, C_NotReliable, C_BadWeight, C_BadPairs, C_BadProfile, R⟩ ⟨fa, fa, fa, fa, fa, fa, fi_BadNumber, fi_BadPeople, fi_BadLines, fi_BadLine, fi_NoCell, fi_BadCells, fi_UnknownName, fi_NotSaid, fi_BadChance, fi_BadActor, fi_BadScore, fi_BadGains, fi_BadStakes, fi_NotTwo, fi_BadCount, fi_NotReliable, fi_BadWeight, fi_BadPairs, fi_BadProfile, fa⟩ := { z_sum := PySem.W.mg_none_of X G z_sum, z_abs := PySem.W.mg_none_of X G z_abs, z_list := PySem.W.mg_none_of X G z_list, z_int := PySem.W.mg_none_of X G z_int, z_len := PySem.W.mg_none_of X G z_len, z_range := PySem.W.mg_none_of X G z_range, z_repr := PySem.W.mg_none_of X G z_repr, z_isinstance := PySem.W.mg_none_of X G z_isinstance, z_ValueError := PySem.W.mg_none_of X G z_ValueError, g_RainError := ⟨_, PySem.W.mg_of X G a_RainError, rfl⟩, g_ByZero := ⟨_, o_ByZero.g, rfl⟩, g_BadText := ⟨_, o_BadText.g, rfl⟩, g_OpenDays := ⟨_, o_OpenDays.g, rfl⟩, g_NoOutcomes := ⟨_, o_NoOutcomes.g, rfl⟩, g_NothingToUndo := ⟨_, o_NothingToUndo.g, rfl⟩, g_UnlikeProfiles := ⟨_, o_UnlikeProfiles.g, rfl⟩, g_BadNumber := ⟨_, o_BadNumber.g, rfl⟩, g_BadPeople := ⟨_, o_BadPeople.g, rfl⟩, g_BadLines := ⟨_, o_BadLines.g, rfl⟩, g_BadLine := ⟨_, o_BadLine.g, rfl⟩, g_NoCell := ⟨_, o_NoCell.g, rfl⟩, g_BadCells := ⟨_, o_BadCells.g, rfl⟩, g_UnknownName := ⟨_, o_UnknownName.g, rfl⟩, g_NotSaid := ⟨_, o_NotSaid.g, rfl⟩, g_BadChance := ⟨_, o_BadChance.g, rfl⟩, g_BadActor := ⟨_, o_BadActor.g, rfl⟩, g_BadScore := ⟨_, o_BadScore.g, rfl⟩, g_BadGains := ⟨_, o_BadGains.g, rfl⟩, g_BadStakes := ⟨_, o_BadStakes.g, rfl⟩, g_NotTwo := ⟨_, o_NotTwo.g, rfl⟩, g_BadCount := ⟨_, o_BadCount.g, rfl⟩, g_NotReliable := ⟨_, o_NotReliable.g, rfl⟩, g_BadWeight := ⟨_, o_BadWeight.g, rfl⟩, g_BadPairs := ⟨_, o_BadPairs.g, rfl⟩, g_BadProfile := ⟨_, o_BadProfile.g, rfl⟩, x_ByZero := o_ByZero.e, m_ByZero := o_ByZero.g, k_ByZero := o_ByZero.k, x_BadText := o_BadText.e, m_BadText := o_BadText.g, k_BadText := o_BadText.k, x_OpenDays := o_OpenDays.e, m_OpenDays := o_OpenDays.g, k_OpenDays := o_OpenDays.k, x_NoOutcomes := o_NoOutcomes.e, m_NoOutcomes := o_NoOutcomes.g, k_NoOutcomes := o_NoOutcomes.k, x_NothingToUndo := o_NothingToUndo.e, m_NothingToUndo := o_NothingToUndo.g, k_NothingToUndo := o_NothingToUndo.k, x_UnlikeProfiles := o_UnlikeProfiles.e, m_UnlikeProfiles := o_UnlikeProfiles.g, k_UnlikeProfiles := o_UnlikeProfiles.k, l_BadNumber := o_BadNumber.l, l_BadPeople := o_BadPeople.l, l_BadLines := o_BadLines.l, l_BadLine := o_BadLine.l, l_NoCell := o_NoCell.l, l_BadCells := o_BadCells.l, l_UnknownName := o_UnknownName.l, l_NotSaid := o_NotSaid.l, l_BadChance := o_BadChance.l, l_BadActor := o_BadActor.l, l_BadScore := o_BadScore.l, l_BadGains := o_BadGains.l, l_BadStakes := o_BadStakes.l, l_NotTwo := o_NotTwo.l, l_BadCount := o_BadCount.l, l_NotReliable := o_NotReliable.l, l_BadWeight := o_BadWeight.l, l_BadPairs := o_BadPairs.l, l_BadProfile := o_BadProfile.l, kits := KT }
  refine ⟨PySem.W.fnOf "law" "law" (defArgs s_law) (defBody s_law) (defScope s_law) .none kV_law dc_law pm_law an_law cd_law ct_law, fun s v => .of_eq rfl, fun base _ _ => ?_⟩
  have cK : CalF l.prog w K mg base 1 "_law_kinds" (spKinds ⟨C_ByZero, C_BadText, C_OpenDays, C_NoOutcomes, C_NothingToUndo, C_UnlikeProfiles, C_BadNumber, C_BadPeople, C_BadLines, C_BadLine, C_NoCell, C_BadCells, C_UnknownName, C_NotSaid, C_BadChance, C_BadActor, C_BadScore, C_BadGains, C_BadStakes, C_NotTwo, C_BadCount, C_NotReliable, C_BadWeight, C_BadPairs, C_BadProfile, R⟩) [] := ⟨_, _, _, [], ok_kinds F__law_kinds T, PySem.W.mg_of X G a__law_kinds, k__law_kinds, b__law_kinds, .nil⟩
  exact ok_law F_law T ⟨_, _, _, [], ok_start F__law_start T, PySem.W.mg_of X G a__law_start, k__law_start, b__law_start, .nil⟩ ⟨_, _, _, [], ok_draw F__law_draw T, PySem.W.mg_of X G a__law_draw, k__law_draw, b__law_draw, .nil⟩ ⟨_, _, _, [], ok_bare F__law_bare T, PySem.W.mg_of X G a__law_bare, k__law_bare, b__law_bare, .nil⟩ ⟨_, _, _, [], ok_pairs F__law_pairs T, PySem.W.mg_of X G a__law_pairs, k__law_pairs, b__law_pairs, .nil⟩ ⟨_, _, _, [], ok_held F__law_held, PySem.W.mg_of X G a__law_held, k__law_held, b__law_held, .nil⟩ ⟨_, _, _, [], ok_right F__law_right T cK, PySem.W.mg_of X G a__law_right, k__law_right, b__law_right, .nil⟩

end K01
open PySem PySem.W PyProof.Rows
set_option maxHeartbeats 0 in
theorem PySem.Challenge.cw_saidchances_k01_errors_holds : PySem.Challenge.rw_saidchances_k01_errors.Holds := by
  w_on; o_law; k_head; (case hw => w_witness2)
  k_fill
  refine L2.walk_ofG (l := PySem.Challenge.rw_saidchances_k01_errors) (n := 63) (k := 5) (x := "_law_script") (sp := fun w => LawK.spLaw _) rfl (by decide) rfl ⟨rfl, by decide, by decide⟩ (fun w h Y => PySem.W.kIn_of Y) ?F (fun _ _ a ns hl _ _ hS => ⟨a, ns, rfl, hS, hl, fun _ => rfl⟩)
  case F =>
    intro w mg fa h KX G hmg
    refine' K01.all_mk KX G hmg ?a__law_start ?l__law_start ?c__law_start ?k__law_start ?a__law_draw ?l__law_draw ?c__law_draw ?k__law_draw ?a__law_bare ?l__law_bare ?c__law_bare ?k__law_bare ?a__law_pairs ?l__law_pairs ?c__law_pairs ?k__law_pairs ?a__law_held ?l__law_held ?c__law_held ?k__law_held ?a__law_kinds ?l__law_kinds ?c__law_kinds ?k__law_kinds ?a__law_right ?l__law_right ?c__law_right ?k__law_right ?a_law ?l_law ?c_law ?k_law ?o_BadNumber ?o_BadPeople ?o_BadLines ?o_BadLine ?o_NoCell ?o_BadCells ?o_UnknownName ?o_NotSaid ?o_BadChance ?o_BadActor ?o_BadScore ?o_BadGains ?o_BadStakes ?o_NotTwo ?o_BadCount ?o_NotReliable ?o_BadWeight ?o_BadPairs ?o_BadProfile ?o_ByZero ?o_BadText ?o_OpenDays ?o_NoOutcomes ?o_NothingToUndo ?o_UnlikeProfiles ?q_cn ?q_ct ?a_RainError ?q_r1 ?q_r2 ?q_nd ?z_sum ?z_abs ?z_list ?z_int ?z_len ?z_range ?z_repr ?z_isinstance ?z_ValueError
    case a__law_start => first | k_is | rfl | decide
    case l__law_start => first | k_is | rfl | decide
    case c__law_start => first | k_is | rfl | decide
    case k__law_start => first | k_is | rfl | decide
    case a__law_draw => first | k_is | rfl | decide
    case l__law_draw => first | k_is | rfl | decide
    case c__law_draw => first | k_is | rfl | decide
    case k__law_draw => first | k_is | rfl | decide
    case a__law_bare => first | k_is | rfl | decide
    case l__law_bare => first | k_is | rfl | decide
    case c__law_bare => first | k_is | rfl | decide
    case k__law_bare => first | k_is | rfl | decide
    case a__law_pairs => first | k_is | rfl | decide
    case l__law_pairs => first | k_is | rfl | decide
    case c__law_pairs => first | k_is | rfl | decide
    case k__law_pairs => first | k_is | rfl | decide
    case a__law_held => first | k_is | rfl | decide
    case l__law_held => first | k_is | rfl | decide
    case c__law_held => first | k_is | rfl | decide
    case k__law_held => first | k_is | rfl | decide
    case a__law_kinds => first | k_is | rfl | decide
    case l__law_kinds => first | k_is | rfl | decide
    case c__law_kinds => first | k_is | rfl | decide
    case k__law_kinds => first | k_is | rfl | decide
    case a__law_right => first | k_is | rfl | decide
    case l__law_right => first | k_is | rfl | decide
    case c__law_right => first | k_is | rfl | decide
    case k__law_right => first | k_is | rfl | decide
    case a_law => first | k_is | rfl | decide
    case l_law => first | k_is | rfl | decide
    case c_law => first | k_is | rfl | decide
    case k_law => first | k_is | rfl | decide
    case o_BadNumber =>
      refine' K01.mk_BadNumber KX G (by k_is) (by k_is) ?h0 ?h1 ?h2 ?h3 ?h4 ?h5 ?h6 ?h7 ?h8 ?h9 ?h10 ?h11 ?h12 ?h13 ?h14 ?h15 ?h16
      case h0 => first | k_is | rfl
      case h1 => first | k_is | rfl
      case h2 => first | k_is | rfl
      case h3 => first | k_is | rfl
      case h4 => first | k_is | rfl
      case h5 => first | k_is | rfl
      case h6 => first | k_is | rfl
      case h7 => first | k_is | rfl
      case h8 => first | k_is | rfl
      case h9 => first | k_is | rfl
      case h10 => first | k_is | rfl
      case h11 => first | k_is | rfl
      case h12 => first | k_is | rfl
      case h13 => first | k_is | rfl
      case h14 => first | k_is | rfl
      case h15 => first | k_is | rfl
      case h16 => first | k_is | rfl
    case o_BadPeople =>
      refine' K01.mk_BadPeople KX G (by k_is) (by k_is) ?h0 ?h1 ?h2 ?h3 ?h4 ?h5 ?h6 ?h7 ?h8 ?h9 ?h10 ?h11 ?h12 ?h13 ?h14 ?h15 ?h16
      case h0 => first | k_is | rfl
      case h1 => first | k_is | rfl
      case h2 => first | k_is | rfl
      case h3 => first | k_is | rfl
      case h4 => first | k_is | rfl
      case h5 => first | k_is | rfl
      case h6 => first | k_is | rfl
      case h7 => first | k_is | rfl
      case h8 => first | k_is | rfl
      case h9 => first | k_is | rfl
      case h10 => first | k_is | rfl
      case h11 => first | k_is | rfl
      case h12 => first | k_is | rfl
      case h13 => first | k_is | rfl
      case h14 => first | k_is | rfl
      case h15 => first | k_is | rfl
      case h16 => first | k_is | rfl
    case o_BadLines =>
      refine' K01.mk_BadLines KX G (by k_is) (by k_is) ?h0 ?h1 ?h2 ?h3 ?h4 ?h5 ?h6 ?h7 ?h8 ?h9 ?h10 ?h11 ?h12 ?h13 ?h14 ?h15 ?h16
      case h0 => first | k_is | rfl
      case h1 => first | k_is | rfl
      case h2 => first | k_is | rfl
      case h3 => first | k_is | rfl
      case h4 => first | k_is | rfl
      case h5 => first | k_is | rfl
      case h6 => first | k_is | rfl
      case h7 => first | k_is | rfl
      case h8 => first | k_is | rfl
      case h9 => first | k_is | rfl
      case h10 => first | k_is | rfl
      case h11 => first | k_is | rfl
      case h12 => first | k_is | rfl
      case h13 => first | k_is | rfl
      case h14 => first | k_is | rfl
      case h15 => first | k_is | rfl
      case h16 => first | k_is | rfl
    case o_BadLine =>
      refine' K01.mk_BadLine KX G (by k_is) (by k_is) ?h0 ?h1 ?h2 ?h3 ?h4 ?h5 ?h6 ?h7 ?h8 ?h9 ?h10 ?h11 ?h12 ?h13 ?h14 ?h15 ?h16
      case h0 => first | k_is | rfl
      case h1 => first | k_is | rfl
      case h2 => first | k_is | rfl
      case h3 => first | k_is | rfl
      case h4 => first | k_is | rfl
      case h5 => first | k_is | rfl
      case h6 => first | k_is | rfl
      case h7 => first | k_is | rfl
      case h8 => first | k_is | rfl
      case h9 => first | k_is | rfl
      case h10 => first | k_is | rfl
      case h11 => first | k_is | rfl
      case h12 => first | k_is | rfl
      case h13 => first | k_is | rfl
      case h14 => first | k_is | rfl
      case h15 => first | k_is | rfl
      case h16 => first | k_is | rfl
    case o_NoCell =>
      refine' K01.mk_NoCell KX G (by k_is) (by k_is) ?h0 ?h1 ?h2 ?h3 ?h4 ?h5 ?h6 ?h7 ?h8 ?h9 ?h10 ?h11 ?h12 ?h13 ?h14 ?h15 ?h16
      case h0 => first | k_is | rfl
      case h1 => first | k_is | rfl
      case h2 => first | k_is | rfl
      case h3 => first | k_is | rfl
      case h4 => first | k_is | rfl
      case h5 => first | k_is | rfl
      case h6 => first | k_is | rfl
      case h7 => first | k_is | rfl
      case h8 => first | k_is | rfl
      case h9 => first | k_is | rfl
      case h10 => first | k_is | rfl
      case h11 => first | k_is | rfl
      case h12 => first | k_is | rfl
      case h13 => first | k_is | rfl
      case h14 => first | k_is | rfl
      case h15 => first | k_is | rfl
      case h16 => first | k_is | rfl
    case o_BadCells =>
      refine' K01.mk_BadCells KX G (by k_is) (by k_is) ?h0 ?h1 ?h2 ?h3 ?h4 ?h5 ?h6 ?h7 ?h8 ?h9 ?h10 ?h11 ?h12 ?h13 ?h14 ?h15 ?h16
      case h0 => first | k_is | rfl
      case h1 => first | k_is | rfl
      case h2 => first | k_is | rfl
      case h3 => first | k_is | rfl
      case h4 => first | k_is | rfl
      case h5 => first | k_is | rfl
      case h6 => first | k_is | rfl
      case h7 => first | k_is | rfl
      case h8 => first | k_is | rfl
      case h9 => first | k_is | rfl
      case h10 => first | k_is | rfl
      case h11 => first | k_is | rfl
      case h12 => first | k_is | rfl
      case h13 => first | k_is | rfl
      case h14 => first | k_is | rfl
      case h15 => first | k_is | rfl
      case h16 => first | k_is | rfl
    case o_UnknownName =>
      refine' K01.mk_UnknownName KX G (by k_is) (by k_is) ?h0 ?h1 ?h2 ?h3 ?h4 ?h5 ?h6 ?h7 ?h8 ?h9 ?h10 ?h11 ?h12 ?h13 ?h14 ?h15 ?h16
      case h0 => first | k_is | rfl
      case h1 => first | k_is | rfl
      case h2 => first | k_is | rfl
      case h3 => first | k_is | rfl
      case h4 => first | k_is | rfl
      case h5 => first | k_is | rfl
      case h6 => first | k_is | rfl
      case h7 => first | k_is | rfl
      case h8 => first | k_is | rfl
      case h9 => first | k_is | rfl
      case h10 => first | k_is | rfl
      case h11 => first | k_is | rfl
      case h12 => first | k_is | rfl
      case h13 => first | k_is | rfl
      case h14 => first | k_is | rfl
      case h15 => first | k_is | rfl
      case h16 => first | k_is | rfl
    case o_NotSaid =>
      refine' K01.mk_NotSaid KX G (by k_is) (by k_is) ?h0 ?h1 ?h2 ?h3 ?h4 ?h5 ?h6 ?h7 ?h8 ?h9 ?h10 ?h11 ?h12 ?h13 ?h14 ?h15 ?h16
      case h0 => first | k_is | rfl
      case h1 => first | k_is | rfl
      case h2 => first | k_is | rfl
      case h3 => first | k_is | rfl
      case h4 => first | k_is | rfl
      case h5 => first | k_is | rfl
      case h6 => first | k_is | rfl
      case h7 => first | k_is | rfl
      case h8 => first | k_is | rfl
      case h9 => first | k_is | rfl
      case h10 => first | k_is | rfl
      case h11 => first | k_is | rfl
      case h12 => first | k_is | rfl
      case h13 => first | k_is | rfl
      case h14 => first | k_is | rfl
      case h15 => first | k_is | rfl
      case h16 => first | k_is | rfl
    case o_BadChance =>
      refine' K01.mk_BadChance KX G (by k_is) (by k_is) ?h0 ?h1 ?h2 ?h3 ?h4 ?h5 ?h6 ?h7 ?h8 ?h9 ?h10 ?h11 ?h12 ?h13 ?h14 ?h15 ?h16
      case h0 => first | k_is | rfl
      case h1 => first | k_is | rfl
      case h2 => first | k_is | rfl
      case h3 => first | k_is | rfl
      case h4 => first | k_is | rfl
      case h5 => first | k_is | rfl
      case h6 => first | k_is | rfl
      case h7 => first | k_is | rfl
      case h8 => first | k_is | rfl
      case h9 => first | k_is | rfl
      case h10 => first | k_is | rfl
      case h11 => first | k_is | rfl
      case h12 => first | k_is | rfl
      case h13 => first | k_is | rfl
      case h14 => first | k_is | rfl
      case h15 => first | k_is | rfl
      case h16 => first | k_is | rfl
    case o_BadActor =>
      refine' K01.mk_BadActor KX G (by k_is) (by k_is) ?h0 ?h1 ?h2 ?h3 ?h4 ?h5 ?h6 ?h7 ?h8 ?h9 ?h10 ?h11 ?h12 ?h13 ?h14 ?h15 ?h16
      case h0 => first | k_is | rfl
      case h1 => first | k_is | rfl
      case h2 => first | k_is | rfl
      case h3 => first | k_is | rfl
      case h4 => first | k_is | rfl
      case h5 => first | k_is | rfl
      case h6 => first | k_is | rfl
      case h7 => first | k_is | rfl
      case h8 => first | k_is | rfl
      case h9 => first | k_is | rfl
      case h10 => first | k_is | rfl
      case h11 => first | k_is | rfl
      case h12 => first | k_is | rfl
      case h13 => first | k_is | rfl
      case h14 => first | k_is | rfl
      case h15 => first | k_is | rfl
      case h16 => first | k_is | rfl
    case o_BadScore =>
      refine' K01.mk_BadScore KX G (by k_is) (by k_is) ?h0 ?h1 ?h2 ?h3 ?h4 ?h5 ?h6 ?h7 ?h8 ?h9 ?h10 ?h11 ?h12 ?h13 ?h14 ?h15 ?h16
      case h0 => first | k_is | rfl
      case h1 => first | k_is | rfl
      case h2 => first | k_is | rfl
      case h3 => first | k_is | rfl
      case h4 => first | k_is | rfl
      case h5 => first | k_is | rfl
      case h6 => first | k_is | rfl
      case h7 => first | k_is | rfl
      case h8 => first | k_is | rfl
      case h9 => first | k_is | rfl
      case h10 => first | k_is | rfl
      case h11 => first | k_is | rfl
      case h12 => first | k_is | rfl
      case h13 => first | k_is | rfl
      case h14 => first | k_is | rfl
      case h15 => first | k_is | rfl
      case h16 => first | k_is | rfl
    case o_BadGains =>
      refine' K01.mk_BadGains KX G (by k_is) (by k_is) ?h0 ?h1 ?h2 ?h3 ?h4 ?h5 ?h6 ?h7 ?h8 ?h9 ?h10 ?h11 ?h12 ?h13 ?h14 ?h15 ?h16
      case h0 => first | k_is | rfl
      case h1 => first | k_is | rfl
      case h2 => first | k_is | rfl
      case h3 => first | k_is | rfl
      case h4 => first | k_is | rfl
      case h5 => first | k_is | rfl
      case h6 => first | k_is | rfl
      case h7 => first | k_is | rfl
      case h8 => first | k_is | rfl
      case h9 => first | k_is | rfl
      case h10 => first | k_is | rfl
      case h11 => first | k_is | rfl
      case h12 => first | k_is | rfl
      case h13 => first | k_is | rfl
      case h14 => first | k_is | rfl
      case h15 => first | k_is | rfl
      case h16 => first | k_is | rfl
    case o_BadStakes =>
      refine' K01.mk_BadStakes KX G (by k_is) (by k_is) ?h0 ?h1 ?h2 ?h3 ?h4 ?h5 ?h6 ?h7 ?h8 ?h9 ?h10 ?h11 ?h12 ?h13 ?h14 ?h15 ?h16
      case h0 => first | k_is | rfl
      case h1 => first | k_is | rfl
      case h2 => first | k_is | rfl
      case h3 => first | k_is | rfl
      case h4 => first | k_is | rfl
      case h5 => first | k_is | rfl
      case h6 => first | k_is | rfl
      case h7 => first | k_is | rfl
      case h8 => first | k_is | rfl
      case h9 => first | k_is | rfl
      case h10 => first | k_is | rfl
      case h11 => first | k_is | rfl
      case h12 => first | k_is | rfl
      case h13 => first | k_is | rfl
      case h14 => first | k_is | rfl
      case h15 => first | k_is | rfl
      case h16 => first | k_is | rfl
    case o_NotTwo =>
      refine' K01.mk_NotTwo KX G (by k_is) (by k_is) ?h0 ?h1 ?h2 ?h3 ?h4 ?h5 ?h6 ?h7 ?h8 ?h9 ?h10 ?h11 ?h12 ?h13 ?h14 ?h15 ?h16
      case h0 => first | k_is | rfl
      case h1 => first | k_is | rfl
      case h2 => first | k_is | rfl
      case h3 => first | k_is | rfl
      case h4 => first | k_is | rfl
      case h5 => first | k_is | rfl
      case h6 => first | k_is | rfl
      case h7 => first | k_is | rfl
      case h8 => first | k_is | rfl
      case h9 => first | k_is | rfl
      case h10 => first | k_is | rfl
      case h11 => first | k_is | rfl
      case h12 => first | k_is | rfl
      case h13 => first | k_is | rfl
      case h14 => first | k_is | rfl
      case h15 => first | k_is | rfl
      case h16 => first | k_is | rfl
    case o_BadCount =>
      refine' K01.mk_BadCount KX G (by k_is) (by k_is) ?h0 ?h1 ?h2 ?h3 ?h4 ?h5 ?h6 ?h7 ?h8 ?h9 ?h10 ?h11 ?h12 ?h13 ?h14 ?h15 ?h16
      case h0 => first | k_is | rfl
      case h1 => first | k_is | rfl
      case h2 => first | k_is | rfl
      case h3 => first | k_is | rfl
      case h4 => first | k_is | rfl
      case h5 => first | k_is | rfl
      case h6 => first | k_is | rfl
      case h7 => first | k_is | rfl
      case h8 => first | k_is | rfl
      case h9 => first | k_is | rfl
      case h10 => first | k_is | rfl
      case h11 => first | k_is | rfl
      case h12 => first | k_is | rfl
      case h13 => first | k_is | rfl
      case h14 => first | k_is | rfl
      case h15 => first | k_is | rfl
      case h16 => first | k_is | rfl
    case o_NotReliable =>
      refine' K01.mk_NotReliable KX G (by k_is) (by k_is) ?h0 ?h1 ?h2 ?h3 ?h4 ?h5 ?h6 ?h7 ?h8 ?h9 ?h10 ?h11 ?h12 ?h13 ?h14 ?h15 ?h16
      case h0 => first | k_is | rfl
      case h1 => first | k_is | rfl
      case h2 => first | k_is | rfl
      case h3 => first | k_is | rfl
      case h4 => first | k_is | rfl
      case h5 => first | k_is | rfl
      case h6 => first | k_is | rfl
      case h7 => first | k_is | rfl
      case h8 => first | k_is | rfl
      case h9 => first | k_is | rfl
      case h10 => first | k_is | rfl
      case h11 => first | k_is | rfl
      case h12 => first | k_is | rfl
      case h13 => first | k_is | rfl
      case h14 => first | k_is | rfl
      case h15 => first | k_is | rfl
      case h16 => first | k_is | rfl
    case o_BadWeight =>
      refine' K01.mk_BadWeight KX G (by k_is) (by k_is) ?h0 ?h1 ?h2 ?h3 ?h4 ?h5 ?h6 ?h7 ?h8 ?h9 ?h10 ?h11 ?h12 ?h13 ?h14 ?h15 ?h16
      case h0 => first | k_is | rfl
      case h1 => first | k_is | rfl
      case h2 => first | k_is | rfl
      case h3 => first | k_is | rfl
      case h4 => first | k_is | rfl
      case h5 => first | k_is | rfl
      case h6 => first | k_is | rfl
      case h7 => first | k_is | rfl
      case h8 => first | k_is | rfl
      case h9 => first | k_is | rfl
      case h10 => first | k_is | rfl
      case h11 => first | k_is | rfl
      case h12 => first | k_is | rfl
      case h13 => first | k_is | rfl
      case h14 => first | k_is | rfl
      case h15 => first | k_is | rfl
      case h16 => first | k_is | rfl
    case o_BadPairs =>
      refine' K01.mk_BadPairs KX G (by k_is) (by k_is) ?h0 ?h1 ?h2 ?h3 ?h4 ?h5 ?h6 ?h7 ?h8 ?h9 ?h10 ?h11 ?h12 ?h13 ?h14 ?h15 ?h16
      case h0 => first | k_is | rfl
      case h1 => first | k_is | rfl
      case h2 => first | k_is | rfl
      case h3 => first | k_is | rfl
      case h4 => first | k_is | rfl
      case h5 => first | k_is | rfl
      case h6 => first | k_is | rfl
      case h7 => first | k_is | rfl
      case h8 => first | k_is | rfl
      case h9 => first | k_is | rfl
      case h10 => first | k_is | rfl
      case h11 => first | k_is | rfl
      case h12 => first | k_is | rfl
      case h13 => first | k_is | rfl
      case h14 => first | k_is | rfl
      case h15 => first | k_is | rfl
      case h16 => first | k_is | rfl
    case o_BadProfile =>
      refine' K01.mk_BadProfile KX G (by k_is) (by k_is) ?h0 ?h1 ?h2 ?h3 ?h4 ?h5 ?h6 ?h7 ?h8 ?h9 ?h10 ?h11 ?h12 ?h13 ?h14 ?h15 ?h16
      case h0 => first | k_is | rfl
      case h1 => first | k_is | rfl
      case h2 => first | k_is | rfl
      case h3 => first | k_is | rfl
      case h4 => first | k_is | rfl
      case h5 => first | k_is | rfl
      case h6 => first | k_is | rfl
      case h7 => first | k_is | rfl
      case h8 => first | k_is | rfl
      case h9 => first | k_is | rfl
      case h10 => first | k_is | rfl
      case h11 => first | k_is | rfl
      case h12 => first | k_is | rfl
      case h13 => first | k_is | rfl
      case h14 => first | k_is | rfl
      case h15 => first | k_is | rfl
      case h16 => first | k_is | rfl
    case o_ByZero =>
      refine' K01.mk_bare KX G (by k_is) (by k_is) ?h0 ?h1 ?h2 ?h3 ?h4 ?h5 ?h6 ?h7 ?h8
      case h0 => first | k_is | rfl
      case h1 => k_exc
      case h2 => first | k_is | rfl
      case h3 => first | k_is | rfl
      case h4 => first | k_is | rfl
      case h5 => first | k_is | rfl
      case h6 => first | k_is | rfl
      case h7 => first | k_is | rfl
      case h8 => first | k_is | rfl
    case o_BadText =>
      refine' K01.mk_bare KX G (by k_is) (by k_is) ?h0 ?h1 ?h2 ?h3 ?h4 ?h5 ?h6 ?h7 ?h8
      case h0 => first | k_is | rfl
      case h1 => k_exc
      case h2 => first | k_is | rfl
      case h3 => first | k_is | rfl
      case h4 => first | k_is | rfl
      case h5 => first | k_is | rfl
      case h6 => first | k_is | rfl
      case h7 => first | k_is | rfl
      case h8 => first | k_is | rfl
    case o_OpenDays =>
      refine' K01.mk_bare KX G (by k_is) (by k_is) ?h0 ?h1 ?h2 ?h3 ?h4 ?h5 ?h6 ?h7 ?h8
      case h0 => first | k_is | rfl
      case h1 => k_exc
      case h2 => first | k_is | rfl
      case h3 => first | k_is | rfl
      case h4 => first | k_is | rfl
      case h5 => first | k_is | rfl
      case h6 => first | k_is | rfl
      case h7 => first | k_is | rfl
      case h8 => first | k_is | rfl
    case o_NoOutcomes =>
      refine' K01.mk_bare KX G (by k_is) (by k_is) ?h0 ?h1 ?h2 ?h3 ?h4 ?h5 ?h6 ?h7 ?h8
      case h0 => first | k_is | rfl
      case h1 => k_exc
      case h2 => first | k_is | rfl
      case h3 => first | k_is | rfl
      case h4 => first | k_is | rfl
      case h5 => first | k_is | rfl
      case h6 => first | k_is | rfl
      case h7 => first | k_is | rfl
      case h8 => first | k_is | rfl
    case o_NothingToUndo =>
      refine' K01.mk_bare KX G (by k_is) (by k_is) ?h0 ?h1 ?h2 ?h3 ?h4 ?h5 ?h6 ?h7 ?h8
      case h0 => first | k_is | rfl
      case h1 => k_exc
      case h2 => first | k_is | rfl
      case h3 => first | k_is | rfl
      case h4 => first | k_is | rfl
      case h5 => first | k_is | rfl
      case h6 => first | k_is | rfl
      case h7 => first | k_is | rfl
      case h8 => first | k_is | rfl
    case o_UnlikeProfiles =>
      refine' K01.mk_bare KX G (by k_is) (by k_is) ?h0 ?h1 ?h2 ?h3 ?h4 ?h5 ?h6 ?h7 ?h8
      case h0 => first | k_is | rfl
      case h1 => k_exc
      case h2 => first | k_is | rfl
      case h3 => first | k_is | rfl
      case h4 => first | k_is | rfl
      case h5 => first | k_is | rfl
      case h6 => first | k_is | rfl
      case h7 => first | k_is | rfl
      case h8 => first | k_is | rfl
    case q_cn => first | k_is | rfl | decide
    case q_ct => first | k_is | rfl | decide
    case a_RainError => first | k_is | rfl | decide
    case q_r1 => first | k_is | rfl | decide
    case q_r2 => first | k_is | rfl | decide
    case q_nd => first | k_is | rfl | decide
    case z_sum => first | k_is | rfl | decide
    case z_abs => first | k_is | rfl | decide
    case z_list => first | k_is | rfl | decide
    case z_int => first | k_is | rfl | decide
    case z_len => first | k_is | rfl | decide
    case z_range => first | k_is | rfl | decide
    case z_repr => first | k_is | rfl | decide
    case z_isinstance => first | k_is | rfl | decide
    case z_ValueError => first | k_is | rfl | decide
