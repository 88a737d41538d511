import PyProof.Rows.All
import Wide.All
import OpenK.AllK
import Wide.FinOn
import PyProof.ReprRoads
import HandS.ForMost
import HandS.Evl
import HandS.EndBits
import HandS.Wide
import HandS.IsInst
import HandS.Style
import HandS.Codes
import HandS.Walk
import HandS.Defaults
import HandS.Property
import HandS.ForExc
import HandS.Small
import HandS.SlotsOwn
import HandS.MakeKw
import HandS.MakeKwOnly
import HandS.Gcd
import HandS.ClsMeth
import HandS.FStr
import HandS.CallSlots
import HandS.DeepEq
import HandS.Text
import HandS.StrMore
import HandS.Star
import HandS.Iter
import HandS.IterVal
import HandS.WideBits
import KE.KCallOwn
import PySem.Challenge.RW_saidchances_k06_texts_of_ratios
set_option Elab.async false
set_option linter.all false
set_option maxRecDepth 100000
set_option maxHeartbeats 2000000
namespace L2
open PySem PySem.Spec PyProof.Rows
section
variable {X : Cx}
/-- repr of data without dicts -/
def rRepr (K : PySem.W.Frag) : List V → Hp → VK → Prop := fun vs H Q => ∃ v d, vs = [v] ∧ Dp K H v d ∧ (∃ a, v = .ref a) ∧ d.showable = true ∧ d.hasDict = false ∧ d.depth ≤ 60 ∧ d.shown.length ≤ sizeLine ∧ Q (.str d.shown) H
theorem cr_repr (hu : X.A.units + 64 < cLine) (hgd : X.A.guards = some []) : CallR X (.builtin "repr") (rRepr X.K) := by
  intro pins s σ H vs us Q I r h
  obtain ⟨v, d, rfl, hd, ⟨a, rfl⟩, hs, hn, hdp, hl, q⟩ := h
  obtain ⟨u, rfl, ru⟩ := vals1 r
  obtain ⟨as, hr⟩ := Dp.reads I d _ u hd ru
  cases ru
  refine repr_of_reads' hr hs (PyData.noDict_hsm hn) hgd (by omega) (fun b o e => e) (fun h' u tk hk => ?_) hl
  refine ⟨.str _, H, I.kept fun b o eo => hk b o eo, ⟨_, rfl⟩, q⟩
end
end L2
/-! ### defs that may show lists: no repr runs around them -/
namespace L2
open PySem PySem.Spec PyProof.Rows
structure FnG (P : Program) (w : World) (K : PySem.W.Frag) (mg : Str → Option Value) (base : Heap) (CX : CXT) (k : Nat) (f : Addr) (fd : FuncData) (ps : List Str) (sp : Sp) : Prop where
  size : ∀ vs H Q E, sp vs H Q E → vs.length = ps.length
  goes : ∀ (A : Around) (o : List Env) (s : Shared) (H : Hp) (ar : Args) (us : List Value) (vs : List V) (Q : VK) (E : XK), A.guards = some [] → Room k A →
    Env0 P w K mg base A o s H → BindsTo s fd ar (ps.zip us) → Vals vs us → sp vs H Q E → codeAny (model P w) A (.call (.ref f) ar) (CR CX o P w H s Q E) s
section
variable {P : Program} {w : World} {K : PySem.W.Frag} {mg : Str → Option Value} {base : Heap} {CX : CXT} {k : Nat} {f : Addr} {fd : FuncData} {ps : List Str} {sp : Sp}
theorem FnOk.g (F : FnOk P w K mg base CX k f fd ps sp) : FnG P w K mg base CX k f fd ps sp := ⟨F.len, fun A o s H ar us vs Q E _ => F.run A o s H ar us vs Q E⟩
theorem FnG.up {j : Nat} (F : FnG P w K mg base CX j f fd ps sp) (h : j ≤ k) : FnG P w K mg base CX k f fd ps sp := ⟨F.size, fun A o s H ar us vs Q E g hr => F.goes A o s H ar us vs Q E g (hr.mono h)⟩
theorem Fun.okG {x qual : Str} {st : Stmt} {N : List Str} (F : Fun K x qual st f fd) (S : FnScope N ps (defScope st)) (len : ∀ vs H Q E, sp vs H Q E → vs.length = ps.length)
    (hb : ∀ (cv : Value) (A : Around) (o : List Env) (s : Shared) (H : Hp) (vs : List V) (Q : VK) (E : XK), A.guards = some [] → Room k (A.deeper (envOfC qual (defScope st) s.heap.objs.size f cv)) → sp vs H Q E →
      ∃ t, PSs (cxOf CX P w K mg base N qual (defScope st) f cv A o s H E) (defBody st) t ∧ t { nx := fun _ H' => Q .non H', rt := Q } (start N vs) H) : FnG P w K mg base CX (k + 1) f fd ps sp := by
  obtain ⟨oc, od, kV, doc, pm, an, cv, ct, sl, rfl, lk, cd⟩ := F.ex
  refine ⟨len, fun A o s H ar us vs Q E g hr e hbi rv hs => ?_⟩
  have in0 := e.mod.kin.keeps fun b u z => (e.bs b u z).1
  have nl := e.mod.nolimit.keeps fun b u z => (e.bs b u z).1
  have sz := len _ _ _ _ hs
  have kinds : ∀ y ∈ ps.zip us, (defScope st).names.lookup y.1 = some .local ∨ ((defScope st).names.lookup y.1 = some .cell ∧ ((cellsFrom (s.heap.objs.size + 1) (defScope st).names []).lookup y.1).isSome = true) := by
    rintro ⟨n, v⟩ hy
    cases S.par n (List.of_mem_zip hy).1 with
    | inl q => exact Or.inl q
    | inr q => exact Or.inr (And.intro q (PySem.W.cellsFrom_some _ _ _ (Or.inl q)))
  refine codeAny_call_function hr.depth (in0 _ _ lk) rfl S.co S.gen rfl (PySem.W.codeRec_of in0 cd) (hbi _ _ _ _ (wpAny_newFunctionEnv_cells S.kind kinds ?_))
  rintro env rfl s1 x
  obtain ⟨t, ht, hq⟩ := hb cv A o s H vs Q E g (Room.deeper hr _) hs
  have J : Inv (cxOf CX P w K mg base N qual (defScope st) f cv A o s H E) [] (start N vs) H s1 := inv_start S hr.hd e sz rv x
  refine And.intro (nl.keeps x.toInCall.keep) (codeAny_func (wpAny_mono (PSs.run ht [] s1 (start N vs) H _ J hq) (fun fl s' z => ?_) (fun _ _ z => z)))
  have fin {σ' : St} {H' : Hp} {v : V} {u : Value} (I : Inv (cxOf CX P w K mg base N qual (defScope st) f cv A o s H E) [] σ' H' s') (rv : RelV v u) (q : Q v H') : CE o P w H s Q u s' :=
    Exists.intro v (Exists.intro H' (And.intro I.os (And.intro I.bare (And.intro I.base (And.intro I.hok (And.intro rv q))))))
  match fl, z with
  | .ret u, ⟨v, σ', H', I, rv, q⟩ => exact fin I rv q
  | .next, ⟨σ', H', I, q⟩ => exact fin (v := .non) (u := .none) I rfl q
  | .brk, ⟨_, _, _, q⟩ => exact q.elim
  | .cont, ⟨_, _, _, q⟩ => exact q.elim
end
section
variable {X : Cx} {CX : CXT} {k : Nat} {f : Addr} {fd : FuncData} {ps : List Str} {sp : Sp} {dvs : List V} {ds : List Value} {E : XK} {x : Str} {p pos : Pos} {e : Expr} {es : List Expr} {t : TA}
theorem goesG {pins : List (Addr × Obj)} {σ : St} {H : Hp} {s : Shared} {Q : VK} {us : List Value} {vs : List V} (F : FnG X.prog X.w X.K X.mg X.base CX k f fd ps sp) (g : X.A.guards = some []) (hr : Room k X.A) (hb : Binds X.K fd ps ds) (hd : Vals dvs ds) (hx : Passes CX X E)
    (I : Inv X pins σ H s) (r : Vals vs us) (h : sp (vs ++ dvs) H Q E) : wpAny (model X.prog X.w) X.A (call (.ref f) us) (EP X pins σ Q) X.xe s := by
  have rr := Vals.append r hd
  have sz : (us ++ ds).length = ps.length := (rr.length).symm.trans (F.size _ _ _ _ h)
  refine wpAny_call (codeAny_mono (F.goes X.A X.stack s H _ (us ++ ds) (vs ++ dvs) Q E g hr I.env0 (hb s us I.kIn sz) rr h) ?_)
  intro r s' hq
  match r, hq with
  | .error er, hq => exact hx pins σ H s er s' I hq
  | .ok (.ret u), hq => exact Inv.after I hq
theorem pe_callG (F : FnG X.prog X.w X.K X.mg X.base CX k f fd ps sp) (g : X.A.guards = some []) (hr : Room k X.A) (hg : Gl X x) (hm : X.mg x = some (.ref f)) (hk : PySem.W.keepIn X.K (.ref f) = true) (hb : Binds X.K fd ps ds) (hd : Vals dvs ds) (hx : Passes CX X E)
    (ha : PA X (e :: es) t) (nd : (x == ("__debug__" : Str)) = false := by decide) (he : starEach (e :: es) X.env = (false, eval e X.env) :: starEach es X.env := by rfl) (hpl : (backTo pos (starEach es X.env)).any (·.1) = false := by rfl) :
    PE X (.Call (.Name x p) (e :: es) [] pos) (tCall sp dvs E t) := .mk fun pins s σ H Q I h =>
  wpAny_Call_Name_kw (ld_glob I hg hm (PySem.W.callWith_K (h₀ := X.base) I.ok.mod.kin hk (thn (ha.run pos pins s σ H _ I h) fun us s1 ⟨vs, H1, I1, r, q⟩ => ⟨I1.kIn, goesG F g hr hb hd hx I1 r q⟩) he hpl) nd)
end
end L2

namespace L2
open PySem PySem.Spec PyProof.Rows
theorem hp_no {H : Hp} {h : Heap} {a b : Addr} {vs : List Value} (only : ∀ b, H b ≠ none → b = a) (ha : h.get? a = some { cls := .type "list", data := .seq vs.toArray }) {o : Obj} (e : h.get? b = some o) (ne : ∀ n, o.data ≠ .seq vs.toArray n) : H b = none := by
  by_cases z : H b = none
  · exact z
  · have q := only b z
    rw [q, ha] at e
    cases e
    exact (ne _ rfl).elim
theorem env_start {P : Program} {w : World} {K : PySem.W.Frag} {mg mb : Str → Option Value} {a : Addr} {s : Shared} {vs : List Value} {H : Hp} (KX : K.In s.heap) (hm : s.heap.Ns mainGlobals mg) (hb : s.heap.Ns builtinsNs mb)
    (boot : ∀ x : Str, x ≠ "__name__" → mb x = bootBuiltins x) (nl : s.heap.NoLimit) (hg : s.gens = #[]) (ha : s.heap.get? a = some { cls := .type "list", data := .seq vs.toArray })
    (hok : HOk P w H s.heap) (only : ∀ b, H b ≠ none → b = a) (nK : H a ≠ none → K.lookup a = none) : K.In (hidT s.heap H) ∧ (hidT s.heap H).Ns mainGlobals mg ∧ Env0 P w K mg (hidT s.heap H) callerA [] s H := by
  have dn {c : Addr} {m : Str → Option Value} (n : s.heap.Ns c m) : (hidT s.heap H).Ns c m := by
    obtain ⟨o, es, ep, e, d, r⟩ := n
    refine Exists.intro o (Exists.intro es (Exists.intro ep (And.intro (hidT_get e (hp_no only ha e fun n q => ?_)) (And.intro d r))))
    rw [d] at q
    cases q
  have kx : K.In (hidT s.heap H) := by
    intro b o e
    refine hidT_get (KX b o e) ?_
    by_cases z : H b = none
    · exact z
    · have q := only b z
      subst q
      rw [nK z] at e
      cases e
  obtain ⟨mc, l1, l2⟩ := nl
  exact And.intro kx (And.intro (dn hm) { frames := rfl, mod := ⟨kx, dn hm, ⟨mb, dn hb, boot⟩, ⟨mc, dn l1, l2⟩⟩, bs := fun b o e => of_hidT e, bsz := Nat.le_of_eq (hidT_size _ _), funs := trivial, frf := (fun b hb => by cases hb), hok := hok, bare := .of_eq hg })
theorem law_goG {P : Program} {w : World} {K : PySem.W.Frag} {mg mb : Str → Option Value} {k : Nat} {fa a : Addr} {fd : FuncData} {x : Str} {sp : Sp} {s : Shared} {vs : List Value} {ns : List Int} (KX : K.In s.heap) (hm : s.heap.Ns mainGlobals mg) (hb : s.heap.Ns builtinsNs mb)
    (boot : ∀ x : Str, x ≠ "__name__" → mb x = bootBuiltins x) (nl : s.heap.NoLimit) (hg : s.gens = #[]) (ha : s.heap.get? a = some { cls := .type "list", data := .seq vs.toArray }) (hi : IntsAre vs ns) (hl : ns.length ≤ sizeLine) (hr : Room k callerA)
    (F : ∀ base : Heap, K.In base → base.Ns mainGlobals mg → FnG P w K mg base CX0 k fa fd [x] sp) (bind : ∀ (s : Shared) (u : Value), BindsTo s fd ⟨[u], []⟩ [(x, u)])
    (hsp : ∀ H : Hp, Only H → SqL K H a (ns.map V.int) → sp [.ref a] H (fun v _ => v = .bl true) fun _ _ _ => False) :
    codeAny (model P w) callerA (.call (.ref fa) ⟨[.ref a], []⟩) (fun r s' => r = .ok (.ret (.bool true)) ∧ OldK s.heap s'.heap ∧ s'.os = s.os ∧ AllBare s'.gens) s := by
  have rv := vals_ints hi
  have go (H : Hp) (hO : Only H) (hS : SqL K H a (ns.map V.int)) (hok : HOk P w H s.heap) (only : ∀ b, H b ≠ none → b = a) (nK : H a ≠ none → K.lookup a = none) :
      codeAny (model P w) callerA (.call (.ref fa) ⟨[.ref a], []⟩) (fun r s' => r = .ok (.ret (.bool true)) ∧ OldK s.heap s'.heap ∧ s'.os = s.os ∧ AllBare s'.gens) s := by
    obtain ⟨kx, nm, e0⟩ := env_start KX hm hb boot nl hg ha hok only nK
    refine codeAny_mono ((F _ kx nm).goes callerA [] s H _ [.ref a] [.ref a] _ _ rfl hr e0 (bind s (.ref a)) (.cons rfl .nil) (hsp H hO hS)) ?_
    intro r s' h
    match r, h with
    | .ok (.ret u), ⟨v, H', os, bare, un, hok', ru, qv⟩ =>
      have hv : v = V.bl true := qv
      rw [hv] at ru
      have hu : u = Value.bool true := ru
      rw [hu]
      refine And.intro rfl (And.intro (OldK.of_keep fun b o e => ?_) (And.intro os bare))
      by_cases z : H b = none
      · exact un.keep b o e z (fun z => by cases z) (fun z => by cases z)
      · cases hO b with
        | inl q => exact (z q).elim
        | inr q =>
          obtain ⟨ob, xs, q⟩ := q
          have o1 := (hok b _ q).1
          have o2 := (hok' b _ (un.frzs b ob _ q)).1
          rw [e] at o1
          cases o1
          exact o2
  by_cases hk : K.lookup a = none
  · refine go (fun b => if b = a then some (.frz { cls := .type "list", data := .seq vs.toArray } (.lst (ns.map V.int))) else none) (fun b => ?_) (Or.inl (Or.inr (Exists.intro _ (if_pos rfl)))) (fun b u z => ?_) (fun b z => ?_) (fun _ => hk)
    · by_cases e : b = a
      · exact Or.inr (Exists.intro _ (Exists.intro _ (if_pos e)))
      · exact Or.inl (if_neg e)
    · by_cases e : b = a
      · replace z := (if_pos e).symm.trans z
        cases z
        subst e
        exact And.intro ha (And.intro (by rw [List.length_map]; exact hl) (Exists.intro vs (Exists.intro _ (And.intro rv ha))))
      · replace z := (if_neg e).symm.trans z
        cases z
    · by_cases e : b = a
      · exact e
      · exact (z (if_neg e)).elim
  · obtain ⟨o, e⟩ := Option.ne_none_iff_exists'.mp hk
    have e2 := KX a o e
    rw [ha] at e2
    cases e2
    refine go (fun _ => none) (fun _ => Or.inl rfl) (Or.inr ⟨_, vs.toArray, _, e, rfl, rfl, rfl, ?_, by simpa using rv⟩) (fun b u z => by cases z) (fun b z => (z rfl).elim) (fun z => (z rfl).elim)
    rw [List.size_toArray, hi.length]
    exact hl
theorem walk_ofG {l : PySem.W.OpenLaw} {n k : Nat} {q : Program} {loose : List Str} {XP : (Str → Option Value) → Heap → Prop} {YP : World → Heap → Prop} {d : DefRec} {K : Params → PySem.W.Frag} {sp : World → Sp} {x : Str} (hn : l.most = some n) (hn2 : n ≤ sizeLine)
    (hdf : d.params.defaults = []) (hr : Room k callerA) (hY : ∀ (w : World) (h : Heap), YP w h → (K w.params).In h)
    (F : ∀ (w : World) (mg : Str → Option Value) (fa : Addr) (h : Heap), (K w.params).In h → h.Ns mainGlobals mg → mg d.name = some (.ref fa) → ∃ fd : FuncData, (∀ (s : Shared) (u : Value), BindsTo s fd ⟨[u], []⟩ [(x, u)]) ∧
      ∀ base : Heap, (K w.params).In base → base.Ns mainGlobals mg → FnG l.prog w (K w.params) mg base CX0 k fa fd [x] (sp w))
    (hsp : ∀ (w : World) (H : Hp) (a : Addr) (ns : List Int), ns.length ≤ n → (∀ z ∈ ns, Builtin.Int.intBits z ≤ 1048576) → Only H → SqL (K w.params) H a (ns.map V.int) → sp w [.ref a] H (fun v _ => v = .bl true) fun _ _ _ => False) :
    PySem.W.WalkO q loose XP YP l.row.toRowW d [] (fun f vs => PySem.call f vs) := by
  refine Att.attach_callB hn hdf ?_
  intro w s0 s1 mg mb fa o pm cd doc a vs ns G Y ho hd hcd hmg hobj hints hlen hbits hg
  have KX := hY w _ Y
  obtain ⟨fd, hb, hF⟩ := F w mg fa _ KX G.T.g hmg
  exact law_goG KX G.T.g G.T.b G.T.builtins G.T.nolimit hg hobj hints (Nat.le_trans hlen hn2) hr hF hb (fun H hO hS => hsp w H a ns hlen hbits hO hS)
end L2
set_option Elab.async false
set_option linter.all false
set_option maxRecDepth 100000
set_option maxHeartbeats 2000000
namespace LawK
open PySem PySem.Spec PyProof.Rows L2 Evl
/-! ### data -/
theorem dp_ints {K : PySem.W.Frag} {H : Hp} : ∀ xs : List Int, DpAll K H (xs.map V.int) (xs.map PyData.int)
  | [] => .nil
  | x :: r => .cons (.int x) (dp_ints r)
theorem lay_ints : ∀ xs : List Int, PyData.canLayAll0 (xs.map PyData.int) = true
  | [] => rfl
  | x :: r => by
    show (PyData.canLay0 (.int x) && PyData.canLayAll0 (r.map PyData.int)) = true
    rw [lay_ints r]
    rfl
theorem dep_ints : ∀ xs : List Int, PyData.depthAll (xs.map PyData.int) ≤ 1
  | [] => by decide
  | x :: r => by
    have h := dep_ints r
    show max (PyData.depth (.int x)) (PyData.depthAll (r.map PyData.int)) ≤ 1
    have : PyData.depth (.int x) ≤ 1 := by show 0 ≤ 1; decide
    omega
theorem shaped_ints (xs : List Int) : SeqAt.shaped (.list (xs.map PyData.int)) = true := by
  unfold SeqAt.shaped
  rw [Bool.and_eq_true]
  refine ⟨lay_ints xs, decide_eq_true ?_⟩
  have h := dep_ints xs
  show PyData.depthAll (xs.map PyData.int) + 1 ≤ 64
  omega
theorem eqv_nil : ∀ xs : List Int, PyData.eqv (.list (xs.map PyData.int)) (.list []) = xs.isEmpty
  | [] => rfl
  | x :: r => rfl
end LawK
/-! ### the law's state: a list at p of a list at a, a list at b, and a count; G is what else is known -/
namespace LawK
open PySem PySem.Spec PyProof.Rows L2 Evl
structure SBe (G H : Hp) (p a b : Addr) (xs ys : List Int) (n : Int) : Prop where
  ex : Ex G H
  hp : H p = some (.lst [.ref a, .ref b, .int n])
  ha : H a = some (.lst (xs.map V.int))
  hb : H b = some (.lst (ys.map V.int))
  gp : G p = none
  ga : G a = none
  gb : G b = none
  ap : a ≠ p
  bp : b ≠ p
  ab : a ≠ b
theorem SBe.ext {G H H2 : Hp} {p a b : Addr} {xs ys : List Int} {n : Int} (S : SBe G H p a b xs ys n) (e : Ex H H2) : SBe G H2 p a b xs ys n :=
  ⟨S.ex.trans e, e _ _ S.hp, e _ _ S.ha, e _ _ S.hb, S.gp, S.ga, S.gb, S.ap, S.bp, S.ab⟩
theorem SBe.setn {G H : Hp} {p a b : Addr} {xs ys : List Int} {n k : Int} (S : SBe G H p a b xs ys n) : SBe G (upd H p (.lst [.ref a, .ref b, .int k])) p a b xs ys k :=
  ⟨S.ex.mut S.gp, upd_same, by rw [upd_ne S.ap]; exact S.ha, by rw [upd_ne S.bp]; exact S.hb, S.gp, S.ga, S.gb, S.ap, S.bp, S.ab⟩
theorem SBe.seta {G H : Hp} {p a b : Addr} {xs zs ys : List Int} {n : Int} (S : SBe G H p a b xs ys n) : SBe G (upd H a (.lst (zs.map V.int))) p a b zs ys n :=
  ⟨S.ex.mut S.ga, by rw [upd_ne S.ap.symm]; exact S.hp, upd_same, by rw [upd_ne S.ab.symm]; exact S.hb, S.gp, S.ga, S.gb, S.ap, S.bp, S.ab⟩
theorem SBe.newa {G H : Hp} {p a b q : Addr} {xs zs ys : List Int} {n : Int} (S : SBe G H p a b xs ys n) (hq : H q = none) : SBe G (upd (upd H q (.lst (zs.map V.int))) p (.lst [.ref q, .ref b, .int n])) p q b zs ys n := by
  have qp : q ≠ p := fun e => by rw [e, S.hp] at hq; cases hq
  have qb : q ≠ b := fun e => by rw [e, S.hb] at hq; cases hq
  refine ⟨(S.ex.trans (Ex.new hq)).mut S.gp, upd_same, ?_, ?_, S.gp, fresh_back S.ex hq, S.gb, qp, S.bp, qb⟩
  · rw [upd_ne qp, upd_same]
  · rw [upd_ne S.bp, upd_ne qb.symm]
    exact S.hb
/-- at most m draws so far -/
def SB (G H : Hp) (p : Addr) (m : Nat) : Prop := ∃ a b xs ys n, SBe G H p a b xs ys n ∧ 0 ≤ n ∧ n ≤ (m : Int) ∧ ys ≠ []
theorem SB.ext {G H H2 : Hp} {p : Addr} {m : Nat} (S : SB G H p m) (e : Ex H H2) : SB G H2 p m := by
  obtain ⟨a, b, xs, ys, n, s, r⟩ := S
  exact ⟨a, b, xs, ys, n, s.ext e, r⟩
theorem SB.le {G H : Hp} {p : Addr} {m k : Nat} (S : SB G H p m) (h : m ≤ k) : SB G H p k := by
  obtain ⟨a, b, xs, ys, n, s, h0, h1, h2⟩ := S
  exact ⟨a, b, xs, ys, n, s, h0, by omega, h2⟩
theorem SB.ex {G H : Hp} {p : Addr} {m : Nat} (S : SB G H p m) : Ex G H := by
  obtain ⟨a, b, xs, ys, n, s, _⟩ := S
  exact s.ex
/-- what is new is known from now on -/
def grow (G H H2 : Hp) : Hp := fun x => match H x with | none => H2 x | some _ => G x
theorem grow_ex {G H H2 : Hp} (e : Ex G H) : Ex G (grow G H H2) := fun x o h => by
  unfold grow
  rw [e x o h]
  exact h
theorem grow_new {G H H2 : Hp} {q : Addr} (h : H q = none) : grow G H H2 q = H2 q := by
  unfold grow
  rw [h]
theorem SB.grow {G H H2 : Hp} {p : Addr} {m : Nat} (S : SB G H p m) (e : Ex H H2) : SB (grow G H H2) H2 p m := by
  obtain ⟨a, b, xs, ys, n, s, r⟩ := S
  have old : ∀ {c : Addr} {o : HO}, H c = some o → G c = none → LawK.grow G H H2 c = none := fun {c o} h g => by
    unfold LawK.grow
    rw [h]
    exact g
  refine ⟨a, b, xs, ys, n, ⟨fun x o h => ?_, e _ _ s.hp, e _ _ s.ha, e _ _ s.hb, old s.hp s.gp, old s.ha s.ga, old s.hb s.gb, s.ap, s.bp, s.ab⟩, r⟩
  unfold LawK.grow at h
  cases z : H x with
  | none => rw [z] at h; exact h
  | some u => rw [z] at h; exact e _ _ (s.ex _ _ h)
/-- a draw below a size -/
def spDraw : Sp := fun vs H Q _ => ∃ (p : Addr) (k : Int) (G : Hp) (m : Nat), vs = [.ref p, .int k] ∧ 0 < k ∧ k.natAbs.log2 < 9000 ∧ m < 1000000 ∧ SB G H p m ∧
  ∀ (r : Int) (H2 : Hp), 0 ≤ r → r < k → SB G H2 p (m + 1) → Q (.int r) H2
def spStart (K : PySem.W.Frag) : Sp := fun vs H Q _ => ∃ (a : Addr) (ns : List Int), vs = [.ref a] ∧ SqL K H a (ns.map V.int) ∧ ns.length ≤ 63 ∧ ∀ (p : Addr) (H2 : Hp), SB H H2 p 0 → Q (.ref p) H2
def spLaw (K : PySem.W.Frag) : Sp := fun vs H Q _ => ∃ (a : Addr) (ns : List Int), vs = [.ref a] ∧ SqL K H a (ns.map V.int) ∧ ns.length ≤ 63 ∧ ∀ H', Q (.bl true) H'
end LawK
/-! ### defs as constants of the module, where lists may be shown -/
namespace L2
open PySem PySem.Spec PyProof.Rows
structure CalG (P : Program) (w : World) (K : PySem.W.Frag) (mg : Str → Option Value) (base : Heap) (k : Nat) (x : Str) (sp : Sp) (dvs : List V) : Prop where
  is : ∃ (f : Addr) (fd : FuncData) (ps : List Str) (ds : List Value), FnG P w K mg base CX0 k f fd ps sp ∧ mg x = some (.ref f) ∧ PySem.W.keepIn K (.ref f) = true ∧ Binds K fd ps ds ∧ Vals dvs ds
section
variable {X : Cx} {k j : Nat} {x : Str} {sp : Sp} {dvs : List V} {p pos : Pos} {e : Expr} {es : List Expr} {t : TA}
theorem pe_cG (c : CalG X.prog X.w X.K X.mg X.base k x sp dvs) (g : X.A.guards = some []) (hr : Room j X.A) (hk : k ≤ j) (hg : Gl X x) (ha : PA X (e :: es) t)
    (nd : (x == ("__debug__" : Str)) = false := by decide) (he : starEach (e :: es) X.env = (false, eval e X.env) :: starEach es X.env := by rfl) (hpl : (backTo pos (starEach es X.env)).any (·.1) = false := by rfl) :
    PE X (.Call (.Name x p) (e :: es) [] pos) (tCall sp dvs E0 t) := by
  obtain ⟨f, fd, ps, ds, F, hm, kp, b, d⟩ := c.is
  exact pe_callG F g (hr.mono hk) hg hm kp b d pass0 ha nd he hpl
end
end L2
namespace L2
open PySem PySem.Spec PyProof.Rows
def rModA : R2 := fun x y H Q => ∃ i j, x = .int i ∧ y = .int j ∧ 0 < j ∧ ∀ r, 0 ≤ r → r < j → r = i % j → Q (.int r) H
theorem op_modA {X : Cx} : OpR X (binaryOp .Mod) rModA := by
  intro pins s σ H x y v u Q I rx ry h
  obtain ⟨i, j, rfl, rfl, c, q⟩ := h
  exact op_mod pins s σ H _ _ v u Q I rx ry ⟨i, j, rfl, rfl, c, q _ (Int.emod_nonneg _ (by omega)) (Int.emod_lt_of_pos _ c) rfl⟩
end L2
/-! ### f(k = v, ..) alone -/
namespace L2
open PySem PySem.Spec PyProof.Rows
structure CalKw (P : Program) (w : World) (K : PySem.W.Frag) (mg : Str → Option Value) (base : Heap) (k : Nat) (x : Str) (ks : List Str) (sp : Sp) (gV : List V → List V → List V) : Prop where
  is : ∃ (f : Addr) (fd : FuncData) (ps : List Str) (g : List Value → List Value → List Value), FnOk P w K mg base CX0 k f fd ps sp ∧ mg x = some (.ref f) ∧ PySem.W.keepIn K (.ref f) = true ∧ KBn K fd ps 0 ks g gV
def tCallKw (ks : List Str) (sp : Sp) (gV : List V → List V → List V) (tk : TA) : TE := fun σ H Q => tk σ H fun zs H2 => zs.length = ks.length ∧ sp (gV [] zs) H2 Q E0
section
variable {X : Cx} {k j : Nat} {x : Str} {ks : List Str} {sp : Sp} {gV : List V → List V → List V} {p pos : Pos} {kws : List Keyword} {tk : TA}
theorem pe_kw (c : CalKw X.prog X.w X.K X.mg X.base k x ks sp gV) (hr : Room j X.A) (hk : k ≤ j) (hg : Gl X x) (ha : PK X kws tk)
    (hall : (backToKw pos (keywordEach kws X.env)).all (·.1.isSome) = true := by rfl) (hks : (backToKw pos (keywordEach kws X.env)).filterMap (·.1) = ks := by rfl) (nd : (x == ("__debug__" : Str)) = false := by decide)
    (hpl : ((backTo pos (starEach [] X.env)).any (·.1) || (backToKw pos (keywordEach kws X.env)).any (·.1.isNone)) = false := by rfl) : PE X (.Call (.Name x p) [] kws pos) (tCallKw ks sp gV tk) := by
  obtain ⟨f, fd, ps, g, F, hm, kp, b⟩ := c.is
  refine .mk fun pins s σ H Q I h => wpAny_Call_Name_kw (ld_glob I hg hm (PySem.W.callWith_KW0 (h₀ := X.base) I.ok.mod.kin kp hall (thn (ha.run pos pins s σ H _ I h) ?_) hpl) nd)
  rintro ws s2 ⟨zs, H2, I2, rz, sz, q⟩
  refine And.intro I2.kIn ?_
  rw [hks]
  have r0 : Vals ([] : List V) ([] : List Value) := .nil
  have rr := b.rel r0 rz
  refine wpAny_call (codeAny_mono (F.run X.A X.stack s2 H2 ⟨[], ks.zip ws⟩ (g [] ws) (gV [] zs) Q E0 (hr.mono hk) I2.env0 (b.to s2 [] ws I2.kIn rfl (rz.length.symm.trans sz)) rr q) ?_)
  intro r s' hq
  match r, hq with
  | .ok (.ret u), hq => exact Inv.after I2 hq
end
end L2
/-! ### comprehensions over texts -/
namespace LawK
open PySem PySem.Spec PyProof.Rows L2 Evl
theorem el_lcS {σ : L2.St} {H : Hp} {te tl : TE} {t : TT} {z : Str} {j : Nat} {vs : List Nat} (f : Nat → Bool) (v : Nat → V) (h : Ev tl σ H (.str z)) (hz : z.cps.size ≤ 40000) (hw : ∀ x, wipe ((wipe σ vs).set j (some x)) vs = wipe σ vs)
    (ht : ∀ (i c : Nat) H1, Ex H H1 → z.cps[i]? = some c → EvT t ((wipe σ vs).set j (some (.str ⟨#[c]⟩))) H1 (f i)) (he : ∀ (i c : Nat) H1, Ex H H1 → z.cps[i]? = some c → f i = true → Ev te ((wipe σ vs).set j (some (.str ⟨#[c]⟩))) H1 (v i)) :
    EvL (tLc (iStr tl) (gName j) t te vs) σ H (given z.cps.size f v) := by
  intro H0 e Q q
  refine h H0 e _ fun H1 e1 => ⟨z, rfl, fun D hD => ?_⟩
  refine lc_it walk_str (Cw H1 f v D) ⟨hD, Ex.new hD, upd_same⟩ (fun _ _ _ _ => trivial) ?_ (fun H' p => q D H' (fresh_back e1 p.1) (e1.trans p.2.1) p.2.2)
  rintro i x H2 H' hi p ⟨rfl, c, hc, rfl⟩
  exact ⟨hw _, cw_turn p (by omega) (ht i c H1 (e.trans e1) hc) (fun hf => he i c H1 (e.trans e1) hc hf)⟩
theorem et_yes {σ : L2.St} {H : Hp} : EvT tYes σ H true := fun H1 _ _ q => q H1 (Ex.refl H1)
theorem given_all (n : Nat) (v : Nat → V) : given n (fun _ => true) v = (List.range n).map v := by
  unfold given
  rw [List.filter_eq_self.mpr (fun _ _ => rfl)]
theorem map_getD {α β : Type} (f : α → β) (d : α) : ∀ l : List α, (List.range l.length).map (fun i => f (l.getD i d)) = l.map f
  | [] => rfl
  | a :: l => by
    rw [List.length_cons, List.range_succ_eq_map, List.map_cons, List.map_map, List.map_cons, ← map_getD f d l]
    rfl
theorem getD_of {l : Array Nat} {i c : Nat} (h : l[i]? = some c) : l.toList.getD i 0 = c := by
  rw [List.getD_eq_getElem?_getD, Array.getElem?_toList, h]
  rfl
end LawK
namespace L2
open PySem PySem.Spec PyProof.Rows
theorem pe_k0 {X : Cx} {x : Str} {v : V} {pos : Pos} (hg : Gl X x) (h : ∃ u, X.mg x = some u ∧ RelV v u) (nd : (x == ("__debug__" : Str)) = false := by decide) : PE X (.Name x pos) (tC v) := by
  obtain ⟨u, hm, r⟩ := h
  exact pe_glob hg hm r nd
structure CalF (P : Program) (w : World) (K : PySem.W.Frag) (mg : Str → Option Value) (base : Heap) (k : Nat) (x : Str) (sp : Sp) (dvs : List V) : Prop where
  is : ∃ (f : Addr) (fd : FuncData) (ps : List Str) (ds : List Value), FnOk P w K mg base CX0 k f fd ps sp ∧ mg x = some (.ref f) ∧ PySem.W.keepIn K (.ref f) = true ∧ Binds K fd ps ds ∧ Vals dvs ds
section
variable {X : Cx} {k j : Nat} {x : Str} {sp : Sp} {dvs : List V} {p pos : Pos} {e : Expr} {es : List Expr} {t : TA}
theorem pe_cF (c : CalF X.prog X.w X.K X.mg X.base k x sp dvs) (hr : Room j X.A) (hk : k ≤ j) (hg : Gl X x) (ha : PA X (e :: es) t)
    (nd : (x == ("__debug__" : Str)) = false := by decide) (he : starEach (e :: es) X.env = (false, eval e X.env) :: starEach es X.env := by rfl) (hpl : (backTo pos (starEach es X.env)).any (·.1) = false := by rfl) :
    PE X (.Call (.Name x p) (e :: es) [] pos) (tCall sp dvs E0 t) := by
  obtain ⟨f, fd, ps, ds, F, hm, kp, b, d⟩ := c.is
  exact pe_call F (hr.mono hk) hg hm kp b d pass0 ha nd he hpl
end
end L2
/-! ### readings, opened one at a time -/
namespace LawK
open PySem PySem.Spec PyProof.Rows L2 Evl
section
variable {σ : L2.St} {H : Hp} {te ta tb tc : TE} {t : TT} {D : L2.Ends} {Q : VK} {r : R2} {g : TG} {tu tw : TS} {v : V} {xs : List V} {QT : Bool → Hp → Prop} {m : List V → Hp → VK → Prop} {tl : TA} {QA : List V → Hp → Prop}
theorem x_nx (h : D.nx σ H) : tNext D σ H := h
theorem x_ret (h : te σ H D.rt) : tRet te D σ H := h
theorem x_seq (h : tu { D with nx := tw D } σ H) : tSeq tu tw D σ H := h
theorem x_asg (h : te σ H fun x H1 => g x σ H1 D.nx) : tAsg te g D σ H := h
theorem x_set {i : Nat} (h : te σ H fun x H1 => D.nx (σ.set i (some x)) H1) : tAsg te (gName i) D σ H := h
theorem x_if (h : t σ H fun b H1 => if b = true then tu D σ H1 else tw D σ H1) : tIfS t tu tw D σ H := h
theorem x_cb (h : tl σ H fun vs H1 => m vs H1 Q) : tCB m tl σ H Q := h
theorem x_cons (h : te σ H fun x H1 => tl σ H1 fun ys H2 => QA (x :: ys) H2) : tCons te tl σ H QA := h
theorem x_nil (h : QA [] H) : tNil σ H QA := h
theorem x_op (h : ta σ H fun x H1 => tb σ H1 fun y H2 => r x y H2 Q) : tOp r ta tb σ H Q := h
theorem x_test (h : te σ H fun x H1 => ∃ b, x = .bl b ∧ QT b H1) : tTest te σ H QT := h
theorem x_call {sp : Sp} {dvs : List V} {E : XK} (h : tl σ H fun vs H1 => sp (vs ++ dvs) H1 Q E) : tCall sp dvs E tl σ H Q := h
theorem x_kw {ks : List Str} {sp : Sp} {gV : List V → List V → List V} (h : tl σ H fun zs H2 => zs.length = ks.length ∧ sp (gV [] zs) H2 Q E0) : tCallKw ks sp gV tl σ H Q := h
theorem x_lst (h : tl σ H fun xs H1 => xs.length ≤ sizeLine ∧ ∀ p, H1 p = none → Q (.ref p) (upd H1 p (.lst xs))) : tLst tl σ H Q := h
theorem x_not (h : t σ H fun c H1 => QT (!c) H1) : tNot t σ H QT := h
theorem x_or {u : TT} (h : t σ H fun c H1 => if c = true then QT true H1 else u σ H1 QT) : tOr t u σ H QT := h
theorem x_and {u : TT} (h : t σ H fun c H1 => if c = true then u σ H1 QT else QT false H1) : tAnd t u σ H QT := h
theorem u_v (h : Ev te σ H v) (k : ∀ H2, Ex H H2 → Q v H2) : te σ H Q := h H (Ex.refl H) Q k
theorem u_l (h : EvL te σ H xs) (k : ∀ p H2, H p = none → Ex H H2 → H2 p = some (.lst xs) → Q (.ref p) H2) : te σ H Q := h H (Ex.refl H) Q k
theorem u_t {b : Bool} (h : EvT t σ H b) (k : ∀ H2, Ex H H2 → QT b H2) : t σ H QT := h H (Ex.refl H) QT k
/-- what is pure, where G is known -/
theorem g_v {G : Hp} (x : Ex G H) (h : Ev te σ G v) (k : ∀ H2, Ex H H2 → Q v H2) : te σ H Q := h H x Q k
theorem g_t {G : Hp} {b : Bool} (x : Ex G H) (h : EvT t σ G b) (k : ∀ H2, Ex H H2 → QT b H2) : t σ H QT := h H x QT k
theorem g_l {G : Hp} (x : Ex G H) (h : EvL te σ G xs) (k : ∀ p H2, H p = none → Ex H H2 → H2 p = some (.lst xs) → Q (.ref p) H2) : te σ H Q := h H x Q k
end
end LawK
/-! ### draws in readings -/
namespace LawK
open PySem PySem.Spec PyProof.Rows L2 Evl
theorem lg_of {k : Int} {n : Nat} (h : k.natAbs < 2 ^ n) (n0 : 0 < n) (n1 : n ≤ 9000) : k.natAbs.log2 < 9000 := Nat.lt_of_lt_of_le (PySem.Flt.log2_lt_of n0 h) n1
theorem lg64 {k : Int} (h0 : 0 ≤ k) (h : k < 18446744073709551616) : k.natAbs.log2 < 9000 := by
  have e : (2 : Nat) ^ 64 = 18446744073709551616 := by decide
  exact lg_of (n := 64) (by omega) (by decide) (by decide)
theorem SB.weak {G G' H : Hp} {p : Addr} {m : Nat} (e : Ex G G') (S : SB G' H p m) : SB G H p m := by
  obtain ⟨a, b, xs, ys, n, s, r⟩ := S
  exact ⟨a, b, xs, ys, n, ⟨e.trans s.ex, s.hp, s.ha, s.hb, fresh_back e s.gp, fresh_back e s.ga, fresh_back e s.gb, s.ap, s.bp, s.ab⟩, r⟩
section
variable {K : PySem.W.Frag} {σ : L2.St} {G H : Hp} {te tl ta tb tc : TE} {D : L2.Ends} {Q : VK} {p : Addr} {m i j : Nat} {k : Int} {E : XK} {tz : TS} {xs : List V} {r r' : R2} {x y z : V}
theorem u_draw (S : SB G H p m) (hi : σ[i]? = some (some (.ref p))) (he : Ev te σ G (.int k)) (k0 : 0 < k) (kb : k.natAbs.log2 < 9000) (hm : m < 1000000) (q : ∀ r H2, 0 ≤ r → r < k → SB G H2 p (m + 1) → Q (.int r) H2) :
    tCall spDraw [] E (tCons (tVar i) (tCons te tNil)) σ H Q :=
  ⟨.ref p, hi, he H S.ex _ fun H2 e2 => ⟨p, k, G, m, rfl, k0, kb, hm, S.ext e2, q⟩⟩
theorem q_draw (S : SB G H p m) (hi : σ[i]? = some (some (.ref p))) (he : Ev te σ G (.int k)) (k0 : 0 < k) (kb : k.natAbs.log2 < 9000) (hm : m < 1000000)
    (q : ∀ r H2, 0 ≤ r → r < k → SB G H2 p (m + 1) → tz D (σ.set j (some (.int r))) H2) : tSeq (tAsg (tCall spDraw [] E (tCons (tVar i) (tCons te tNil))) (gName j)) tz D σ H := u_draw S hi he k0 kb hm q
/-- [..][draw] -/
theorem u_pick {n : Nat} (S : SB G H p m) (hl : EvL tl σ G xs) (hn : xs.length = n) (hi : σ[i]? = some (some (.ref p))) (he : Ev te σ G (.int (n : Int))) (k0 : 0 < n) (kb : n < 1000) (hm : m < 1000000)
    (q : ∀ (c : Nat) (v : V) (H2 : Hp), xs[c]? = some v → SB G H2 p (m + 1) → Q v H2) : tOp (rIxL K) tl (tCall spDraw [] E (tCons (tVar i) (tCons te tNil))) σ H Q := by
  refine hl H S.ex _ fun l H1 hl e1 h1 => ?_
  have S1 := S.grow e1
  refine u_draw S1 hi (he.mono (grow_ex S.ex)) (by omega) (lg64 (by omega) (by omega)) hm fun r H2 r0 r1 S2 => ?_
  have hL : H2 l = some (.lst xs) := S2.ex _ _ (by rw [grow_new hl]; exact h1)
  have hr : r.toNat < xs.length := by omega
  exact ⟨l, xs, r, xs[r.toNat], rfl, rfl, sq_of hL, at_of (Int.toNat_of_nonneg r0).symm (List.getElem?_eq_getElem hr), q r.toNat _ H2 (List.getElem?_eq_getElem hr) (S2.weak (grow_ex S.ex))⟩
theorem q_pick {n : Nat} (S : SB G H p m) (hl : EvL tl σ G xs) (hn : xs.length = n) (hi : σ[i]? = some (some (.ref p))) (he : Ev te σ G (.int (n : Int))) (k0 : 0 < n) (kb : n < 1000) (hm : m < 1000000)
    (q : ∀ (c : Nat) (v : V) (H2 : Hp), xs[c]? = some v → SB G H2 p (m + 1) → tz D (σ.set j (some v)) H2) : tSeq (tAsg (tOp (rIxL K) tl (tCall spDraw [] E (tCons (tVar i) (tCons te tNil)))) (gName j)) tz D σ H := u_pick S hl hn hi he k0 kb hm q
theorem ev_chain {k l : Bool} (ha : Ev ta σ H x) (hb : Ev tb σ H y) (hr : RV r x y H (.bl k)) (hc : k = true → Ev tc σ H z) (hr' : k = true → RV r' y z H (.bl l)) : Ev (tChain r r' ta tb tc) σ H (.bl (k && l)) := by
  intro H1 e1 Q q
  refine ha H1 e1 _ fun H2 e2 => hb H2 (e1.trans e2) _ fun H3 e3 => hr H3 ((e1.trans e2).trans e3) _ fun H4 e4 => ⟨k, rfl, ?_⟩
  have e14 := (e2.trans e3).trans e4
  cases k with
  | true => exact iteT (hc rfl H4 (e1.trans e14) _ fun H5 e5 => hr' rfl H5 ((e1.trans e14).trans e5) Q fun H6 e6 => q H6 ((e14.trans e5).trans e6))
  | false => exact iteF (q H4 e14)
theorem ev_slS {tl th : TO} {w : Str} {lo hi : Option Int} (h : Ev te σ H (.str w)) (h1 : EvO tl σ H lo) (h2 : EvO th σ H hi) (hz : w.length ≤ 100000) : Ev (tSl rSlS te tl th) σ H (.str (cutS w lo hi)) := fun H1 e Q q =>
  h H1 e _ fun H2 e2 => h1 H2 (e.trans e2) _ fun H3 e3 => h2 H3 ((e.trans e2).trans e3) _ fun H4 e4 => ⟨w, rfl, sz_of hz, q H4 ((e2.trans e3).trans e4)⟩
def rAddT : R2 := fun x y H Q => ∃ i j, x = .str i ∧ y = .str j ∧ i.length + j.length ≤ sizeLine ∧ Q (.str (i ++ j)) H
theorem rv_addS {a b : Str} (h : a.length + b.length ≤ 100000) : RV rAddT (.str a) (.str b) H (.str (a ++ b)) := fun H1 _ _ q => ⟨a, b, rfl, rfl, sz_of h, q H1 (Ex.refl H1)⟩
theorem rv_notB {a b : Bool} : RV rNotB (.bl a) (.bl b) H (.bl (!decide (a = b))) := fun H1 _ _ q => ⟨a, b, rfl, rfl, q H1 (Ex.refl H1)⟩
theorem ev_reprL {ds : List PyData} (h : EvL te σ H xs) (hd : ∀ H1, Ex H H1 → DpAll K H1 xs ds) (h1 : PyData.showable (.list ds) = true) (h2 : PyData.hasDict (.list ds) = false) (h3 : PyData.depth (.list ds) ≤ 60) (h4 : (PyData.shown (.list ds)).length ≤ sizeLine) :
    Ev (tCB (rRepr K) (tCons te tNil)) σ H (.str (PyData.shown (.list ds))) := fun H1 e Q q =>
  h H1 e _ fun l H2 _ e2 hl => ⟨.ref l, .list ds, rfl, .lst (sq_of hl) (hd H2 (e.trans e2)), ⟨l, rfl⟩, h1, h2, h3, h4, q H2 e2⟩
end
end LawK
namespace L2
open PySem PySem.Spec PyProof.Rows
theorem Fun.kbn {K : PySem.W.Frag} {x qual : Str} {st : Stmt} {f : Addr} {fd : FuncData} {ps ks : List Str} (g : List Value → List Value) (gV : List V → List V) (F : Fun K x qual st f fd)
    (h : ∀ (kV doc pm : Value) (an : Option Addr) (cv ct : Value) (ws : List Value), ws.length = ks.length → bindArgs (PySem.W.fnOf x qual (defArgs st) (defBody st) (defScope st) .none kV doc pm an cv ct) ⟨[], ks.zip ws⟩ = pure (ps.zip (g ws)))
    (rel : ∀ zs ws, Vals zs ws → Vals (gV zs) (g ws)) : KBn K fd ps 0 ks (fun _ ws => g ws) (fun _ zs => gV zs) := by
  obtain ⟨oc, od, kV, doc, pm, an, cv, ct, sl, rfl, lk, cd⟩ := F.ex
  refine ⟨fun s us ws _ l1 l2 => ?_, fun _ r => rel _ _ r⟩
  cases us with
  | nil => exact .of_eq (h kV doc pm an cv ct ws l2)
  | cons u r => cases l1
end L2
set_option Elab.async false
set_option linter.all false
set_option maxRecDepth 100000
set_option maxHeartbeats 2000000
/-! ### own operators of instances, at the library's level -/
namespace OwnR
open PySem PySem.W PySem.Calls PyProof.Rows
section
variable {prog : Program} {w : World} {A : Around} {E : Value → Shared → Prop} {s : Shared} {K : Frag} {x C f : Addr} {ox : Obj} {od : Option Obj} {nm : String} {b : Value}
/-- what the int on the right must be known for -/
structure IntOn (nm : String) : Prop where
  fl : fillsNumberSlot (.type "int") nm = pure true
  rl : ∃ z, typeLookup (.type "int") (dunderR nm) = pure z
theorem on_add : IntOn "add" := ⟨PySem.F.fills_int_add, ⟨some (.builtin "int.__radd__"), by rw [typeLookup_type, builtinLookup_eq_fast]; kernel_rfl⟩⟩
theorem on_sub : IntOn "sub" := ⟨PySem.F.fills_int_sub, ⟨some (.builtin "int.__rsub__"), by rw [typeLookup_type, builtinLookup_eq_fast]; kernel_rfl⟩⟩
theorem on_mul : IntOn "mul" := ⟨PySem.F.fills_int_mul, ⟨some (.builtin "int.__rmul__"), by rw [typeLookup_type, builtinLookup_eq_fast]; kernel_rfl⟩⟩
theorem py_slot {M : Model} {h : Heap} (X : K.In h) (hs : findIn K (.ref C) (PySem.dunder nm) = some (some (.ref f))) (hr : findIn K (.ref C) (dunderR nm) = some none) : Looks M h (numberSlotInPython (.ref C) nm) true := by
  intro A Q E s k q
  unfold numberSlotInPython
  refine wpAny_bind (looks_findIn X hs A _ E s k ?_)
  refine wpAny_bind (wpAny_pure ?_)
  refine wpAny_bind (looks_findIn X hr A _ E s k ?_)
  refine wpAny_bind (wpAny_pure ?_)
  exact wpAny_pure q
theorem no_slot {M : Model} {h : Heap} : Looks M h (numberSlotInPython (.type "int") nm) false := Looks.of_pure rfl
/-- x op i, i an int -/
theorem bin_int {op : Operator} {i : Int} {u : Tok} {Q : Value → Shared → Prop} (on : IntOn op.info.2) (X : K.In s.heap) (I : InstAt s.heap x ox C od) (hc : selfFirst K C = true) (hs : findIn K (.ref C) (PySem.dunder op.info.2) = some (some (.ref f)))
    (hr : findIn K (.ref C) (dunderR op.info.2) = some none) (hf : isFn K (.ref f) = true) (sb : subIn K (.type "int") (.ref C) = some false) (h : wpAny (model prog w) A (call (.ref f) [.ref x, .int i u]) (PySem.W.CmpBack Q) E s) :
    wpAny (model prog w) A (binaryOp op (.ref x) (.int i u)) Q E s := by
  obtain ⟨cd, hcd, hm⟩ := any_some hc
  obtain ⟨rest, hm⟩ : ∃ rest, cd.mro = .ref C :: rest := by
    cases q : cd.mro with
    | nil => rw [q] at hm; cases hm
    | cons a r => rw [q] at hm; exact ⟨r, by rw [List.head?_cons] at hm; cases (beq_iff_eq.mp hm); rfl⟩
  obtain ⟨z, rl⟩ := on.rl
  unfold binaryOp
  generalize op.info = inf at *
  obtain ⟨sym, nm⟩ := inf
  refine wpAny_holding (wpAny_bind ?_)
  unfold binaryOp1
  have ht : (Value.ref C == Value.type "int") = false := rfl
  refine wpAny_bind (I.type.here (wpAny_bind (wpAny_typeOf (show s.TypeIs (.int i u) "int" from rfl) (wpAny_bind ((fills_K X hcd hm hs).here ?_)))))
  rw [ht]
  simp only [Bool.false_eq_true, if_false]
  refine wpAny_bind (wpAny_of_eq on.fl ?_)
  simp only [Bool.and_self, if_true]
  refine wpAny_bind ((looks_subIn X sb).here ?_)
  simp only [Bool.false_eq_true, if_false, Bool.not_false]
  refine wpAny_bind ((py_slot X hs hr).here ?_)
  simp only [if_true]
  refine wpAny_bind (no_slot.here ?_)
  simp only [Bool.not_false, if_true]
  refine wpAny_bind (wpAny_of_eq rl ?_)
  refine wpAny_bind (m := tryMethod (.ref x) _ _) ?_
  unfold tryMethod
  refine wpAny_bind (special_fn X I hs (beq_iff_eq.mp hf) (wpAny_mono h (fun v s' hv => ?_) fun _ _ e => e))
  cases v <;> first | exact hv.elim | exact wpAny_pure (wpAny_pure (wpAny_pure hv))
/-! != by an own __eq__ -/
theorem ne_body {Q : Fin → Shared → Prop} (hu : A.units < cLine) (X : K.In s.heap) (I : InstAt s.heap x ox C od) (hs : findIn K (.ref C) "__eq__" = some (some (.ref f))) (hf : isFn K (.ref f) = true)
    (h : wpAny (model prog w) A (call (.ref f) [.ref x, b]) (fun v s' => ∃ k, v = .bool k ∧ Q (.done (.ret (.bool (!k)))) s') E s) : wpAny (model prog w) A (Builtin.«object.__ne__» ⟨[.ref x, b], []⟩) Q E s := by
  unfold Builtin.«object.__ne__»
  repeat (first
    | with_reducible refine wpAny_cRoomFor hu ?_
    | (refine wpAny_bind (m := callSpecialIfBound? (.ref x) (Str.ofString "__eq__") [b]) (ifBound_K X I hs hf (wpAny_mono h (fun r s' z => ?_) fun _ _ e => e)))
    | wp_step)
  obtain ⟨k, rfl, q⟩ := z
  repeat (first | exact q | exact wpAny_pure q | exact wpAny_truthy_bool q | (refine wpAny_bind (m := truthy (.bool _)) (wpAny_truthy_bool ?_)) | wp_step)
theorem bound_ne {args : List Value} {Q : Option Value → Shared → Prop} {M : Model} (X : K.In s.heap) (I : InstAt s.heap x ox C od) (hs : findIn K (.ref C) "__ne__" = some (some (.builtin "object.__ne__")))
    (h : wpAny M A (call (.builtin "object.__ne__") (.ref x :: args)) (fun v => Q (some v)) E s) : wpAny M A (callSpecialIfBound? (.ref x) "__ne__" args) Q E s := by
  have go : wpAny M A (call (.builtin "object.__ne__") ([.ref x] ++ args) >>= fun v => pure (some v)) Q E s := wpAny_bind (wpAny_mono h (fun v s' z => wpAny_pure z) fun _ _ z => z)
  simp only [callSpecialIfBound?, bindSpecialIfBound?]
  refine wpAny_holding (wpAny_bind (wpAny_bind (wpAny_bind (I.type.here ((looks_findIn X hs).here (wpAny_bind (wpAny_askSetting (wpAny_ite ?_))))))))
  split
  · exact wpAny_bind (wpAny_of_eq (F.cmp_object.ne.bind _) (wpAny_pure (by exact go)))
  · exact wpAny_tryCatch (wpAny_bind (wpAny_of_eq (F.cmp_object.ne.bind _) (wpAny_pure (by exact go))))
theorem ne_own {tb : Value} {Q : Value → Shared → Prop} (hu : A.units + 1 < cLine) (X : K.In s.heap) (I : InstAt s.heap x ox C od) (hm : mroIn K C (.type "object") = some true) (hn : findIn K (.ref C) "__ne__" = some (some (.builtin "object.__ne__")))
    (hs : findIn K (.ref C) "__eq__" = some (some (.ref f))) (hf : isFn K (.ref f) = true) (hb : Looks (model prog w) s.heap (typeOf b) tb) (nf : notFirst K C tb = true)
    (h : wpAny (model prog w) A.in1 (call (.ref f) [.ref x, b]) (fun v s' => ∃ k, v = .bool k ∧ Q (.bool (!k)) s') E s) : wpAny (model prog w) A (richCompare .NotEq (.ref x) b) Q E s := by
  have one : wpAny (model prog w) A (tryCompare (.ref x) "__ne__" b) (fun r s' => ∃ v, r = some v ∧ Q v s') E s := by
    unfold tryCompare
    refine wpAny_bind (bound_ne X I hn (wpAny_call (codeAny_call_builtin F.cmp_object.ne.plain F.cmpEntry_ne (check_slot F.cmpKind_ne F.cmpSplit_ne (I.type.andThen (looks_mroIn X hm)) (F.cmpArgs_ne _ _) ?_))))
    refine ne_body (A := A.in1) hu X I hs hf (wpAny_mono h (fun v s' z => ?_) fun _ _ e => e)
    obtain ⟨k, rfl, q⟩ := z
    first
      | exact ⟨k, rfl, wpAny_pure ⟨_, rfl, q⟩⟩
      | exact ⟨k, rfl, ⟨_, rfl, q⟩⟩
  unfold richCompare
  simp only [oneThing_ref]
  refine wpAny_holding (wpAny_bind (wpAny_cRoomFor (Nat.lt_of_succ_lt hu) ?_))
  refine wpAny_bind (I.type.here (wpAny_bind (hb.here ?_)))
  have tail : wpAny (model prog w) A (tryCompare (.ref x) (cmpInfo .NotEq).2.1 b) (fun r s' => ∃ v, r = some v ∧ Q v s') E s := one
  split
  · rename_i q
    have e : subIn K tb (.ref C) = some false := by
      cases Bool.or_eq_true_iff.mp nf with
      | inl e => rw [beq_iff_eq.mp e] at q; simp at q
      | inr e => exact beq_iff_eq.mp e
    refine wpAny_bind ((looks_subIn X e).here ?_)
    simp only [Bool.false_eq_true, if_false]
    refine wpAny_bind (wpAny_mono tail (fun r s' z => ?_) fun _ _ e => e)
    obtain ⟨v, rfl, hq⟩ := z
    exact wpAny_pure hq
  · refine wpAny_bind (wpAny_pure ?_)
    simp only [Bool.false_eq_true, if_false]
    refine wpAny_bind (wpAny_mono tail (fun r s' z => ?_) fun _ _ e => e)
    obtain ⟨v, rfl, hq⟩ := z
    exact wpAny_pure hq
/-! an int == x -/
theorem int_no_ins (i : Int) (u : Tok) (l : Addr) (dx : Addr) :
    Meets (Builtin.«int.__eq__» ⟨[.int i u, .ref l], []⟩) (fun _ R s => s.heap.get? l = some (instObj C dx) ∧ R (.ok (.ret .notImplemented)) s) :=
  .of_wp fun prog w A R s h => by
    obtain ⟨hp, g, d, tk, os⟩ := s
    obtain ⟨hl, h⟩ := h
    unfold instObj at hl
    wp_walk using AutoSeq1.wpAny_loadPart' hl, wpAny_load hl
    exact ⟨_, rfl, h⟩
theorem eq_int_own {i : Int} {u : Tok} {dx : Addr} {Q : Value → Shared → Prop} (hu : A.units < cLine) (X : K.In s.heap) (hx : s.heap.get? x = some (instObj C dx)) (I : InstAt s.heap x ox C od) (hs : findIn K (.ref C) "__eq__" = some (some (.ref f))) (hf : isFn K (.ref f) = true)
    (sb : subIn K (.ref C) (.type "int") = some false) (h : wpAny (model prog w) A (call (.ref f) [.ref x, .int i u]) (PySem.W.CmpBack Q) E s) : wpAny (model prog w) A (richCompare .Eq (.int i u) (.ref x)) Q E s := by
  have two : wpAny (model prog w) A (tryCompare (.ref x) "__eq__" (.int i u)) (fun r s' => ∃ v, r = some v ∧ Q v s') E s := by
    unfold tryCompare
    refine wpAny_bind (ifBound_K X I hs hf (wpAny_mono h (fun v s' hv => ?_) fun _ _ e => e))
    cases v <;> first | exact hv.elim | exact wpAny_pure ⟨_, rfl, hv⟩
  have one : wpAny (model prog w) A (tryCompare (.int i u) "__eq__" (.ref x)) (fun r s' => r = none ∧ s' = s) E s :=
    wpAny_tryCompare_declines (typeIs_int s i u) F.slot_int_eq (call_meets F.slot_int_eq (typeIs_int s i u) F.entry_int_eq (F.args_int_eq_2 _ _) (int_no_ins i u x dx) ⟨hx, rfl, rfl, rfl⟩)
  unfold richCompare
  simp only [oneThing_ref]
  refine wpAny_holding (wpAny_bind (wpAny_cRoomFor hu ?_))
  refine wpAny_bind (wpAny_typeOf (typeIs_int s i u) (wpAny_bind (I.type.here ?_)))
  have ne : (Value.type "int" != Value.ref C) = true := rfl
  rw [if_pos ne]
  refine wpAny_bind ((looks_subIn X sb).here ?_)
  simp only [Bool.false_eq_true, if_false, Bool.not_false, if_true]
  refine wpAny_bind (m := tryCompare (.int i u) _ (.ref x)) (wpAny_mono one (fun r s1 z => ?_) fun _ _ e => e)
  obtain ⟨rfl, rfl⟩ := z
  refine wpAny_bind (m := tryCompare (.ref x) _ (.int i u)) (wpAny_mono two (fun r s1 z => ?_) fun _ _ e => e)
  obtain ⟨v, rfl, q⟩ := z
  exact wpAny_pure q
end
end OwnR
/-! ### the same over the layer -/
namespace L2
open PySem PySem.Spec PyProof.Rows
theorem passX {X : Cx} {P : Program} {w : World} : Passes (L2.CX P w) X E0 := fun _ _ _ _ _ _ _ h => by
  obtain ⟨_, _, _, _, _, _, _, _, _, _, _, _, h⟩ := h
  exact h.elim
theorem FnOk.up {P : Program} {w : World} {K : PySem.W.Frag} {mg : Str → Option Value} {base : Heap} {CX : CXT} {k : Nat} {f : Addr} {fd : FuncData} {ps : List Str} {sp : Sp} (F : FnOk P w K mg base CX0 k f fd ps sp) : FnOk P w K mg base CX k f fd ps sp :=
  ⟨F.len, fun A o s H ar us vs Q E hr e b r h => codeAny_mono (F.run A o s H ar us vs Q E hr e b r h) fun r s' z => by
    cases r with
    | ok fl => cases fl <;> exact z
    | error er => exact False.elim z⟩
/-- an instance of the class at C -/
def InsAt (C : Addr) (H : Hp) (x : V) : Prop := ∃ a dx fs, x = .ref a ∧ H a = some (.ins C dx fs)
section
variable {X : Cx} {CX : CXT} {C f : Addr} {fd : FuncData} {ps : List Str} {sp : Sp} {E : XK} {k : Nat}
theorem ins_at {pins : List (Addr × Obj)} {σ : St} {H : Hp} {s : Shared} {a dx : Addr} {fs : List (Str × V)} (I : Inv X pins σ H s) (h : H a = some (.ins C dx fs)) :
    s.heap.get? a = some (PySem.W.instObj C dx) ∧ ∃ ox od, PySem.W.InstAt s.heap a ox C (some od) := by
  have o : ObjOk X.prog X.w H s.heap a (.ins C dx fs) := I.hok a _ h
  obtain ⟨_, _, _, e, _⟩ := o
  obtain ⟨mA, O, _⟩ := ins_get I.hok h
  obtain ⟨od, J, _⟩ := O.look
  exact ⟨e, _, _, J⟩
def rOwnAr (C : Addr) (sp : Sp) (E : XK) : R2 := fun x y H Q => InsAt C H x ∧ ((∃ i, y = .int i) ∨ InsAt C H y) ∧ sp [x, y] H Q E
theorem op_ownAr {op : Operator} (on : OwnR.IntOn op.info.2) (hc : PySem.W.selfFirst X.K C = true) (hs : PySem.W.findIn X.K (.ref C) (PySem.dunder op.info.2) = some (some (.ref f))) (nr : PySem.W.findIn X.K (.ref C) (dunderR op.info.2) = some none)
    (hf : PySem.W.isFn X.K (.ref f) = true) (sb : PySem.W.subIn X.K (.type "int") (.ref C) = some false) (F : FnOk X.prog X.w X.K X.mg X.base CX k f fd ps sp) (hr : Room k X.A) (hb : Binds X.K fd ps []) (hx : Passes CX X E) : OpR X (binaryOp op) (rOwnAr C sp E) := by
  intro pins s σ H x y v u Q I rx ry h
  obtain ⟨⟨a, dx, fs, rfl, ha⟩, hy, q⟩ := h
  cases (show v = Value.ref a from rx)
  obtain ⟨_, ox, od, J⟩ := ins_at I ha
  obtain ⟨m, hF⟩ := I.fr
  cases hy with
  | inl hy =>
    obtain ⟨i, rfl⟩ := hy
    obtain ⟨t, rfl⟩ := ry
    refine OwnR.bin_int on I.kIn J hc hs nr hf sb (wpAny_mono (run_fn (us := [.ref a, .int i t]) (vs := [.ref a, .int i]) F hr hb .nil hx I (.cons rfl (.cons ⟨t, rfl⟩ .nil)) q) (fun z s' hz => ?_) fun _ _ e => e)
    obtain ⟨z', H', I', rz, qz⟩ := hz
    exact SlX.cmpback rz ⟨z', H', I', rz, qz⟩
  | inr hy =>
    obtain ⟨b, dy, gs, rfl, hb2⟩ := hy
    cases (show u = Value.ref b from ry)
    obtain ⟨_, oy, oe, J2⟩ := ins_at I hb2
    refine PySem.W.binop_K hF I.ok.mod.kin J J2.type hc hs hf (wpAny_mono (run_fn (us := [.ref a, .ref b]) (vs := [.ref a, .ref b]) F hr hb .nil hx I (.cons rfl (.cons rfl .nil)) q) (fun z s' hz => ?_) fun _ _ e => e)
    obtain ⟨z', H', I', rz, qz⟩ := hz
    exact SlX.cmpback rz ⟨z', H', I', rz, qz⟩
def rOwnNeg (C : Addr) (sp : Sp) (E : XK) : V → Hp → VK → Prop := fun x H Q => InsAt C H x ∧ sp [x] H Q E
theorem un_ownNeg (hs : PySem.W.findIn X.K (.ref C) "__neg__" = some (some (.ref f))) (hf : PySem.W.isFn X.K (.ref f) = true) (F : FnOk X.prog X.w X.K X.mg X.base CX k f fd ps sp) (hr : Room k X.A) (hb : Binds X.K fd ps []) (hx : Passes CX X E) :
    UnR X (unaryOp .USub) (rOwnNeg C sp E) := by
  intro pins s σ H x v Q I rx h
  obtain ⟨⟨a, dx, fs, rfl, ha⟩, q⟩ := h
  cases (show v = Value.ref a from rx)
  obtain ⟨_, ox, od, J⟩ := ins_at I ha
  unfold unaryOp
  refine wpAny_holding ?_
  dsimp only
  rw [if_neg (by decide)]
  refine wpAny_bind (PySem.W.special_fn I.kIn J hs (beq_iff_eq.mp hf) (wpAny_mono (run_fn (us := [.ref a]) (vs := [.ref a]) F hr hb .nil hx I (.cons rfl .nil) q) (fun z s' hz => ?_) fun _ _ e => e))
  exact wpAny_pure hz
/-- == and != -/
def rOwnEq (K : PySem.W.Frag) (C : Addr) (sp : Sp) (E : XK) : R2 := fun x y H Q => InsAt C H x ∧ (∃ t, TyX K H y t ∧ PySem.W.notFirst K C t = true) ∧ sp [x, y] H Q E
theorem op_ownEq (hs : PySem.W.findIn X.K (.ref C) "__eq__" = some (some (.ref f))) (hf : PySem.W.isFn X.K (.ref f) = true) (F : FnOk X.prog X.w X.K X.mg X.base CX k f fd ps sp) (hr : Room k X.A) (hb : Binds X.K fd ps []) (hx : Passes CX X E) :
    OpR X (compareOp .Eq) (rOwnEq X.K C sp E) := by
  intro pins s σ H x y v u Q I rx ry h
  obtain ⟨⟨a, dx, fs, rfl, ha⟩, ⟨t, ty, nf⟩, q⟩ := h
  cases (show v = Value.ref a from rx)
  obtain ⟨_, ox, od, J⟩ := ins_at I ha
  obtain ⟨m, hF⟩ := I.fr
  obtain ⟨PP, Z, pz, _⟩ := kit_of I ry ty
  show wpAny (model X.prog X.w) X.A (richCompare .Eq (.ref a) u) (EP X pins σ Q) X.xe s
  refine PySem.W.cmp_K (op := .Eq) hr.units0 hF I.ok.mod.kin J (Z.ty _ _ I.kIn pz) nf hs hf (wpAny_mono (run_fn (us := [.ref a, u]) (vs := [.ref a, y]) F hr hb .nil hx I (.cons rfl (.cons ry .nil)) q) (fun z s' hz => ?_) fun _ _ e => e)
  obtain ⟨z', H', I', rz, qz⟩ := hz
  exact SlX.cmpback rz ⟨z', H', I', rz, qz⟩
def rOwnNe (K : PySem.W.Frag) (C : Addr) (sp : Sp) (E : XK) : R2 := fun x y H Q => InsAt C H x ∧ (∃ t, TyX K H y t ∧ PySem.W.notFirst K C t = true) ∧ sp [x, y] H (fun z H' => ∃ b, z = .bl b ∧ Q (.bl (!b)) H') E
theorem op_ownNe (hm : PySem.W.mroIn X.K C (.type "object") = some true) (hn : PySem.W.findIn X.K (.ref C) "__ne__" = some (some (.builtin "object.__ne__"))) (hs : PySem.W.findIn X.K (.ref C) "__eq__" = some (some (.ref f)))
    (hf : PySem.W.isFn X.K (.ref f) = true) (F : FnOk X.prog X.w X.K X.mg X.base CX k f fd ps sp) (hr : Room (k + 1) X.A) (hb : Binds X.K fd ps []) (hx : Passes CX X E) : OpR X (compareOp .NotEq) (rOwnNe X.K C sp E) := by
  intro pins s σ H x y v u Q I rx ry h
  obtain ⟨⟨a, dx, fs, rfl, ha⟩, ⟨t, ty, nf⟩, q⟩ := h
  cases (show v = Value.ref a from rx)
  obtain ⟨_, ox, od, J⟩ := ins_at I ha
  obtain ⟨PP, Z, pz, _⟩ := kit_of I ry ty
  show wpAny (model X.prog X.w) X.A (richCompare .NotEq (.ref a) u) (EP X pins σ Q) X.xe s
  have rr : Vals ([.ref a, y] : List V) [.ref a, u] := .cons rfl (.cons ry .nil)
  refine OwnR.ne_own (by have := hr.un; omega) I.kIn J hm hn hs hf (Z.ty _ _ I.kIn pz) nf ?_
  have sz : ([.ref a, u] ++ [] : List Value).length = ps.length := by rw [← F.len _ _ _ _ q]; rfl
  refine wpAny_call (codeAny_mono (F.run X.A.in1 X.stack s H ⟨[.ref a, u], []⟩ ([.ref a, u] ++ []) ([.ref a, y]) _ E hr.in1 I.env0.in1 (hb s [.ref a, u] I.kIn sz) rr q) ?_)
  intro r s' hq
  match r, hq with
  | .error er, hq => exact hx pins σ H s er s' I hq
  | .ok (.ret w), hq =>
    obtain ⟨z, H', I', rz, b, rfl, qz⟩ := Inv.after I hq
    cases (show w = Value.bool b from rz)
    exact ⟨b, rfl, .bl (!b), H', I', rfl, qz⟩
def rIntEq (C : Addr) (sp : Sp) (E : XK) : R2 := fun x y H Q => (∃ i, x = .int i) ∧ InsAt C H y ∧ sp [y, x] H Q E
theorem op_intEq (hs : PySem.W.findIn X.K (.ref C) "__eq__" = some (some (.ref f))) (hf : PySem.W.isFn X.K (.ref f) = true) (sb : PySem.W.subIn X.K (.ref C) (.type "int") = some false)
    (F : FnOk X.prog X.w X.K X.mg X.base CX k f fd ps sp) (hr : Room k X.A) (hb : Binds X.K fd ps []) (hx : Passes CX X E) : OpR X (compareOp .Eq) (rIntEq C sp E) := by
  intro pins s σ H x y v u Q I rx ry h
  obtain ⟨⟨i, rfl⟩, ⟨a, dx, fs, rfl, ha⟩, q⟩ := h
  cases (show u = Value.ref a from ry)
  obtain ⟨t, rfl⟩ := rx
  obtain ⟨ho, ox, od, J⟩ := ins_at I ha
  show wpAny (model X.prog X.w) X.A (richCompare .Eq (.int i t) (.ref a)) (EP X pins σ Q) X.xe s
  refine OwnR.eq_int_own hr.units0 I.kIn ho J hs hf sb (wpAny_mono (run_fn (us := [.ref a, .int i t]) (vs := [.ref a, .int i]) F hr hb .nil hx I (.cons rfl (.cons ⟨t, rfl⟩ .nil)) q) (fun z s' hz => ?_) fun _ _ e => e)
  obtain ⟨z', H', I', rz, qz⟩ := hz
  exact SlX.cmpback rz ⟨z', H', I', rz, qz⟩
/-- // by any divisor that is not 0 -/
def CDivZ (_ j : Int) : Prop := j ≠ 0 ∧ j.natAbs.log2 < 9000
theorem op_fdivZ : OpR X (binaryOp .FloorDiv) (rI CDivZ fun i j => .int (i.fdiv j)) := opI fun _ _ _ _ _ _ _ hc q => floordiv_int hc.1 q (.inl (PyProof.noPylong_of_log2 hc.2))
end
end L2
set_option Elab.async false
set_option linter.all false
set_option maxRecDepth 100000
set_option maxHeartbeats 2000000
/-! ### defs, methods, properties and makers that may raise, as constants of the module -/
namespace L2
open PySem PySem.Spec PyProof.Rows
def E00 : St → XK := fun _ => E0
theorem passN {X : Cx} {P : Program} {w : World} : ∀ σ, PassesAt (L2.CX P w) X σ (E00 σ) := fun _ _ _ _ _ _ _ h => by
  obtain ⟨_, _, _, _, _, _, _, _, _, _, _, _, h⟩ := h
  exact h.elim
/-- a def's exceptions are the caller's -/
theorem passE {X : Cx} {E : XK} (tk : Takes X (fun cls d _ H => E cls d H)) : ∀ σ, PassesAt (L2.CX X.prog X.w) X σ ((fun _ => E : St → XK) σ) := fun _ _ _ _ e s' I c => tk e s' (XE.of_call I (fun _ _ _ h => h) c)
structure Kn (P : Program) (w : World) (K : PySem.W.Frag) (mg : Str → Option Value) (base : Heap) (k : Nat) (f : Addr) (sp : Sp) (dvs : List V) : Prop where
  is : ∃ (fd : FuncData) (ps : List Str) (ds : List Value), FnOk P w K mg base (L2.CX P w) k f fd ps sp ∧ Binds K fd ps ds ∧ Vals dvs ds
structure CalX (P : Program) (w : World) (K : PySem.W.Frag) (mg : Str → Option Value) (base : Heap) (k : Nat) (x : Str) (sp : Sp) (dvs : List V) : Prop where
  is : ∃ f, Kn P w K mg base k f sp dvs ∧ mg x = some (.ref f) ∧ PySem.W.keepIn K (.ref f) = true
structure MetX (P : Program) (w : World) (K : PySem.W.Frag) (mg : Str → Option Value) (base : Heap) (k : Nat) (C : Addr) (m : Str) (sp : Sp) (dvs : List V) : Prop where
  is : ∃ f, Kn P w K mg base k f sp dvs ∧ Cls K C ∧ Meth K C m f
structure MakX (P : Program) (w : World) (K : PySem.W.Frag) (mg : Str → Option Value) (base : Heap) (k : Nat) (x : Str) (C : Addr) (sp : Sp) (dvs : List V) : Prop where
  is : ∃ f, Kn P w K mg base k f sp dvs ∧ Mk K C f ∧ mg x = some (.ref C)
structure ProX (P : Program) (w : World) (K : PySem.W.Frag) (mg : Str → Option Value) (base : Heap) (k : Nat) (C : Addr) (m : Str) (sp : Sp) : Prop where
  is : ∃ p g, Kn P w K mg base k g sp [] ∧ Cls K C ∧ PropOf K C m p g
/-- an operator's def -/
structure DunX (P : Program) (w : World) (K : PySem.W.Frag) (mg : Str → Option Value) (base : Heap) (k : Nat) (C : Addr) (m : Str) (sp : Sp) : Prop where
  is : ∃ f, Kn P w K mg base k f sp [] ∧ PySem.W.findIn K (.ref C) m = some (some (.ref f)) ∧ PySem.W.isFn K (.ref f) = true
def tMethSD (C : Addr) (m : Str) (sp : Sp) (dvs : List V) (E : St → XK) (ta : TE) (t : TA) : TE := fun σ H Q => ta σ H fun x H1 => ∃ a dx fs, x = .ref a ∧ H1 a = some (.ins C dx fs) ∧ fs.lookup m = none ∧ t σ H1 fun vs H2 => sp (x :: (vs ++ dvs)) H2 Q (E σ)
def tMakeSD (C : Addr) (sp : Sp) (dvs : List V) (E : St → XK) (t : TA) : TE := fun σ H Q => t σ H fun vs H1 => ∀ x dx, H1 x = none → H1 dx = none → dx ≠ x → sp (.ref x :: (vs ++ dvs)) (upd (upd H1 dx (.own x)) x (.ins C dx [])) (fun v H2 => v = .non ∧ Q (.ref x) H2) (E σ)
section
variable {X : Cx} {k j : Nat} {C f : Addr} {x m : Str} {sp : Sp} {dvs : List V} {E : St → XK} {p pos apos : Pos} {e o : Expr} {es : List Expr} {ta : TE} {t : TA}
theorem go_kn {pins : List (Addr × Obj)} {σ : St} {H : Hp} {s : Shared} {Q : VK} {us : List Value} {vs : List V} (c : Kn X.prog X.w X.K X.mg X.base k f sp dvs) (hr : Room k X.A) (hx : PassesAt (L2.CX X.prog X.w) X σ (E σ))
    (I : Inv X pins σ H s) (r : Vals vs us) (h : sp (vs ++ dvs) H Q (E σ)) : wpAny (model X.prog X.w) X.A (call (.ref f) us) (EP X pins σ Q) X.xe s := by
  obtain ⟨fd, ps, ds, F, b, d⟩ := c.is
  exact run_fnSD F hr b d hx I r h
theorem pe_cX (c : CalX X.prog X.w X.K X.mg X.base k x sp dvs) (hx : ∀ σ, PassesAt (L2.CX X.prog X.w) X σ (E σ)) (hr : Room j X.A) (hk : k ≤ j) (hg : Gl X x) (ha : PA X (e :: es) t)
    (nd : (x == ("__debug__" : Str)) = false := by decide) (he : starEach (e :: es) X.env = (false, eval e X.env) :: starEach es X.env := by rfl) (hpl : (backTo pos (starEach es X.env)).any (·.1) = false := by rfl) :
    PE X (.Call (.Name x p) (e :: es) [] pos) (tCallSD sp dvs E t) := by
  obtain ⟨f, ⟨fd, ps, ds, F, b, d⟩, hm, kp⟩ := c.is
  exact pe_callSD F (hr.mono hk) hg hm kp b d hx ha nd he hpl
theorem pe_mtX {pl : Sem Bool} (c : MetX X.prog X.w X.K X.mg X.base k C m sp dvs) (hx : ∀ σ, PassesAt (L2.CX X.prog X.w) X σ (E σ)) (hr : Room j X.A) (hk : k ≤ j) (ho : PE X o ta) (ha : PA X (e :: es) t)
    (he : starEach (e :: es) X.env = (false, eval e X.env) :: starEach es X.env := by rfl) (hpl : (backTo pos (starEach es X.env)).any (·.1) = false := by rfl)
    (ht : eval (.Call (.Attribute o m apos) (e :: es) [] pos) X.env = (do let ov ← eval o X.env; standAt apos.atName; let (f, first) ← holding [ov] (getMethod ov m pl); callWith pos f first (backTo pos (starEach (e :: es) X.env)) (backToKw pos (keywordEach [] X.env))) := by rfl) :
    PE X (.Call (.Attribute o m apos) (e :: es) [] pos) (tMethSD C m sp dvs E ta t) := by
  obtain ⟨f, kn, cl, me⟩ := c.is
  refine .mk fun pins s σ H Q I h => PySem.W.methodCall_KW (pl := pl) (thn (ho.run pins s σ H _ I h) ?_) ht
  rintro u s1 ⟨x, H1, I1, rx, a, dx, fs, rfl, ea, l, q⟩
  cases (show u = Value.ref a from rx)
  refine getmeth_ok I1 ea cl me l (PySem.W.callWith_K (first := [.ref a]) (h₀ := X.base) I.ok.mod.kin me.kp (thn (ha.run pos pins s1 σ H1 _ I1 q) ?_) he hpl)
  rintro us s2 ⟨vs, H2, I2, r, q2⟩
  exact And.intro I2.kIn (go_kn (us := .ref a :: us) (vs := .ref a :: vs) kn (hr.mono hk) (hx σ) I2 (.cons rfl r) q2)
theorem pe_mtX0 {pl : Sem Bool} (c : MetX X.prog X.w X.K X.mg X.base k C m sp dvs) (hx : ∀ σ, PassesAt (L2.CX X.prog X.w) X σ (E σ)) (hr : Room j X.A) (hk : k ≤ j) (ho : PE X o ta)
    (ht : eval (.Call (.Attribute o m apos) [] [] pos) X.env = (do let ov ← eval o X.env; standAt apos.atName; let (f, first) ← holding [ov] (getMethod ov m pl); callWith pos f first (backTo pos (starEach [] X.env)) (backToKw pos (keywordEach [] X.env))) := by rfl) :
    PE X (.Call (.Attribute o m apos) [] [] pos) (tMethSD C m sp dvs E ta tNil) := by
  obtain ⟨f, kn, cl, me⟩ := c.is
  refine .mk fun pins s σ H Q I h => PySem.W.methodCall_KW (pl := pl) (thn (ho.run pins s σ H _ I h) ?_) ht
  rintro u s1 ⟨x, H1, I1, rx, a, dx, fs, rfl, ea, l, q⟩
  cases (show u = Value.ref a from rx)
  exact getmeth_ok I1 ea cl me l (PySem.W.callWith_K0 (first := [.ref a]) I1.kIn me.kp (go_kn (us := [.ref a]) (vs := [.ref a]) kn (hr.mono hk) (hx σ) I1 (.cons rfl .nil) q))
theorem pe_prX (c : ProX X.prog X.w X.K X.mg X.base k C m sp) (hr : Room j X.A) (hk : k + 1 ≤ j) (ho : PE X o ta) (hab : attributeBase o m X.env (eval o X.env) = eval o X.env := by rfl) : PE X (.Attribute o m pos) (tProp C sp [] E0 ta) := by
  obtain ⟨p, g, ⟨fd, ps, ds, F, b, d⟩, cl, pr⟩ := c.is
  exact pe_prop ho cl pr F (hr.mono hk) b d passX hab
theorem pe_mkX (c : MakX X.prog X.w X.K X.mg X.base k x C sp dvs) (hx : ∀ σ, PassesAt (L2.CX X.prog X.w) X σ (E σ)) (hr : Room j X.A) (hk : k + 1 ≤ j) (hg : Gl X x) (ha : PA X (e :: es) t)
    (nd : (x == ("__debug__" : Str)) = false := by decide) (he : starEach (e :: es) X.env = (false, eval e X.env) :: starEach es X.env := by rfl) (hpl : (backTo pos (starEach es X.env)).any (·.1) = false := by rfl) :
    PE X (.Call (.Name x p) (e :: es) [] pos) (tMakeSD C sp dvs E t) := by
  obtain ⟨f, ⟨fd, ps, ds, F, b, d⟩, M, hm⟩ := c.is
  refine .mk fun pins s σ H Q I h => wpAny_Call_Name_kw (ld_glob I hg hm (PySem.W.callWith_K (h₀ := X.base) I.ok.mod.kin M.kp (thn (ha.run pos pins s σ H _ I h) ?_) he hpl) nd)
  rintro us s1 ⟨vs, H1, I1, r, q⟩
  refine And.intro I1.kIn ?_
  have hq := q (s1.heap.objs.size + 1) s1.heap.objs.size (I1.hok.fresh (Nat.le_succ _)) (I1.hok.fresh (Nat.le_refl _)) (Nat.ne_of_lt (Nat.lt_succ_self _))
  have I2 := Inv.made (C := C) I1
  have rr : Vals (V.ref (s1.heap.objs.size + 1) :: (vs ++ dvs)) (Value.ref (s1.heap.objs.size + 1) :: (us ++ ds)) := .cons rfl (r.append d)
  have sz : (Value.ref (s1.heap.objs.size + 1) :: us ++ ds).length = ps.length := by
    have z := rr.length
    rw [F.len _ _ _ _ hq] at z
    exact z.symm
  refine wpAny_call (make_map (f := f) I1.kIn M.makes M.init (beq_iff_eq.mp M.fn) (codeAny_mono (F.run _ X.stack _ _ ⟨Value.ref (s1.heap.objs.size + 1) :: us, []⟩ (Value.ref (s1.heap.objs.size + 1) :: (us ++ ds)) _ _ (E σ) ((hr.mono hk).make C us []) (I2.env0.make C us []) (b _ (Value.ref (s1.heap.objs.size + 1) :: us) I2.kIn sz) rr hq) ?_))
  intro r2 s' z
  match r2, z with
  | .error er, z => exact hx σ pins _ _ er s' I2 z
  | .ok (.ret u), z =>
    obtain ⟨v, H', I3, rv, ev, q3⟩ := Inv.after I2 z
    subst ev
    exact ⟨rv, ⟨V.ref (s1.heap.objs.size + 1), H', I3, rfl, q3⟩⟩
end
end L2
namespace L2
open PySem PySem.Spec PyProof.Rows
/-- X(), X an own exception class without an __init__ of its own -/
theorem pmk_own0 {X : Cx} {C : Addr} {bmB : List Value} {B newId initId : String} {x : Str} {p pos : Pos} (F : ExcBaseFacts B newId initId bmB) (q : PySem.W.excIn X.K C bmB newId = true) (gC : X.mg x = some (.ref C))
    (kC : PySem.W.keepIn X.K (.ref C) = true) (r : Raises X (.ref C)) (hg : Gl X x) (nd : (x == ("__debug__" : Str)) = false := by decide) : PMk X (.Call (.Name x p) [] [] pos) (fun _ H Q => Q (.ref C) none H) := by
  intro pins s σ H Q I h
  refine wpAny_Call_Name_kw (ld_glob I hg gC (PySem.W.callWith_K0 I.kIn kC ?_) nd)
  show wpAny _ _ (call (.ref C) []) _ _ _
  obtain ⟨bm, N, nm, qn, bs, hdct, sn, sub, ab, col, dd, k0, k1, k2, k3, k5, mN, hC, hN, hni, T⟩ := exc_obj I.kIn q
  exact wpAny_call_exc_subT F T hC hN hni (fun h' e hm => mk_of I hm r h (I.hok.gone hm.new)) (Nat.zero_le _)
end L2
set_option Elab.async false
set_option linter.all false
set_option maxRecDepth 100000
set_option maxHeartbeats 2000000
/-! ### exact quotients: the numbers behind the objects -/
namespace RatK
open PySem PySem.Spec PyProof.Rows L2 Evl
def sgn (b : Int) (g : Nat) : Int := if b < 0 then -(g : Int) else (g : Int)
theorem fdiv_neg {k : Int} {g : Nat} (hg : 0 < g) : ((g : Int) * k).fdiv (-(g : Int)) = -k := by
  have e : (g : Int) * k = (-(g : Int)) * (-k) := by rw [Int.neg_mul_neg]
  rw [e, Int.mul_fdiv_cancel_left _ (by omega)]
theorem gcd_pos {t b : Int} (hb : b ≠ 0) : 0 < Nat.gcd t.natAbs b.natAbs := Nat.gcd_pos_of_pos_right _ (by omega)
theorem num_is {t b : Int} (hb : b ≠ 0) : t.fdiv (sgn b (Nat.gcd t.natAbs b.natAbs)) = (Rat.divInt t b).num := by
  have gp := gcd_pos (t := t) hb
  rw [Rat.num_divInt]
  have eg : b.gcd t = Nat.gcd t.natAbs b.natAbs := Nat.gcd_comm _ _
  rw [eg]
  have dv : ((Nat.gcd t.natAbs b.natAbs : Nat) : Int) ∣ t := Int.ofNat_dvd_left.mpr (Nat.gcd_dvd_left _ _)
  obtain ⟨k, hk⟩ := dv
  generalize Nat.gcd t.natAbs b.natAbs = g at *
  unfold sgn
  by_cases h : b < 0
  · rw [if_pos h, hk, fdiv_neg gp, Int.sign_eq_neg_one_of_neg h]
    have e : -1 * ((g : Int) * k) = (g : Int) * (-k) := by rw [Int.mul_neg]; omega
    rw [e, Int.mul_ediv_cancel_left _ (by omega)]
  · rw [if_neg h, hk, Int.mul_fdiv_cancel_left _ (by omega), Int.sign_eq_one_of_pos (by omega), Int.one_mul, Int.mul_ediv_cancel_left _ (by omega)]
theorem den_is {t b : Int} (hb : b ≠ 0) : b.fdiv (sgn b (Nat.gcd t.natAbs b.natAbs)) = ((Rat.divInt t b).den : Int) := by
  have gp := gcd_pos (t := t) hb
  rw [Rat.den_divInt, if_neg hb]
  have eg : b.gcd t = Nat.gcd t.natAbs b.natAbs := Nat.gcd_comm _ _
  rw [eg]
  obtain ⟨m, hm⟩ := (Nat.gcd_dvd_right t.natAbs b.natAbs)
  generalize Nat.gcd t.natAbs b.natAbs = g at *
  rw [hm, Nat.mul_div_cancel_left _ gp]
  unfold sgn
  by_cases h : b < 0
  · have e : b = (g : Int) * (-(m : Int)) := by
      have : (b.natAbs : Int) = (g : Int) * (m : Int) := by rw [hm]; exact Int.natCast_mul _ _
      rw [Int.mul_neg]
      omega
    rw [if_pos h, e, fdiv_neg gp]
    omega
  · have e : b = (g : Int) * (m : Int) := by
      have : (b.natAbs : Int) = (g : Int) * (m : Int) := by rw [hm]; exact Int.natCast_mul _ _
      omega
    rw [if_neg h, e, Int.mul_fdiv_cancel_left _ (by omega)]
theorem sgn_ne {t b : Int} (hb : b ≠ 0) : sgn b (Nat.gcd t.natAbs b.natAbs) ≠ 0 := by
  have gp := gcd_pos (t := t) hb
  unfold sgn
  split <;> omega
theorem sgn_le {t b : Int} (hb : b ≠ 0) : (sgn b (Nat.gcd t.natAbs b.natAbs)).natAbs ≤ b.natAbs := by
  have h := Nat.le_of_dvd (by omega) (Nat.gcd_dvd_right t.natAbs b.natAbs)
  unfold sgn
  split <;> omega
theorem num_le {t b : Int} (hb : b ≠ 0) : (Rat.divInt t b).num.natAbs ≤ t.natAbs := by
  rw [← num_is hb]
  have gp := gcd_pos (t := t) hb
  obtain ⟨k, hk⟩ := (show ((Nat.gcd t.natAbs b.natAbs : Nat) : Int) ∣ t from Int.ofNat_dvd_left.mpr (Nat.gcd_dvd_left _ _))
  generalize Nat.gcd t.natAbs b.natAbs = g at *
  have e : t.natAbs = g * k.natAbs := by rw [hk, Int.natAbs_mul]; rfl
  have le : k.natAbs ≤ g * k.natAbs := Nat.le_mul_of_pos_left _ gp
  unfold sgn
  by_cases h : b < 0
  · rw [if_pos h]
    conv => lhs; rw [hk, fdiv_neg gp]
    omega
  · rw [if_neg h]
    conv => lhs; rw [hk, Int.mul_fdiv_cancel_left _ (by omega)]
    omega
theorem den_le {t b : Int} (hb : b ≠ 0) : (Rat.divInt t b).den ≤ b.natAbs := by
  rw [Rat.den_divInt, if_neg hb]
  exact Nat.div_le_self _ _
/-- how great -/
def Sz (n : Nat) (q : Rat) : Prop := q.num.natAbs < 2 ^ n ∧ q.den < 2 ^ n
theorem Sz.mono {n m : Nat} {q : Rat} (h : Sz n q) (l : n ≤ m) : Sz m q := ⟨Nat.lt_of_lt_of_le h.1 (Nat.pow_le_pow_right (by decide) l), Nat.lt_of_lt_of_le h.2 (Nat.pow_le_pow_right (by decide) l)⟩
theorem sz_div {n : Nat} {t b : Int} (hb : b ≠ 0) (h1 : t.natAbs < 2 ^ n) (h2 : b.natAbs < 2 ^ n) : Sz n (Rat.divInt t b) := ⟨Nat.lt_of_le_of_lt (num_le hb) h1, Nat.lt_of_le_of_lt (den_le hb) h2⟩
/-! ### the objects -/
def ratF (q : Rat) : List (Str × V) := putF "_bottom" (.int (q.den : Int)) (putF "_top" (.int q.num) [])
theorem tb : ¬ (("_top" : Str) = "_bottom") := by decide +kernel
theorem ratF_eq (q : Rat) : ratF q = ([("_top", V.int q.num), ("_bottom", V.int (q.den : Int))] : List (Str × V)) := by
  unfold ratF
  show (if ("_top" : Str) = "_bottom" then _ else (("_top" : Str), V.int q.num) :: putF "_bottom" (V.int (q.den : Int)) []) = _
  rw [if_neg tb]
  rfl
theorem ratF_top (q : Rat) : (ratF q).lookup ("_top" : Str) = some (.int q.num) := by
  unfold ratF
  rw [lookup_putF, if_neg tb, lookup_putF, if_pos rfl]
theorem ratF_bot (q : Rat) : (ratF q).lookup ("_bottom" : Str) = some (.int (q.den : Int)) := by
  unfold ratF
  rw [lookup_putF, if_pos rfl]
theorem ratF_no (q : Rat) {m : Str} (h1 : ¬ m = "_bottom") (h2 : ¬ m = "_top") : (ratF q).lookup m = none := by
  unfold ratF
  rw [lookup_putF, if_neg h1, lookup_putF, if_neg h2]
  rfl
def RatAt (C : Addr) (H : Hp) (a : Addr) (q : Rat) : Prop := ∃ dx, H a = some (.ins C dx (ratF q))
theorem RatAt.ex {C a : Addr} {H H2 : Hp} {q : Rat} (h : RatAt C H a q) (e : Ex H H2) : RatAt C H2 a q := h.elim fun dx h => ⟨dx, e _ _ h⟩
def NumV (C : Addr) (H : Hp) (v : V) (q : Rat) : Prop := (∃ i : Int, v = .int i ∧ q = (i : Rat)) ∨ (∃ a, v = .ref a ∧ RatAt C H a q)
theorem NumV.ex {C : Addr} {H H2 : Hp} {v : V} {q : Rat} (h : NumV C H v q) (e : Ex H H2) : NumV C H2 v q := h.imp id fun ⟨a, h1, h2⟩ => ⟨a, h1, h2.ex e⟩
def NoInt (K : PySem.W.Frag) (t : Value) : Prop := PySem.W.kitOne K t (.type "int") = some false ∨ (PySem.W.kitOne K t (.type "int") = some true ∧ PySem.W.kitOne K t (.type "bool") = some true)
def NoNum (K : PySem.W.Frag) (C : Addr) (H : Hp) (v : V) : Prop := ∃ t, TyX K H v t ∧ NoInt K t ∧ PySem.W.kitOne K t (.ref C) = some false
/-- what isinstance asks of the class -/
structure RIs (K : PySem.W.Frag) (C : Addr) : Prop where
  cl : Cls K C
  ca : PySem.W.findIn K (.ref C) "__class__" = some (some (.builtin "object.__class__"))
  cn : PySem.W.specialIn K (.builtin "object.__class__") "__get__" = some (some (.builtin "getset_descriptor.__get__"))
  ct : PySem.W.takesIn K (.builtin "object.__class__") = some true
  cm : PySem.W.mroIn K C (.type "object") = some true
  ki : PySem.W.kitOne K (.ref C) (.type "int") = some false
  kc : PySem.W.kitOne K (.ref C) (.ref C) = some true
  ti : PySem.W.kitOne K (.type "int") (.ref C) = some false
theorem RatAt.ty {K : PySem.W.Frag} {C a : Addr} {H : Hp} {q : Rat} (h : RatAt C H a q) (r : RIs K C) : TyX K H (.ref a) (.ref C) := h.elim fun dx h => .base (.ins h r.cl r.ca r.cn r.ct r.cm)
end RatK
namespace RatK
open PySem PySem.Spec PyProof.Rows L2 Evl
def spTop (C : Addr) : Sp := fun vs H Q _ => ∃ a q, vs = [.ref a] ∧ RatAt C H a q ∧ Q (.int q.num) H
def spBot (C : Addr) : Sp := fun vs H Q _ => ∃ a q, vs = [.ref a] ∧ RatAt C H a q ∧ Q (.int (q.den : Int)) H
def spInit (C CZ : Addr) : Sp := fun vs H Q E => ∃ (x dx : Addr) (t b : Int), vs = [.ref x, .int t, .int b] ∧ H x = some (.ins C dx []) ∧ t.natAbs < 2 ^ 8900 ∧ b.natAbs < 2 ^ 8900 ∧
  (b = 0 → E (.ref CZ) none H) ∧ (b ≠ 0 → Q .non (upd H x (.ins C dx (ratF (Rat.divInt t b)))))
def spIsInt (K : PySem.W.Frag) : Sp := fun vs H Q _ => ∃ v, vs = [v] ∧ ((∃ i : Int, v = .int i ∧ Q (.bl true) H) ∨ (∃ t, TyX K H v t ∧ NoInt K t ∧ Q (.bl false) H))
/-- as_ratio: the number's Ratio, or BadNumber -/
def spAsR (K : PySem.W.Frag) (C CB : Addr) : Sp := fun vs H Q E => ∃ v, vs = [v] ∧ ((∃ q, NumV C H v q ∧ Sz 8900 q ∧ ∀ p H2, Ex H H2 → RatAt C H2 p q → Q (.ref p) H2) ∨
  (NoNum K C H v ∧ ∀ d, H d = none → E (.ref CB) (some d) (upd H d (.xd [("value", v)]))))
/-- self op number: a new Ratio -/
def spBin (C : Addr) (g : Rat → Rat → Rat) : Sp := fun vs H Q _ => ∃ x y q1 q2, vs = [.ref x, y] ∧ RatAt C H x q1 ∧ NumV C H y q2 ∧ Sz 4000 q1 ∧ Sz 4000 q2 ∧ ∀ p H2, Ex H H2 → RatAt C H2 p (g q1 q2) → Q (.ref p) H2
def spUn (C : Addr) (g : Rat → Rat) : Sp := fun vs H Q _ => ∃ x q1, vs = [.ref x] ∧ RatAt C H x q1 ∧ Sz 4000 q1 ∧ ∀ p H2, Ex H H2 → RatAt C H2 p (g q1) → Q (.ref p) H2
def spOver (C CZ : Addr) : Sp := fun vs H Q E => ∃ x y q1 q2, vs = [.ref x, y] ∧ RatAt C H x q1 ∧ NumV C H y q2 ∧ Sz 4000 q1 ∧ Sz 4000 q2 ∧ (q2 = 0 → ∀ H2, Ex H H2 → E (.ref CZ) none H2) ∧ (q2 ≠ 0 → ∀ p H2, Ex H H2 → RatAt C H2 p (q1 / q2) → Q (.ref p) H2)
def spLess (C : Addr) : Sp := fun vs H Q _ => ∃ x y q1 q2, vs = [.ref x, y] ∧ RatAt C H x q1 ∧ NumV C H y q2 ∧ Sz 4000 q1 ∧ Sz 4000 q2 ∧ ∀ H2, Ex H H2 → Q (.bl (decide (q1 < q2))) H2
def spEq (K : PySem.W.Frag) (C : Addr) : Sp := fun vs H Q _ => ∃ x y q1, vs = [.ref x, y] ∧ RatAt C H x q1 ∧ ((∃ q2, NumV C H y q2 ∧ Q (.bl (decide (q1 = q2))) H) ∨ (NoNum K C H y ∧ Q (.bl false) H))
section
variable {K : PySem.W.Frag} {C CZ CB a x y : Addr} {σ : L2.St} {H : Hp} {ta tb te : TE} {t b : Int} {q q1 q2 : Rat} {Q : VK} {E : L2.St → XK} {dx : Addr} {fs : List (Str × V)} {f : Str} {v : V}
theorem made {p : Addr} (nx : H p = none) (nd : H dx = none) (ne : dx ≠ p) : Ex H (upd (upd (upd H dx (.own p)) p (.ins C dx [])) p (.ins C dx (ratF q))) ∧ RatAt C (upd (upd (upd H dx (.own p)) p (.ins C dx [])) p (.ins C dx (ratF q))) p q := by
  refine ⟨fun z o h => ?_, dx, upd_same⟩
  rw [upd_ne (ne_of_none h nx), upd_ne (ne_of_none h nx), upd_ne (ne_of_none h nd)]
  exact h
theorem half {p : Addr} (nx : H p = none) (nd : H dx = none) : Ex H (upd (upd H dx (.own p)) p (.ins C dx [])) := fun z o h => by
  rw [upd_ne (ne_of_none h nx), upd_ne (ne_of_none h nd)]
  exact h
theorem u_new (ha : Ev ta σ H (.int t)) (hb : Ev tb σ H (.int b)) (h1 : t.natAbs < 2 ^ 8900) (h2 : b.natAbs < 2 ^ 8900) (nb : b ≠ 0) (k : ∀ p H2, Ex H H2 → RatAt C H2 p (Rat.divInt t b) → Q (.ref p) H2) :
    tMakeSD C (spInit C CZ) [] E (tCons ta (tCons tb tNil)) σ H Q := ha H (Ex.refl H) _ fun H1 e1 => hb H1 e1 _ fun H2 e2 => fun p dx nx nd ne =>
  ⟨p, dx, t, b, rfl, upd_same, h1, h2, fun z => (nb z).elim, fun _ => ⟨rfl, k p _ ((e1.trans e2).trans (made nx nd ne).1) (made nx nd ne).2⟩⟩
theorem u_new0 (ha : Ev ta σ H (.int t)) (hb : Ev tb σ H (.int b)) (h1 : t.natAbs < 2 ^ 8900) (h2 : b.natAbs < 2 ^ 8900) (nb : b ≠ 0 → ∀ p H2, Ex H H2 → RatAt C H2 p (Rat.divInt t b) → Q (.ref p) H2) (z : b = 0 → ∀ H2, Ex H H2 → E σ (.ref CZ) none H2) :
    tMakeSD C (spInit C CZ) [] E (tCons ta (tCons tb tNil)) σ H Q := ha H (Ex.refl H) _ fun H1 e1 => hb H1 e1 _ fun H2 e2 => fun p dx nx nd ne =>
  ⟨p, dx, t, b, rfl, upd_same, h1, h2, fun z0 => z z0 _ ((e1.trans e2).trans (half nx nd)), fun n0 => ⟨rfl, nb n0 p _ ((e1.trans e2).trans (made nx nd ne).1) (made nx nd ne).2⟩⟩
theorem u_new1 (ha : Ev ta σ H (.int t)) (h1 : t.natAbs < 2 ^ 8900) (k : ∀ p H2, Ex H H2 → RatAt C H2 p (Rat.divInt t 1) → Q (.ref p) H2) : tMakeSD C (spInit C CZ) [.int 1] E (tCons ta tNil) σ H Q :=
  ha H (Ex.refl H) _ fun H1 e1 => fun p dx nx nd ne => ⟨p, dx, t, 1, rfl, upd_same, h1, (by decide +kernel), (fun z => absurd z (by decide)), fun _ => ⟨rfl, k p _ (e1.trans (made nx nd ne).1) (made nx nd ne).2⟩⟩
theorem ev_fld (h : Ev ta σ H (.ref a)) (ho : H a = some (.ins C dx fs)) (c : Cls K C) (n : NoAttr K C f) (l : fs.lookup f = some v) : Ev (tFld K ta f) σ H v := fun H1 e Q q =>
  h H1 e _ fun H2 e2 => ⟨a, C, dx, fs, v, rfl, e2 _ _ (e _ _ ho), c, n, l, q H2 e2⟩
theorem ev_top (h : Ev ta σ H (.ref a)) (r : RatAt C H a q) : Ev (tProp C (spTop C) [] E0 ta) σ H (.int q.num) := fun H1 e Q k => h H1 e _ fun H2 e2 => (r.ex (e.trans e2)).elim fun dx hd => ⟨a, dx, _, rfl, hd, a, q, rfl, ⟨dx, hd⟩, k H2 e2⟩
theorem ev_bot (h : Ev ta σ H (.ref a)) (r : RatAt C H a q) : Ev (tProp C (spBot C) [] E0 ta) σ H (.int (q.den : Int)) := fun H1 e Q k => h H1 e _ fun H2 e2 => (r.ex (e.trans e2)).elim fun dx hd => ⟨a, dx, _, rfl, hd, a, q, rfl, ⟨dx, hd⟩, k H2 e2⟩
theorem rv_mulW {i j : Int} (h : CMulW i j) : RV (rI CMulW fun i j => .int (i * j)) (.int i) (.int j) H (.int (i * j)) := rv_I h
theorem sz_mul {i j : Int} (h1 : i.natAbs < 2 ^ 4000) (h2 : j.natAbs < 2 ^ 4000) : CMulW i j := wide_mul h1 h2 (by decide) (by decide) (by decide)
theorem lt_mul {i j : Int} (h1 : i.natAbs < 2 ^ 4000) (h2 : j.natAbs < 2 ^ 4000) : (i * j).natAbs < 2 ^ 8000 := wide_lt h1 h2
theorem p81 : (2 : Nat) ^ 8000 + 2 ^ 8000 ≤ 2 ^ 8900 := by
  have e : (2 : Nat) ^ 8000 + 2 ^ 8000 = 2 ^ 8001 := by rw [← Nat.two_mul, ← Nat.pow_succ']
  rw [e]
  exact Nat.pow_le_pow_right (by decide) (by decide)
theorem lt_add {i j : Int} (h1 : i.natAbs < 2 ^ 8000) (h2 : j.natAbs < 2 ^ 8000) : (i + j).natAbs < 2 ^ 8900 := by
  have h := p81
  generalize (2 : Nat) ^ 8000 = M at *
  generalize (2 : Nat) ^ 8900 = N at *
  omega
theorem lt_sub {i j : Int} (h1 : i.natAbs < 2 ^ 8000) (h2 : j.natAbs < 2 ^ 8000) : (i - j).natAbs < 2 ^ 8900 := by
  have h := p81
  generalize (2 : Nat) ^ 8000 = M at *
  generalize (2 : Nat) ^ 8900 = N at *
  omega
theorem lt_up {i : Int} (h1 : i.natAbs < 2 ^ 8000) : i.natAbs < 2 ^ 8900 := Nat.lt_of_lt_of_le h1 (Nat.pow_le_pow_right (by decide) (by decide))
theorem den_nz (q : Rat) : (q.den : Int) ≠ 0 := by have := q.den_nz; omega
theorem den_abs (q : Rat) {n : Nat} (h : q.den < n) : ((q.den : Int)).natAbs < n := by omega
theorem divInt_nd (q : Rat) : Rat.divInt q.num q.den = q := Rat.num_divInt_den q
theorem add_is (p q : Rat) : Rat.divInt (p.num * q.den + q.num * p.den) (p.den * q.den) = p + q := by
  conv => rhs; rw [← divInt_nd p, ← divInt_nd q]
  rw [Rat.divInt_add_divInt _ _ (den_nz p) (den_nz q)]
theorem sub_is (p q : Rat) : Rat.divInt (p.num * q.den - q.num * p.den) (p.den * q.den) = p - q := by
  conv => rhs; rw [← divInt_nd p, ← divInt_nd q]
  rw [Rat.divInt_sub_divInt _ _ (den_nz p) (den_nz q)]
theorem mul_is (p q : Rat) : Rat.divInt (p.num * q.num) (p.den * q.den) = p * q := by
  conv => rhs; rw [← divInt_nd p, ← divInt_nd q]
  rw [Rat.divInt_mul_divInt]
theorem neg_is (p : Rat) : Rat.divInt (-p.num) p.den = -p := by
  conv => rhs; rw [← divInt_nd p]
  rw [Rat.neg_divInt]
theorem one_is (i : Int) : Rat.divInt i 1 = (i : Rat) := (Rat.mk_eq_divInt (num := i) (den := 1) (nz := by decide) (c := Nat.coprime_one_right _)).symm
theorem div_is (p q : Rat) : Rat.divInt (p.num * q.den) (p.den * q.num) = p / q := by
  rw [Rat.div_def]
  conv => rhs; rw [← divInt_nd p, ← divInt_nd q]
  rw [Rat.inv_divInt, Rat.divInt_mul_divInt]
end
end RatK
/-! ### lists or tuples of numbers -/
namespace RatK
open PySem PySem.Spec PyProof.Rows L2 Evl
def iSeq (K : PySem.W.Frag) (te : TE) : TI := fun σ H R => iList K te σ H R ∨ iTup K te σ H R
theorem pi_seq {X : Cx} {tg e : Expr} {te : TE} (he : PE X e te) : PI X tg e (iSeq X.K te) := .mk fun pins s σ H R I h => h.elim ((pi_list he).run pins s σ H R I) ((pi_tup he).run pins s σ H R I)
def Sq (K : PySem.W.Frag) (H : Hp) (a : Addr) (xs : List V) : Prop := SqL K H a xs ∨ SqT K H a xs
theorem Sq.ex {K : PySem.W.Frag} {H H2 : Hp} {a : Addr} {xs : List V} (h : Sq K H a xs) (e : Ex H H2) : Sq K H2 a xs := h.imp (ex_l e) (ex_t e)
section
variable {K : PySem.W.Frag} {C : Addr} {σ : L2.St} {H H2 : Hp} {tl : TE} {D : L2.Ends} {tu tz : TS} {a : Addr} {xs : List V} {j : Nat} {v : V}
theorem s_forS (h : Ev tl σ H (.ref a)) (hx : Sq K H a xs) (Pv : Nat → L2.St → Hp → Prop) (h0 : ∀ H1, Ex H H1 → Pv 0 σ H1) (hl : ∀ i σ' H', i ≤ xs.length → Pv i σ' H' → Ex H H')
    (hs : ∀ i x σ' H', xs[i]? = some x → Pv i σ' H' → tu { D with nx := Pv (i + 1), ct := Pv (i + 1), bk := D.nx } (σ'.set j (some x)) H') (hd : ∀ σ' H', Pv xs.length σ' H' → D.nx σ' H') : tFor (iSeq K tl) (gName j) tu D σ H :=
  hx.elim (fun hx => Or.inl (h H (Ex.refl H) _ fun H1 e => ⟨a, rfl, ⟨xs, ex_l e hx⟩, for_list Pv (h0 H1 e) (fun i σ' H' z p => ex_l (hl i σ' H' z p) hx) hs hd⟩))
    (fun hx => Or.inr (h H (Ex.refl H) _ fun H1 e => ⟨a, rfl, ⟨xs, ex_t e hx⟩, for_tup Pv (h0 H1 e) (fun i σ' H' z p => ex_t (hl i σ' H' z p) hx) hs hd⟩))
theorem q_forS (h : Ev tl σ H (.ref a)) (hx : Sq K H a xs) (Pv : Nat → L2.St → Hp → Prop) (h0 : ∀ H1, Ex H H1 → Pv 0 σ H1) (hl : ∀ i σ' H', i ≤ xs.length → Pv i σ' H' → Ex H H')
    (hs : ∀ i x σ' H', xs[i]? = some x → Pv i σ' H' → tu { D with nx := Pv (i + 1), ct := Pv (i + 1), bk := tz D } (σ'.set j (some x)) H') (hd : ∀ σ' H', Pv xs.length σ' H' → tz D σ' H') : tSeq (tFor (iSeq K tl) (gName j) tu) tz D σ H :=
  s_forS (D := { D with nx := tz D }) h hx Pv h0 hl hs hd
theorem rv_ixS (h : Sq K H a xs) (ha : xs[0]? = some v) : RV (rIx K) (.ref a) (.int 0) H v := fun H1 e _ q =>
  h.elim (fun h => Or.inl ⟨a, xs, 0, v, rfl, rfl, ex_l e h, atI_nat (j := 0) ha, q H1 (Ex.refl H1)⟩) (fun h => Or.inr (Or.inl ⟨a, xs, 0, v, rfl, rfl, ex_t e h, atI_nat (j := 0) ha, q H1 (Ex.refl H1)⟩))
/-- v is a list or tuple of the numbers qs -/
def SeqN (K : PySem.W.Frag) (C : Addr) (H : Hp) (v : V) (qs : List Rat) : Prop := ∃ a xs, v = .ref a ∧ Sq K H a xs ∧ xs.length = qs.length ∧ ∀ (i : Nat) x q, xs[i]? = some x → qs[i]? = some q → NumV C H x q
def sumR (l : List Rat) : Rat := l.foldl (fun a b => a + b) 0
def minR (l : List Rat) : Rat := l.foldl (fun a b => if b < a then b else a) (l.headD 0)
def maxR (l : List Rat) : Rat := l.foldl (fun a b => if a < b then b else a) (l.headD 0)
theorem take_one {α : Type} {l : List α} {i : Nat} {x : α} (h : l[i]? = some x) : l.take (i + 1) = l.take i ++ [x] := by
  rw [List.take_add_one, h]
  rfl
def spTotal (K : PySem.W.Frag) (C : Addr) : Sp := fun vs H Q _ => ∃ v qs, vs = [v] ∧ SeqN K C H v qs ∧ (∀ q ∈ qs, Sz 4000 q) ∧ (∀ i, Sz 4000 (sumR (qs.take i))) ∧ ∀ p H2, Ex H H2 → RatAt C H2 p (sumR qs) → Q (.ref p) H2
def spPick (K : PySem.W.Frag) (C : Addr) (g : List Rat → Rat) : Sp := fun vs H Q _ => ∃ v qs, vs = [v] ∧ SeqN K C H v qs ∧ qs ≠ [] ∧ (∀ q ∈ qs, Sz 4000 q) ∧ ∀ p H2, Ex H H2 → RatAt C H2 p (g qs) → Q (.ref p) H2
def spIsNum (K : PySem.W.Frag) (C : Addr) : Sp := fun vs H Q _ => ∃ v, vs = [v] ∧ ((∃ q, NumV C H v q ∧ Q (.bl true) H) ∨ (NoNum K C H v ∧ Q (.bl false) H))
def spIsCh (K : PySem.W.Frag) (C : Addr) : Sp := fun vs H Q _ => ∃ v, vs = [v] ∧ ((∃ q, NumV C H v q ∧ Sz 4000 q ∧ ∀ H2, Ex H H2 → Q (.bl (!decide (q < 0) && !decide (1 < q))) H2) ∨ (NoNum K C H v ∧ ∀ H2, Ex H H2 → Q (.bl false) H2))
def absR (q : Rat) : Rat := Rat.divInt (if q.num < 0 then -q.num else q.num) q.den
end
theorem sumR_snoc (l : List Rat) (x : Rat) : sumR (l ++ [x]) = sumR l + x := by
  unfold sumR
  rw [List.foldl_append]
  rfl
def minF (l : List Rat) (z : Rat) : Rat := l.foldl (fun a b => if b < a then b else a) z
def maxF (l : List Rat) (z : Rat) : Rat := l.foldl (fun a b => if a < b then b else a) z
theorem minF_snoc (l : List Rat) (z x : Rat) : minF (l ++ [x]) z = if x < minF l z then x else minF l z := by
  unfold minF
  rw [List.foldl_append]
  rfl
theorem maxF_snoc (l : List Rat) (z x : Rat) : maxF (l ++ [x]) z = if maxF l z < x then x else maxF l z := by
  unfold maxF
  rw [List.foldl_append]
  rfl
theorem minF_mem : ∀ (l : List Rat) (z : Rat), minF l z = z ∨ minF l z ∈ l
  | [], z => .inl rfl
  | x :: l, z => by
    show minF l (if x < z then x else z) = z ∨ minF l (if x < z then x else z) ∈ x :: l
    rcases minF_mem l (if x < z then x else z) with h | h
    · rw [h]
      split
      · exact .inr (.head _)
      · exact .inl rfl
    · exact .inr (.tail _ h)
theorem maxF_mem : ∀ (l : List Rat) (z : Rat), maxF l z = z ∨ maxF l z ∈ l
  | [], z => .inl rfl
  | x :: l, z => by
    show maxF l (if z < x then x else z) = z ∨ maxF l (if z < x then x else z) ∈ x :: l
    rcases maxF_mem l (if z < x then x else z) with h | h
    · rw [h]
      split
      · exact .inr (.head _)
      · exact .inl rfl
    · exact .inr (.tail _ h)
theorem NumV.alt {C : Addr} {H : Hp} {v : V} {q : Rat} (h : NumV C H v q) : (∃ i, v = .int i) ∨ InsAt C H v := h.elim (fun ⟨i, h, _⟩ => .inl ⟨i, h⟩) fun ⟨a, h, dx, ha⟩ => .inr ⟨a, dx, _, h, ha⟩
theorem RatAt.ins {C a : Addr} {H : Hp} {q : Rat} (h : RatAt C H a q) : InsAt C H (.ref a) := h.elim fun dx ha => ⟨a, dx, _, rfl, ha⟩
end RatK
set_option Elab.async false
set_option linter.all false
set_option maxRecDepth 100000
set_option maxHeartbeats 2000000
/-! ### repr of a thing of any of these kinds -/
namespace L2
open PySem PySem.Spec PyProof.Rows
inductive Rep (K : PySem.W.Frag) (H : Hp) : V → Str → Prop where
  | non : Rep K H .non (Str.ofString "None")
  | bl (b : Bool) : Rep K H (.bl b) (if b = true then Str.ofString "True" else Str.ofString "False")
  | int (i : Int) : i.natAbs.log2 < 1920 → Rep K H (.int i) (Str.ofString (toString i))
  | str (z : Str) : (reprText z).length ≤ sizeLine → Rep K H (.str z) (reprText z)
  | dat {a : Addr} {d : PyData} : Dp K H (.ref a) d → d.showable = true → d.hasDict = false → d.depth ≤ 60 → d.shown.length ≤ sizeLine → Rep K H (.ref a) d.shown
  | emp {a : Addr} : H a = some (.dK []) → Rep K H (.ref a) (PyData.shown (.dict []))
def rReprA (K : PySem.W.Frag) : List V → Hp → VK → Prop := fun vs H Q => ∃ v z, vs = [v] ∧ Rep K H v z ∧ Q (.str z) H
section
variable {X : Cx}
theorem emp_reads {pins : List (Addr × Obj)} {σ : St} {H : Hp} {s : Shared} {a : Addr} (I : Inv X pins σ H s) (h : H a = some (.dK [])) : Reads s.heap (.ref a) (.dict []) [a] ∧ (a == sysModules) = false := by
  have o : ObjOk X.prog X.w H s.heap a (.dK []) := I.hok a _ h
  obtain ⟨_, ns, vs, kv, ob, es, ep, g, ed, dt, kn, pr, _⟩ := o
  cases kv
  refine ⟨?_, ns⟩
  have ee : es.toList = [] := by
    generalize es.toList = l at pr
    cases pr
    rfl
  have e1 : ReadsAll s.heap (List.map (fun x => x.key) es.toList) (List.map (fun x => x.fst) ([] : List (PyData × PyData))) [] := by rw [ee]; exact .nil
  have e2 : ReadsAll s.heap (List.map (fun x => x.val) es.toList) (List.map (fun x => x.snd) ([] : List (PyData × PyData))) [] := by rw [ee]; exact .nil
  exact Reads.dict (as := []) (bs := []) g ed.1 dt e1 e2
theorem cr_reprA (hu : X.A.units + 64 < cLine) (hgd : X.A.guards = some []) : CallR X (.builtin "repr") (rReprA X.K) := by
  intro pins s σ H vs us Q I r h
  obtain ⟨v, z, rfl, hd, q⟩ := h
  cases hd with
  | non =>
    obtain ⟨u, rfl, ru⟩ := vals1 r
    cases (show u = Value.none from ru)
    exact PySem.P.repr_of_none ⟨.str _, H, I.kept fun b o e => e, ⟨_, rfl⟩, q⟩
  | bl b =>
    obtain ⟨u, rfl, ru⟩ := vals1 r
    cases (show u = Value.bool b from ru)
    exact PySem.P.repr_of_bool ⟨.str _, H, I.kept fun b o e => e, ⟨_, rfl⟩, q⟩
  | int i hi =>
    obtain ⟨u, rfl, ru⟩ := vals1 r
    obtain ⟨t, rfl⟩ := ru
    exact PySem.P.repr_of_int hi ⟨.str _, H, I.kept fun b o e => e, ⟨_, rfl⟩, q⟩
  | str x hx =>
    obtain ⟨u, rfl, ru⟩ := vals1 r
    obtain ⟨t, rfl⟩ := ru
    exact PySem.P.repr_of_str ⟨.str _, H, I.kept fun b o e => e, ⟨_, rfl⟩, q⟩ hx
  | dat h1 h2 h3 h4 h5 => exact cr_repr hu hgd pins s σ H _ us Q I r ⟨_, _, rfl, h1, ⟨_, rfl⟩, h2, h3, h4, h5, q⟩
  | emp h =>
    obtain ⟨u, rfl, ru⟩ := vals1 r
    cases ru
    obtain ⟨rd, ns⟩ := emp_reads I h
    refine repr_of_reads' rd (by decide) (fun _ hm => ?_) hgd (by show X.A.units + (_ + 1) < cLine; have : PyData.depth (.dict []) ≤ 1 := by decide
                                                                  omega) (fun b o e => e) (fun h' u tk hk => ?_) (by decide +kernel)
    · cases (List.mem_singleton.mp hm)
      simp at ns
    · exact ⟨.str _, H, I.kept fun b o eo => hk b o eo, ⟨_, rfl⟩, q⟩
theorem cr_reprK {K : PySem.W.Frag} (hu : X.A.units + 64 < cLine) (hgd : X.A.guards = some []) (hK : X.K = K) : CallR X (.builtin "repr") (rReprA K) := hK ▸ cr_reprA hu hgd
end
end L2
set_option Elab.async false
set_option linter.all false
set_option maxRecDepth 100000
set_option maxHeartbeats 2000000
/-! ### pairs of integers, and the quotients that they stand for -/
namespace RatK
open PySem PySem.Spec PyProof.Rows L2 Evl LawK
def PairAt (H : Hp) (a : Addr) (t b : Int) : Prop := H a = some (.tup [.int t, .int b])
theorem PairAt.ex {H H2 : Hp} {a : Addr} {t b : Int} (h : PairAt H a t b) (e : Ex H H2) : PairAt H2 a t b := e _ _ h
theorem PairAt.sq {K : PySem.W.Frag} {H : Hp} {a : Addr} {t b : Int} (h : PairAt H a t b) : SqT K H a [.int t, .int b] := .inl (.inl h)
structure PB (n : Nat) (t b : Int) : Prop where
  up : t.natAbs < 2 ^ n
  lo : b.natAbs < 2 ^ n
  nz : b ≠ 0
theorem PB.mono {n m : Nat} {t b : Int} (h : PB n t b) (l : n ≤ m) : PB m t b := ⟨Nat.lt_of_lt_of_le h.up (Nat.pow_le_pow_right (by decide) l), Nat.lt_of_lt_of_le h.lo (Nat.pow_le_pow_right (by decide) l), h.nz⟩
theorem PB.sz {n : Nat} {t b : Int} (h : PB n t b) : Sz n (Rat.divInt t b) := sz_div h.nz h.up h.lo
/-! the numbers -/
theorem parts {t b : Int} (hb : b ≠ 0) : ∃ g : Int, g ≠ 0 ∧ t = g * (Rat.divInt t b).num ∧ b = g * ((Rat.divInt t b).den : Int) := by
  refine ⟨sgn b (Nat.gcd t.natAbs b.natAbs), sgn_ne hb, ?_, ?_⟩
  · have dv : sgn b (Nat.gcd t.natAbs b.natAbs) ∣ t := by
      have : ((Nat.gcd t.natAbs b.natAbs : Nat) : Int) ∣ t := Int.ofNat_dvd_left.mpr (Nat.gcd_dvd_left _ _)
      unfold sgn
      split
      · exact Int.neg_dvd.mpr this
      · exact this
    rw [← num_is hb]
    exact (Int.mul_fdiv_cancel' dv).symm
  · have dv : sgn b (Nat.gcd t.natAbs b.natAbs) ∣ b := by
      have : ((Nat.gcd t.natAbs b.natAbs : Nat) : Int) ∣ b := Int.ofNat_dvd_left.mpr (Nat.gcd_dvd_right _ _)
      unfold sgn
      split
      · exact Int.neg_dvd.mpr this
      · exact this
    rw [← den_is hb]
    exact (Int.mul_fdiv_cancel' dv).symm
theorem sq_pos {g : Int} (h : g ≠ 0) : 0 < g * g := by
  rcases Int.lt_or_gt_of_ne h with h | h
  · exact Int.mul_pos_of_neg_of_neg h h
  · exact Int.mul_pos h h
theorem pos_mul {k x : Int} (hk : 0 < k) : k * x < 0 ↔ x < 0 := by
  constructor
  · intro h
    refine Int.not_le.mp fun z => ?_
    have := Int.mul_nonneg (Int.le_of_lt hk) z
    omega
  · intro h
    exact Int.mul_neg_of_pos_of_neg hk h
theorem lt_is {a b c d : Int} (hb : b ≠ 0) (hd : d ≠ 0) : Rat.divInt a b < Rat.divInt c d ↔ (a * d - c * b) * (b * d) < 0 := by
  obtain ⟨g, g0, ea, eb⟩ := parts (t := a) hb
  obtain ⟨k, k0, ec, ed⟩ := parts (t := c) hd
  have D1 := (Rat.divInt a b).den_pos
  have D2 := (Rat.divInt c d).den_pos
  rw [Rat.lt_iff]
  generalize (Rat.divInt a b).num = N1 at *
  generalize (Rat.divInt a b).den = M1 at *
  generalize (Rat.divInt c d).num = N2 at *
  generalize (Rat.divInt c d).den = M2 at *
  have p : 0 < (g * g) * (k * k) * ((M1 : Int) * (M2 : Int)) := Int.mul_pos (Int.mul_pos (sq_pos g0) (sq_pos k0)) (Int.mul_pos (by omega) (by omega))
  have e : (a * d - c * b) * (b * d) = ((g * g) * (k * k) * ((M1 : Int) * (M2 : Int))) * (N1 * (M2 : Int) - N2 * (M1 : Int)) := by
    rw [ea, eb, ec, ed]
    simp only [Int.mul_sub, Int.sub_mul]
    simp only [Int.mul_assoc, Int.mul_comm, Int.mul_left_comm]
  rw [e, pos_mul p]
  omega
theorem eq_is {a b c d : Int} (hb : b ≠ 0) (hd : d ≠ 0) : Rat.divInt a b = Rat.divInt c d ↔ (a * d - c * b) * (b * d) = 0 := by
  rw [Rat.divInt_eq_divInt_iff hb hd]
  constructor
  · intro h
    rw [h, Int.sub_self, Int.zero_mul]
  · intro h
    rcases Int.mul_eq_zero.mp h with h | h
    · omega
    · exact (Int.mul_ne_zero hb hd h).elim
theorem neg_fd {t g : Int} : (-t).fdiv g = t.fdiv (-g) := by
  have h := Int.neg_fdiv_neg t (-g)
  rw [Int.neg_neg] at h
  exact h
/-- as the law reckons it: the sign apart -/
theorem low_num {t b : Int} (hb : b ≠ 0) : ((if b > 0 then (1 : Int) else -1) * t).fdiv (Nat.gcd t.natAbs b.natAbs : Nat) = (Rat.divInt t b).num := by
  rw [← num_is hb]
  unfold sgn
  by_cases h : b < 0
  · rw [if_pos h, if_neg (by omega), Int.neg_mul, Int.one_mul, neg_fd]
  · rw [if_neg h, if_pos (by omega), Int.one_mul]
theorem low_den {t b : Int} (hb : b ≠ 0) : ((if b > 0 then (1 : Int) else -1) * b).fdiv (Nat.gcd t.natAbs b.natAbs : Nat) = ((Rat.divInt t b).den : Int) := by
  rw [← den_is hb]
  unfold sgn
  by_cases h : b < 0
  · rw [if_pos h, if_neg (by omega), Int.neg_mul, Int.one_mul, neg_fd]
  · rw [if_neg h, if_pos (by omega), Int.one_mul]
theorem abs_is {a b : Int} (hb : b ≠ 0) : absR (Rat.divInt a b) = Rat.divInt (if a < 0 then -a else a) (if b < 0 then -b else b) := by
  obtain ⟨g, g0, ea, eb⟩ := parts (t := a) hb
  have D1 := (Rat.divInt a b).den_pos
  unfold absR
  rw [Rat.divInt_eq_divInt_iff (by omega) (by split <;> omega)]
  generalize (Rat.divInt a b).num = N at *
  generalize (Rat.divInt a b).den = M at *
  have M0 : (0 : Int) < (M : Int) := by omega
  have sa : a < 0 ↔ (g < 0 ∧ 0 < N) ∨ (0 < g ∧ N < 0) := by
    rw [ea]
    constructor
    · intro h
      rcases Int.lt_trichotomy g 0 with h1 | h1 | h1
      · refine .inl ⟨h1, ?_⟩
        refine Int.not_le.mp fun z => ?_
        have := Int.mul_nonneg_of_nonpos_of_nonpos (Int.le_of_lt h1) z
        omega
      · exact (g0 h1).elim
      · refine .inr ⟨h1, ?_⟩
        refine Int.not_le.mp fun z => ?_
        have := Int.mul_nonneg (Int.le_of_lt h1) z
        omega
    · rintro (⟨h1, h2⟩ | ⟨h1, h2⟩)
      · exact Int.mul_neg_of_neg_of_pos h1 h2
      · exact Int.mul_neg_of_pos_of_neg h1 h2
  have sb : b < 0 ↔ g < 0 := by
    rw [eb]
    constructor
    · intro h
      refine Int.not_le.mp fun z => ?_
      have := Int.mul_nonneg z (Int.le_of_lt M0)
      omega
    · intro h
      exact Int.mul_neg_of_neg_of_pos h M0
  have key : N * b = a * (M : Int) := by
    rw [ea, eb]
    simp only [Int.mul_assoc, Int.mul_comm, Int.mul_left_comm]
  by_cases hg : g < 0
  · have b0 : b < 0 := sb.mpr hg
    rw [if_pos b0]
    by_cases hN : N < 0
    · have a0 : ¬ a < 0 := fun z => by rcases sa.mp z with h | h <;> omega
      rw [if_pos hN, if_neg a0, Int.neg_mul_neg]
      exact key
    · rw [if_neg hN]
      by_cases hz : 0 < N
      · rw [if_pos (sa.mpr (.inl ⟨hg, hz⟩)), Int.mul_neg, Int.neg_mul, key]
      · have n0 : N = 0 := by omega
        have a0 : a = 0 := by rw [ea, n0, Int.mul_zero]
        rw [a0, n0]
        simp
  · have b0 : ¬ b < 0 := fun z => hg (sb.mp z)
    rw [if_neg b0]
    by_cases hN : N < 0
    · rw [if_pos hN, if_pos (sa.mpr (.inr ⟨by omega, hN⟩)), Int.neg_mul, Int.neg_mul, key]
    · have a0 : ¬ a < 0 := fun z => by rcases sa.mp z with h | h <;> omega
      rw [if_neg hN, if_neg a0]
      exact key
theorem in_is {a b : Int} (hb : b ≠ 0) : (!decide (Rat.divInt a b < 0) && !decide (1 < Rat.divInt a b)) = (decide (0 ≤ a * b) && decide ((if a < 0 then -a else a) ≤ (if b < 0 then -b else b))) := by
  have z0 : (0 : Rat) = Rat.divInt 0 1 := rfl
  have z1 : (1 : Rat) = Rat.divInt 1 1 := rfl
  have e0 : Rat.divInt a b < 0 ↔ a * b < 0 := by
    rw [z0, lt_is hb (by decide)]
    simp
  have e1 : (1 : Rat) < Rat.divInt a b ↔ (b - a) * b < 0 := by
    rw [z1, lt_is (by decide) hb]
    simp
  have p0 : (!decide (Rat.divInt a b < 0)) = decide (0 ≤ a * b) := by
    rw [← decide_not]
    exact decide_eq_decide.mpr (by rw [e0]; omega)
  rw [p0, ← decide_not]
  by_cases h : 0 ≤ a * b
  · rw [decide_eq_true h, Bool.true_and, Bool.true_and]
    refine decide_eq_decide.mpr ?_
    rw [e1]
    rcases Int.lt_or_gt_of_ne hb with h1 | h1
    · have a0 : a ≤ 0 := by
        refine Int.not_lt.mp fun z => ?_
        have := Int.mul_neg_of_pos_of_neg z h1
        omega
      have s : (b - a) * b < 0 ↔ 0 < b - a := by
        constructor
        · intro q
          refine Int.not_le.mp fun z => ?_
          have := Int.mul_nonneg_of_nonpos_of_nonpos z (Int.le_of_lt h1)
          omega
        · intro q
          exact Int.mul_neg_of_pos_of_neg q h1
      rw [s, if_pos h1]
      split <;> omega
    · have a0 : 0 ≤ a := by
        refine Int.not_lt.mp fun z => ?_
        have := Int.mul_neg_of_neg_of_pos z h1
        omega
      have s : (b - a) * b < 0 ↔ b - a < 0 := by
        constructor
        · intro q
          refine Int.not_le.mp fun z => ?_
          have := Int.mul_nonneg z (Int.le_of_lt h1)
          omega
        · intro q
          exact Int.mul_neg_of_neg_of_pos q h1
      rw [s, if_neg (by omega), if_neg (by omega)]
      omega
  · rw [decide_eq_false h, Bool.false_and, Bool.false_and]
/-! what the law's helpers do -/
def spPair : Sp := fun vs H Q _ => ∃ p G m, vs = [.ref p] ∧ m + 6 < 1000000 ∧ SB G H p m ∧ ∀ q t b G2 H2, Ex G G2 → SB G2 H2 p (m + 6) → PairAt G2 q t b → PB 140 t b → Q (.ref q) H2
def spLow : Sp := fun vs H Q _ => ∃ a t b, vs = [.ref a] ∧ PairAt H a t b ∧ PB 4000 t b ∧ ∀ q H2, H q = none → Ex H H2 → PairAt H2 q (Rat.divInt t b).num (Rat.divInt t b).den → Q (.ref q) H2
def spIs (C : Addr) : Sp := fun vs H Q _ => ∃ r a t b, vs = [.ref r, .ref a] ∧ RatAt C H r (Rat.divInt t b) ∧ PairAt H a t b ∧ PB 4000 t b ∧ ∀ H2, Ex H H2 → Q (.bl true) H2
/-- a new Ratio -/
def EvR (C : Addr) (te : TE) (σ : L2.St) (H : Hp) (x : Rat) : Prop := ∀ H1, Ex H H1 → ∀ Q : VK, (∀ p H2, Ex H1 H2 → RatAt C H2 p x → Q (.ref p) H2) → te σ H1 Q
/-- a pair -/
def EvP (te : TE) (σ : L2.St) (H : Hp) (t b : Int) : Prop := ∀ H1, Ex H H1 → ∀ Q : VK, (∀ p H2, Ex H1 H2 → PairAt H2 p t b → Q (.ref p) H2) → te σ H1 Q
section
variable {K : PySem.W.Frag} {C CZ CB a x : Addr} {σ : L2.St} {H : Hp} {ta tb te : TE} {t b c d : Int} {q q1 q2 : Rat} {v : V} {E : L2.St → XK} {EE : XK} {g : Rat → Rat → Rat}
theorem EvR.mono {H' : Hp} (e : Ex H H') (h : EvR C te σ H q) : EvR C te σ H' q := fun H1 e1 => h H1 (e.trans e1)
theorem EvP.mono {H' : Hp} (e : Ex H H') (h : EvP te σ H t b) : EvP te σ H' t b := fun H1 e1 => h H1 (e.trans e1)
theorem er_is (h : EvR C te σ H q1) (e : q1 = q2) : EvR C te σ H q2 := e ▸ h
theorem er_v (h : Ev te σ H (.ref a)) (hr : RatAt C H a q) : EvR C te σ H q := fun H1 e Q k => h H1 e Q fun H2 e2 => k a H2 e2 (hr.ex (e.trans e2))
theorem er_new (ha : Ev ta σ H (.int t)) (hb : Ev tb σ H (.int b)) (h1 : t.natAbs < 2 ^ 8900) (h2 : b.natAbs < 2 ^ 8900) (nb : b ≠ 0) : EvR C (tMakeSD C (spInit C CZ) [] E (tCons ta (tCons tb tNil))) σ H (Rat.divInt t b) := fun H1 e Q k =>
  u_new (ha.mono e) (hb.mono e) h1 h2 nb k
theorem er_new1 (ha : Ev ta σ H (.int t)) (h1 : t.natAbs < 2 ^ 8900) : EvR C (tMakeSD C (spInit C CZ) [.int 1] E (tCons ta tNil)) σ H (Rat.divInt t 1) := fun H1 e Q k => u_new1 (ha.mono e) h1 k
theorem er_ar (ha : Ev ta σ H (.ref a)) (hb : Ev tb σ H v) (r : RatAt C H a q1) (n : NumV C H v q2) (s1 : Sz 4000 q1) (s2 : Sz 4000 q2) : EvR C (tOp (rOwnAr C (spBin C g) EE) ta tb) σ H (g q1 q2) := fun H1 e Q k =>
  ha H1 e _ fun H2 e2 => hb H2 (e.trans e2) _ fun H3 e3 => by
    have e13 := (e.trans e2).trans e3
    exact ⟨(r.ex e13).ins, (n.ex e13).alt, a, v, q1, q2, rfl, r.ex e13, n.ex e13, s1, s2, fun p H4 e4 hp => k p H4 ((e2.trans e3).trans e4) hp⟩
theorem er_neg {f : Rat → Rat} (ha : Ev ta σ H (.ref a)) (r : RatAt C H a q) (s : Sz 4000 q) : EvR C (tUn (rOwnNeg C (spUn C f) EE) ta) σ H (f q) := fun H1 e Q k =>
  ha H1 e _ fun H2 e2 => ⟨(r.ex (e.trans e2)).ins, a, q, rfl, r.ex (e.trans e2), s, fun p H3 e3 hp => k p H3 (e2.trans e3) hp⟩
theorem er_mun {f : Rat → Rat} {m : Str} (ha : Ev ta σ H (.ref a)) (r : RatAt C H a q) (s : Sz 4000 q) (n1 : ¬ m = "_bottom") (n2 : ¬ m = "_top") : EvR C (tMethSD C m (spUn C f) [] E ta tNil) σ H (f q) := fun H1 e Q k =>
  ha H1 e _ fun H2 e2 => by
    obtain ⟨dx, hx⟩ := r.ex (e.trans e2)
    exact ⟨a, dx, _, rfl, hx, ratF_no q n1 n2, a, q, rfl, r.ex (e.trans e2), s, fun p H3 e3 hp => k p H3 (e2.trans e3) hp⟩
theorem er_asr (ha : Ev ta σ H v) (n : NumV C H v q) (s : Sz 8900 q) : EvR C (tCallSD (spAsR K C CB) [] E (tCons ta tNil)) σ H q := fun H1 e Q k =>
  ha H1 e _ fun H2 e2 => ⟨v, rfl, .inl ⟨q, n.ex (e.trans e2), s, fun p H3 e3 hp => k p H3 (e2.trans e3) hp⟩⟩
theorem ep_v (h : Ev te σ H (.ref a)) (hp : PairAt H a t b) : EvP te σ H t b := fun H1 e Q k => h H1 e Q fun H2 e2 => k a H2 e2 (hp.ex (e.trans e2))
theorem ep_tup (ha : Ev ta σ H (.int t)) (hb : Ev tb σ H (.int b)) : EvP (tTup (tCons ta (tCons tb tNil))) σ H t b := fun H1 e Q k =>
  eu_tup (ea_cons ha (ea_cons hb ea_nil)) (by show 2 ≤ 100000; decide) H1 e Q fun p H2 _ e2 hp => k p H2 e2 hp
theorem ep_low (h : EvP ta σ H t b) (pb : PB 4000 t b) : EvP (tCallSD spLow [] E (tCons ta tNil)) σ H (Rat.divInt t b).num (Rat.divInt t b).den := fun H1 e Q k =>
  h H1 e _ fun p H2 e2 hp => ⟨p, t, b, rfl, hp, pb, fun q H3 _ e3 hq => k q H3 (e2.trans e3) hq⟩
theorem ev_isr (h1 : EvR C ta σ H q) (h2 : EvP tb σ H t b) (pb : PB 4000 t b) (e : q = Rat.divInt t b) : Ev (tCallSD (spIs C) [] E (tCons ta (tCons tb tNil))) σ H (.bl true) := fun H1 e1 Q k =>
  h1 H1 e1 _ fun p H2 e2 hp => h2 H2 (e1.trans e2) _ fun a H3 e3 ha => ⟨p, a, t, b, rfl, e ▸ hp.ex e3, ha, pb, fun H4 e4 => k H4 ((e2.trans e3).trans e4)⟩
theorem ev_p0 (h : Ev te σ H (.ref a)) (hp : PairAt H a t b) : Ev (tOp (rIxT K) te (tC (.int 0))) σ H (.int t) := ev_op h ev_c (rv_ixT hp.sq rfl)
theorem ev_p1 (h : Ev te σ H (.ref a)) (hp : PairAt H a t b) : Ev (tOp (rIxT K) te (tC (.int 1))) σ H (.int b) := ev_op h ev_c (rv_ixT hp.sq rfl)
end
def absI (i : Int) : Int := if i < 0 then -i else i
theorem absI_nat (i : Int) : absI i = (i.natAbs : Int) := by unfold absI; split <;> omega
section
variable {K : PySem.W.Frag} {C : Addr} {σ : L2.St} {H : Hp} {te tb : TE} {ta : TA} {D : L2.Ends} {tz : TS} {i j : Nat} {x y : V} {n : Int} {xs : List V} {p : Addr} {E : XK}
theorem q_par (h : EvA ta σ H [x, y]) (k : ∀ H1, Ex H H1 → tz D ((σ.set i (some x)).set j (some y)) H1) : tSeq (tPar i j ta) tz D σ H := h H (Ex.refl H) _ fun H1 e1 => ⟨x, y, rfl, k H1 e1⟩
theorem s_par (h : EvA ta σ H [x, y]) (k : ∀ H1, Ex H H1 → D.nx ((σ.set i (some x)).set j (some y)) H1) : tPar i j ta D σ H := h H (Ex.refl H) _ fun H1 e1 => ⟨x, y, rfl, k H1 e1⟩
theorem ev_absI (h : Ev te σ H (.int n)) : Ev (tCB (fun xs H Q => ∃ i, xs = [.int i] ∧ Q (.int (if i < 0 then -i else i)) H) (tCons te tNil)) σ H (.int (absI n)) := ev_cb (ea_cons h ea_nil) fun H1 _ Q' q' => ⟨n, rfl, q' H1 (Ex.refl H1)⟩
theorem rv_divZ {k l : Int} (h : CDivZ k l) : RV (rI CDivZ fun i j => .int (i.fdiv j)) (.int k) (.int l) H (.int (k.fdiv l)) := rv_I h
theorem rv_gt {k l : Int} {g : Int → Int → V} : RV (rI0 g) (.int k) (.int l) H (g k l) := rv_I0
end
section
variable {σ : L2.St} {H : Hp} {ta tb : TE} {t : TA} {r : R2} {v : V} {Q : VK}
theorem x_opc (h : tb σ H fun y H2 => r v y H2 Q) : tOp r (tC v) tb σ H Q := h
theorem x_tup (h : t σ H fun xs H1 => xs.length ≤ sizeLine ∧ ∀ p, H1 p = none → Q (.ref p) (upd H1 p (.tup xs))) : tTup t σ H Q := h
end
end RatK
namespace L2
open PySem PySem.Spec PyProof.Rows
theorem op_alt {X : Cx} {m : Value → Value → Sem Value} {r1 r2 : R2} (h1 : OpR X m r1) (h2 : OpR X m r2) : OpR X m (fun x y H Q => r1 x y H Q ∨ r2 x y H Q) := by
  intro pins s σ H x y v u Q I rx ry h
  exact h.elim (h1 pins s σ H x y v u Q I rx ry) (h2 pins s σ H x y v u Q I rx ry)
end L2
namespace RatK
open PySem PySem.Spec PyProof.Rows L2 Evl LawK
theorem ml {x y : Int} {n m : Nat} (h1 : x.natAbs < 2 ^ n) (h2 : y.natAbs < 2 ^ m) : (x * y).natAbs < 2 ^ (n + m) := wide_lt h1 h2
theorem al {x y : Int} {n : Nat} (h1 : x.natAbs < 2 ^ n) (h2 : y.natAbs < 2 ^ n) : (x + y).natAbs < 2 ^ (n + 1) := by
  rw [Nat.pow_succ]
  generalize 2 ^ n = M at *
  omega
theorem sl {x y : Int} {n : Nat} (h1 : x.natAbs < 2 ^ n) (h2 : y.natAbs < 2 ^ n) : (x - y).natAbs < 2 ^ (n + 1) := by
  rw [Nat.pow_succ]
  generalize 2 ^ n = M at *
  omega
theorem up {x : Int} {n m : Nat} (h1 : x.natAbs < 2 ^ n) (l : n ≤ m) : x.natAbs < 2 ^ m := Nat.lt_of_lt_of_le h1 (Nat.pow_le_pow_right (by decide) l)
theorem wm {x y : Int} {n m : Nat} (h1 : x.natAbs < 2 ^ n) (h2 : y.natAbs < 2 ^ m) (l1 : n ≤ 4000) (l2 : m ≤ 4000) : CMulW x y := sz_mul (up h1 l1) (up h2 l2)
theorem absI_lt {x : Int} {n : Nat} (h : x.natAbs < 2 ^ n) : (absI x).natAbs < 2 ^ n := by
  have : (absI x).natAbs = x.natAbs := by rw [absI_nat]; omega
  rw [this]
  exact h
theorem absI_nz {x : Int} (h : x ≠ 0) : absI x ≠ 0 := by unfold absI; split <;> omega
theorem dec0 {g : Int} : decide (V.int g = V.int 0) = decide (g = 0) := decide_eq_decide.mpr ⟨fun h => V.int.inj h, fun h => by rw [h]⟩
section
variable {K : PySem.W.Frag} {C CZ CB a : Addr} {σ : L2.St} {H : Hp} {ta tb te : TE} {q q1 q2 : Rat} {v : V} {E : L2.St → XK} {EE : XK} {b : Bool} {n : Int} {xs : List V} {ds : List PyData} {l : Addr}
theorem nf_self : PySem.W.notFirst K C (.ref C) = true := by
  unfold PySem.W.notFirst
  simp
theorem nf_sub {t : Value} (h : PySem.W.subIn K t (.ref C) = some false) : PySem.W.notFirst K C t = true := by
  unfold PySem.W.notFirst
  rw [h]
  simp
theorem NumV.nf (n : NumV C H v q) (r : RIs K C) (si : PySem.W.subIn K (.type "int") (.ref C) = some false) : ∃ t, TyX K H v t ∧ PySem.W.notFirst K C t = true :=
  n.elim (fun ⟨i, h, _⟩ => h ▸ ⟨.type "int", .base (.int i), nf_sub si⟩) fun ⟨a, h, hr⟩ => h ▸ ⟨.ref C, hr.ty r, nf_self⟩
theorem ev_oeq (ha : Ev ta σ H (.ref a)) (hb : Ev tb σ H v) (r : RatAt C H a q1) (n : NumV C H v q2) (rs : RIs K C) (si : PySem.W.subIn K (.type "int") (.ref C) = some false) : Ev (tOp (rOwnEq K C (spEq K C) EE) ta tb) σ H (.bl (decide (q1 = q2))) := fun H1 e Q k =>
  ha H1 e _ fun H2 e2 => hb H2 (e.trans e2) _ fun H3 e3 => by
    have e13 := (e.trans e2).trans e3
    exact ⟨(r.ex e13).ins, (n.ex e13).nf rs si, a, v, q1, rfl, r.ex e13, .inl ⟨q2, n.ex e13, k H3 (e2.trans e3)⟩⟩
theorem ev_one (ha : Ev ta σ H (.ref a)) (hb : Ev tb σ H v) (r : RatAt C H a q1) (n : NumV C H v q2) (rs : RIs K C) (si : PySem.W.subIn K (.type "int") (.ref C) = some false) : Ev (tOp (rOwnNe K C (spEq K C) EE) ta tb) σ H (.bl (!decide (q1 = q2))) := fun H1 e Q k =>
  ha H1 e _ fun H2 e2 => hb H2 (e.trans e2) _ fun H3 e3 => by
    have e13 := (e.trans e2).trans e3
    exact ⟨(r.ex e13).ins, (n.ex e13).nf rs si, a, v, q1, rfl, r.ex e13, .inl ⟨q2, n.ex e13, _, rfl, k H3 (e2.trans e3)⟩⟩
/-- v == a -/
theorem ev_oeqR (ha : Ev ta σ H v) (hb : Ev tb σ H (.ref a)) (r : RatAt C H a q1) (n : NumV C H v q2) (rs : RIs K C) (si : PySem.W.subIn K (.type "int") (.ref C) = some false) : Ev (tOp (fun x y H Q => rOwnEq K C (spEq K C) EE x y H Q ∨ rIntEq C (spEq K C) EE x y H Q) ta tb) σ H (.bl (decide (q1 = q2))) := fun H1 e Q k =>
  ha H1 e _ fun H2 e2 => hb H2 (e.trans e2) _ fun H3 e3 => by
    have e13 := (e.trans e2).trans e3
    have r3 := r.ex e13
    have g := k H3 (e2.trans e3)
    rcases n.ex e13 with ⟨i, rfl, rfl⟩ | ⟨p, rfl, hp⟩
    · exact .inr ⟨⟨i, rfl⟩, r3.ins, a, .int i, q1, rfl, r3, .inl ⟨_, .inl ⟨i, rfl, rfl⟩, g⟩⟩
    · refine .inl ⟨hp.ins, ⟨.ref C, r3.ty rs, nf_self⟩, p, .ref a, q2, rfl, hp, .inl ⟨q1, .inr ⟨a, rfl, r3⟩, ?_⟩⟩
      have ee : decide (q2 = q1) = decide (q1 = q2) := decide_eq_decide.mpr ⟨fun h => h.symm, fun h => h.symm⟩
      rw [ee]
      exact g
theorem ev_less (ha : Ev ta σ H (.ref a)) (hb : Ev tb σ H v) (r : RatAt C H a q1) (n : NumV C H v q2) (s1 : Sz 4000 q1) (s2 : Sz 4000 q2) : Ev (tMethSD C "below" (spLess C) [] E ta (tCons tb tNil)) σ H (.bl (decide (q1 < q2))) := fun H1 e Q k =>
  ha H1 e _ fun H2 e2 => by
    obtain ⟨dx, hx⟩ := r.ex (e.trans e2)
    exact ⟨a, dx, _, rfl, hx, ratF_no q1 (by decide +kernel) (by decide +kernel), hb H2 (e.trans e2) _ fun H3 e3 => ⟨a, v, q1, q2, rfl, r.ex ((e.trans e2).trans e3), n.ex ((e.trans e2).trans e3), s1, s2, fun H4 e4 => k H4 ((e2.trans e3).trans e4)⟩⟩
theorem ev_isnum (ha : Ev ta σ H v) (n : NumV C H v q) : Ev (tCallSD (spIsNum K C) [] E (tCons ta tNil)) σ H (.bl true) := fun H1 e Q k => ha H1 e _ fun H2 e2 => ⟨v, rfl, .inl ⟨q, n.ex (e.trans e2), k H2 e2⟩⟩
theorem ev_ischa (ha : Ev ta σ H v) (n : NumV C H v q) (s : Sz 4000 q) : Ev (tCallSD (spIsCh K C) [] E (tCons ta tNil)) σ H (.bl (!decide (q < 0) && !decide (1 < q))) := fun H1 e Q k => ha H1 e _ fun H2 e2 => ⟨v, rfl, .inl ⟨q, n.ex (e.trans e2), s, fun H3 e3 => k H3 (e2.trans e3)⟩⟩
theorem ev_isnum0 (ha : Ev ta σ H v) (n : ∀ H1, Ex H H1 → NoNum K C H1 v) : Ev (tCallSD (spIsNum K C) [] E (tCons ta tNil)) σ H (.bl false) := fun H1 e Q k => ha H1 e _ fun H2 e2 => ⟨v, rfl, .inr ⟨n H2 (e.trans e2), k H2 e2⟩⟩
theorem ev_ischa0 (ha : Ev ta σ H v) (n : ∀ H1, Ex H H1 → NoNum K C H1 v) : Ev (tCallSD (spIsCh K C) [] E (tCons ta tNil)) σ H (.bl false) := fun H1 e Q k => ha H1 e _ fun H2 e2 => ⟨v, rfl, .inr ⟨n H2 (e.trans e2), fun H3 e3 => k H3 (e2.trans e3)⟩⟩
theorem ev_reprV (h : Ev te σ H (.ref l)) (hl : H l = some (.lst xs)) (hd : ∀ H1, Ex H H1 → DpAll K H1 xs ds) (h1 : PyData.showable (.list ds) = true) (h2 : PyData.hasDict (.list ds) = false) (h3 : PyData.depth (.list ds) ≤ 60) (h4 : (PyData.shown (.list ds)).length ≤ sizeLine) :
    Ev (tCB (rRepr K) (tCons te tNil)) σ H (.str (PyData.shown (.list ds))) := fun H1 e Q q =>
  h H1 e _ fun H2 e2 => ⟨.ref l, .list ds, rfl, .lst (sq_of ((e.trans e2) _ _ hl)) (hd H2 (e.trans e2)), ⟨l, rfl⟩, h1, h2, h3, h4, q H2 e2⟩
theorem ev_repr4 {x1 x2 x3 x4 : Bool} (h : Ev te σ H (.ref l)) (hl : H l = some (.lst [.bl x1, .bl x2, .bl x3, .bl x4])) : Ev (tCB (rRepr K) (tCons te tNil)) σ H (.str (PyData.shown (.list [.bool x1, .bool x2, .bool x3, .bool x4]))) :=
  ev_reprV h hl (fun _ _ => .cons (.bl _) (.cons (.bl _) (.cons (.bl _) (.cons (.bl _) .nil)))) (by rfl) (by rfl) (by cases x1 <;> cases x2 <;> cases x3 <;> cases x4 <;> decide) (by cases x1 <;> cases x2 <;> cases x3 <;> cases x4 <;> decide +kernel)
theorem ev_reprB4 {x1 x2 x3 x4 : Bool} (h : EvL te σ H [.bl x1, .bl x2, .bl x3, .bl x4]) : Ev (tCB (rRepr K) (tCons te tNil)) σ H (.str (PyData.shown (.list [.bool x1, .bool x2, .bool x3, .bool x4]))) :=
  ev_reprL h (fun _ _ => .cons (.bl _) (.cons (.bl _) (.cons (.bl _) (.cons (.bl _) .nil)))) (by rfl) (by rfl) (by cases x1 <;> cases x2 <;> cases x3 <;> cases x4 <;> decide) (by cases x1 <;> cases x2 <;> cases x3 <;> cases x4 <;> decide +kernel)
theorem ev_reprB2 {x1 x2 : Bool} (h : EvL te σ H [.bl x1, .bl x2]) : Ev (tCB (rRepr K) (tCons te tNil)) σ H (.str (PyData.shown (.list [.bool x1, .bool x2]))) :=
  ev_reprL h (fun _ _ => .cons (.bl _) (.cons (.bl _) .nil)) (by rfl) (by rfl) (by cases x1 <;> cases x2 <;> decide) (by cases x1 <;> cases x2 <;> decide +kernel)
theorem er_over (ha : Ev ta σ H (.ref a)) (hb : Ev tb σ H v) (r : RatAt C H a q1) (n : NumV C H v q2) (s1 : Sz 4000 q1) (s2 : Sz 4000 q2) (z : q2 ≠ 0) : EvR C (tMethSD C "over" (spOver C CZ) [] E ta (tCons tb tNil)) σ H (q1 / q2) := fun H1 e Q k =>
  ha H1 e _ fun H2 e2 => by
    obtain ⟨dx, hx⟩ := r.ex (e.trans e2)
    exact ⟨a, dx, _, rfl, hx, ratF_no q1 (by decide +kernel) (by decide +kernel), hb H2 (e.trans e2) _ fun H3 e3 => ⟨a, v, q1, q2, rfl, r.ex ((e.trans e2).trans e3), n.ex ((e.trans e2).trans e3), s1, s2, fun q0 => (z q0).elim, fun _ p H4 e4 hp => k p H4 ((e2.trans e3).trans e4) hp⟩⟩
theorem div_pair {a b c d : Int} : Rat.divInt a b / Rat.divInt c d = Rat.divInt (a * d) (b * c) := by rw [Rat.div_def, Rat.inv_divInt, Rat.divInt_mul_divInt]
theorem zero_iff {c d : Int} (hd : d ≠ 0) : Rat.divInt c d = 0 ↔ c = 0 := by
  have e : (0 : Rat) = Rat.divInt 0 1 := rfl
  rw [e, Rat.divInt_eq_divInt_iff hd (by decide)]
  omega
end
end RatK
/-! ### calls by names alone, of what may raise and of classes -/
namespace L2
open PySem PySem.Spec PyProof.Rows
structure CalKX (P : Program) (w : World) (K : PySem.W.Frag) (mg : Str → Option Value) (base : Heap) (k : Nat) (x : Str) (ks : List Str) (sp : Sp) (gV : List V → List V → List V) : Prop where
  is : ∃ (f : Addr) (fd : FuncData) (ps : List Str) (g : List Value → List Value → List Value), FnOk P w K mg base (L2.CX P w) k f fd ps sp ∧ mg x = some (.ref f) ∧ PySem.W.keepIn K (.ref f) = true ∧ KBn K fd ps 0 ks g gV
structure MakK (P : Program) (w : World) (K : PySem.W.Frag) (mg : Str → Option Value) (base : Heap) (k : Nat) (x : Str) (C : Addr) (ks : List Str) (sp : Sp) (gV : List V → List V → List V) : Prop where
  is : ∃ (f : Addr) (fd : FuncData) (ps : List Str) (g : List Value → List Value → List Value), FnOk P w K mg base (L2.CX P w) k f fd ps sp ∧ Mk K C f ∧ mg x = some (.ref C) ∧ KBn K fd ps 1 ks g gV
def tCallKX (ks : List Str) (sp : Sp) (gV : List V → List V → List V) (E : St → XK) (tk : TA) : TE := fun σ H Q => tk σ H fun zs H2 => zs.length = ks.length ∧ sp (gV [] zs) H2 Q (E σ)
section
variable {X : Cx} {k j : Nat} {C : Addr} {x : Str} {ks : List Str} {sp : Sp} {gV : List V → List V → List V} {p pos : Pos} {kws : List Keyword} {tk : TA} {E : St → XK}
theorem pe_kwX (c : CalKX X.prog X.w X.K X.mg X.base k x ks sp gV) (hx : ∀ σ, PassesAt (L2.CX X.prog X.w) X σ (E σ)) (hr : Room j X.A) (hk : k ≤ j) (hg : Gl X x) (ha : PK X kws tk)
    (hall : (backToKw pos (keywordEach kws X.env)).all (·.1.isSome) = true := by rfl) (hks : (backToKw pos (keywordEach kws X.env)).filterMap (·.1) = ks := by rfl) (nd : (x == ("__debug__" : Str)) = false := by decide)
    (hpl : ((backTo pos (starEach [] X.env)).any (·.1) || (backToKw pos (keywordEach kws X.env)).any (·.1.isNone)) = false := by rfl) : PE X (.Call (.Name x p) [] kws pos) (tCallKX ks sp gV E tk) := by
  obtain ⟨f, fd, ps, g, F, hm, kp, b⟩ := c.is
  refine .mk fun pins s σ H Q I h => wpAny_Call_Name_kw (ld_glob I hg hm (PySem.W.callWith_KW0 (h₀ := X.base) I.ok.mod.kin kp hall (thn (ha.run pos pins s σ H _ I h) ?_) hpl) nd)
  rintro ws s2 ⟨zs, H2, I2, rz, sz, q⟩
  refine And.intro I2.kIn ?_
  rw [hks]
  have r0 : Vals ([] : List V) ([] : List Value) := .nil
  have rr := b.rel r0 rz
  refine wpAny_call (codeAny_mono (F.run X.A X.stack s2 H2 ⟨[], ks.zip ws⟩ (g [] ws) (gV [] zs) Q (E σ) (hr.mono hk) I2.env0 (b.to s2 [] ws I2.kIn rfl (rz.length.symm.trans sz)) rr q) ?_)
  intro r s' hq
  match r, hq with
  | .error er, hq => exact hx σ pins _ _ er s' I2 hq
  | .ok (.ret u), hq => exact Inv.after I2 hq
theorem pe_mkK (c : MakK X.prog X.w X.K X.mg X.base k x C ks sp gV) (hr : Room j X.A) (hk : k + 1 ≤ j) (hg : Gl X x) (ha : PK X kws tk)
    (hall : (backToKw pos (keywordEach kws X.env)).all (·.1.isSome) = true := by rfl) (hks : (backToKw pos (keywordEach kws X.env)).filterMap (·.1) = ks := by rfl) (nd : (x == ("__debug__" : Str)) = false := by decide)
    (hpl : ((backTo pos (starEach [] X.env)).any (·.1) || (backToKw pos (keywordEach kws X.env)).any (·.1.isNone)) = false := by rfl) : PE X (.Call (.Name x p) [] kws pos) (tMakeK C 0 ks.length sp gV E0 tNil tk) := by
  obtain ⟨f, fd, ps, g, F, M, hm, b⟩ := c.is
  exact pe_makeK0 M F (hr.mono hk) hg hm b passX ha hall hks nd hpl
end
end L2
namespace L2
open PySem PySem.Spec PyProof.Rows
theorem ix_tupK {X : Cx} {K : PySem.W.Frag} (hK : X.K = K) : IxR X (rIxT K) := hK ▸ ix_tup
end L2
/-! ### lists of pairs -/
namespace RatK
open PySem PySem.Spec PyProof.Rows L2 Evl LawK
def qOf (p : Int × Int) : Rat := Rat.divInt p.1 p.2
theorem add_step {n : Nat} {s : Rat} {t b : Int} (hs : Sz n s) (pb : PB 140 t b) : PB (n + 150) (s.num * b + t * (s.den : Int)) ((s.den : Int) * b) ∧ Rat.divInt (s.num * b + t * (s.den : Int)) ((s.den : Int) * b) = s + Rat.divInt t b := by
  have d0 := den_nz s
  have dl := den_abs s hs.2
  refine ⟨⟨up (al (ml hs.1 pb.lo) (by have := ml pb.up dl; rw [Nat.add_comm] at this; exact this)) (by omega), up (ml dl pb.lo) (by omega), Int.mul_ne_zero d0 pb.nz⟩, ?_⟩
  conv => rhs; rw [← divInt_nd s]
  rw [Rat.divInt_add_divInt _ _ d0 pb.nz]
theorem sum_sz {ps : List (Int × Int)} (pb : ∀ p ∈ ps, PB 140 p.1 p.2) : ∀ i, i ≤ ps.length → Sz (150 * (i + 1)) (sumR ((ps.map qOf).take i))
  | 0, _ => by
    show Sz 150 (sumR [])
    exact ⟨by decide +kernel, by decide +kernel⟩
  | i + 1, h => by
    have ih := sum_sz pb i (by omega)
    have hq : (ps.map qOf)[i]? = some (qOf ps[i]) := by rw [List.getElem?_map, List.getElem?_eq_getElem (by omega)]; rfl
    rw [take_one hq, sumR_snoc]
    obtain ⟨h1, h2⟩ := add_step ih (pb _ (List.getElem_mem (show i < ps.length by omega)))
    show Sz _ (_ + Rat.divInt _ _)
    rw [← h2]
    exact (h1.sz).mono (by omega)
theorem sum_sz4 {ps : List (Int × Int)} (pb : ∀ p ∈ ps, PB 140 p.1 p.2) (l : ps.length ≤ 20) (i : Nat) : Sz 4000 (sumR ((ps.map qOf).take i)) := by
  by_cases h : i ≤ ps.length
  · exact (sum_sz pb i h).mono (by omega)
  · rw [List.take_of_length_le (by rw [List.length_map]; omega)]
    have := sum_sz pb ps.length (Nat.le_refl _)
    rw [List.take_of_length_le (by rw [List.length_map]; exact Nat.le_refl _)] at this
    exact this.mono (by omega)
theorem all_sz {ps : List (Int × Int)} (pb : ∀ p ∈ ps, PB 140 p.1 p.2) : ∀ q ∈ ps.map qOf, Sz 4000 q := fun q hq => by
  obtain ⟨p, hp, rfl⟩ := List.mem_map.mp hq
  exact ((pb p hp).sz).mono (by decide)
theorem NumV.upd {C D : Addr} {H : Hp} {y : V} {q : Rat} {ys : List V} {o : HO} (n : NumV C H y q) (h : H D = some (.lst ys)) : NumV C (L2.upd H D o) y q := by
  rcases n with ⟨i, h1, h2⟩ | ⟨a, h1, dx, h2⟩
  · exact .inl ⟨i, h1, h2⟩
  · have ne : a ≠ D := fun e => by
      rw [e, h] at h2
      cases h2
    exact .inr ⟨a, h1, dx, by rw [upd_ne ne]; exact h2⟩
theorem eqv_self {K : PySem.W.Frag} {H : Hp} : ∀ ys : List V, (∀ y ∈ ys, (∃ i, y = .int i) ∨ ∃ a, y = .ref a) → Paired (EqV K H 1) ys ys
  | [], _ => .nil
  | y :: ys, h => .cons ((h y (.head _)).elim (fun ⟨i, e⟩ => .inl ⟨rfl, by rw [e]; rfl⟩) fun ⟨a, e⟩ => .inr (.inl ⟨a, e, e⟩)) (eqv_self ys fun z hz => h z (.tail _ hz))
section
variable {K : PySem.W.Frag} {C CZ a : Addr} {σ : L2.St} {H : Hp} {t : TT} {ta tb te : TE} {tz : TS} {D : L2.Ends} {E : L2.St → XK} {i : Nat} {x v : V} {b : Bool} {Q : VK} {qs : List Rat} {ys : List V} {l : Addr}
theorem x_ifE (h : t σ H fun c H1 => if c = true then ta σ H1 Q else tb σ H1 Q) : tIf t ta tb σ H Q := h
theorem q_ifset (h : EvT t σ H b) (hv : Ev te σ H v) (hs : σ.set i (some x) = σ) (k : ∀ H1, Ex H H1 → tz D (σ.set i (some (if b = true then v else x))) H1) : tSeq (tIfS t (tAsg te (gName i)) tNext) tz D σ H := by
  refine q_when h (fun hb H1 e1 => ?_) (fun hb H1 e1 => ?_)
  · refine s_asg (hv.mono e1) fun H2 e2 => ?_
    have := k H2 (e1.trans e2)
    rw [if_pos hb] at this
    exact this
  · have := k H1 e1
    rw [if_neg (by rw [hb]; decide), hs] at this
    exact this
theorem s_ifset (h : EvT t σ H b) (hv : Ev te σ H v) (hs : σ.set i (some x) = σ) (k : ∀ H1, Ex H H1 → D.nx (σ.set i (some (if b = true then v else x))) H1) : tIfS t (tAsg te (gName i)) tNext D σ H := by
  refine s_when h (fun hb H1 e1 => ?_) (fun hb H1 e1 => ?_)
  · refine s_asg (hv.mono e1) fun H2 e2 => ?_
    have := k H2 (e1.trans e2)
    rw [if_pos hb] at this
    exact this
  · have := k H1 e1
    rw [if_neg (by rw [hb]; decide), hs] at this
    exact this
theorem SeqN.ex {H2 : Hp} (h : SeqN K C H v qs) (e : Ex H H2) : SeqN K C H2 v qs := by
  obtain ⟨a, xs, h1, h2, h3, h4⟩ := h
  exact ⟨a, xs, h1, h2.ex e, h3, fun i x q g1 g2 => (h4 i x q g1 g2).ex e⟩
def EvS (K : PySem.W.Frag) (C : Addr) (te : TE) (σ : L2.St) (H : Hp) (qs : List Rat) : Prop := ∀ H1, Ex H H1 → ∀ Q : VK, (∀ v H2, Ex H1 H2 → SeqN K C H2 v qs → Q v H2) → te σ H1 Q
theorem es_v (h : Ev te σ H v) (hs : SeqN K C H v qs) : EvS K C te σ H qs := fun H1 e Q k => h H1 e Q fun H2 e2 => k v H2 e2 (hs.ex (e.trans e2))
theorem es_t (h : Ev te σ H (.ref l)) (hl : SqL K H l ys) (hy : ys.length = qs.length) (hn : ∀ (i : Nat) x q, ys[i]? = some x → qs[i]? = some q → NumV C H x q) :
    EvS K C (tCB (fun xs H Q => ∃ p ys, xs = [.ref p] ∧ ((SqL K H p ys ∧ ∀ l, H l = none → Q (.ref l) (upd H l (.tup ys))) ∨ (SqT K H p ys ∧ Q (.ref p) H))) (tCons te tNil)) σ H qs := fun H1 e Q k =>
  h H1 e _ fun H2 e2 => ⟨l, ys, rfl, .inl ⟨ex_l (e.trans e2) hl, fun p np => k _ _ (e2.trans (Ex.new np)) ⟨p, ys, rfl, .inr (.inl (.inl upd_same)), hy, fun i x q g1 g2 => (hn i x q g1 g2).ex ((e.trans e2).trans (Ex.new np))⟩⟩⟩
theorem es_nil : EvS K C (tLst tNil) σ H [] := fun H1 e Q k => ⟨Nat.zero_le _, fun p np => k _ _ (Ex.new np) ⟨p, [], rfl, .inl (sq_of upd_same), rfl, fun i x q h => by cases h⟩⟩
theorem er_total (h : EvS K C te σ H qs) (sz : ∀ q ∈ qs, Sz 4000 q) (sp : ∀ i, Sz 4000 (sumR (qs.take i))) : EvR C (tCallSD (spTotal K C) [] E (tCons te tNil)) σ H (sumR qs) := fun H1 e Q k =>
  h H1 e _ fun v H2 e2 hv => ⟨v, qs, rfl, hv, sz, sp, fun p H3 e3 hp => k p H3 (e2.trans e3) hp⟩
theorem er_pick {g : List Rat → Rat} (h : EvS K C te σ H qs) (ne : qs ≠ []) (sz : ∀ q ∈ qs, Sz 4000 q) : EvR C (tCallSD (spPick K C g) [] E (tCons te tNil)) σ H (g qs) := fun H1 e Q k =>
  h H1 e _ fun v H2 e2 hv => ⟨v, qs, rfl, hv, ne, sz, fun p H3 e3 hp => k p H3 (e2.trans e3) hp⟩
end
end RatK
/-! ### the law's state beside what is made -/
namespace LawK
open PySem PySem.Spec PyProof.Rows L2 Evl
theorem SB.mutD {G H : Hp} {p D : Addr} {m : Nat} {o o' : HO} (S : SB G H p m) (h : G D = some o) : SB (upd G D o') (upd H D o') p m := by
  obtain ⟨a, b, xs, ys, n, s, r⟩ := S
  have ne : ∀ {c : Addr}, G c = none → c ≠ D := fun {c} hc e => by
    rw [e, h] at hc
    cases hc
  refine ⟨a, b, xs, ys, n, ⟨fun x u hx => ?_, ?_, ?_, ?_, ?_, ?_, ?_, s.ap, s.bp, s.ab⟩, r⟩
  · by_cases e : x = D
    · rw [e, upd_same] at hx ⊢
      exact hx
    · rw [upd_ne e] at hx ⊢
      exact s.ex x u hx
  · rw [upd_ne (ne s.gp)]; exact s.hp
  · rw [upd_ne (ne s.ga)]; exact s.ha
  · rw [upd_ne (ne s.gb)]; exact s.hb
  · rw [upd_ne (ne s.gp)]; exact s.gp
  · rw [upd_ne (ne s.ga)]; exact s.ga
  · rw [upd_ne (ne s.gb)]; exact s.gb
section
variable {K : PySem.W.Frag} {σ : L2.St} {G H : Hp} {te : TE} {Q : VK} {p L : Addr} {m i n : Nat} {E : XK} {xs : List V}
/-- a draw, then the item of a list that is there -/
theorem u_pickL (S : SB G H p m) (hL : G L = some (.lst xs)) (hn : xs.length = n) (hi : σ[i]? = some (some (.ref p))) (he : Ev te σ G (.int (n : Int))) (k0 : 0 < n) (kb : n < 1000) (hm : m < 1000000)
    (q : ∀ (c : Nat) (v : V) (H2 : Hp), xs[c]? = some v → SB G H2 p (m + 1) → Q v H2) : tCall spDraw [] E (tCons (tVar i) (tCons te tNil)) σ H (fun y H2 => rIxL K (.ref L) y H2 Q) := by
  refine u_draw S hi he (by omega) (lg64 (by omega) (by omega)) hm fun r H2 r0 r1 S2 => ?_
  have hr : r.toNat < xs.length := by omega
  exact ⟨L, xs, r, xs[r.toNat], rfl, rfl, sq_of (S2.ex _ _ hL), at_of (Int.toNat_of_nonneg r0).symm (List.getElem?_eq_getElem hr), q r.toNat _ H2 (List.getElem?_eq_getElem hr) S2⟩
end
end LawK
namespace L2
open PySem PySem.Spec PyProof.Rows
theorem op_ownEqK {X : Cx} {K : PySem.W.Frag} {C : Addr} {sp : Sp} {E : XK} (hK : X.K = K) (h : OpR X (compareOp .Eq) (rOwnEq X.K C sp E)) : OpR X (compareOp .Eq) (rOwnEq K C sp E) := by
  rw [hK] at h
  exact h
end L2
namespace RatK
open PySem PySem.Spec PyProof.Rows L2 Evl LawK
/-- things that are no numbers, by their types -/
structure OddT (K : PySem.W.Frag) (C : Addr) : Prop where
  oN : PySem.W.kitOne K (.type "NoneType") (.ref C) = some false
  oB : PySem.W.kitOne K (.type "bool") (.ref C) = some false
  oS : PySem.W.kitOne K (.type "str") (.ref C) = some false
  oL : PySem.W.kitOne K (.type "list") (.ref C) = some false
  oT : PySem.W.kitOne K (.type "tuple") (.ref C) = some false
  oD : PySem.W.kitOne K (.type "dict") (.ref C) = some false
  sN : PySem.W.subIn K (.type "NoneType") (.ref C) = some false
  sB : PySem.W.subIn K (.type "bool") (.ref C) = some false
  sS : PySem.W.subIn K (.type "str") (.ref C) = some false
  sL : PySem.W.subIn K (.type "list") (.ref C) = some false
  sT : PySem.W.subIn K (.type "tuple") (.ref C) = some false
section
variable {K : PySem.W.Frag} {C CZ a D : Addr} {σ : L2.St} {H G : Hp} {ta tb te : TE} {q q1 q2 : Rat} {v : V} {E : L2.St → XK} {EE : XK} {xs ys : List V} {ps qs : List (Int × Int)} {l : Addr}
theorem no_non (O : OddT K C) : NoNum K C H .non := ⟨.type "NoneType", .base .non, .inl (kit_ty (by decide +kernel)), O.oN⟩
theorem no_bl (O : OddT K C) (b : Bool) : NoNum K C H (.bl b) := ⟨.type "bool", .base (.bl b), .inr ⟨kit_ty (by decide +kernel), kit_ty (by decide +kernel)⟩, O.oB⟩
theorem no_str (O : OddT K C) (z : Str) : NoNum K C H (.str z) := ⟨.type "str", .base (.str z), .inl (kit_ty (by decide +kernel)), O.oS⟩
theorem no_lst (O : OddT K C) (h : H l = some (.lst xs)) : NoNum K C H (.ref l) := ⟨.type "list", .base (.lst h), .inl (kit_ty (by decide +kernel)), O.oL⟩
theorem no_tup (O : OddT K C) (h : H l = some (.tup xs)) : NoNum K C H (.ref l) := ⟨.type "tuple", .base (.tup h), .inl (kit_ty (by decide +kernel)), O.oT⟩
theorem no_dic (O : OddT K C) (h : H l = some (.dK [])) : NoNum K C H (.ref l) := ⟨.type "dict", .base (.dK h), .inl (kit_ty (by decide +kernel)), O.oD⟩
/-- v is no number, and a Ratio is asked whether it's equal -/
def NoEq (K : PySem.W.Frag) (C : Addr) (H : Hp) (v : V) : Prop := NoNum K C H v ∧ ∃ t, TyX K H v t ∧ PySem.W.notFirst K C t = true
theorem ev_roeq (ha : EvR C ta σ H q1) (hb : Ev tb σ H v) (n : ∀ H1, Ex H H1 → NoEq K C H1 v) : Ev (tOp (rOwnEq K C (spEq K C) EE) ta tb) σ H (.bl false) := fun H1 e Q k =>
  ha H1 e _ fun p H2 e2 hp => hb H2 (e.trans e2) _ fun H3 e3 => by
    obtain ⟨n1, n2⟩ := n H3 ((e.trans e2).trans e3)
    exact ⟨(hp.ex e3).ins, n2, p, v, q1, rfl, hp.ex e3, .inr ⟨n1, k H3 (e2.trans e3)⟩⟩
theorem ev_rone (ha : EvR C ta σ H q1) (hb : Ev tb σ H v) (n : NumV C H v q2) (rs : RIs K C) (si : PySem.W.subIn K (.type "int") (.ref C) = some false) : Ev (tOp (rOwnNe K C (spEq K C) EE) ta tb) σ H (.bl (!decide (q1 = q2))) := fun H1 e Q k =>
  ha H1 e _ fun p H2 e2 hp => hb H2 (e.trans e2) _ fun H3 e3 => by
    have e13 := (e.trans e2).trans e3
    exact ⟨(hp.ex e3).ins, (n.ex e13).nf rs si, p, v, q1, rfl, hp.ex e3, .inl ⟨q2, n.ex e13, _, rfl, k H3 (e2.trans e3)⟩⟩
/-- Ratio(bottom = .., top = ..) -/
theorem er_kw {t b : Int} {ks : List Str} (hk : ks.length = 2) (ha : Ev tb σ H (.int b)) (hb : Ev ta σ H (.int t)) (h1 : t.natAbs < 2 ^ 8900) (h2 : b.natAbs < 2 ^ 8900) (nb : b ≠ 0) :
    EvR C (tMakeK C 0 ks.length (spInit C CZ) (fun vs zs => vs ++ (zs.drop 1 ++ zs.take 1)) EE tNil (tCons tb (tCons ta tNil))) σ H (Rat.divInt t b) := fun H1 e Q k =>
  ha H1 e _ fun H2 e2 => hb H2 (e.trans e2) _ fun H3 e3 => ⟨rfl, hk.symm, fun p dx nx nd ne => ⟨p, dx, t, b, rfl, upd_same, h1, h2, fun z => (nb z).elim, fun _ => ⟨rfl, k p _ ((e2.trans e3).trans (made nx nd ne).1) (made nx nd ne).2⟩⟩⟩
theorem er_mk1 {t : Int} (ha : Ev ta σ H (.int t)) (h1 : t.natAbs < 2 ^ 8900) : EvR C (tMakeSD C (spInit C CZ) [.int 1] E (tCons ta tNil)) σ H (t : Rat) := er_is (er_new1 ha h1) (one_is t)
end
end RatK
set_option Elab.async false
set_option linter.all false
set_option maxRecDepth 100000
set_option maxHeartbeats 2000000
/-! ### decimal notation, and the texts of quotients, as lists of signs -/
namespace Dec
open PySem PySem.NumText TL
theorem fold_app : ∀ (b : List Nat) (x : Nat), b.foldl (fun acc c => acc * 10 + (c - 48)) x = x * 10 ^ b.length + b.foldl (fun acc c => acc * 10 + (c - 48)) 0
  | [], x => by simp
  | c :: b, x => by
    rw [List.foldl_cons, List.foldl_cons, fold_app b (x * 10 + (c - 48)), fold_app b (0 * 10 + (c - 48)), List.length_cons, Nat.pow_succ, Nat.zero_mul, Nat.zero_add, Nat.add_mul, Nat.mul_assoc, Nat.mul_comm 10, Nat.add_assoc]
theorem dv_app (a b : List Nat) : digitsVal (a ++ b) = digitsVal a * 10 ^ b.length + digitsVal b := by
  unfold digitsVal
  rw [List.foldl_append]
  exact fold_app b _
theorem dv_zeros : ∀ (k : Nat) (a : List Nat), digitsVal (List.replicate k 48 ++ a) = digitsVal a
  | 0, a => rfl
  | k + 1, a => by
    rw [List.replicate_succ, List.cons_append, digitsVal_zero]
    exact dv_zeros k a
theorem fold_lt : ∀ (b : List Nat) (x : Nat), AllDigits b → b.foldl (fun acc c => acc * 10 + (c - 48)) x < (x + 1) * 10 ^ b.length
  | [], x, _ => by simp
  | c :: b, x, h => by
    have hc := h.head
    have ih := fold_lt b (x * 10 + (c - 48)) h.tail
    rw [List.foldl_cons, List.length_cons, Nat.pow_succ, Nat.mul_comm (10 ^ b.length) 10, ← Nat.mul_assoc]
    have l : x * 10 + (c - 48) + 1 ≤ (x + 1) * 10 := by omega
    exact Nat.lt_of_lt_of_le ih (Nat.mul_le_mul_right (10 ^ b.length) l)
theorem dv_lt {a : List Nat} (h : AllDigits a) : digitsVal a < 10 ^ a.length := by
  have := fold_lt a 0 h
  rw [Nat.zero_add, Nat.one_mul] at this
  exact this
theorem map_back : ∀ {l : List Nat}, AllDigits l → (l.map Char.ofNat).map Char.toNat = l
  | [], _ => rfl
  | c :: l, h => by
    have hc := h.head
    have e : (Char.ofNat c).toNat = c := by
      obtain ⟨d, rfl⟩ : ∃ d, c = 48 + d := ⟨c - 48, by omega⟩
      have : ∀ d, d < 10 → (Char.ofNat (48 + d)).toNat = 48 + d := by decide
      exact this d (by omega)
    rw [List.map_cons, List.map_cons, e, map_back h.tail]
theorem canon {c : Nat} {r : List Nat} (h : AllDigits (c :: r)) (k : r = [] ∨ 49 ≤ c) : numL (digitsVal (c :: r)) = c :: r := by
  unfold numL
  rw [toDigits_digitsVal r.length (c :: r) rfl h (k.imp (fun e => by rw [e]; rfl) fun e => ⟨c, r, rfl, e⟩), map_back h]
theorem numL_head : ∀ n : Nat, 0 < n → ∃ c r, numL n = c :: r ∧ 49 ≤ c := by
  intro n
  induction n using Nat.strongRecOn with
  | _ n ih =>
    intro h
    by_cases l : n < 10
    · exact ⟨48 + n, [], numL_lt l, by omega⟩
    · obtain ⟨c, r, e, hc⟩ := ih (n / 10) (by omega) (by omega)
      exact ⟨c, r ++ [48 + n % 10], by rw [numL_step (by omega), e]; rfl, hc⟩
theorem numL_0 : numL 0 = [48] := numL_lt (by decide)
/-- sixty-four signs of it -/
def zf (r : Nat) : List Nat := List.replicate (64 - (numL r).length) 48 ++ numL r
theorem zf_dig (r : Nat) : AllDigits (zf r) := fun c hc => by
  rcases List.mem_append.mp hc with h | h
  · rw [List.eq_of_mem_replicate h]; omega
  · exact numL_digits r c h
theorem zf_len {r : Nat} (h : r < 10 ^ 64) : (zf r).length = 64 := by
  have := numL_len (k := 64) (by decide) h
  unfold zf
  rw [List.length_append, List.length_replicate]
  omega
theorem num_split {q r : Nat} (hq : 0 < q) (hr : r < 10 ^ 64) : numL (q * 10 ^ 64 + r) = numL q ++ zf r := by
  have e : digitsVal (numL q ++ zf r) = q * 10 ^ 64 + r := by
    rw [dv_app, zf_len hr, numL_val]
    unfold zf
    rw [dv_zeros, numL_val]
  obtain ⟨c, t, ec, hc⟩ := numL_head q hq
  rw [← e, ec]
  refine canon (r := t ++ zf r) (fun d hd => ?_) (.inr hc)
  rw [show c :: (t ++ zf r) = numL q ++ zf r from by rw [ec]; rfl] at hd
  rcases List.mem_append.mp hd with h | h
  · exact numL_digits q d h
  · exact zf_dig r d h
/-! the texts of integers and of quotients -/
def sgL (n : Int) : List Nat := if n < 0 then [45] else []
def intL (n : Int) : List Nat := sgL n ++ numL n.natAbs
def ratL (q : Rat) : List Nat := intL q.num ++ if q.den = 1 then [] else 47 :: numL q.den
/-- what stands ahead of the slash, and behind it -/
def cutL (T : List Nat) : List Nat × List Nat := match par [47] [] T with | some (a, b) => (a, b) | none => (T, [49])
def bareL (T : List Nat) : List Nat := match T with | 45 :: r => r | _ => T
def okL (T : List Nat) : Prop := AllDigits (bareL (cutL T).1) ∧ bareL (cutL T).1 ≠ [] ∧ AllDigits (cutL T).2 ∧ (cutL T).2 ≠ [] ∧ digitsVal (cutL T).2 ≠ 0
def topL (T : List Nat) : Int := if T.head? = some 45 then -((digitsVal (bareL (cutL T).1) : Nat) : Int) else (digitsVal (bareL (cutL T).1) : Nat)
def quoL (T : List Nat) : Rat := Rat.divInt (topL T) (digitsVal (cutL T).2 : Nat)
theorem bare_minus (r : List Nat) : bareL (45 :: r) = r := rfl
theorem bare_dig {l : List Nat} (h : AllDigits l) : bareL l = l := by
  unfold bareL
  split
  · have := h.head
    omega
  · rfl
theorem head_dig {l : List Nat} (h : AllDigits l) : l.head? ≠ some 45 := by
  cases l with
  | nil => intro e; cases e
  | cons c r =>
    intro e
    have := h.head
    cases e
    omega
theorem bare_int (n : Int) : bareL (intL n) = numL n.natAbs := by
  unfold intL sgL
  split
  · rfl
  · exact bare_dig (numL_digits _)
theorem head_int (n : Int) : (intL n).head? = some 45 ↔ n < 0 := by
  unfold intL sgL
  by_cases h : n < 0
  · rw [if_pos h]
    exact ⟨fun _ => h, fun _ => rfl⟩
  · rw [if_neg h]
    exact ⟨fun e => (head_dig (numL_digits _) e).elim, fun e => (h e).elim⟩
theorem free_int (n : Int) : 47 ∉ intL n := by
  unfold intL sgL
  intro h
  rcases List.mem_append.mp h with h | h
  · split at h
    · have := List.mem_singleton.mp h
      omega
    · cases h
  · exact numL_free (by omega) h
theorem int_ne (n : Int) : intL n ≠ [] := by
  unfold intL
  intro h
  exact numL_ne _ (List.append_eq_nil_iff.mp h).2
theorem cut_rat (q : Rat) : cutL (ratL q) = (intL q.num, numL q.den) := by
  unfold cutL ratL
  by_cases h : q.den = 1
  · rw [if_pos h, List.append_nil, par_none1 (free_int _), h]
    rfl
  · rw [if_neg h]
    have := par_part1 (s := 47) (S := []) (acc := []) (rest := numL q.den) (free_int q.num)
    have e : intL q.num ++ ([47] ++ numL q.den) = intL q.num ++ 47 :: numL q.den := rfl
    rw [e] at this
    rw [this]
    rfl
theorem head_rat (q : Rat) : (ratL q).head? = some 45 ↔ q.num < 0 := by
  unfold ratL
  obtain ⟨c, r, e⟩ : ∃ c r, intL q.num = c :: r := by
    cases e : intL q.num with
    | nil => exact (int_ne _ e).elim
    | cons c r => exact ⟨c, r, rfl⟩
  have h := head_int q.num
  rw [e] at h ⊢
  exact h
theorem ok_rat (q : Rat) : okL (ratL q) := by
  unfold okL
  rw [cut_rat, bare_int]
  exact ⟨numL_digits _, numL_ne _, numL_digits _, numL_ne _, by rw [numL_val]; exact q.den_nz⟩
theorem quo_rat (q : Rat) : quoL (ratL q) = q := by
  unfold quoL topL
  rw [cut_rat, bare_int, numL_val, numL_val]
  have e : (if (ratL q).head? = some 45 then -((q.num.natAbs : Nat) : Int) else (q.num.natAbs : Nat)) = q.num := by
    by_cases h : q.num < 0
    · rw [if_pos ((head_rat q).mpr h)]; omega
    · rw [if_neg fun e => h ((head_rat q).mp e)]; omega
  rw [e]
  exact Rat.num_divInt_den q
/-- a text is that of a quotient exactly if it is read, and told back -/
theorem read_iff (T : List Nat) (q : Rat) : T = ratL q ↔ okL T ∧ quoL T = q ∧ ratL q = T := by
  constructor
  · rintro rfl
    exact ⟨ok_rat q, quo_rat q, rfl⟩
  · exact fun h => h.2.2.symm
/-! as the law looks at texts -/
def wholeL (p : List Nat) : Prop := p ≠ [] ∧ AllDigits p ∧ (p = [48] ∨ p.head? ≠ some 48)
theorem whole_iff (p : List Nat) : wholeL p ↔ ∃ n, p = numL n := by
  constructor
  · rintro ⟨h1, h2, h3⟩
    cases p with
    | nil => exact (h1 rfl).elim
    | cons c r =>
      have hc := h2.head
      refine ⟨digitsVal (c :: r), (canon h2 ?_).symm⟩
      rcases h3 with h3 | h3
      · cases h3; exact .inl rfl
      · refine .inr ?_
        have : c ≠ 48 := fun e => h3 (by rw [e]; rfl)
        omega
  · rintro ⟨n, rfl⟩
    refine ⟨numL_ne n, numL_digits n, ?_⟩
    by_cases h : n = 0
    · exact .inl (by rw [h]; exact numL_0)
    · obtain ⟨c, r, e, hc⟩ := numL_head n (by omega)
      refine .inr ?_
      rw [e]
      intro z
      cases z
      omega
def isTextL (T : List Nat) : Prop := (spl [47] 0 [] (bareL T)).length ≤ 2 ∧ (∀ p ∈ spl [47] 0 [] (bareL T), wholeL p) ∧
  (if (spl [47] 0 [] (bareL T)).head? = some [48] then T = [48] else (spl [47] 0 [] (bareL T)).length = 1 ∨ ∃ a b, spl [47] 0 [] (bareL T) = [a, b] ∧ 1 < digitsVal b ∧ Nat.gcd (digitsVal a) (digitsVal b) = 1)
theorem spl_ne (x : List Nat) : ∀ n acc, spl [47] n acc x ≠ [] := by
  induction x with
  | nil => intro n acc h; cases n <;> cases h
  | cons c x ih =>
    intro n acc h
    cases n with
    | succ n => exact ih _ _ h
    | zero =>
      have h' : (if pre [47] (c :: x) = true then acc :: spl [47] ([47].length - 1) [] x else spl [47] 0 (acc ++ [c]) x) = [] := h
      split at h'
      · cases h'
      · exact ih _ _ h'
theorem spl_cases (x : List Nat) : (47 ∉ x ∧ spl [47] 0 [] x = [x]) ∨ ∃ p r, x = p ++ 47 :: r ∧ 47 ∉ p ∧ spl [47] 0 [] x = p :: spl [47] 0 [] r := by
  by_cases h : 47 ∈ x
  · obtain ⟨p, r, e, hp⟩ := List.eq_append_cons_of_mem h
    refine .inr ⟨p, r, e, hp, ?_⟩
    rw [e]
    exact spl_part1 hp
  · exact .inl ⟨h, spl_last1 h⟩
theorem bare_sg (T : List Nat) : (T.head? = some 45 ∧ T = 45 :: bareL T) ∨ (T.head? ≠ some 45 ∧ T = bareL T) := by
  unfold bareL
  split
  · exact .inl ⟨rfl, rfl⟩
  · rename_i h
    refine .inr ⟨fun e => ?_, rfl⟩
    cases T with
    | nil => cases e
    | cons c r => cases e; exact h r rfl
theorem rat_of {a b : Nat} (hb : b ≠ 0) (hg : Nat.gcd a b = 1) (s : Bool) : ∃ q : Rat, q.num = (if s = true then -((a : Nat) : Int) else a) ∧ q.den = b := by
  refine ⟨⟨if s = true then -((a : Nat) : Int) else a, b, hb, ?_⟩, rfl, rfl⟩
  unfold Nat.Coprime
  cases s with
  | true => rw [if_pos rfl, Int.natAbs_neg, Int.natAbs_natCast]; exact hg
  | false => rw [if_neg Bool.false_ne_true, Int.natAbs_natCast]; exact hg
theorem int_of {a : Nat} (s : Bool) (h : s = true → a ≠ 0) : intL (if s = true then -((a : Nat) : Int) else a) = (if s = true then [45] else []) ++ numL a := by
  unfold intL sgL
  cases s with
  | true =>
    have := h rfl
    rw [if_pos rfl, if_pos rfl, if_pos (by omega), Int.natAbs_neg, Int.natAbs_natCast]
  | false => rw [if_neg Bool.false_ne_true, if_neg Bool.false_ne_true, if_neg (by omega), Int.natAbs_natCast]
theorem text_iff (T : List Nat) : isTextL T ↔ ∃ q, T = ratL q := by
  constructor
  · rintro ⟨h1, h2, h3⟩
    obtain ⟨s, es⟩ : ∃ s : Bool, T = (if s = true then [45] else []) ++ bareL T := by
      rcases bare_sg T with ⟨_, e⟩ | ⟨_, e⟩
      · exact ⟨true, e⟩
      · exact ⟨false, e⟩
    rcases spl_cases (bareL T) with ⟨f, e⟩ | ⟨p, r, e, hp, e2⟩
    · rw [e] at h2 h3
      obtain ⟨n, hn⟩ := (whole_iff _).mp (h2 _ (.head _))
      by_cases z : bareL T = [48]
      · rw [if_pos (by rw [z]; rfl)] at h3
        exact ⟨0, by rw [h3]; decide⟩
      · have n0 : n ≠ 0 := fun z2 => z (by rw [hn, z2]; exact numL_0)
        obtain ⟨q, q1, q2⟩ := rat_of (a := n) (b := 1) (by decide) (Nat.gcd_one_right n) s
        refine ⟨q, ?_⟩
        unfold ratL
        rw [q1, q2, if_pos rfl, List.append_nil, int_of s (fun _ => n0), ← hn]
        exact es
    · rcases spl_cases r with ⟨f, e3⟩ | ⟨p2, r2, _, _, e3⟩
      · rw [e2, e3] at h2 h3
        obtain ⟨a, ha⟩ := (whole_iff _).mp (h2 _ (.head _))
        obtain ⟨b, hb⟩ := (whole_iff _).mp (h2 _ (.tail _ (.head _)))
        by_cases z : p = [48]
        · rw [if_pos (by rw [z]; rfl)] at h3
          exact absurd (show 47 ∈ T by rw [es, e]; simp) (by rw [h3]; decide)
        · rw [if_neg (show ¬ [p, r].head? = some [48] from fun z2 => z (Option.some.inj z2))] at h3
          have a0 : a ≠ 0 := fun z2 => z (by rw [ha, z2]; exact numL_0)
          rcases h3 with h3 | ⟨a', b', e4, l, g⟩
          · simp at h3
          · injection e4 with e5 e6
            injection e6 with e6 _
            subst e5 e6
            rw [ha, hb, numL_val, numL_val] at g
            rw [hb, numL_val] at l
            obtain ⟨q, q1, q2⟩ := rat_of (a := a) (b := b) (by omega) g s
            refine ⟨q, ?_⟩
            unfold ratL
            rw [q2, if_neg (show ¬ b = 1 by omega), q1, int_of s (fun _ => a0), ← ha, ← hb, List.append_assoc, ← e]
            exact es
      · rw [e2, e3] at h1
        have := List.length_pos_iff.mpr (spl_ne r2 0 [])
        simp only [List.length_cons] at h1
        omega
  · rintro ⟨q, rfl⟩
    have hb : bareL (ratL q) = numL q.num.natAbs ++ if q.den = 1 then [] else 47 :: numL q.den := by
      unfold ratL intL sgL
      split
      · rfl
      · obtain ⟨c, r, e⟩ : ∃ c r, numL q.num.natAbs = c :: r := by
          cases e : numL q.num.natAbs with
          | nil => exact (numL_ne _ e).elim
          | cons c r => exact ⟨c, r, rfl⟩
        have hc := numL_digits q.num.natAbs c (by rw [e]; exact .head _)
        rw [List.nil_append, e]
        show bareL (c :: _) = _
        unfold bareL
        split
        · rename_i z
          cases z
          omega
        · rfl
    have nf := numL_free (n := q.num.natAbs) (s := 47) (by omega)
    have df := numL_free (n := q.den) (s := 47) (by omega)
    have zz : numL q.num.natAbs = [48] ↔ q.num = 0 := by
      rw [← numL_0]
      exact ⟨fun e => by have := numL_inj e; omega, fun e => by rw [e]; rfl⟩
    unfold isTextL
    rw [hb]
    by_cases h : q.den = 1
    · rw [if_pos h, List.append_nil, spl_last1 nf, List.nil_append]
      refine ⟨by simp, fun p hp => (whole_iff _).mpr ⟨_, List.mem_singleton.mp hp⟩, ?_⟩
      by_cases z : q.num = 0
      · rw [if_pos (by rw [zz.mpr z]; rfl)]
        unfold ratL intL sgL
        rw [if_pos h, z, if_neg (by decide)]
        exact numL_0
      · rw [if_neg (show ¬ [numL q.num.natAbs].head? = some [48] from fun e => z (zz.mp (Option.some.inj e)))]
        exact .inl rfl
    · rw [if_neg h]
      have e : spl [47] 0 [] (numL q.num.natAbs ++ 47 :: numL q.den) = [numL q.num.natAbs, numL q.den] := by
        have := spl_part1 (s := 47) (S := []) (acc := []) (rest := numL q.den) nf
        rw [spl_last1 df] at this
        exact this
      rw [e]
      refine ⟨by simp, fun p hp => (whole_iff _).mpr ?_, ?_⟩
      · rcases List.mem_cons.mp hp with hp | hp
        · exact ⟨_, hp⟩
        · exact ⟨_, List.mem_singleton.mp hp⟩
      · have cp := q.reduced
        have z : q.num ≠ 0 := fun z => h (by
          have cp2 := q.reduced
          unfold Nat.Coprime at cp2
          rw [z] at cp2
          simpa using cp2)
        rw [if_neg (show ¬ [numL q.num.natAbs, numL q.den].head? = some [48] from fun e => z (zz.mp (Option.some.inj e)))]
        refine .inr ⟨_, _, rfl, ?_, ?_⟩
        · rw [numL_val]
          have := q.den_nz
          omega
        · rw [numL_val, numL_val]
          exact cp
/-! the common divisor, as the law reckons it -/
def stp (p : Nat × Nat) : Nat × Nat := if p.2 = 0 then p else (p.2, p.1 % p.2)
def itr : Nat → Nat × Nat → Nat × Nat
  | 0, p => p
  | n + 1, p => itr n (stp p)
theorem itr_succ : ∀ (n : Nat) (p : Nat × Nat), itr (n + 1) p = stp (itr n p)
  | 0, p => rfl
  | n + 1, p => itr_succ n (stp p)
theorem itr_add : ∀ (m n : Nat) (p : Nat × Nat), itr (m + n) p = itr n (itr m p)
  | 0, n, p => by rw [Nat.zero_add]; rfl
  | m + 1, n, p => by
    rw [Nat.succ_add]
    exact itr_add m n (stp p)
theorem stp_gcd (p : Nat × Nat) : Nat.gcd (stp p).1 (stp p).2 = Nat.gcd p.1 p.2 := by
  unfold stp
  split
  · rfl
  · show Nat.gcd p.2 (p.1 % p.2) = _
    rw [Nat.gcd_comm p.2, ← Nat.gcd_rec, Nat.gcd_comm]
theorem itr_gcd : ∀ (n : Nat) (p : Nat × Nat), Nat.gcd (itr n p).1 (itr n p).2 = Nat.gcd p.1 p.2
  | 0, p => rfl
  | n + 1, p => (itr_gcd n (stp p)).trans (stp_gcd p)
theorem stp2 (p : Nat × Nat) : (stp (stp p)).2 * 2 ≤ p.2 := by
  unfold stp
  by_cases h : p.2 = 0
  · rw [if_pos h, if_pos h, h]
    decide
  · rw [if_neg h]
    dsimp only
    have l := Nat.mod_lt p.1 (Nat.pos_of_ne_zero h)
    by_cases g : p.1 % p.2 = 0
    · rw [if_pos g, g]
      omega
    · rw [if_neg g]
      dsimp only
      have l2 := Nat.mod_lt p.2 (Nat.pos_of_ne_zero g)
      have e := Nat.div_add_mod p.2 (p.1 % p.2)
      have d : 1 ≤ p.2 / (p.1 % p.2) := (Nat.one_le_div_iff (Nat.pos_of_ne_zero g)).mpr (Nat.le_of_lt l)
      have m : p.1 % p.2 ≤ p.1 % p.2 * (p.2 / (p.1 % p.2)) := Nat.le_mul_of_pos_right _ d
      omega
theorem itr_half : ∀ (n : Nat) (p : Nat × Nat), p.2 < 2 ^ n → (itr (2 * n) p).2 = 0
  | 0, p, h => by
    show p.2 = 0
    omega
  | n + 1, p, h => by
    show (itr (2 * n) (stp (stp p))).2 = 0
    refine itr_half n _ ?_
    have := stp2 p
    rw [Nat.pow_succ] at h
    omega
theorem itr_zero : ∀ (n : Nat) (p : Nat × Nat), p.2 = 0 → itr n p = p
  | 0, p, _ => rfl
  | n + 1, p, h => by
    have e : stp p = p := by unfold stp; rw [if_pos h]
    show itr n (stp p) = p
    rw [e]
    exact itr_zero n p h
theorem itr_end {a b : Nat} (h : a < 2 ^ 140 ∨ b < 2 ^ 140) : itr 300 (a, b) = (Nat.gcd a b, 0) := by
  have key : (itr 281 (a, b)).2 = 0 := by
    show (itr 280 (stp (a, b))).2 = 0
    have l : (stp (a, b)).2 < 2 ^ 140 := by
      unfold stp
      by_cases z : b = 0
      · rw [if_pos z]
        show b < _
        rw [z]
        exact Nat.two_pow_pos _
      · rw [if_neg z]
        show a % b < _
        rcases h with h | h
        · exact Nat.lt_of_le_of_lt (Nat.mod_le _ _) h
        · exact Nat.lt_trans (Nat.mod_lt _ (Nat.pos_of_ne_zero z)) h
    exact itr_half 140 _ l
  have e : itr 300 (a, b) = itr 281 (a, b) := by
    show itr (281 + 19) (a, b) = _
    rw [itr_add]
    exact itr_zero _ _ key
  have g := itr_gcd 281 (a, b)
  rw [key, Nat.gcd_zero_right] at g
  rw [e]
  exact Prod.ext g key
end Dec
namespace Dec
open PySem PySem.NumText TL
theorem mi : tl (Str.ofString "-") = [45] := by decide +kernel
theorem sl1 : tl (Str.ofString "/") = [47] := by decide +kernel
theorem em : tl (Str.ofString "") = [] := by decide +kernel
theorem sub_minus (x : Str) : Builtin.Str.subAt x "-" 0 = decide ((tl x).head? = some 45) := by
  rw [PySem.StrLaws.subAt_eq]
  have l1 : (Str.ofString "-").length = 1 := by rw [len_tl, mi]; rfl
  show (((tl x).drop 0).take _ == tl (Str.ofString "-")) = _
  rw [l1, mi, List.drop_zero]
  cases e : tl x with
  | nil => rfl
  | cons c r =>
    by_cases h : c = 45
    · subst h
      simp
    · simp [h]
theorem rm_minus (x : Str) : tl (Txt.removeprefix x "-") = bareL (tl x) := by
  unfold Txt.removeprefix
  rw [sub_minus]
  by_cases h : (tl x).head? = some 45
  · rw [if_pos (decide_eq_true h)]
    unfold Txt.affix
    obtain ⟨r, e⟩ : ∃ r, tl x = 45 :: r := by
      cases e : tl x with
      | nil => rw [e] at h; cases h
      | cons c r => rw [e] at h; cases h; exact ⟨r, rfl⟩
    have l1 : (Str.ofString "-").length = 1 := by rw [len_tl, mi]; rfl
    have lx : x.length = r.length + 1 := by rw [len_tl, e]; rfl
    dsimp only
    rw [l1, lx]
    rw [if_neg (by simp)]
    rw [← lx, tl_strSub_end, e]
    rfl
  · rw [if_neg (fun z => h (of_decide_eq_true z))]
    show tl x = _
    rcases bare_sg (tl x) with ⟨z, _⟩ | ⟨_, z⟩
    · exact (h z).elim
    · exact z
theorem st_minus (x : Str) : Txt.startswith x "-" = decide ((tl x).head? = some 45) := by
  unfold Txt.startswith
  rw [sub_minus]
  by_cases h : (tl x).head? = some 45
  · have l1 : (Str.ofString "-").length = 1 := by rw [len_tl, mi]; rfl
    have lx : 1 ≤ x.length := by
      rw [len_tl]
      cases e : tl x with
      | nil => rw [e] at h; cases h
      | cons c r => simp
    rw [l1, decide_eq_true h]
    simp [lx]
  · rw [decide_eq_false h, Bool.and_false]
theorem part_is (z : Str) : ∃ F S B : Str, Txt.partition z "/" = (F, S, B) ∧ ((S = Str.ofString "/" ∧ cutL (tl z) = (tl F, tl B)) ∨ (S = Str.empty ∧ B = Str.empty ∧ cutL (tl z) = (tl F, [49]))) := by
  have h := partition_par z "/" (by rw [sl1]; simp)
  rw [sl1] at h
  unfold cutL
  cases e : par [47] [] (tl z) with
  | none =>
    rw [e] at h
    exact ⟨_, _, _, h, .inr ⟨rfl, rfl, rfl⟩⟩
  | some p =>
    rw [e] at h
    exact ⟨_, _, _, h, .inl ⟨rfl, rfl⟩⟩
theorem cut_cases (T : List Nat) : (47 ∉ T ∧ cutL T = (T, [49])) ∨ ∃ p r, T = p ++ 47 :: r ∧ 47 ∉ p ∧ cutL T = (p, r) := by
  unfold cutL
  by_cases h : 47 ∈ T
  · obtain ⟨p, r, e, hp⟩ := List.eq_append_cons_of_mem h
    refine .inr ⟨p, r, e, hp, ?_⟩
    have := par_part1 (s := 47) (S := []) (acc := []) (rest := r) hp
    rw [e, show p ++ 47 :: r = p ++ ([47] ++ r) from rfl, this]
    rfl
  · exact .inl ⟨h, by rw [par_none1 h]⟩
theorem cut_head (T : List Nat) : (cutL T).1.head? = some 45 ↔ T.head? = some 45 := by
  rcases cut_cases T with ⟨_, e⟩ | ⟨p, r, e, hp, e2⟩
  · rw [e]
  · rw [e2, e]
    cases p with
    | nil => simp
    | cons c p => simp
theorem cut_len (T : List Nat) : (cutL T).1.length ≤ T.length ∧ (cutL T).2.length ≤ T.length + 1 := by
  rcases cut_cases T with ⟨_, e⟩ | ⟨p, r, e, hp, e2⟩
  · rw [e]
    exact ⟨Nat.le_refl _, by simp⟩
  · rw [e2, e]
    simp only [List.length_append, List.length_cons]
    omega
theorem bare_len (l : List Nat) : (bareL l).length ≤ l.length := by
  unfold bareL
  split
  · simp
  · exact Nat.le_refl _
end Dec
set_option Elab.async false
set_option linter.all false
set_option maxRecDepth 100000
set_option maxHeartbeats 2000000
/-! ### str of an instance with its own __str__; classmethods; a class in a name of the def -/
namespace L2
open PySem PySem.Spec PyProof.Rows ClX
theorem Fun.kbn1 {K : PySem.W.Frag} {x qual : Str} {st : Stmt} {f : Addr} {fd : FuncData} {ps ks : List Str} (F : Fun K x qual st f fd)
    (h : ∀ (kV doc pm : Value) (an : Option Addr) (cv ct : Value) (u : Value) (ws : List Value), ws.length = ks.length → bindArgs (PySem.W.fnOf x qual (defArgs st) (defBody st) (defScope st) .none kV doc pm an cv ct) ⟨[u], ks.zip ws⟩ = pure (ps.zip (u :: ws))) :
    KBn K fd ps 1 ks (fun us ws => us ++ ws) (fun vs zs => vs ++ zs) := by
  obtain ⟨oc, od, kV, doc, pm, an, cv, ct, sl, rfl, lk, cd⟩ := F.ex
  refine ⟨fun s us ws _ l1 l2 => ?_, fun r r2 => r.append r2⟩
  match us, l1 with
  | [u], _ => exact .of_eq (h kV doc pm an cv ct u ws l2)
def rStrOwn (C : Addr) (sp : Sp) (E : XK) : List V → Hp → VK → Prop := fun xs H Q => ∃ x, xs = [x] ∧ InsAt C H x ∧ sp [x] H (fun v H' => ∃ z, v = .str z ∧ Q (.str z) H') E
section
variable {X : Cx} {CX : CXT} {k : Nat} {C f : Addr} {fd : FuncData} {ps : List Str} {sp : Sp} {E : XK}
theorem call_strOwn (hs : PySem.W.findIn X.K (.ref C) "__str__" = some (some (.ref f))) (hf : PySem.W.isFn X.K (.ref f) = true) (F : FnOk X.prog X.w X.K X.mg X.base CX k f fd ps sp) (hr : Room (k + 2) X.A) (hb : Binds X.K fd ps []) (hx : Passes CX X E) :
    CallR X (.type "str") (rStrOwn C sp E) := by
  intro pins s σ H xs us Q I r h
  obtain ⟨x, rfl, ⟨a, dx, fs, rfl, ha⟩, q⟩ := h
  obtain ⟨u, rfl, ru⟩ := r.one
  cases (show u = Value.ref a from ru)
  obtain ⟨_, ox, od, J⟩ := ins_at I ha
  have hr2 : Room k X.A.in1.in1 := (show Room (k + 1) X.A.in1 from Room.in1 hr).in1
  have rr : Vals ([.ref a] : List V) [.ref a] := .cons rfl .nil
  have sz : ([.ref a] ++ [] : List Value).length = ps.length := by rw [← F.len _ _ _ _ q]; rfl
  refine PySem.W.kso_call (by have := hr2.un; omega) I.kIn J hs hf ?_
  refine wpAny_call (codeAny_mono (F.run X.A.in1.in1 X.stack s H ⟨[.ref a], []⟩ ([.ref a] ++ []) ([.ref a]) _ E hr2 I.env0.in1.in1 (hb s [.ref a] I.kIn sz) rr q) ?_)
  intro r s' hq
  match r, hq with
  | .error er, hq => exact hx pins σ H s er s' I hq
  | .ok (.ret u), hq =>
    obtain ⟨v, H', I3, rv, z, ev, q3⟩ := Inv.after I hq
    subst ev
    obtain ⟨t, rfl⟩ := rv
    exact ⟨.str z, H', I3, ⟨t, rfl⟩, q3⟩
end
structure CmX (P : Program) (w : World) (K : PySem.W.Frag) (mg : Str → Option Value) (base : Heap) (k : Nat) (C : Addr) (m : Str) (sp : Sp) : Prop where
  is : ∃ mc p g, Kn P w K mg base k g sp [] ∧ CRead K C mc ∧ CMet K C mc m p g
structure CmK (P : Program) (w : World) (K : PySem.W.Frag) (mg : Str → Option Value) (base : Heap) (k : Nat) (C : Addr) (m : Str) (ks : List Str) (sp : Sp) (gV : List V → List V → List V) : Prop where
  is : ∃ mc p f, (∃ (fd : FuncData) (ps : List Str) (g : List Value → List Value → List Value), FnOk P w K mg base (L2.CX P w) k f fd ps sp ∧ KBn K fd ps 1 ks g gV) ∧ CRead K C mc ∧ CMet K C mc m p f
def tCMX (C : Addr) (sp : Sp) (E : St → XK) (ta : TE) (t : TA) : TE := fun σ H Q => ta σ H fun x H1 => x = .ref C ∧ t σ H1 fun vs H2 => sp (.ref C :: vs) H2 Q (E σ)
def tCMK (C : Addr) (n : Nat) (sp : Sp) (gV : List V → List V → List V) (E : St → XK) (ta : TE) (tk : TA) : TE := fun σ H Q => ta σ H fun x H1 => x = .ref C ∧ tk σ H1 fun zs H2 => zs.length = n ∧ sp (gV [.ref C] zs) H2 Q (E σ)
section
variable {X : Cx} {k j i : Nat} {C : Addr} {m x : Str} {sp : Sp} {dvs : List V} {E : St → XK} {o e : Expr} {es : List Expr} {kws : List Keyword} {ks : List Str} {gV : List V → List V → List V} {pos apos p : Pos} {ta : TE} {t tk : TA} {pl : Sem Bool}
theorem run_cmX {pins : List (Addr × Obj)} {σ : St} {H : Hp} {s : Shared} {q g : Addr} {Q : VK} {us : List Value} {vs : List V} (F : Kn X.prog X.w X.K X.mg X.base k g sp []) (hr : Room k X.A) (hx : ∀ σ, PassesAt (L2.CX X.prog X.w) X σ (E σ))
    (I : Inv X ((q, PySem.W.methodObj (.ref g) (.ref C)) :: pins) σ H s) (r : Vals vs us) (h : sp (.ref C :: vs) H Q (E σ)) : wpAny (model X.prog X.w) X.A (call (.ref q) us) (EP X pins σ Q) X.xe s := by
  obtain ⟨fd, ps, ds, F, b, d⟩ := F
  cases d
  have rr : Vals (V.ref C :: vs) (Value.ref C :: us) := .cons rfl r
  have sz : ((Value.ref C :: us) ++ []).length = ps.length := by
    have z := rr.length
    rw [F.len _ _ _ _ h] at z
    rw [List.append_nil]
    exact z.symm
  have bb := b s (Value.ref C :: us) I.kIn sz
  rw [List.append_nil] at bb
  have z : wpAny (model X.prog X.w) X.A (call (.ref q) us) (EP X ((q, PySem.W.methodObj (.ref g) (.ref C)) :: pins) σ Q) X.xe s := by
    refine wpAny_call (PySem.W.method_call (pin_at I) (codeAny_mono (F.run X.A X.stack s H ⟨Value.ref C :: us, []⟩ (Value.ref C :: us) (V.ref C :: vs) Q (E σ) hr I.env0 bb rr h) ?_))
    intro r s' hq
    match r, hq with
    | .error er, hq => exact hx σ _ _ _ er s' I hq
    | .ok (.ret u), hq => exact Inv.after I hq
  exact thn z fun _ _ y => unpinE y
theorem pe_cmX (c : CmX X.prog X.w X.K X.mg X.base k C m sp) (hx : ∀ σ, PassesAt (L2.CX X.prog X.w) X σ (E σ)) (hr : Room j X.A) (hk : k ≤ j) (he : PE X o ta) (ha : PA X (e :: es) t)
    (hst : starEach (e :: es) X.env = (false, eval e X.env) :: starEach es X.env := by rfl) (hpl : (backTo pos (starEach es X.env)).any (·.1) = false := by rfl)
    (ht : eval (.Call (.Attribute o m apos) (e :: es) [] pos) X.env = (do
      let ov ← eval o X.env
      standAt apos.atName
      let (f, first) ← holding [ov] (getMethod ov m pl)
      callWith pos f first (backTo pos (starEach (e :: es) X.env)) (backToKw pos (keywordEach [] X.env))) := by rfl) :
    PE X (.Call (.Attribute o m apos) (e :: es) [] pos) (tCMX C sp E ta t) := by
  obtain ⟨mc, p, g, kn, r, c⟩ := c.is
  refine ⟨fun pins s σ H Q I h => ?_⟩
  refine PySem.W.methodCall_KW (pl := pl) (thn (he.run pins s σ H _ I h) fun u s1 ⟨x, H1, I1, rx, ex, q⟩ => ?_) ht
  subst ex
  obtain rfl : u = Value.ref C := rx
  refine getmethcm_ok I1 r c fun s2 I2 => ?_
  refine callwith_cm I2 (base_none I1 (Nat.le_refl _)) c.fi (thn (ha.run pos _ s2 σ H1 _ I2 q) fun us s3 ⟨vs, H2, I3, rv, q2⟩ => ⟨⟨pin_at I3, I3.kIn⟩, ?_⟩) hst hpl
  exact run_cmX kn (hr.mono hk) hx I3 rv q2
theorem pe_cmK (c : CmK X.prog X.w X.K X.mg X.base k C m ks sp gV) (hx : ∀ σ, PassesAt (L2.CX X.prog X.w) X σ (E σ)) (hr : Room j X.A) (hk : k ≤ j) (he : PE X o ta) (ha : PK X kws tk)
    (hall : (backToKw pos (keywordEach kws X.env)).all (·.1.isSome) = true := by rfl) (hks : (backToKw pos (keywordEach kws X.env)).filterMap (·.1) = ks := by rfl)
    (hpl : ((backTo pos (starEach [] X.env)).any (·.1) || (backToKw pos (keywordEach kws X.env)).any (·.1.isNone)) = false := by rfl)
    (ht : eval (.Call (.Attribute o m apos) [] kws pos) X.env = (do
      let ov ← eval o X.env
      standAt apos.atName
      let (f, first) ← holding [ov] (getMethod ov m pl)
      callWith pos f first (backTo pos (starEach [] X.env)) (backToKw pos (keywordEach kws X.env))) := by rfl) :
    PE X (.Call (.Attribute o m apos) [] kws pos) (tCMK C ks.length sp gV E ta tk) := by
  obtain ⟨mc, p, g, ⟨fd, ps, gg, F, b⟩, r, c⟩ := c.is
  refine ⟨fun pins s σ H Q I h => ?_⟩
  refine PySem.W.methodCall_KW (pl := pl) (thn (he.run pins s σ H _ I h) fun u s1 ⟨x, H1, I1, rx, ex, q⟩ => ?_) ht
  subst ex
  obtain rfl : u = Value.ref C := rx
  refine getmethcm_ok I1 r c fun s2 I2 => ?_
  refine PySem.W.callWith_of (P := PySem.W.MethP X.K s1.heap.objs.size g (.ref C)) hpl (PySem.W.keeps_M c.fi) (PyProof.Rows.evalArgs_kw2_nil hall (thn (ha.run pos _ s2 σ H1 _ I2 q) ?_))
  rintro ws s3 ⟨zs, H2, I3, rz, sz, q2⟩
  refine ⟨⟨pin_at I3, I3.kIn⟩, ?_⟩
  rw [hks]
  have r0 : Vals [V.ref C] [Value.ref C] := .cons rfl .nil
  have rr := b.rel r0 rz
  have z : wpAny (model X.prog X.w) X.A (call (.ref s1.heap.objs.size) [] (ks.zip ws)) (EP X ((s1.heap.objs.size, PySem.W.methodObj (.ref g) (.ref C)) :: pins) σ Q) X.xe s3 := by
    refine wpAny_call (PySem.W.method_call (pin_at I3) (codeAny_mono (F.run X.A X.stack s3 H2 ⟨[Value.ref C], ks.zip ws⟩ (gg [Value.ref C] ws) (gV [V.ref C] zs) Q (E σ) (hr.mono hk) I3.env0 (b.to s3 [Value.ref C] ws I3.kIn rfl (rz.length.symm.trans sz)) rr q2) ?_))
    intro r s' hq
    match r, hq with
    | .error er, hq => exact hx σ _ _ _ er s' I3 hq
    | .ok (.ret u), hq => exact Inv.after I3 hq
  exact thn z fun _ _ y => unpinE y
/-- cls(..), the class in a name of the def -/
def tMkV (i : Nat) (C : Addr) (sp : Sp) (dvs : List V) (E : St → XK) (t : TA) : TE := fun σ H Q => σ[i]? = some (some (.ref C)) ∧ tMakeSD C sp dvs E t σ H Q
theorem pe_mkV {y : Str} (c : MakX X.prog X.w X.K X.mg X.base k y C sp dvs) (hx : ∀ σ, PassesAt (L2.CX X.prog X.w) X σ (E σ)) (hr : Room j X.A) (hk : k + 1 ≤ j) (hN : X.N[i]? = some x) (hv : Vis X.env.scope x) (ha : PA X (e :: es) t)
    (hd : (x == ("__debug__" : Str)) = false := by decide) (hcd : (x == ("__classdict__" : Str)) = false := by decide) (he : starEach (e :: es) X.env = (false, eval e X.env) :: starEach es X.env := by rfl) (hpl : (backTo pos (starEach es X.env)).any (·.1) = false := by rfl) :
    PE X (.Call (.Name x p) (e :: es) [] pos) (tMkV i C sp dvs E t) := by
  obtain ⟨f, ⟨fd, ps, ds, F, b, d⟩, M, hm⟩ := c.is
  refine .mk fun pins s σ H Q I h => ?_
  obtain ⟨hs, h⟩ := h
  refine wpAny_Call_Name_kw (thn ((pe_var (pos := p) (i := i) hN hv hd hcd).run pins s σ H (fun v H1 => v = .ref C ∧ H1 = H) I ⟨.ref C, hs, rfl, rfl⟩) fun u s0 ⟨v, H0, I0, r0, ev, eH⟩ => ?_)
  subst ev
  rw [eH] at I0
  cases r0
  refine PySem.W.callWith_K (h₀ := X.base) I.ok.mod.kin M.kp (thn (ha.run pos pins s0 σ H _ I0 h) ?_) he hpl
  rintro us s1 ⟨vs, H1, I1, r, q⟩
  refine And.intro I1.kIn ?_
  have hq := q (s1.heap.objs.size + 1) s1.heap.objs.size (I1.hok.fresh (Nat.le_succ _)) (I1.hok.fresh (Nat.le_refl _)) (Nat.ne_of_lt (Nat.lt_succ_self _))
  have I2 := Inv.made (C := C) I1
  have rr : Vals (V.ref (s1.heap.objs.size + 1) :: (vs ++ dvs)) (Value.ref (s1.heap.objs.size + 1) :: (us ++ ds)) := .cons rfl (r.append d)
  have sz : (Value.ref (s1.heap.objs.size + 1) :: us ++ ds).length = ps.length := by
    have z := rr.length
    rw [F.len _ _ _ _ hq] at z
    exact z.symm
  refine wpAny_call (make_map (f := f) I1.kIn M.makes M.init (beq_iff_eq.mp M.fn) (codeAny_mono (F.run _ X.stack _ _ ⟨Value.ref (s1.heap.objs.size + 1) :: us, []⟩ (Value.ref (s1.heap.objs.size + 1) :: (us ++ ds)) _ _ (E σ) ((hr.mono hk).make C us []) (I2.env0.make C us []) (b _ (Value.ref (s1.heap.objs.size + 1) :: us) I2.kIn sz) rr hq) ?_))
  intro r2 s' z
  match r2, z with
  | .error er, z => exact hx σ pins _ _ er s' I2 z
  | .ok (.ret u), z =>
    obtain ⟨v, H', I3, rv, ev, q3⟩ := Inv.after I2 z
    subst ev
    exact ⟨rv, ⟨V.ref (s1.heap.objs.size + 1), H', I3, rfl, q3⟩⟩
end
end L2
set_option Elab.async false
set_option linter.all false
set_option maxRecDepth 100000
set_option maxHeartbeats 2000000
namespace PySem
namespace LowX_BadNumber
open PySem.W PySem.Calls PyProof.Rows PySem.HandSPX
/-! ### the text of __init__ -/
def iA (p1 p2 : Pos) : Arguments := { posonlyargs := [], args := [{ arg := "self", annotation := none, pos := p1 }, { arg := "value", annotation := none, pos := p2 }], vararg := none, kwonlyargs := [], kw_defaults := [], kwarg := none, defaults := [] }
def iB (q1 q2 q3 q4 : Pos) : List Stmt := [.Assign [.Attribute (.Name "self" q1) "value" q2] (.Name "value" q3) q4]
def iS : Scope := { kind := .function, names := [(PySem.Str.ofString "self", .local), (PySem.Str.ofString "value", .local)], isGenerator := false, isCoroutine := false, more := [] }
/-- what the written part says of Low, at C, and of its __init__, at fI -/
structure LowTxt_BadNumber (K : Frag) (mg : Str → Option Value) (C fI : Addr) : Prop where
  gC : mg "BadNumber" = some (.ref C)
  cls : ∃ nm q N bs bm sn sub ab col dd k0 k1 k2 k3 k5, K.lookup C = some (excClassObj nm q C N bs bm true sn sub ab col dd k0 k1 k2 k3 k5 "ValueError.__new__") ∧ refsVE bm = true
  sa : findIn K (.ref C) "__setattr__" = some (some (.builtin "object.__setattr__"))
  ga : findIn K (.ref C) "__getattribute__" = some (some (.builtin "BaseException.__getattribute__"))
  gg : findIn K (.ref C) "__getattr__" = some none
  noN : findIn K (.ref C) "value" = some none
  iC : findIn K (.ref C) "__init__" = some (some (.ref fI))
  tC : typeIn K (.ref fI) = some (.type "function")
  kC : keepIn K (.ref C) = true
  exC : subIn K (.ref C) (.type "BaseException") = some true
  tyC : typeIn K (.ref C) = some (.type "type")
  hdC : hasDictIn K C = true
  te : exmOne K (.ref C) (.ref C) = some true
  fn : ∃ (oc : Value) (od : Option Addr) (doc pm : Value) (an : Option Addr) (cdv ct : Value) (osl : Array (Option Value)) (p1 p2 q1 q2 q3 q4 : Pos),
    K.lookup fI = some ⟨oc, od, .func (fnOf "__init__" "BadNumber.__init__" (iA p1 p2) (iB q1 q2 q3 q4) iS .none .none doc pm an cdv ct), osl⟩ ∧ codeIn K cdv "BadNumber.__init__" = true
theorem one_size (v : Value) : [v].length ≤ sizeLine := by
  rw [sizeLine_eq]
  exact (by decide : 1 ≤ 16777216)
theorem kept_but {K : Frag} {h h' : Heap} {x : Addr} (X : K.In h) (hx : K.lookup x = none) (k : ∀ b o, b ≠ x → h.get? b = some o → h'.get? b = some o) : K.In h' := fun a o e =>
  k a o (fun z => by rw [z, hx] at e; cases e) (X a o e)
theorem ldC {M : Model} {s : Shared} {name : Str} {scope : Scope} {L a : Addr} {cd : Value} {m : Str → Option Value} {x : Str} {pos : Pos} {v : Value} {Q : Value → Shared → Prop} {A : Around} {E : Value → Shared → Prop} (hn : s.heap.Ns L m) (hv : m x = some v) (h : Q v s)
    (hk : scope.kind = .function := by rfl) (hl : (envOfC name scope L a cd).kindOf x = some .local := by rfl) (hd : (x == ("__debug__" : Str)) = false := by decide) :
    wpAny M A (eval (.Name x pos) (envOfC name scope L a cd)) Q E s := wpAny_Name (wpAny_loadName_local hk hl hn hv h) hd
/-- what __init__ leaves of a fresh exception at x -/
structure InitEnd_BadNumber (h h' : Heap) (x C dx t1 : Addr) (v : Value) : Prop where
  keep : ∀ b o, b ≠ x → h.get? b = some o → h'.get? b = some o
  obj : h'.get? x = some { cls := .ref C, dict := some dx, data := .fields #[.ref t1, .none, .none, .none, .bool false, .none] }
  dbig : h.objs.size ≤ dx
  dne : dx ≠ x
  ns : h'.Ns1 dx (fun y => if y = "value" then some v else none)
/-- a made Low -/
structure OwnMade_BadNumber (h h' : Heap) (e C d : Addr) (v : Value) : Prop where
  keep : ∀ b o, h.get? b = some o → h'.get? b = some o
  new : h.objs.size ≤ e
  obj : ∃ oe vs, h'.get? e = some oe ∧ oe.cls = .ref C ∧ oe.dict = some d ∧ oe.data = .fields vs ∧ vs[1]? = some .none
  dbig : h.objs.size ≤ d
  dne : d ≠ e
  ns : h'.Ns1 d (fun y => if y = "value" then some v else none)
section
variable {prog : Program} {w : World} {A : Around} {E : Value → Shared → Prop} {R : Result → Shared → Prop} {s : Shared} {K : Frag} {mg : Str → Option Value} {C fI : Addr}
theorem low_init_BadNumber (T : LowTxt_BadNumber K mg C fI) {x t0 : Addr} {v : Value} (X : K.In s.heap) (hlim : s.heap.NoLimit) (hx : s.heap.get? x = some (excO C t0)) (hnx : K.lookup x = none) (hroom : A.depth < recursionLimit)
    (hq : ∀ h' tk dx, InitEnd_BadNumber s.heap h' x C dx t0 v → R (.ok (.ret .none)) { s with heap := h', toks := tk }) :
    codeAny (model prog w) A (.call (.ref fI) ⟨[.ref x, v], []⟩) R s := by
  obtain ⟨oc, od, doc, pm, an, cdv, ct, osl, p1, p2, q1, q2, q3, q4, ho, hcd⟩ := T.fn
  obtain ⟨nm, q, N, bs, bm, sn, sub, ab, col, dd, k0, k1, k2, k3, k5, hC, hbm⟩ := T.cls
  have hcl : clsIn K C = some { name := nm, bases := bs, mro := .ref C :: bm, ns := N, qualname := q, hasDict := true, slotNames := sn, subclasses := sub, abstract := ab, collection := col, hasDel := false } := by unfold clsIn; rw [hC] <;> rfl
  refine Att.call_fn (binds := [("self", .ref x), ("value", v)]) X hlim ho hcd hroom (BindsTo.of_eq (by first | rfl | with_unfolding_all rfl)) (by first | rfl | decide | with_unfolding_all rfl) (fun s₁ IC => ?_) rfl rfl rfl
  obtain ⟨h₁, tk₁, rfl⟩ := IC.toInCall.same
  have k : ∀ b o, s.heap.get? b = some o → h₁.get? b = some o := IC.toInCall.keep
  have hn := IC.toInCall.ns
  have hxL : s.heap.objs.size ≠ x := Nat.ne_of_gt (Heap.lt_size hx)
  have X₁ : K.In h₁ := X.keeps k
  have hx₁ := k _ _ hx
  -- self.by = by
  show wpAny _ _ (execs _ _) _ _ _
  refine wpAny_execs_cons (plainObj_wpAny_Assign_Attribute ?_)
  refine ldC (v := v) hn (by first | rfl | with_unfolding_all rfl | kernel_rfl) (ldC (v := .ref x) hn (by first | rfl | with_unfolding_all rfl | kernel_rfl) ?_)
  refine set_plain X₁ (ox := excO C t0) (od := none) ⟨hx₁, rfl, rfl, trivial⟩ T.sa ?_
  refine exc_osa X₁ hx₁ hcl (show refsVE (.ref C :: bm) = true from hbm) rfl T.noN (fun h₃ tk₃ dx k₃ dn dne hx₃ hn₃ => ?_)
  show wpAny _ _ (execs _ _) _ _ _
  have z : s.heap.objs.size < h₁.objs.size := hn.lt
  exact wpAny_execs_nil (hq h₃ tk₃ dx ⟨fun b o hb e => k₃ b o hb (k b o e), hx₃, Nat.le_of_lt (Nat.lt_of_lt_of_le z dn), dne, hn₃⟩)
theorem low_made_BadNumber (T : LowTxt_BadNumber K mg C fI) {v : Value} (X : K.In s.heap) (hlim : s.heap.NoLimit) (hroom : A.depth + 1 < recursionLimit)
    (hq : ∀ h' tk e d, OwnMade_BadNumber s.heap h' e C d v → R (.ok (.ret (.ref e))) { s with heap := h', toks := tk }) :
    codeAny (model prog w) A (.call (.ref C) ⟨[v], []⟩) R s := by
  obtain ⟨nm, q, N, bs, bm, sn, sub, ab, col, dd, k0, k1, k2, k3, k5, hC, hbm⟩ := T.cls
  obtain ⟨hp, g, dr, tk, os⟩ := s
  have k : ∀ b o, hp.get? b = some o → ((hp.push (kdv_tup [v])).push (excO C hp.objs.size)).get? b = some o := fun b o e => Heap.get?_push_of_some _ (Heap.get?_push_of_some _ e)
  have hget : ((hp.push (kdv_tup [v])).push (excO C hp.objs.size)).get? (hp.objs.size + 1) = some (excO C hp.objs.size) := by heap_get
  have hnx : K.lookup (hp.objs.size + 1) = none := by
    cases e : K.lookup (hp.objs.size + 1) with
    | none => rfl
    | some o =>
      have z : hp.get? (hp.objs.size + 1) = some o := X _ _ e
      exact absurd (Nat.lt_of_succ_lt (Heap.lt_size z)) (Nat.lt_irrefl _)
  refine call_own F.excBase_ValueError (fun X => refsVE_contains X bm hbm) (X _ _ hC) (looks_findIn X T.iC) (fun self => bind_fn X self T.tC) (one_size v) ?_
  refine low_init_BadNumber (s := ⟨(hp.push (kdv_tup [v])).push (excO C hp.objs.size), g, dr, tk, os⟩) T (X.keeps k) (hlim.keeps k) hget hnx ?_ fun h' tk' dx ⟨k', hx, dn, dne, hns⟩ => ?_
  · show A.depth + 1 < recursionLimit
    exact hroom
  · have old : ∀ b o, hp.get? b = some o → h'.get? b = some o := fun b o e => k' b o (Nat.ne_of_lt (Nat.lt_succ_of_lt (Heap.lt_size e))) (k b o e)
    have z : hp.objs.size + 1 + 1 ≤ dx := by
      first
        | (simpa only [Heap.size_push] using dn)
        | exact dn
        | (have q := dn; rw [Heap.size_push, Heap.size_push] at q; exact q)
    exact ⟨rfl, hq h' tk' (hp.objs.size + 1) dx ⟨old, Nat.le_succ _, ⟨_, _, hx, rfl, rfl, rfl, rfl⟩, Nat.le_trans (Nat.le_trans (Nat.le_succ _) (Nat.le_succ _)) z, dne, hns⟩⟩
end
end LowX_BadNumber
end PySem
namespace L2
open PySem PySem.Spec PyProof.Rows
theorem relO_low_BadNumber {v : V} {v' : Value} (r : RelV v v') (f : Str) : RelO (List.lookup f [(("value" : Str), v)]) (if f = "value" then some v' else none) := by
  by_cases hw : f = "value"
  · subst hw
    rw [if_pos rfl]
    have q : List.lookup ("value" : Str) [(("value" : Str), v)] = some v := by simp [List.lookup]
    rw [q]
    exact r
  · rw [if_neg hw]
    have qw : (f == ("value" : Str)) = false := by simpa using hw
    have q2 : List.lookup f [(("value" : Str), v)] = none := by simp [List.lookup, qw]
    rw [q2]
    trivial
section
variable {X : Cx} {C fI : Addr}
/-- Low(e) -/
def tMkLow_BadNumber (C : Addr) (ta : TA) : St → Hp → XK → Prop := fun σ H Q => ta σ H fun vs H1 => ∃ v, vs = [v] ∧ ∀ d, H1 d = none → Q (.ref C) (some d) (upd H1 d (.xd [(("value" : Str), v)]))
theorem pmk_low_BadNumber {a : Expr} {ta : TA} {p pos : Pos} {k : Nat} (T : PySem.LowX_BadNumber.LowTxt_BadNumber X.K X.mg C fI) (hr : Room k X.A) (ha : PA X [a] ta) (hg : Gl X "BadNumber" := by rfl)
    (he : starEach (a :: []) X.env = (false, eval a X.env) :: starEach [] X.env := by rfl) (hpl : (backTo pos (starEach [] X.env)).any (·.1) = false := by rfl) :
    PMk X (.Call (.Name "BadNumber" p) [a] [] pos) (tMkLow_BadNumber C ta) := by
  intro pins s σ H Q I h
  refine wpAny_Call_Name_kw (ld_glob I hg T.gC ?_)
  refine PySem.W.callWith_K (h₀ := X.base) I.ok.mod.kin T.kC (thn (ha.run pos pins s σ H _ I h) fun us s1 hh => ?_) he hpl
  obtain ⟨vs, H1, I1, r1, v, ev, q1⟩ := hh
  subst ev
  refine ⟨I1.kIn, ?_⟩
  cases r1 with
  | cons rv rn =>
    rename_i v' us'
    cases rn
    show wpAny _ _ (call (.ref C) [v']) _ _ _
    have hlim := I1.nolimit
    obtain ⟨hp, g, dr, tk, os⟩ := s1
    refine wpAny_call (PySem.LowX_BadNumber.low_made_BadNumber T I1.kIn hlim (by have := hr.dp; omega) fun h' tk' e d M => ?_)
    show MkP X pins σ Q (.ref e) ⟨h', g, dr, tk', os⟩
    obtain ⟨oe, fv, hoe, hc, hd, hdat, h1⟩ := M.obj
    have hns := M.ns
    obtain ⟨G', g1, g2⟩ := restrict h' fun b => decide (b ≠ e)
    have gk : ∀ b, b ≠ e → G'.get? b = h'.get? b := fun b hb => g1 b (decide_eq_true hb)
    have ge : G'.get? e = none := g2 e (by simp)
    have old : ∀ b o, hp.get? b = some o → G'.get? b = some o := fun b o q => (gk b (Nat.ne_of_lt (Nat.lt_of_lt_of_le (Heap.lt_size q) M.new))).trans (M.keep b o q)
    have ob : ObjOk X.prog X.w (upd H1 d (.xd [(("value" : Str), v)])) G' d (.xd [(("value" : Str), v)]) :=
      ⟨_, hns.at (fun o q => (gk d M.dne).trans q), fun f => relO_low_BadNumber rv f⟩
    have J : Inv X pins σ (upd H1 d (.xd [(("value" : Str), v)])) ⟨G', g, dr, tk', os⟩ := I1.laid (t' := tk') old M.dbig ob
    refine ⟨e, oe, fv, ⟨G', g, dr, tk', os⟩, _, .ref C, some d, rfl, J, fun b o q => ?_, ge, hoe, ⟨hc, hd⟩, hdat, h1, ?_, rfl, I1.bare, raises_own T.exC T.tyC, q1 d (I1.hok.fresh M.dbig)⟩
    · by_cases hb : b = e
      · have q' : G'.get? b = some o := q
        rw [hb, ge] at q'; cases q'
      · exact (gk b hb).symm.trans q
    · rw [upd_ne (Ne.symm M.dne)]
      exact I1.hok.fresh M.new
/-- raise Low(e) -/
def tRaiseLow_BadNumber (C : Addr) (W : WX) (ta : TA) : TS := fun _ σ H => tMkLow_BadNumber C ta σ H fun cls d H' => W cls d σ H'
theorem ps_raiseLow_BadNumber {a : Expr} {ta : TA} {W : WX} {p pos pos2 : Pos} {k : Nat} (hc : X.calm = true) (T : PySem.LowX_BadNumber.LowTxt_BadNumber X.K X.mg C fI) (hr : Room k X.A) (tk : Takes X W) (ha : PA X [a] ta) (hg : Gl X "BadNumber" := by rfl)
    (he : starEach (a :: []) X.env = (false, eval a X.env) :: starEach [] X.env := by rfl) (hpl : (backTo pos (starEach [] X.env)).any (·.1) = false := by rfl) :
    PS X (.Raise (some (.Call (.Name "BadNumber" p) [a] [] pos)) none pos2) (tRaiseLow_BadNumber C W ta) := ps_raise hc tk (pmk_low_BadNumber T hr ha hg he hpl)
/-- low.by, low the exception that the suite holds (at a; its class cls, its dict d) -/
def tByLow_BadNumber (C : Addr) (a : Addr) (cls : Value) (d : Option Addr) (te : TE) : TE := fun σ H Q => te σ H fun x H1 => x = .ref a ∧ cls = .ref C ∧ ∃ (dd : Addr) (v : V), d = some dd ∧ H1 dd = some (.xd [(("value" : Str), v)]) ∧ Q v H1
theorem pe_byLow_BadNumber {a : Addr} {oe : Obj} {cls : Value} {d : Option Addr} {pn : List (Addr × Obj)} {e : Expr} {te : TE} {pos : Pos} (T : PySem.LowX_BadNumber.LowTxt_BadNumber X.K X.mg C fI) (hz : Zc cls d oe) (hf : ∃ vs, oe.data = .fields vs) (he : PE (X.suite a ((a, oe) :: pn)) e te)
    (hb : attributeBase e "value" X.env (eval e X.env) = eval e X.env := by rfl) :
    PE (X.suite a ((a, oe) :: pn)) (.Attribute e "value" pos) (tByLow_BadNumber C a cls d te) := by
  refine ⟨fun pins s σ H Q I h => ?_⟩
  refine attr_of hb (thn (he.run pins s σ H _ I h) fun u s1 hh => ?_)
  obtain ⟨x, H1, I1, rx, ex, ec, dd, v, ed, ea, q⟩ := hh
  subst ex
  obtain rfl : u = Value.ref a := rx
  subst ec
  subst ed
  obtain ⟨ha, _⟩ := I1.pin (a, oe) (List.mem_append_left _ List.mem_cons_self)
  obtain ⟨vs, hd⟩ := hf
  have hx : ObjOk X.prog X.w H1 s1.heap dd (.xd [(("value" : Str), v)]) := I1.hok dd _ ea
  obtain ⟨mA, hns, hr⟩ := hx
  obtain ⟨od, ho, hl⟩ := lookIn_ns hns
  have l : List.lookup ("value" : Str) [(("value" : Str), v)] = some v := by simp [List.lookup]
  obtain ⟨u, hu, ru⟩ := RelO.some_of (v := v) (o := mA "value") (by rw [← l]; exact hr "value")
  have J : PySem.W.InstAt s1.heap a oe C (some od) := ⟨ha, hz.1, by unfold PySem.W.notCls; rw [hd] <;> rfl, by rw [hz.2]; exact ho⟩
  exact HandSPX.exc_get I1.kIn J T.ga T.gg T.exC (PySem.W.findObj_own T.hdC T.noN rfl (by rw [hl, hu])) (handed_of ru) ⟨v, H1, I1.tok _, ru, q⟩
end
end L2


namespace K06
open PySem PySem.Spec PyProof.Rows L2 Evl LawK RatK
def topS (i : Nat) : Stmt := PySem.Challenge.pw_saidchances_k06_texts_of_ratios.main.body.getD i (.Pass ⟨0, 0, 0, 0⟩)
/-! ### Ratio, its parts and what works on it -/
open RatK
structure RTxt (K : PySem.W.Frag) (mg : Str → Option Value) (C : Addr) : Prop where
  r : RIs K C
  nT : NoAttr K C "_top"
  nB : NoAttr K C "_bottom"
  g_Ratio : ∃ u, mg "Ratio" = some u ∧ RelV (.ref C) u
  g_gcd : mg "gcd" = some (.builtin "math.gcd")
  z_isinstance : mg "isinstance" = none
  z_int : mg "int" = none
  z_bool : mg "bool" = none
  z_abs : mg "abs" = none
  z_repr : mg "repr" = none
  z_list : mg "list" = none
  z_tuple : mg "tuple" = none
  z_sum : mg "sum" = none
  z_len : mg "len" = none
  z_range : mg "range" = none
/-- what the operators ask of the class -/
structure ROps (K : PySem.W.Frag) (C : Addr) : Prop where
  sf : PySem.W.selfFirst K C = true
  na : PySem.W.findIn K (.ref C) "__radd__" = some none
  ns : PySem.W.findIn K (.ref C) "__rsub__" = some none
  nm : PySem.W.findIn K (.ref C) "__rmul__" = some none
  nn : PySem.W.findIn K (.ref C) "__ne__" = some (some (.builtin "object.__ne__"))
  si : PySem.W.subIn K (.type "int") (.ref C) = some false
  is : PySem.W.subIn K (.ref C) (.type "int") = some false
/-- ByZero -/
structure ZTxt (K : PySem.W.Frag) (mg : Str → Option Value) (CZ : Addr) : Prop where
  gZ : mg "ByZero" = some (.ref CZ)
  xZ : PySem.W.excIn K CZ [.type "ValueError", .type "Exception", .type "BaseException", .type "object"] "ValueError.__new__" = true
  kZ : PySem.W.keepIn K (.ref CZ) = true
  bZ : PySem.W.subIn K (.ref CZ) (.type "BaseException") = some true
  tZ : PySem.W.typeIn K (.ref CZ) = some (.type "type")
  eZ : PySem.W.exmOne K (.ref CZ) (.ref CZ) = some true
section
variable {P : Program} {w : World} {K : PySem.W.Frag} {mg : Str → Option Value} {base : Heap} {C CZ : Addr}
abbrev s_is_integer : Stmt := topS 15
theorem sc_is_integer : FnScope ["value"] ["value"] (defScope s_is_integer) := ⟨rfl, rfl, rfl, by decide +kernel, rfl, by decide +kernel, by decide +kernel⟩
theorem ok_is_integer {f : Addr} {fd : FuncData} (F : Fun K "is_integer" "is_integer" s_is_integer f fd) (T : RTxt K mg C) : FnOk P w K mg base CX0 1 f fd ["value"] (spIsInt K) := by
  refine F.ok sc_is_integer (fun vs H Q E h => ?_) (fun cdv A outer s H vs Q E hr h => ?_)
  · obtain ⟨v, rfl, _⟩ := h
    rfl
  · obtain ⟨v, rfl, h⟩ := h
    refine ⟨_, (pss_one (ps_ret (pe_and (pe_callB call_isi (by rfl) T.z_isinstance (by decide +kernel) (pa_cons (pv 0) (pa_cons (pe_bltn (by rfl) T.z_int (by decide +kernel) (show RelV (.ty "int") (.type "int") from rfl)) pa_nil))) (pe_one (pe_not (pe_callB call_isi (by rfl) T.z_isinstance (by decide +kernel) (pa_cons (pv 0) (pa_cons (pe_bltn (by rfl) T.z_bool (by decide +kernel) (show RelV (.ty "bool") (.type "bool") from rfl)) pa_nil)))))))), ?_⟩
    rcases h with ⟨i, rfl, q⟩ | ⟨t, ty, no, q⟩
    · refine ⟨.int i, rfl, .int i, .ty "int", .type "int", .type "int", true, rfl, .ty "int", .base (.int i), kit_ty (by decide +kernel), true, rfl, ?_⟩
      exact iteT ⟨.int i, rfl, .int i, .ty "bool", .type "int", .type "bool", false, rfl, .ty "bool", .base (.int i), kit_ty (by decide +kernel), false, rfl, q⟩
    · rcases no with no | ⟨n1, n2⟩
      · exact ⟨v, rfl, v, .ty "int", t, .type "int", false, rfl, .ty "int", ty, no, false, rfl, iteF q⟩
      · refine ⟨v, rfl, v, .ty "int", t, .type "int", true, rfl, .ty "int", ty, n1, true, rfl, ?_⟩
        exact iteT ⟨v, rfl, v, .ty "bool", t, .type "bool", true, rfl, .ty "bool", ty, n2, true, rfl, q⟩
/-! a new one -/
abbrev s_Ratio___init__ : Stmt := inClass (topS 17) 0
theorem sc_Ratio___init__ : FnScope ["self", "top", "bottom", "common"] ["self", "top", "bottom"] (defScope s_Ratio___init__) := ⟨rfl, rfl, rfl, by decide +kernel, rfl, by decide +kernel, by decide +kernel⟩
theorem ok_init {f : Addr} {fd : FuncData} (F : FunD K "__init__" "Ratio.__init__" (defArgs s_Ratio___init__) (defBody s_Ratio___init__) (defScope s_Ratio___init__) [.int 1] [] f fd) (T : RTxt K mg C) (Z : ZTxt K mg CZ) :
    FnOk P w K mg base (L2.CX P w) 1 f fd ["self", "top", "bottom"] (spInit C CZ) := by
  refine F.ok sc_Ratio___init__ (fun vs H Q E h => ?_) (fun cdv A outer s H vs Q E hr h => ?_)
  · obtain ⟨x, dx, t, b, rfl, _⟩ := h
    rfl
  · obtain ⟨x, dx, t, b, rfl, hx, ht, hb, q0, q⟩ := h
    refine ⟨_, (pss_cons (ps_if (pt_cmpR op_eq (pv 2) pe_int (nomark _))
        (pss_one (ps_raise rfl (takes_of rfl rfl rfl rfl) (pmk_own0 PySem.F.excBase_ValueError Z.xZ Z.gZ Z.kZ (raises_own Z.bZ Z.tZ) (by rfl))))
        pss_nil)
      (pss_cons (ps_set (i := 3) sc_Ratio___init__.nd rfl (Or.inl rfl) (pe_callBfun cr_gcd (by rfl) T.g_gcd (pa_cons (pv 1) (pa_cons (pv 2) pa_nil))))
      (pss_cut (ps_if (pt_cmpR op_lt (pv 2) pe_int (nomark _))
        (pss_one (ps_set (i := 3) sc_Ratio___init__.nd rfl (Or.inl rfl) (pe_un un_neg (pv 3))))
        pss_nil)
      (pss_cons (ps_fld (pv 0) (pe_op op_fdivZ (pv 1) (pv 3)) rfl)
      (pss_one (ps_fld (pv 0) (pe_op op_fdivZ (pv 2) (pv 3)) rfl)))))), ?_⟩
    refine ⟨.int b, rfl, rfl, _, rfl, ?_⟩
    refine ite2 (fun e => ?_) (fun e => ?_)
    · exact q0 (V.int.inj (of_decide_eq_true e))
    · have nb : b ≠ 0 := fun z => e (decide_eq_true (by rw [z]))
      have lb : ∀ z : Int, z.natAbs ≤ b.natAbs → z.natAbs.log2 < 9000 := fun z h => lg_of (n := 8900) (Nat.lt_of_le_of_lt h hb) (by decide) (by decide)
      refine ⟨.int t, rfl, .int b, rfl, t, b, rfl, ?_⟩
      refine ⟨fun σ H' => H' = H ∧ σ = [some (.ref x), some (.int t), some (.int b), some (.int (sgn b (Nat.gcd t.natAbs b.natAbs)))], ?_, ?_⟩
      · refine ⟨.int b, rfl, b, 0, rfl, rfl, _, rfl, ?_⟩
        refine ite2 (fun e2 => ?_) (fun e2 => ?_)
        · have l := of_decide_eq_true e2
          refine ⟨_, rfl, _, rfl, rfl, ?_⟩
          unfold sgn
          rw [if_pos l]
          rfl
        · have l : ¬ b < 0 := fun z => e2 (decide_eq_true z)
          refine ⟨rfl, ?_⟩
          unfold sgn
          rw [if_neg l]
          rfl
      · rintro σ H' ⟨rfl, rfl⟩
        refine ⟨.int t, rfl, _, rfl, t, _, rfl, rfl, ⟨sgn_ne nb, lb _ (sgn_le nb)⟩, .ref x, rfl, x, C, dx, [], rfl, hx, T.r.cl, T.nT, (by show 0 < 1000; decide), ?_⟩
        refine ⟨.int b, rfl, _, rfl, b, _, rfl, rfl, ⟨sgn_ne nb, lb _ (sgn_le nb)⟩, .ref x, rfl, x, C, dx, _, rfl, upd_same, T.r.cl, T.nB, (by show 1 < 1000; decide), ?_⟩
        have g := q nb
        unfold ratF at g
        rw [← num_is nb, ← den_is nb] at g
        rw [upd_upd]
        exact g
/-! its parts -/
abbrev s_Ratio_top : Stmt := inClass (topS 17) 1
theorem sc_Ratio_top : FnScope ["self"] ["self"] (defScope s_Ratio_top) := ⟨rfl, rfl, rfl, by decide +kernel, rfl, by decide +kernel, by decide +kernel⟩
theorem ok_top {f : Addr} {fd : FuncData} (F : Fun K "top" "Ratio.top" s_Ratio_top f fd) (T : RTxt K mg C) : FnOk P w K mg base CX0 1 f fd ["self"] (spTop C) := by
  refine F.ok sc_Ratio_top (fun vs H Q E h => ?_) (fun cdv A outer s H vs Q E hr h => ?_)
  · obtain ⟨a, q, rfl, _⟩ := h
    rfl
  · obtain ⟨a, q, rfl, ⟨dx, ha⟩, k⟩ := h
    exact ⟨_, (pss_one (ps_ret (pe_fld (pv 0) rfl))), ⟨.ref a, rfl, a, C, dx, _, _, rfl, ha, T.r.cl, T.nT, ratF_top q, k⟩⟩
abbrev s_Ratio_bottom : Stmt := inClass (topS 17) 2
theorem sc_Ratio_bottom : FnScope ["self"] ["self"] (defScope s_Ratio_bottom) := ⟨rfl, rfl, rfl, by decide +kernel, rfl, by decide +kernel, by decide +kernel⟩
theorem ok_bottom {f : Addr} {fd : FuncData} (F : Fun K "bottom" "Ratio.bottom" s_Ratio_bottom f fd) (T : RTxt K mg C) : FnOk P w K mg base CX0 1 f fd ["self"] (spBot C) := by
  refine F.ok sc_Ratio_bottom (fun vs H Q E h => ?_) (fun cdv A outer s H vs Q E hr h => ?_)
  · obtain ⟨a, q, rfl, _⟩ := h
    rfl
  · obtain ⟨a, q, rfl, ⟨dx, ha⟩, k⟩ := h
    exact ⟨_, (pss_one (ps_ret (pe_fld (pv 0) rfl))), ⟨.ref a, rfl, a, C, dx, _, _, rfl, ha, T.r.cl, T.nB, ratF_bot q, k⟩⟩
/-! a number as a Ratio -/
abbrev s_as_ratio : Stmt := topS 18
theorem sc_as_ratio : FnScope ["value"] ["value"] (defScope s_as_ratio) := ⟨rfl, rfl, rfl, by decide +kernel, rfl, by decide +kernel, by decide +kernel⟩
theorem ok_as_ratio {f CB fI : Addr} {fd : FuncData} (F : Fun K "as_ratio" "as_ratio" s_as_ratio f fd) (T : RTxt K mg C) (B : PySem.LowX_BadNumber.LowTxt_BadNumber K mg CB fI) (c_is_integer : CalX P w K mg base 1 "is_integer" (spIsInt K) []) (c_Ratio : MakX P w K mg base 1 "Ratio" C (spInit C CZ) [.int 1]) :
    FnOk P w K mg base (L2.CX P w) 4 f fd ["value"] (spAsR K C CB) := by
  refine F.okX sc_as_ratio (fun vs H Q E h => ?_) (fun cdv A outer s H vs Q E hr h => ?_)
  · obtain ⟨v, rfl, _⟩ := h
    rfl
  · obtain ⟨v, rfl, h⟩ := h
    refine ⟨_, (pss_cons (ps_if (pt_val (pe_callB call_isi (by rfl) T.z_isinstance (by decide +kernel) (pa_cons (pv 0) (pa_cons (pe_k0 rfl T.g_Ratio) pa_nil))))
        (pss_one (ps_ret (pv 0)))
        pss_nil)
      (pss_cons (ps_if (pt_val (pe_cX c_is_integer passN hr (by decide) rfl (pa_cons (pv 0) pa_nil)))
        (pss_one (ps_ret (pe_mkX c_Ratio passN hr (by decide) rfl (pa_cons (pv 0) pa_nil))))
        pss_nil)
      (pss_one (ps_raiseLow_BadNumber rfl B hr (takes_of rfl rfl rfl rfl) (pa_cons (pv 0) pa_nil))))), ?_⟩
    rcases h with ⟨q, hN, sz, k⟩ | ⟨⟨t, ty, no, nc⟩, k⟩
    · rcases hN with ⟨i, rfl, rfl⟩ | ⟨a, rfl, hR⟩
      · refine ⟨.int i, rfl, .int i, .ref C, .type "int", .ref C, false, rfl, .own C, .base (.int i), T.r.ti, false, rfl, ?_⟩
        refine iteF ⟨.int i, rfl, .int i, rfl, .inl ⟨i, rfl, true, rfl, ?_⟩⟩
        refine iteT ?_
        refine u_new1 (ev_var rfl) sz.1 fun p H2 e hr => ?_
        rw [one_is] at hr
        exact k p H2 e hr
      · refine ⟨.ref a, rfl, .ref a, .ref C, .ref C, .ref C, true, rfl, .own C, hR.ty T.r, T.r.kc, true, rfl, ?_⟩
        exact iteT ⟨.ref a, rfl, k a H (Ex.refl H) hR⟩
    · refine ⟨v, rfl, v, .ref C, t, .ref C, false, rfl, .own C, ty, nc, false, rfl, ?_⟩
      refine iteF ⟨v, rfl, v, rfl, .inr ⟨t, ty, no, false, rfl, ?_⟩⟩
      refine iteF ?_
      exact ⟨v, rfl, v, rfl, fun d hd => k d hd⟩
/-! the operators -/
abbrev s_Ratio___add__ : Stmt := inClass (topS 17) 3
theorem sc_Ratio___add__ : FnScope ["self", "other", "number"] ["self", "other"] (defScope s_Ratio___add__) := ⟨rfl, rfl, rfl, by decide +kernel, rfl, by decide +kernel, by decide +kernel⟩
theorem ok_add {f CB : Addr} {fd : FuncData} (F : Fun K "__add__" "Ratio.__add__" s_Ratio___add__ f fd) (T : RTxt K mg C) (c_as_ratio : CalX P w K mg base 4 "as_ratio" (spAsR K C CB) []) (c_Ratio : MakX P w K mg base 1 "Ratio" C (spInit C CZ) [])
    (p_top : ProX P w K mg base 1 C "top" (spTop C)) (p_bottom : ProX P w K mg base 1 C "bottom" (spBot C)) : FnOk P w K mg base (L2.CX P w) 5 f fd ["self", "other"] (spBin C (fun a b => a + b)) := by
  refine F.okX sc_Ratio___add__ (fun vs H Q E h => ?_) (fun cdv A outer s H vs Q E hr h => ?_)
  · obtain ⟨x, y, q1, q2, rfl, _⟩ := h
    rfl
  · obtain ⟨x, y, q1, q2, rfl, ⟨dx, h1⟩, h2, s1, s2, k⟩ := h
    refine ⟨_, (pss_cons (ps_set (i := 2) sc_Ratio___add__.nd rfl (Or.inl rfl) (pe_cX c_as_ratio passN hr (by decide) rfl (pa_cons (pv 1) pa_nil)))
      (pss_one (ps_ret (pe_mkX c_Ratio passN hr (by decide) rfl (pa_cons (pe_op op_add (pe_op op_mulW (pe_fld (pv 0) rfl) (pe_prX p_bottom hr (by decide) (pv 2))) (pe_op op_mulW (pe_prX p_top hr (by decide) (pv 2)) (pe_fld (pv 0) rfl))) (pa_cons (pe_op op_mulW (pe_fld (pv 0) rfl) (pe_prX p_bottom hr (by decide) (pv 2))) pa_nil)))))), ?_⟩
    refine ⟨y, rfl, y, rfl, .inl ⟨q2, h2, s2.mono (by decide), fun p H2 e hp => ?_⟩⟩
    dsimp only [gName]
    have h1' := e _ _ h1
    have tA := ev_fld (K := K) (ta := tVar 0) (σ := [some (.ref x), some y, some (.ref p)]) (ev_var rfl) h1' T.r.cl T.nT (ratF_top q1)
    have bA := ev_fld (K := K) (ta := tVar 0) (σ := [some (.ref x), some y, some (.ref p)]) (ev_var rfl) h1' T.r.cl T.nB (ratF_bot q1)
    have tB := ev_top (ta := tVar 2) (σ := [some (.ref x), some y, some (.ref p)]) (ev_var rfl) hp
    have bB := ev_bot (ta := tVar 2) (σ := [some (.ref x), some y, some (.ref p)]) (ev_var rfl) hp
    have d1 := den_abs q1 s1.2
    have d2 := den_abs q2 s2.2
    refine x_ret (u_new (ev_op (ev_op tA bB (rv_mulW (sz_mul s1.1 d2))) (ev_op tB bA (rv_mulW (sz_mul s2.1 d1))) rv_I0) (ev_op bA bB (rv_mulW (sz_mul d1 d2))) ?_ (lt_up (lt_mul d1 d2)) (Int.mul_ne_zero (den_nz q1) (den_nz q2)) fun r H3 e3 hr3 => ?_)
    · exact lt_add (lt_mul s1.1 d2) (lt_mul s2.1 d1)
    · rw [add_is] at hr3
      exact k r H3 (e.trans e3) hr3
abbrev s_Ratio___sub__ : Stmt := inClass (topS 17) 4
theorem sc_Ratio___sub__ : FnScope ["self", "other", "number"] ["self", "other"] (defScope s_Ratio___sub__) := ⟨rfl, rfl, rfl, by decide +kernel, rfl, by decide +kernel, by decide +kernel⟩
theorem ok_sub {f CB : Addr} {fd : FuncData} (F : Fun K "__sub__" "Ratio.__sub__" s_Ratio___sub__ f fd) (T : RTxt K mg C) (c_as_ratio : CalX P w K mg base 4 "as_ratio" (spAsR K C CB) []) (c_Ratio : MakX P w K mg base 1 "Ratio" C (spInit C CZ) [])
    (p_top : ProX P w K mg base 1 C "top" (spTop C)) (p_bottom : ProX P w K mg base 1 C "bottom" (spBot C)) : FnOk P w K mg base (L2.CX P w) 5 f fd ["self", "other"] (spBin C (fun a b => a - b)) := by
  refine F.okX sc_Ratio___sub__ (fun vs H Q E h => ?_) (fun cdv A outer s H vs Q E hr h => ?_)
  · obtain ⟨x, y, q1, q2, rfl, _⟩ := h
    rfl
  · obtain ⟨x, y, q1, q2, rfl, ⟨dx, h1⟩, h2, s1, s2, k⟩ := h
    refine ⟨_, (pss_cons (ps_set (i := 2) sc_Ratio___sub__.nd rfl (Or.inl rfl) (pe_cX c_as_ratio passN hr (by decide) rfl (pa_cons (pv 1) pa_nil)))
      (pss_one (ps_ret (pe_mkX c_Ratio passN hr (by decide) rfl (pa_cons (pe_op op_sub (pe_op op_mulW (pe_fld (pv 0) rfl) (pe_prX p_bottom hr (by decide) (pv 2))) (pe_op op_mulW (pe_prX p_top hr (by decide) (pv 2)) (pe_fld (pv 0) rfl))) (pa_cons (pe_op op_mulW (pe_fld (pv 0) rfl) (pe_prX p_bottom hr (by decide) (pv 2))) pa_nil)))))), ?_⟩
    refine ⟨y, rfl, y, rfl, .inl ⟨q2, h2, s2.mono (by decide), fun p H2 e hp => ?_⟩⟩
    dsimp only [gName]
    have h1' := e _ _ h1
    have tA := ev_fld (K := K) (ta := tVar 0) (σ := [some (.ref x), some y, some (.ref p)]) (ev_var rfl) h1' T.r.cl T.nT (ratF_top q1)
    have bA := ev_fld (K := K) (ta := tVar 0) (σ := [some (.ref x), some y, some (.ref p)]) (ev_var rfl) h1' T.r.cl T.nB (ratF_bot q1)
    have tB := ev_top (ta := tVar 2) (σ := [some (.ref x), some y, some (.ref p)]) (ev_var rfl) hp
    have bB := ev_bot (ta := tVar 2) (σ := [some (.ref x), some y, some (.ref p)]) (ev_var rfl) hp
    have d1 := den_abs q1 s1.2
    have d2 := den_abs q2 s2.2
    refine x_ret (u_new (ev_op (ev_op tA bB (rv_mulW (sz_mul s1.1 d2))) (ev_op tB bA (rv_mulW (sz_mul s2.1 d1))) rv_I0) (ev_op bA bB (rv_mulW (sz_mul d1 d2))) ?_ (lt_up (lt_mul d1 d2)) (Int.mul_ne_zero (den_nz q1) (den_nz q2)) fun r H3 e3 hr3 => ?_)
    · exact lt_sub (lt_mul s1.1 d2) (lt_mul s2.1 d1)
    · rw [sub_is] at hr3
      exact k r H3 (e.trans e3) hr3
abbrev s_Ratio___mul__ : Stmt := inClass (topS 17) 5
theorem sc_Ratio___mul__ : FnScope ["self", "other", "number"] ["self", "other"] (defScope s_Ratio___mul__) := ⟨rfl, rfl, rfl, by decide +kernel, rfl, by decide +kernel, by decide +kernel⟩
theorem ok_mul {f CB : Addr} {fd : FuncData} (F : Fun K "__mul__" "Ratio.__mul__" s_Ratio___mul__ f fd) (T : RTxt K mg C) (c_as_ratio : CalX P w K mg base 4 "as_ratio" (spAsR K C CB) []) (c_Ratio : MakX P w K mg base 1 "Ratio" C (spInit C CZ) [])
    (p_top : ProX P w K mg base 1 C "top" (spTop C)) (p_bottom : ProX P w K mg base 1 C "bottom" (spBot C)) : FnOk P w K mg base (L2.CX P w) 5 f fd ["self", "other"] (spBin C (fun a b => a * b)) := by
  refine F.okX sc_Ratio___mul__ (fun vs H Q E h => ?_) (fun cdv A outer s H vs Q E hr h => ?_)
  · obtain ⟨x, y, q1, q2, rfl, _⟩ := h
    rfl
  · obtain ⟨x, y, q1, q2, rfl, ⟨dx, h1⟩, h2, s1, s2, k⟩ := h
    refine ⟨_, (pss_cons (ps_set (i := 2) sc_Ratio___mul__.nd rfl (Or.inl rfl) (pe_cX c_as_ratio passN hr (by decide) rfl (pa_cons (pv 1) pa_nil)))
      (pss_one (ps_ret (pe_mkX c_Ratio passN hr (by decide) rfl (pa_cons (pe_op op_mulW (pe_fld (pv 0) rfl) (pe_prX p_top hr (by decide) (pv 2))) (pa_cons (pe_op op_mulW (pe_fld (pv 0) rfl) (pe_prX p_bottom hr (by decide) (pv 2))) pa_nil)))))), ?_⟩
    refine ⟨y, rfl, y, rfl, .inl ⟨q2, h2, s2.mono (by decide), fun p H2 e hp => ?_⟩⟩
    dsimp only [gName]
    have h1' := e _ _ h1
    have tA := ev_fld (K := K) (ta := tVar 0) (σ := [some (.ref x), some y, some (.ref p)]) (ev_var rfl) h1' T.r.cl T.nT (ratF_top q1)
    have bA := ev_fld (K := K) (ta := tVar 0) (σ := [some (.ref x), some y, some (.ref p)]) (ev_var rfl) h1' T.r.cl T.nB (ratF_bot q1)
    have tB := ev_top (ta := tVar 2) (σ := [some (.ref x), some y, some (.ref p)]) (ev_var rfl) hp
    have bB := ev_bot (ta := tVar 2) (σ := [some (.ref x), some y, some (.ref p)]) (ev_var rfl) hp
    have d1 := den_abs q1 s1.2
    have d2 := den_abs q2 s2.2
    refine x_ret (u_new (ev_op tA tB (rv_mulW (sz_mul s1.1 s2.1))) (ev_op bA bB (rv_mulW (sz_mul d1 d2))) ?_ (lt_up (lt_mul d1 d2)) (Int.mul_ne_zero (den_nz q1) (den_nz q2)) fun r H3 e3 hr3 => ?_)
    · exact lt_up (lt_mul s1.1 s2.1)
    · rw [mul_is] at hr3
      exact k r H3 (e.trans e3) hr3
abbrev s_Ratio___neg__ : Stmt := inClass (topS 17) 6
theorem sc_Ratio___neg__ : FnScope ["self"] ["self"] (defScope s_Ratio___neg__) := ⟨rfl, rfl, rfl, by decide +kernel, rfl, by decide +kernel, by decide +kernel⟩
theorem ok_neg {f : Addr} {fd : FuncData} (F : Fun K "__neg__" "Ratio.__neg__" s_Ratio___neg__ f fd) (T : RTxt K mg C) (c_Ratio : MakX P w K mg base 1 "Ratio" C (spInit C CZ) []) : FnOk P w K mg base (L2.CX P w) 5 f fd ["self"] (spUn C fun a => -a) := by
  refine F.okX sc_Ratio___neg__ (fun vs H Q E h => ?_) (fun cdv A outer s H vs Q E hr h => ?_)
  · obtain ⟨x, q1, rfl, _⟩ := h
    rfl
  · obtain ⟨x, q1, rfl, ⟨dx, h1⟩, s1, k⟩ := h
    refine ⟨_, (pss_one (ps_ret (pe_mkX c_Ratio passN hr (by decide) rfl (pa_cons (pe_un un_neg (pe_fld (pv 0) rfl)) (pa_cons (pe_fld (pv 0) rfl) pa_nil))))), ?_⟩
    have s1' := s1.mono (m := 8900) (by decide)
    refine x_ret (u_new (ev_un (ev_fld (ev_var rfl) h1 T.r.cl T.nT (ratF_top q1)) ru_neg) (ev_fld (ev_var rfl) h1 T.r.cl T.nB (ratF_bot q1)) (by rw [Int.natAbs_neg]; exact s1'.1) (den_abs q1 s1'.2) (den_nz q1) fun r H3 e3 hr3 => ?_)
    rw [neg_is] at hr3
    exact k r H3 e3 hr3
abbrev s_Ratio___eq__ : Stmt := inClass (topS 17) 7
theorem sc_Ratio___eq__ : FnScope ["self", "other"] ["self", "other"] (defScope s_Ratio___eq__) := ⟨rfl, rfl, rfl, by decide +kernel, rfl, by decide +kernel, by decide +kernel⟩
theorem ok_eq {f : Addr} {fd : FuncData} (F : Fun K "__eq__" "Ratio.__eq__" s_Ratio___eq__ f fd) (T : RTxt K mg C) (c_is_integer : CalX P w K mg base 1 "is_integer" (spIsInt K) [])
    (p_top : ProX P w K mg base 1 C "top" (spTop C)) (p_bottom : ProX P w K mg base 1 C "bottom" (spBot C)) : FnOk P w K mg base (L2.CX P w) 3 f fd ["self", "other"] (spEq K C) := by
  refine F.okX sc_Ratio___eq__ (fun vs H Q E h => ?_) (fun cdv A outer s H vs Q E hr h => ?_)
  · obtain ⟨x, y, q1, rfl, _⟩ := h
    rfl
  · obtain ⟨x, y, q1, rfl, ⟨dx, h1⟩, h⟩ := h
    refine ⟨_, (pss_cons (ps_if (pt_val (pe_cX c_is_integer passN hr (by decide) rfl (pa_cons (pv 1) pa_nil)))
        (pss_one (ps_ret (pe_and (pe_cmpR op_eq (pe_fld (pv 0) rfl) pe_int (nomark _)) (pe_one (pe_cmpR op_eq (pe_fld (pv 0) rfl) (pv 1) (nomark _))))))
        pss_nil)
      (pss_one (ps_ret (pe_and (pe_callB call_isi (by rfl) T.z_isinstance (by decide +kernel) (pa_cons (pv 1) (pa_cons (pe_k0 rfl T.g_Ratio) pa_nil))) (pe_and (pe_cmpR op_eq (pe_fld (pv 0) rfl) (pe_prX p_top hr (by decide) (pv 1)) (nomark _)) (pe_one (pe_cmpR op_eq (pe_fld (pv 0) rfl) (pe_prX p_bottom hr (by decide) (pv 1)) (nomark _)))))))), ?_⟩
    rcases h with ⟨q2, hN, k⟩ | ⟨⟨t, ty, no, nc⟩, k⟩
    · rcases hN with ⟨i, rfl, rfl⟩ | ⟨a, rfl, dy, hR⟩
      · refine ⟨.int i, rfl, .int i, rfl, .inl ⟨i, rfl, true, rfl, ?_⟩⟩
        refine iteT ?_
        refine ⟨.ref x, rfl, x, C, dx, _, _, rfl, h1, T.r.cl, T.nB, ratF_bot q1, rfl, _, rfl, ?_⟩
        refine ite2 (fun e => ?_) (fun e => ?_)
        · refine ⟨.ref x, rfl, x, C, dx, _, _, rfl, h1, T.r.cl, T.nT, ratF_top q1, .int i, rfl, rfl, ?_⟩
          have d1 : (q1.den : Int) = 1 := V.int.inj (of_decide_eq_true e)
          have e2 : decide (q1 = (i : Rat)) = decide (V.int q1.num = V.int i) := decide_eq_decide.mpr ⟨fun z => by rw [z]; rfl, fun z => by
            have n1 := V.int.inj z
            rw [← divInt_nd q1, d1, n1, one_is]⟩
          rw [← e2]
          exact k
        · have e2 : decide (q1 = (i : Rat)) = false := decide_eq_false fun z => e (decide_eq_true (by rw [z]; rfl))
          rw [e2] at k
          exact k
      · have hq : RatAt C H a q2 := ⟨dy, hR⟩
        refine ⟨.ref a, rfl, .ref a, rfl, .inr ⟨.ref C, hq.ty T.r, .inl T.r.ki, false, rfl, ?_⟩⟩
        refine iteF ?_
        refine ⟨.ref a, rfl, .ref a, .ref C, .ref C, .ref C, true, rfl, .own C, hq.ty T.r, T.r.kc, true, rfl, ?_⟩
        refine iteT ?_
        refine ⟨.ref x, rfl, x, C, dx, _, _, rfl, h1, T.r.cl, T.nT, ratF_top q1, .ref a, rfl, a, dy, _, rfl, hR, a, q2, rfl, hq, rfl, _, rfl, ?_⟩
        refine ite2 (fun e => ?_) (fun e => ?_)
        · refine ⟨.ref x, rfl, x, C, dx, _, _, rfl, h1, T.r.cl, T.nB, ratF_bot q1, .ref a, rfl, a, dy, _, rfl, hR, a, q2, rfl, hq, rfl, ?_⟩
          have n1 : q1.num = q2.num := V.int.inj (of_decide_eq_true e)
          have e2 : decide (q1 = q2) = decide (V.int (q1.den : Int) = V.int (q2.den : Int)) := decide_eq_decide.mpr ⟨fun z => by rw [z], fun z => by
            have d1 := V.int.inj z
            rw [← divInt_nd q1, ← divInt_nd q2, d1, n1]⟩
          rw [← e2]
          exact k
        · have e2 : decide (q1 = q2) = false := decide_eq_false fun z => e (decide_eq_true (by rw [z]))
          rw [e2] at k
          exact k
    · refine ⟨y, rfl, y, rfl, .inr ⟨t, ty, no, false, rfl, ?_⟩⟩
      refine iteF ?_
      exact ⟨y, rfl, y, .ref C, t, .ref C, false, rfl, .own C, ty, nc, false, rfl, iteF k⟩
end

/-! ### start and draw -/
section
variable {P : Program} {w : World} {K : PySem.W.Frag} {mg : Str → Option Value} {base : Heap} {C : Addr}
abbrev s__law_start : Stmt := topS 20
theorem sc__law_start : FnScope ["_law_script", "_law_spare", "_law_great"] ["_law_script"] (defScope s__law_start) := ⟨rfl, rfl, rfl, by decide +kernel, rfl, by decide +kernel, by decide +kernel⟩
theorem ok_start {f : Addr} {fd : FuncData} (F : Fun K "_law_start" "_law_start" s__law_start f fd) (T : RTxt K mg C) : FnOk P w K mg base CX0 1 f fd ["_law_script"] (spStart K) := by
  refine F.ok sc__law_start (fun vs H Q E h => ?_) (fun cdv A outer s H vs Q E hr h => ?_)
  · obtain ⟨a, ns, rfl, _⟩ := h
    rfl
  · obtain ⟨a, ns, rfl, hS, hl, q⟩ := h
    refine ⟨_, (pss_cons (ps_set (i := 1) sc__law_start.nd rfl (Or.inl rfl) (pe_op op_add pe_int (pe_op op_mod (pe_callB (cr_sum rfl) (by rfl) T.z_sum (by decide +kernel) (pa_cons (pe_slice sl_list (pv 0) po_none (po_some pe_int)) pa_nil)) pe_int)))
      (pss_one (ps_ret (pe_lst (pa_cons (pe_lc (own := [("_law_great", 2)]) rfl sc__law_start.nd (pi_list (pv 0)) (blkOk_by (own := [("_law_great", 2)]) (N := ["_law_script", "_law_spare", "_law_great"]) (sc := defScope s__law_start) (by decide +kernel)) (fun _ _ _ _ _ => (pg_name (i := 2) sc__law_start.nd rfl (Or.inl rfl))) (fun _ _ _ _ _ => (pts_one (pt_cmpR op_ge (pe_callB call_abs (by rfl) T.z_abs (by decide +kernel) (pa_cons (pv 2) pa_nil)) (pe_op op_pow pe_int pe_int) (nomark _)))) (fun _ _ _ _ _ => (pe_callB call_abs (by rfl) T.z_abs (by decide +kernel) (pa_cons (pv 2) pa_nil)))) (pa_cons (pe_op op_cat (pe_callTy call_list_of (by rfl) T.z_list (by decide +kernel) (pa_cons (pv 0) pa_nil)) (pe_lst (pa_cons (pv 1) pa_nil))) (pa_cons pe_int pa_nil))))))), ?_⟩
    -- spare
    refine ⟨.ref a, rfl, 1, rfl, a, _, rfl, hS, fun c nc => ?_⟩
    have eC : cutV (ns.map V.int) none (some 1) = (ns.take 1).map V.int := by
      unfold cutV
      rw [HT.sIx_none, show HT.sIx (ns.map V.int).length (ns.map V.int).length (some 1) = min 1 (ns.map V.int).length from HT.sIx_nat _ _ 1, List.drop_zero, Nat.sub_zero, List.map_take, List.length_map]
      cases ns with
      | nil => rfl
      | cons x r => simp
    rw [eC]
    refine ⟨c, ns.take 1, rfl, .inl (.inl upd_same), _, _, rfl, rfl, (by show (0 : Int) < 1000003; decide), _, _, rfl, rfl, ?_⟩
    have x1 : Ex H (upd H c (.lst ((ns.take 1).map V.int))) := Ex.new nc
    generalize upd H c (.lst ((ns.take 1).map V.int)) = H1 at x1
    -- the great ones
    have hS1 := ex_l x1 hS
    refine ⟨.ref a, rfl, a, rfl, ⟨_, hS1⟩, fun D hD => ?_⟩
    have xD : Ex H1 (upd H1 D (.lst [])) := Ex.new hD
    refine lc_list (K := K) (a := a) (xs := ns.map V.int) (fun i H' => Ex H1 H' ∧ ∃ xs : List Int, xs.length ≤ i ∧ H' D = some (.lst (xs.map V.int))) ⟨xD, [], Nat.le_refl _, upd_same⟩ (fun i H' _ h => ex_l h.1 hS1) (fun i x H' hi h => ?_) (fun H' h => ?_)
    · obtain ⟨xe, xs, hxl, hx⟩ := h
      have hil : i < (ns.map V.int).length := (List.getElem?_eq_some_iff.mp hi).1
      rw [List.length_map] at hil
      obtain ⟨z, rfl⟩ : ∃ z, x = V.int z := by
        rw [List.getElem?_map] at hi
        cases e : ns[i]? with
        | none => rw [e] at hi; cases hi
        | some z => rw [e] at hi; exact ⟨z, (Option.some.inj hi).symm⟩
      refine ⟨rfl, .int z, rfl, z, rfl, 10, 18, rfl, rfl, ⟨by decide, by decide, by decide⟩, _, _, rfl, rfl, _, rfl, ?_⟩
      refine ite2 (fun _ => ?_) (fun _ => ⟨xe, xs, by omega, hx⟩)
      refine ⟨.int z, rfl, z, rfl, _, hx, ?_, xe.mut hD, xs ++ [if z < 0 then -z else z], ?_, ?_⟩
      · rw [List.length_map]
        exact small1000 (by omega)
      · rw [List.length_append]
        show xs.length + 1 ≤ i + 1
        omega
      · rw [upd_same, List.map_append]
        rfl
    · obtain ⟨xe, xs, hxl, hx⟩ := h
      -- list(script) + [spare]
      refine ⟨.ref a, rfl, a, _, rfl, .inl (ex_l xe hS1), fun l hl2 => ?_⟩
      refine ⟨_, rfl, (by show 1 ≤ sizeLine; decide), fun m hm => ?_⟩
      have lm : l ≠ m := fun e => by
        subst e
        rw [upd_same] at hm
        cases hm
      refine ⟨l, m, _, _, rfl, rfl, (by rw [upd_ne lm, upd_same]), upd_same, ?_, fun b nb => ?_⟩
      · rw [List.length_map]
        show ns.length + 1 ≤ sizeLine
        exact Nat.le_of_lt (small1000 (by omega))
      · refine ⟨(by show 3 ≤ sizeLine; decide), fun p np => ?_⟩
        refine q p _ ?_
        have x2 : Ex H' (upd (upd (upd (upd H' l (.lst (ns.map V.int))) m (.lst [V.int (5 + (ns.take 1).sum % 1000003)])) b (.lst (ns.map V.int ++ [V.int (5 + (ns.take 1).sum % 1000003)]))) p (.lst [.ref D, .ref b, .int 0])) :=
          (((Ex.new hl2).trans (Ex.new hm)).trans (Ex.new nb)).trans (Ex.new np)
        have x12 : Ex H H' := x1.trans xe
        have n1 : (upd (upd H' l (.lst (ns.map V.int))) m (.lst [V.int (5 + (ns.take 1).sum % 1000003)])) D = some (.lst (xs.map V.int)) := ((Ex.new hl2).trans (Ex.new hm)) _ _ hx
        have Db : D ≠ b := fun e => by rw [e, nb] at n1; cases n1
        have n2 := Ex.new (o := .lst (ns.map V.int ++ [V.int (5 + (ns.take 1).sum % 1000003)])) nb _ _ n1
        have Dp : D ≠ p := fun e => by rw [e, np] at n2; cases n2
        have bp : b ≠ p := fun e => by rw [← e, upd_same] at np; cases np
        have gb : H b = none := fresh_back (x12.trans ((Ex.new hl2).trans (Ex.new hm))) nb
        have gp : H p = none := fresh_back (x12.trans (((Ex.new hl2).trans (Ex.new hm)).trans (Ex.new nb))) np
        exact ⟨D, b, xs, ns ++ [5 + (ns.take 1).sum % 1000003], 0, ⟨x12.trans x2, upd_same, x2 _ _ hx, by rw [upd_ne bp, upd_same, List.map_append]; rfl, gp, fresh_back x1 hD, gb, Dp, bp, Db⟩, by decide, by decide, by simp⟩
abbrev s__law_draw : Stmt := topS 21
theorem sc__law_draw : FnScope ["_law_state", "_law_size", "_law_digit", "_law_mixed"] ["_law_state", "_law_size"] (defScope s__law_draw) := ⟨rfl, rfl, rfl, by decide +kernel, rfl, by decide +kernel, by decide +kernel⟩
theorem ok_draw {f : Addr} {fd : FuncData} (F : Fun K "_law_draw" "_law_draw" s__law_draw f fd) (T : RTxt K mg C) : FnOk P w K mg base CX0 1 f fd ["_law_state", "_law_size"] spDraw := by
  refine F.ok sc__law_draw (fun vs H Q E h => ?_) (fun cdv A outer s H vs Q E hr h => ?_)
  · obtain ⟨p, k, G, m, rfl, _⟩ := h
    rfl
  · obtain ⟨p, k, G, m, rfl, k0, kb, hm, ⟨a0, b, xs0, ys, n, S0, n0, n1, hy⟩, q⟩ := h
    refine ⟨_, (pss_cons (ps_asg (pe_op op_add (pe_ix ix_list (pv 0) pe_int (fun _ _ => rfl)) pe_int) (pg_sub (pv 0) pe_int set_list))
      (pss_cut (ps_while PassesOwn.never (PW.pt (pw_and (pt_cmpR (op_neD hr.units) (pe_ix ix_list (pv 0) pe_int (fun _ _ => rfl)) (pe_lst pa_nil) (nomark _)) (pw_and1 (pt_cmpR op_eq (pe_ix ix_list (pe_ix ix_list (pv 0) pe_int (fun _ _ => rfl)) pe_int (fun _ _ => rfl)) pe_int (nomark _)))))
        (pss_one (ps_asg (pe_slice sl_list (pe_ix ix_list (pv 0) pe_int (fun _ _ => rfl)) (po_some pe_int) po_none) (pg_sub (pv 0) pe_int set_list))))
      (pss_cons (ps_if (pt_cmpR (op_neD hr.units) (pe_ix ix_list (pv 0) pe_int (fun _ _ => rfl)) (pe_lst pa_nil) (nomark _))
        (pss_cons (ps_set (i := 2) sc__law_draw.nd rfl (Or.inl rfl) (pe_op op_mod (pe_callTy call_int1 (by rfl) T.z_int (by decide +kernel) (pa_cons (pe_ix ix_list (pe_ix ix_list (pv 0) pe_int (fun _ _ => rfl)) pe_int (fun _ _ => rfl)) pa_nil)) (pv 1)))
        (pss_cons (ps_asg (pe_op op_fdivW (pe_ix ix_list (pe_ix ix_list (pv 0) pe_int (fun _ _ => rfl)) pe_int (fun _ _ => rfl)) (pv 1)) (pg_sub (pe_ix ix_list (pv 0) pe_int (fun _ _ => rfl)) pe_int set_list))
        (pss_one (ps_ret (pv 2)))))
        pss_nil)
      (pss_cons (ps_set (i := 3) sc__law_draw.nd rfl (Or.inl rfl) (pe_op op_modA (pe_callTy call_int1 (by rfl) T.z_int (by decide +kernel) (pa_cons (pe_ix ix_list (pe_ix ix_list (pv 0) pe_int (fun _ _ => rfl)) (pe_op op_mod (pe_callTy call_int1 (by rfl) T.z_int (by decide +kernel) (pa_cons (pe_ix ix_list (pv 0) pe_int (fun _ _ => rfl)) pa_nil)) (pe_callB call_len_seq (by rfl) T.z_len (by decide +kernel) (pa_cons (pe_ix ix_list (pv 0) pe_int (fun _ _ => rfl)) pa_nil))) (fun _ _ => rfl)) pa_nil)) pe_int))
      (pss_cons (ps_set (i := 3) sc__law_draw.nd rfl (Or.inl rfl) (pe_op op_modA (pe_callTy call_int1 (by rfl) T.z_int (by decide +kernel) (pa_cons (pe_op op_pow (pe_op op_add (pe_op op_add (pe_op op_mul (pv 3) pe_int) (pe_op op_mul (pe_ix ix_list (pv 0) pe_int (fun _ _ => rfl)) pe_int)) pe_int) pe_int) pa_nil)) pe_int))
      (pss_one (ps_ret (pe_op op_mod (pe_op op_fdiv (pe_op op_modA (pe_callTy call_int1 (by rfl) T.z_int (by decide +kernel) (pa_cons (pe_op op_pow (pe_op op_add (pe_op op_add (pe_op op_mul (pv 3) pe_int) (pe_op op_mul (pe_ix ix_list (pv 0) pe_int (fun _ _ => rfl)) pe_int)) pe_int) pe_int) pa_nil)) pe_int) pe_int) (pv 1))))))))), ?_⟩
    -- the count
    refine ⟨.ref p, rfl, p, _, 2, .int n, rfl, rfl, .inl (.inl S0.hp), rfl, n, 1, rfl, rfl, .ref p, rfl, p, _, 2, 2, rfl, rfl, S0.hp, rfl, ?_⟩
    have S1 := S0.setn (k := n + 1)
    show tSeq _ _ _ _ (upd H p (.lst [.ref a0, .ref b, .int (n + 1)]))
    generalize upd H p (.lst [.ref a0, .ref b, .int (n + 1)]) = H1 at S1
    -- zeros ahead fall away
    refine ⟨fun σ H' => ∃ a xs, σ = [some (.ref p), some (.int k), none, none] ∧ SBe G H' p a b xs ys (n + 1), ?_, ?_⟩
    · refine ⟨fun j σ H' => ∃ a xs, σ = [some (.ref p), some (.int k), none, none] ∧ SBe G H' p a b xs ys (n + 1) ∧ xs.length = j, ⟨_, a0, xs0, rfl, S1, rfl⟩, ?_⟩
      rintro j σ H2 ⟨a, xs, rfl, S2, hj⟩
      refine ⟨.ref p, rfl, p, _, 0, .ref a, rfl, rfl, .inl (.inl S2.hp), rfl, Nat.zero_le _, fun o no => ?_⟩
      have S3 := S2.ext (Ex.new (o := .lst []) no)
      refine ⟨.list (xs.map .int), .list [], .lst (.inl (.inl S3.ha)) (dp_ints xs), .lst (.inl (.inl upd_same)) .nil, shaped_ints xs, by decide, _, rfl, ?_⟩
      rw [eqv_nil]
      generalize upd H2 o (.lst []) = H3 at S3
      cases xs with
      | nil =>
        refine iteF (iteF ?_)
        exact ⟨a, [], rfl, S3⟩
      | cons z r =>
        refine iteT ?_
        refine ⟨.ref p, rfl, p, _, 0, .ref a, rfl, rfl, .inl (.inl S3.hp), rfl, a, _, 0, .int z, rfl, rfl, .inl (.inl S3.ha), atI_nat (j := 0) rfl, rfl, _, rfl, ?_⟩
        refine ite2 (fun ez => ?_) (fun nz => ⟨a, _, rfl, S3⟩)
        refine ⟨fun σ' H' => ∃ a xs, σ' = [some (.ref p), some (.int k), none, none] ∧ SBe G H' p a b xs ys (n + 1) ∧ xs.length < j, fun σ' H' ⟨a, xs, e, S, l⟩ => ⟨_, l, a, xs, e, S, rfl⟩, ?_⟩
        refine ⟨.ref p, rfl, p, _, 0, .ref a, rfl, rfl, .inl (.inl S3.hp), rfl, 1, rfl, a, _, rfl, .inl (.inl S3.ha), fun c nc => ?_⟩
        have eC : cutV ((z :: r).map V.int) (some 1) none = r.map V.int := by
          unfold cutV
          rw [HT.sIx_none, show HT.sIx ((z :: r).map V.int).length 0 (some 1) = min 1 ((z :: r).map V.int).length from HT.sIx_nat _ _ 1]
          have e1 : min 1 ((z :: r).map V.int).length = 1 := by rw [List.length_map, List.length_cons]; omega
          rw [e1]
          show List.take (((z :: r).map V.int).length - 1) (r.map V.int) = r.map V.int
          rw [List.length_map]
          exact List.take_of_length_le (by rw [List.length_map]; exact Nat.le_refl _)
        rw [eC]
        refine ⟨.ref p, rfl, p, _, 0, 0, rfl, rfl, (by rw [upd_ne (fun e => by rw [← e, S3.hp] at nc; cases nc)]; exact S3.hp), rfl, ?_⟩
        exact ⟨c, r, rfl, S3.newa nc, by rw [← hj]; exact Nat.lt_succ_self _⟩
    · rintro σ H2 ⟨a, xs, rfl, S2⟩
      refine ⟨.ref p, rfl, p, _, 0, .ref a, rfl, rfl, .inl (.inl S2.hp), rfl, Nat.zero_le _, fun o no => ?_⟩
      have S3 := S2.ext (Ex.new (o := .lst []) no)
      refine ⟨.list (xs.map .int), .list [], .lst (.inl (.inl S3.ha)) (dp_ints xs), .lst (.inl (.inl upd_same)) .nil, shaped_ints xs, by decide, _, rfl, ?_⟩
      rw [eqv_nil]
      generalize upd H2 o (.lst []) = H3 at S3
      cases xs with
      | cons z r =>
        refine iteT ?_
        -- the digit
        refine ⟨.ref p, rfl, p, _, 0, .ref a, rfl, rfl, .inl (.inl S3.hp), rfl, a, _, 0, .int z, rfl, rfl, .inl (.inl S3.ha), atI_nat (j := 0) rfl, .inl ⟨z, rfl, .int k, rfl, z, k, rfl, rfl, k0, ?_⟩⟩
        refine ⟨.ref p, rfl, p, _, 0, .ref a, rfl, rfl, .inl (.inl S3.hp), rfl, a, _, 0, .int z, rfl, rfl, .inl (.inl S3.ha), atI_nat (j := 0) rfl, .int k, rfl, z, k, rfl, rfl, ⟨k0, kb⟩, ?_⟩
        refine ⟨.ref p, rfl, p, _, 0, .ref a, rfl, rfl, .inl (.inl S3.hp), rfl, a, _, 0, 0, rfl, rfl, S3.ha, show ixN _ ((0 : Nat) : Int) = some 0 from ixN_nat (by rw [List.length_map, List.length_cons]; omega), ?_⟩
        refine ⟨.int (z % k), rfl, q _ _ (Int.emod_nonneg _ (by omega)) (Int.emod_lt_of_pos _ k0) ⟨a, b, z / k :: r, ys, n + 1, S3.seta (zs := z / k :: r), by omega, by omega, hy⟩⟩
      | nil =>
        refine iteF ?_
        -- the mixed one
        obtain ⟨y, hyy⟩ : ∃ y, (ys.map V.int)[((n + 1) % ((ys.map V.int).length : Int)).toNat]? = some (.int y) := by
          have l0 : 0 < ys.length := List.length_pos_iff.mpr hy
          have l1 : (0 : Int) < ((ys.map V.int).length : Int) := by rw [List.length_map]; omega
          have l2 := Int.emod_lt_of_pos (n + 1) l1
          have l3 := Int.emod_nonneg (n + 1) (show ((ys.map V.int).length : Int) ≠ 0 by omega)
          rw [List.length_map] at l2 l3
          have l4 : ((n + 1) % (ys.length : Int)).toNat < ys.length := by omega
          refine ⟨ys[((n + 1) % (ys.length : Int)).toNat], ?_⟩
          rw [List.length_map, List.getElem?_map, List.getElem?_eq_getElem l4]
          rfl
        have l0 : 0 < ys.length := List.length_pos_iff.mpr hy
        have l1 : (0 : Int) < ((ys.map V.int).length : Int) := by rw [List.length_map]; omega
        have l3 := Int.emod_nonneg (n + 1) (show ((ys.map V.int).length : Int) ≠ 0 by omega)
        refine ⟨.ref p, rfl, p, _, 1, .ref b, rfl, rfl, .inl (.inl S3.hp), rfl, .ref p, rfl, p, _, 2, .int (n + 1), rfl, rfl, .inl (.inl S3.hp), rfl, .inl ⟨n + 1, rfl, ?_⟩⟩
        refine ⟨.ref p, rfl, p, _, 1, .ref b, rfl, rfl, .inl (.inl S3.hp), rfl, b, _, rfl, .inl (.inl (.inl S3.hb)), n + 1, _, rfl, rfl, l1, ?_⟩
        refine ⟨b, _, _, .int y, rfl, rfl, .inl (.inl S3.hb), at_of (Int.toNat_of_nonneg l3).symm hyy, .inl ⟨y, rfl, y, 2147483647, rfl, rfl, (by show (0 : Int) < 2147483647; decide), fun u m0 m1 _ => ?_⟩⟩
        refine ⟨.int u, rfl, u, _, rfl, rfl, .inl ⟨by omega, by omega⟩, .ref p, rfl, p, _, 2, .int (n + 1), rfl, rfl, .inl (.inl S3.hp), rfl, n + 1, _, rfl, rfl, .inl ⟨by omega, by omega⟩, _, _, rfl, rfl, _, _, rfl, rfl, _, 5, rfl, rfl, ⟨by decide, by decide, by omega⟩, .inl ⟨_, rfl, _, 2147483647, rfl, rfl, (by show (0 : Int) < 2147483647; decide), fun v v0 v1 _ => ?_⟩⟩
        refine ⟨.int v, rfl, v, _, rfl, rfl, .inl ⟨by omega, by omega⟩, .ref p, rfl, p, _, 2, .int (n + 1), rfl, rfl, .inl (.inl S3.hp), rfl, n + 1, _, rfl, rfl, .inl ⟨by omega, by omega⟩, _, _, rfl, rfl, _, _, rfl, rfl, _, 5, rfl, rfl, ⟨by decide, by decide, by omega⟩, .inl ⟨_, rfl, _, 2147483629, rfl, rfl, (by show (0 : Int) < 2147483629; decide), fun w w0 w1 _ => ⟨_, 16, rfl, rfl, ⟨by decide, by decide⟩, .int k, rfl, _, k, rfl, rfl, k0, ?_⟩⟩⟩
        exact q _ _ (Int.emod_nonneg _ (by omega)) (Int.emod_lt_of_pos _ k0) ⟨a, b, [], ys, n + 1, S3, by omega, by omega, hy⟩
end

/-! ### decimals.py -/
open Dec TL PySem.NumText StX
structure DTxt (K : PySem.W.Frag) (mg : Str → Option Value) : Prop where
  g_DIGITS : ∃ u, mg "DIGITS" = some u ∧ RelV (.str "0123456789") u
  g_WIDTH : ∃ u, mg "WIDTH" = some u ∧ RelV (.int 64) u
  g_STEP : ∃ u, mg "STEP" = some u ∧ RelV (.int (10 ^ 64)) u
  z_divmod : mg "divmod" = none
  z_str : mg "str" = none
  z_all : mg "all" = none
theorem ev_all {K : PySem.W.Frag} {σ : L2.St} {H : Hp} {te : TE} {bs : List Bool} (h : EvL te σ H (bs.map V.bl)) : Ev (tCB (rAll K) (tCons te tNil)) σ H (.bl (bs.all id)) := fun H1 e Q q =>
  h H1 e _ fun p H2 _ e2 hp => ⟨p, bs, rfl, sq_of hp, q H2 e2⟩
def DIG : List Nat := tl (Str.ofString "0123456789")
def digB (z : Str) : Bool := !decide (V.str z = V.str "") && (tl z).all fun c => decide (c ∈ DIG)
theorem dig_mem (c : Nat) : c ∈ DIG ↔ 48 ≤ c ∧ c ≤ 57 := by
  have e : DIG = [48, 49, 50, 51, 52, 53, 54, 55, 56, 57] := by decide +kernel
  rw [e]
  simp only [List.mem_cons, List.not_mem_nil, or_false]
  omega
theorem digB_iff (z : Str) : digB z = true ↔ tl z ≠ [] ∧ AllDigits (tl z) := by
  unfold digB
  rw [Bool.and_eq_true, Bool.not_eq_true', decide_eq_false_iff_not, List.all_eq_true]
  have e0 : tl (Str.ofString "") = [] := by decide +kernel
  constructor
  · rintro ⟨h1, h2⟩
    exact ⟨fun e => h1 (congrArg V.str (ext_tl (e.trans e0.symm))), fun c hc => (dig_mem c).mp (of_decide_eq_true (h2 c hc))⟩
  · rintro ⟨h1, h2⟩
    exact ⟨fun e => h1 (by rw [V.str.inj e]; exact e0), fun c hc => decide_eq_true ((dig_mem c).mpr (h2 c hc))⟩
def spDig : Sp := fun vs H Q _ => ∃ z : Str, vs = [.str z] ∧ z.length ≤ 10000 ∧ ∀ H2, Ex H H2 → Q (.bl (digB z)) H2
section
variable {P : Program} {w : World} {K : PySem.W.Frag} {mg : Str → Option Value} {base : Heap} {C : Addr}
abbrev s_is_digits : Stmt := topS 6
theorem sc_is_digits : FnScope ["text", "sign"] ["text"] (defScope s_is_digits) := ⟨rfl, rfl, rfl, by decide +kernel, rfl, by decide +kernel, by decide +kernel⟩
theorem ok_is_digits {f : Addr} {fd : FuncData} (F : Fun K "is_digits" "is_digits" s_is_digits f fd) (D : DTxt K mg) : FnOk P w K mg base CX0 1 f fd ["text"] spDig := by
  refine F.ok sc_is_digits (fun vs H Q E h => ?_) (fun cdv A outer s H vs Q E hr h => ?_)
  · obtain ⟨z, rfl, _⟩ := h
    rfl
  · obtain ⟨z, rfl, hz, q⟩ := h
    refine ⟨_, (pss_one (ps_ret (pe_and (pe_cmpR op_ne (pv 0) pe_str (nomark _)) (pe_one (pe_callB (cr_all rfl) (by rfl) D.z_all (by decide +kernel) (pa_cons (pe_lc (own := [("sign", 1)]) rfl sc_is_digits.nd (pi_str (pv 0)) (blkOk_by (own := [("sign", 1)]) (N := ["text", "sign"]) (sc := defScope s_is_digits) (by decide +kernel)) (fun _ _ _ _ _ => (pg_name (i := 1) sc_is_digits.nd rfl (Or.inl rfl))) (fun _ _ _ _ _ => pts_nil) (fun _ _ _ _ _ => (pe_cmpR op_in_sign (pv 1) (pe_k0 rfl D.g_DIGITS) rfl))) pa_nil)))))), ?_⟩
    have hz' : z.cps.size ≤ 40000 := by
      have : z.length = z.cps.size := rfl
      omega
    have ea : (tl z).all (fun c => decide (c ∈ DIG)) = ((List.range z.cps.size).map (fun i => decide (z.cps.toList.getD i 0 ∈ DIG))).all id := by
      have m := map_getD (fun c => decide (c ∈ DIG)) 0 z.cps.toList
      rw [Array.length_toList] at m
      rw [m, List.all_map]
      rfl
    refine s_ret (v := .bl (digB z)) (ev_andV (ev_op (ev_var rfl) ev_c (rv_ne rfl)) (fun _ => ?_)) fun H2 e2 => q H2 e2
    rw [ea]
    refine ev_all ?_
    rw [List.map_map]
    show EvL _ _ _ ((List.range z.cps.size).map (fun i => V.bl (decide (z.cps.toList.getD i 0 ∈ DIG))))
    rw [← given_all]
    exact el_lcS (fun _ => true) _ (ev_var (i := 0) rfl) hz' (fun x => rfl) (fun i c H1 _ _ => et_yes)
      (fun i c H1 _ hc _ => ev_op (ev_var (i := 1) (v := .str ⟨#[c]⟩) rfl) ev_c (rv_val fun H2 _ Q' q' => ⟨c, _, rfl, rfl, by rw [getD_of hc] at q'; exact q'⟩))
end
/-! notation -/
def catL (l : List Str) : List Nat := (l.map tl).flatten
def spNot : Sp := fun vs H Q _ => ∃ n : Int, vs = [.int n] ∧ n.natAbs < 2 ^ 8900 ∧ ∀ (z : Str) H2, Ex H H2 → tl z = intL n → Q (.str z) H2
theorem num_len {n : Nat} (h : n < 2 ^ 8900) : (numL n).length ≤ 8900 := numL_len (by decide) (Nat.lt_of_lt_of_le h (Nat.pow_le_pow_left (by decide) _))
theorem join_empty (l : List Str) : tl (Txt.join "" l) = catL l := by
  rw [join_eq, tl_join]
  have e0 : tl (("" : Str)) = [] := by decide +kernel
  rw [e0]
  unfold catL
  induction l with
  | nil => rfl
  | cons a l ih =>
    cases l with
    | nil => simp [joinL]
    | cons b l =>
      show tl a ++ ([] ++ joinL [] ((b :: l).map tl)) = _
      rw [ih]
      simp
theorem zfill_is {r : Nat} (h : r < 10 ^ 64) : tl (Txt.zfill (Str.ofString (toString ((r : Nat) : Int))) 64) = zf r := by
  have hl := numL_len (k := 64) (by decide) h
  have el : (Str.ofString (toString ((r : Nat) : Int))).length = (numL r).length := by rw [len_tl, tl_num]
  unfold Txt.zfill
  split
  · rename_i g
    rw [el] at g
    have g' : 64 ≤ (numL r).length := by omega
    rw [tl_num]
    unfold zf
    rw [show 64 - (numL r).length = 0 by omega]
    rfl
  · rename_i g
    rw [el]
    have e : zfilled (Str.ofString (toString ((r : Nat) : Int))) ((64 : Int).toNat - (numL r).length) = Builtin.Str.padded (Str.ofString (toString ((r : Nat) : Int))) (64 - (numL r).length) 0 48 := by
      unfold zfilled
      obtain ⟨c, t, ec⟩ : ∃ c t, numL r = c :: t := by
        cases e : numL r with
        | nil => exact (numL_ne _ e).elim
        | cons c t => exact ⟨c, t, rfl⟩
      have hc := numL_digits r c (by rw [ec]; exact .head _)
      have e0 : (Str.ofString (toString ((r : Nat) : Int))).cps[0]? = some c := by
        rw [← Array.getElem?_toList]
        show (tl _)[0]? = _
        rw [tl_num, ec]
        rfl
      rw [e0]
      split
      · rename_i z; cases z; omega
      · rename_i z; cases z; omega
      · rfl
    rw [e]
    show (Builtin.Str.padded _ _ _ _).cps.toList = _
    rw [PyProof.Rows.padded_list]
    show List.replicate _ _ ++ tl _ ++ [] = _
    rw [tl_num, List.append_nil]
    rfl
section
variable {P : Program} {w : World} {K : PySem.W.Frag} {mg : Str → Option Value} {base : Heap} {C : Addr}
theorem sum_len : ∀ l : List Str, (l.map (·.length)).sum = (catL l).length
  | [] => rfl
  | a :: l => by
    rw [List.map_cons, List.sum_cons, sum_len l]
    unfold catL
    rw [List.map_cons, List.flatten_cons, List.length_append, len_tl]
theorem cat_cons (a : Str) (l : List Str) : catL (a :: l) = tl a ++ catL l := rfl
theorem big_pylong {i : Int} : Builtin.divisionGoesByPylong i (10 ^ 64) = false := PyProof.noPylong_of_log2 (by decide +kernel)
/-- what stands while the parts are cut off -/
def NotW (n : Int) (H0 : Hp) (Pt : Addr) (sg : Str) (m : Nat) (σ : L2.St) (H : Hp) : Prop := ∃ (x : Option V) (ps : List Str), σ = [some (.int n), some (.str sg), some (.int (m : Nat)), some (.ref Pt), x] ∧ H0 Pt = none ∧ Ex H0 H ∧ H Pt = some (.lst (ps.map V.str)) ∧
  numL n.natAbs = numL m ++ catL ps.reverse ∧ ps.length ≤ (catL ps.reverse).length
abbrev s_notation : Stmt := topS 7
theorem sc_notation : FnScope ["integer", "sign", "rest", "parts", "part"] ["integer"] (defScope s_notation) := ⟨rfl, rfl, rfl, by decide +kernel, rfl, by decide +kernel, by decide +kernel⟩
theorem ok_notation {f : Addr} {fd : FuncData} (F : Fun K "notation" "notation" s_notation f fd) (T : RTxt K mg C) (D : DTxt K mg) : FnOk P w K mg base CX0 1 f fd ["integer"] spNot := by
  refine F.ok sc_notation (fun vs H Q E h => ?_) (fun cdv A outer s H vs Q E hr h => ?_)
  · obtain ⟨n, rfl, _⟩ := h
    rfl
  · obtain ⟨n, rfl, hn, q⟩ := h
    refine ⟨_, (pss_cons (ps_set (i := 1) sc_notation.nd rfl (Or.inl rfl) (pe_ifExp (pt_cmpR op_lt (pv 0) pe_int (nomark _)) pe_str pe_str))
      (pss_cons (ps_set (i := 2) sc_notation.nd rfl (Or.inl rfl) (pe_callB call_abs (by rfl) T.z_abs (by decide +kernel) (pa_cons (pv 0) pa_nil)))
      (pss_cons (ps_set (i := 3) sc_notation.nd rfl (Or.inl rfl) (pe_lst pa_nil))
      (pss_cons (ps_while PassesOwn.never (pt_cmpR op_ge (pv 2) (pe_k0 rfl D.g_STEP) (nomark _))
        (pss_cons (ps_asg (pe_callB call_divmodW (by rfl) D.z_divmod (by decide +kernel) (pa_cons (pv 2) (pa_cons (pe_k0 rfl D.g_STEP) pa_nil))) (pg_tup (by rfl) (pgs_cons (pg_name (i := 2) sc_notation.nd rfl (Or.inl rfl)) (pgs_cons (pg_name (i := 4) sc_notation.nd rfl (Or.inl rfl)) pgs_nil))))
        (pss_one (ps_expr (pe_bm PySem.F.plainAttrs_list PySem.F.slot_list_append PySem.F.type_list_append mt_append (pv 3) (pa_cons (pe_m1 PySem.F.slot_str_zfill PySem.F.type_str_zfill mt_zfill (pe_callTy call_str_int (by rfl) D.z_str (by decide +kernel) (pa_cons (pv 4) pa_nil)) (pe_k0 rfl D.g_WIDTH)) pa_nil))))))
      (pss_cons (ps_expr (pe_bm PySem.F.plainAttrs_list PySem.F.slot_list_append PySem.F.type_list_append mt_append (pv 3) (pa_cons (pe_callTy call_str_int (by rfl) D.z_str (by decide +kernel) (pa_cons (pv 2) pa_nil)) pa_nil)))
      (pss_one (ps_ret (pe_join pe_str (pe_lst (pa_cons (pv 1) (pa_star (pe_revL (pv 3)) pa_nil))))))))))), ?_⟩
    refine q_asg (v := .str (if n < 0 then "-" else "")) (ev_if (et_test (ev_op (ev_var rfl) ev_c (rv_I0))) (fun h => ?_) (fun h => ?_)) fun H1 e1 => ?_
    · rw [if_pos (of_decide_eq_true h)]; exact ev_c
    · rw [if_neg (of_decide_eq_false h)]; exact ev_c
    refine q_asg (ev_absI (ev_var rfl)) fun H2 e2 => ?_
    refine q_asgL (el_lst ea_nil (by simp)) fun Pt H3 n3 e3 h3 => ?_
    generalize hsg : (if n < 0 then ("-" : Str) else "") = sg
    have tsg : tl sg = sgL n := by
      rw [← hsg]
      unfold sgL
      split
      · decide +kernel
      · decide +kernel
    refine q_while (fun m σ H' => NotW n H Pt sg m σ H') n.natAbs ⟨none, [], by rw [absI_nat]; rfl, fresh_back (e1.trans e2) n3, (e1.trans e2).trans e3, h3, by simp [catL], Nat.zero_le _⟩ (fun m σ' H4 hw => ?_)
    obtain ⟨x, ps, rfl, np, ex, hp, hN, hl⟩ := hw
    have lenN : (numL m ++ catL ps.reverse).length ≤ 8900 := by rw [← hN]; exact num_len hn
    rw [List.length_append] at lenN
    refine ⟨_, et_test (ev_op (ev_var rfl) ev_c rv_I0), fun hb H5 e5 => ?_, fun hb H5 e5 => ?_⟩
    · have hb' := of_decide_eq_true hb
      have hm : 10 ^ 64 ≤ m := by omega
      refine ⟨fun σ2 H2 => NotW n H Pt sg (m / 10 ^ 64) σ2 H2, fun σ2 H2 hh => ⟨m / 10 ^ 64, Nat.div_lt_self (by omega) (by decide), hh⟩, ?_⟩
      refine x_seq (x_asg ?_)
      refine ⟨.int (m : Nat), rfl, (m : Nat), 10 ^ 64, rfl, ⟨by decide, big_pylong⟩, fun p hp6 => ⟨p, _, rfl, st_of upd_same, rfl, _, _, rfl, _, _, rfl, rfl, ?_⟩⟩
      have ed : ((m : Nat) : Int) / 10 ^ 64 = ((m / 10 ^ 64 : Nat) : Int) := by omega
      have em : ((m : Nat) : Int) % 10 ^ 64 = ((m % 10 ^ 64 : Nat) : Int) := by omega
      rw [ed, em]
      have hr6 : m % 10 ^ 64 < 10 ^ 64 := Nat.mod_lt _ (by decide)
      have hq6 : 0 < m / 10 ^ 64 := Nat.div_pos hm (by decide)
      have e6 := e5.trans (Ex.new (o := .tup [.int ((m / 10 ^ 64 : Nat) : Int), .int ((m % 10 ^ 64 : Nat) : Int)]) hp6)
      have hp' := e6 _ _ hp
      have lg : (((m % 10 ^ 64 : Nat) : Int)).natAbs.log2 < 1920 := by
        rw [Int.natAbs_natCast]
        exact PySem.Flt.log2_lt_of (by decide) (Nat.lt_of_lt_of_le hr6 (by decide +kernel))
      refine ⟨.ref Pt, rfl, Or.inl ⟨rfl, _, sq_of hp'⟩, .int _, rfl, _, rfl, lg, ⟨_, rfl⟩, _, 64, rfl, rfl, by decide +kernel, Pt, _, _, rfl, rfl, hp', ?_, ?_⟩
      · rw [List.length_map]
        exact sz_lt (by omega)
      · refine ⟨_, ps ++ [Txt.zfill (Str.ofString (toString ((m % 10 ^ 64 : Nat) : Int))) 64], rfl, np, ?_, ?_, ?_, ?_⟩
        · exact (ex.trans e6).mut np
        · rw [upd_same, List.map_append]
          rfl
        · rw [List.reverse_append, hN]
          show _ = _ ++ catL (Txt.zfill _ 64 :: ps.reverse)
          rw [cat_cons, zfill_is hr6, ← List.append_assoc, ← num_split hq6 hr6]
          have : m / 10 ^ 64 * 10 ^ 64 + m % 10 ^ 64 = m := by omega
          rw [this]
        · rw [List.reverse_append, List.length_append]
          show ps.length + 1 ≤ (catL (Txt.zfill _ 64 :: ps.reverse)).length
          rw [cat_cons, zfill_is hr6, List.length_append, zf_len hr6]
          omega
    · have hb' := of_decide_eq_false hb
      have hm : m < 10 ^ 64 := by omega
      have hp' := e5 _ _ hp
      have lg : (((m : Nat) : Int)).natAbs.log2 < 1920 := by
        rw [Int.natAbs_natCast]
        exact PySem.Flt.log2_lt_of (by decide) (Nat.lt_of_lt_of_le hm (by decide +kernel))
      refine x_seq ?_
      refine ⟨.ref Pt, rfl, Or.inl ⟨rfl, _, sq_of hp'⟩, .int _, rfl, _, rfl, lg, Pt, _, _, rfl, rfl, hp', ?_, ?_⟩
      · rw [List.length_map]
        exact sz_lt (by omega)
      · refine ⟨⟨_, rfl⟩, .str sg, rfl, .ref Pt, rfl, Pt, _, rfl, sq_of upd_same, fun p2 hp2 => ⟨p2, _, rfl, Or.inr (sq_of upd_same), ?_, fun p3 hp3 => ?_⟩⟩
        · simp only [List.length_cons, List.length_append, List.length_reverse, List.length_map, List.length_nil] at *
          exact sz_of (by omega)
        · refine ⟨_, p3, sg :: (ps ++ [Str.ofString (toString ((m : Nat) : Int))]).reverse, rfl, rfl, .inl (sq_of ?_), ?_, q _ _ ?_ ?_⟩
          · rw [upd_same]
            simp [List.map_reverse]
          · rw [sum_len, cat_cons, tsg, List.reverse_append]
            have e0 : (("" : Str)).length = 0 := by decide +kernel
            rw [e0, Nat.mul_zero, Nat.add_zero]
            show (sgL n ++ catL (Str.ofString (toString ((m : Nat) : Int)) :: ps.reverse)).length ≤ _
            rw [cat_cons, tl_num, List.length_append, List.length_append]
            have : (sgL n).length ≤ 1 := by unfold sgL; split <;> simp
            omega
          · exact (((ex.trans e5).mut np).trans (Ex.new hp2)).trans (Ex.new hp3)
          · rw [join_empty, cat_cons, tsg, List.reverse_append]
            show sgL n ++ catL (Str.ofString (toString ((m : Nat) : Int)) :: ps.reverse) = _
            rw [cat_cons, tl_num, ← hN]
            rfl
/-! integer_of -/
def spOf : Sp := fun vs H Q _ => ∃ z : Str, vs = [.str z] ∧ AllDigits (tl z) ∧ z.length ≤ 600 ∧ ∀ H2, Ex H H2 → Q (.int ((digitsVal (tl z) : Nat) : Int)) H2
theorem int_dig {z : Str} (h : AllDigits (tl z)) (h1 : tl z ≠ []) (h2 : z.length ≤ 640) : PySem.intText? z = some ((digitsVal (tl z) : Nat) : Int) := intText_digits h h1 (by omega)
theorem dig_sub {z : Str} (h : AllDigits (tl z)) (i j : Nat) : AllDigits (((tl z).drop i).take j) := fun c hc => h c (List.mem_of_mem_drop (List.mem_of_mem_take hc))
theorem tl_cut (z : Str) (i : Nat) (j : Nat) : tl (cutS z (some (i : Int)) (some (j : Int))) = ((tl z).drop (min i z.length)).take (min j z.length - min i z.length) := by
  unfold cutS
  rw [HT.sIx_nat, HT.sIx_nat]
theorem tl_cut0 (z : Str) (j : Nat) : tl (cutS z none (some (j : Int))) = (tl z).take (min j z.length) := by
  unfold cutS
  rw [HT.sIx_none, HT.sIx_nat]
  rfl
theorem fits {x : Int} (h0 : 0 ≤ x) (h1 : x < 1000000000) : Builtin.Range.rangeFitsLong x = true := by
  unfold Builtin.Range.rangeFitsLong
  rw [decide_eq_true (show -(2 ^ 63) ≤ x by omega), decide_eq_true (show x < 2 ^ 63 by omega)]
  rfl
theorem rgc64 {i n : Nat} (hi : i < 64) (hn : n < 100000) : RgC ((i : Nat) : Int) ((i + 64 * n : Nat) : Int) 64 n := by
  have e : Builtin.Range.rangeSize ((i : Nat) : Int) ((i + 64 * n : Nat) : Int) 64 = (n : Nat) := by
    unfold Builtin.Range.rangeSize
    rw [if_pos (by decide)]
    split <;> omega
  refine ⟨by decide, by decide, ?_, e⟩
  unfold Builtin.Range.small
  rw [e, fits (by omega) (by omega), fits (by omega) (by omega), fits (by omega) (by omega), fits (by omega) (by omega), if_pos (by decide), fits (by omega) (by omega), Bool.or_true]
  rfl
theorem dv_small {l : List Nat} (h : AllDigits l) (k : l.length ≤ 600) : (((digitsVal l : Nat) : Int)).natAbs < 2 ^ 4000 := by
  rw [Int.natAbs_natCast]
  refine Nat.lt_of_lt_of_le (dv_lt h) (Nat.le_trans (Nat.pow_le_pow_right (by decide) k) ?_)
  calc (10 : Nat) ^ 600 ≤ 16 ^ 600 := Nat.pow_le_pow_left (by decide) _
    _ = 2 ^ 2400 := by rw [show (16 : Nat) = 2 ^ 4 from rfl, ← Nat.pow_mul]
    _ ≤ 2 ^ 4000 := Nat.pow_le_pow_right (by decide) (by decide)
theorem ev_int_str {σ : L2.St} {H : Hp} {te : TE} {z : Str} (h : Ev te σ H (.str z)) (hd : AllDigits (tl z)) (hne : tl z ≠ []) (hz : z.length ≤ 640) :
    Ev (tCB (fun xs H Q => ∃ a n, xs = [.str a] ∧ PySem.intText? a = some n ∧ a.length ≤ 640 ∧ Q (.int n) H) (tCons te tNil)) σ H (.int ((digitsVal (tl z) : Nat) : Int)) := fun H1 e Q q =>
  h H1 e _ fun H2 e2 => ⟨z, _, rfl, int_dig hd hne hz, hz, q H2 e2⟩
abbrev s_integer_of : Stmt := topS 8
theorem sc_integer_of : FnScope ["digits", "first", "result", "at"] ["digits"] (defScope s_integer_of) := ⟨rfl, rfl, rfl, by decide +kernel, rfl, by decide +kernel, by decide +kernel⟩
theorem ok_integer_of {f : Addr} {fd : FuncData} (F : Fun K "integer_of" "integer_of" s_integer_of f fd) (T : RTxt K mg C) (D : DTxt K mg) : FnOk P w K mg base CX0 1 f fd ["digits"] spOf := by
  refine F.ok sc_integer_of (fun vs H Q E h => ?_) (fun cdv A outer s H vs Q E hr h => ?_)
  · obtain ⟨z, rfl, _⟩ := h
    rfl
  · obtain ⟨z, rfl, hd, hz, q⟩ := h
    refine ⟨_, (pss_cons (ps_set (i := 1) sc_integer_of.nd rfl (Or.inl rfl) (pe_op op_mod (pe_callB call_len_str (by rfl) T.z_len (by decide +kernel) (pa_cons (pv 0) pa_nil)) (pe_k0 rfl D.g_WIDTH)))
      (pss_cons (ps_set (i := 2) sc_integer_of.nd rfl (Or.inl rfl) (pe_callTy call_int_str (by rfl) T.z_int (by decide +kernel) (pa_cons (pe_op op_add_str pe_str (pe_slice sl_str (pv 0) po_none (po_some (pv 1)))) pa_nil)))
      (pss_cons (ps_for PassesOwn.never rfl (pi_range3 rfl T.z_range (pa_cons (pv 1) (pa_cons (pe_callB call_len_str (by rfl) T.z_len (by decide +kernel) (pa_cons (pv 0) pa_nil)) (pa_cons (pe_k0 rfl D.g_WIDTH) pa_nil)))) (pg_name (i := 3) sc_integer_of.nd rfl (Or.inl rfl))
        (pss_one (ps_set (i := 2) sc_integer_of.nd rfl (Or.inl rfl) (pe_op op_add (pe_op op_mulW (pv 2) (pe_k0 rfl D.g_STEP)) (pe_callTy call_int_str (by rfl) T.z_int (by decide +kernel) (pa_cons (pe_slice sl_str (pv 0) (po_some (pv 3)) (po_some (pe_op op_add (pv 3) (pe_k0 rfl D.g_WIDTH)))) pa_nil))))))
      (pss_one (ps_ret (pv 2)))))), ?_⟩
    have hL := len_tl z
    have hfn : z.length = z.length % 64 + 64 * (z.length / 64) := by omega
    have hf : z.length % 64 < 64 := Nat.mod_lt _ (by decide)
    generalize z.length % 64 = f at hfn hf
    generalize z.length / 64 = n at hfn
    have dt : ∀ k, AllDigits ((tl z).take k) := fun k c hc => hd c (List.mem_of_mem_take hc)
    refine q_asg (v := .int (f : Nat)) ?_ fun H1 e1 => ?_
    · intro H1 e1 Q1 q1
      refine ⟨.str z, rfl, z, rfl, sz_of (by omega), (z.length : Nat), 64, rfl, rfl, (by show (0 : Int) < 64; decide), ?_⟩
      have : ((z.length : Nat) : Int) % 64 = (f : Nat) := by omega
      show Q1 (V.int (((z.length : Nat) : Int) % 64)) H1
      rw [this]
      exact q1 H1 (Ex.refl H1)
    have c0 : tl (("0" : Str) ++ cutS z none (some ((f : Nat) : Int))) = 48 :: (tl z).take f := by
      rw [tl_append, tl_cut0, show min f z.length = f by omega, show tl (("0" : Str)) = [48] from by decide +kernel]
      rfl
    have l0 : (("0" : Str) ++ cutS z none (some ((f : Nat) : Int))).length ≤ 640 := by
      rw [len_tl, c0, List.length_cons, List.length_take]
      omega
    refine q_asg (ev_int_str (ev_op ev_c (ev_slS (ev_var rfl) eo_none (eo_some (ev_var rfl)) (by omega)) (rv_addS ?_)) (by rw [c0]; exact fun c hc => (List.mem_cons.mp hc).elim (fun e => by omega) (dt f c)) (by rw [c0]; simp) l0) fun H2 e2 => ?_
    · rw [len_tl ("0" : Str), len_tl (cutS _ _ _), tl_cut0, show tl (("0" : Str)) = [48] from by decide +kernel, List.length_take]
      simp only [List.length_cons, List.length_nil]
      omega
    rw [c0, digitsVal_zero]
    have e12 := e1.trans e2
    refine x_seq ?_
    refine ⟨.int (f : Nat), rfl, .str z, rfl, z, rfl, sz_of (by omega), (f : Nat), ((f + 64 * n : Nat) : Int), 64, n, by rw [← hfn], rgc64 hf (by omega), ?_⟩
    refine for_rangeC (fun i σ' H' => ∃ x, σ' = [some (.str z), some (.int (f : Nat)), some (.int ((digitsVal ((tl z).take (f + 64 * i)) : Nat) : Int)), x] ∧ Ex H H') ⟨_, rfl, e12⟩ (fun i σ' H' hi hw => ?_) (fun σ' H' hw => ?_)
    · obtain ⟨x, rfl, e3⟩ := hw
      have ei : ((f : Nat) : Int) + (i : Nat) * 64 = ((f + 64 * i : Nat) : Int) := by omega
      rw [ei]
      have ce : tl (cutS z (some ((f + 64 * i : Nat) : Int)) (some ((f + 64 * i + 64 : Nat) : Int))) = ((tl z).drop (f + 64 * i)).take 64 := by
        rw [tl_cut, show min (f + 64 * i) z.length = f + 64 * i by omega, show min (f + 64 * i + 64) z.length = f + 64 * i + 64 by omega, show f + 64 * i + 64 - (f + 64 * i) = 64 by omega]
      have ll : (((tl z).drop (f + 64 * i)).take 64).length = 64 := by
        rw [List.length_take, List.length_drop]
        omega
      have ed : digitsVal ((tl z).take (f + 64 * (i + 1))) = digitsVal ((tl z).take (f + 64 * i)) * 10 ^ 64 + digitsVal (((tl z).drop (f + 64 * i)).take 64) := by
        rw [show f + 64 * (i + 1) = f + 64 * i + 64 by omega, List.take_add, dv_app, ll]
      have sm := dv_small (dt (f + 64 * i)) (by rw [List.length_take]; omega)
      refine s_asg (v := .int ((digitsVal ((tl z).take (f + 64 * (i + 1))) : Nat) : Int)) (ev_is (ev_op (ev_op (ev_var rfl) ev_c (rv_I (sz_mul sm (by decide +kernel)))) (ev_int_str (z := cutS z (some ((f + 64 * i : Nat) : Int)) (some ((f + 64 * i + 64 : Nat) : Int))) (ev_slS (ev_var rfl) (eo_some (ev_var rfl)) (eo_some (ev_is (ev_op (ev_var rfl) ev_c rv_I0) ?_)) (by omega)) (by rw [ce]; exact dig_sub hd _ _) (by rw [ce]; intro z0; rw [z0] at ll; cases ll) (by rw [len_tl, ce, ll]; decide)) rv_I0) ?_) fun H4 e4 => ⟨_, rfl, e3.trans e4⟩
      · rfl
      · rw [ed, ce]
        show V.int _ = V.int _
        congr 1
    · obtain ⟨x, rfl, e3⟩ := hw
      have : (tl z).take (f + 64 * n) = tl z := List.take_of_length_le (by omega)
      rw [this]
      exact ⟨_, rfl, q _ e3⟩
end

/-! ### the text of a Ratio, and a Ratio read -/
structure YTxt (K : PySem.W.Frag) (mg : Str → Option Value) (CY : Addr) : Prop where
  gZ : mg "BadText" = some (.ref CY)
  xZ : PySem.W.excIn K CY [.type "ValueError", .type "Exception", .type "BaseException", .type "object"] "ValueError.__new__" = true
  kZ : PySem.W.keepIn K (.ref CY) = true
  bZ : PySem.W.subIn K (.ref CY) (.type "BaseException") = some true
  tZ : PySem.W.typeIn K (.ref CY) = some (.type "type")
  eZ : PySem.W.exmOne K (.ref CY) (.ref CY) = some true
def ratS (q : Rat) : Str := ⟨(ratL q).toArray⟩
def NoStr (K : PySem.W.Frag) (H : Hp) (v : V) : Prop := ∃ t, TyX K H v t ∧ PySem.W.kitOne K t (.type "str") = some false
def spStr (C : Addr) : Sp := fun vs H Q _ => ∃ a q, vs = [.ref a] ∧ RatAt C H a q ∧ Sz 8900 q ∧ ∀ H2, Ex H H2 → Q (.str (ratS q)) H2
def spRead (K : PySem.W.Frag) (C CY : Addr) : Sp := fun vs H Q E => ∃ v, vs = [.ref C, v] ∧ ((∃ z : Str, v = .str z ∧ z.length ≤ 400 ∧ (∀ q, tl z = ratL q → ∀ p H2, Ex H H2 → RatAt C H2 p q → Q (.ref p) H2) ∧ ((∀ q, tl z ≠ ratL q) → ∀ H2, Ex H H2 → E (.ref CY) none H2)) ∨
  (NoStr K H v ∧ ∀ H2, Ex H H2 → E (.ref CY) none H2))
theorem int_len (n : Int) {k : Nat} (h : n.natAbs < 2 ^ 8900) : (intL n).length ≤ 8901 := by
  have := num_len h
  unfold intL sgL
  rw [List.length_append]
  split
  · simp only [List.length_cons, List.length_nil]; omega
  · simp only [List.length_nil]; omega
section
variable {P : Program} {w : World} {K : PySem.W.Frag} {mg : Str → Option Value} {base : Heap} {C CY CZ : Addr}
abbrev s_Ratio___str__ : Stmt := inClass (topS 17) 8
theorem sc_Ratio___str__ : FnScope ["self"] ["self"] (defScope s_Ratio___str__) := ⟨rfl, rfl, rfl, by decide +kernel, rfl, by decide +kernel, by decide +kernel⟩
theorem ok_str {f : Addr} {fd : FuncData} (F : Fun K "__str__" "Ratio.__str__" s_Ratio___str__ f fd) (T : RTxt K mg C) (c_notation : CalX P w K mg base 1 "notation" spNot []) : FnOk P w K mg base (L2.CX P w) 3 f fd ["self"] (spStr C) := by
  refine F.okX sc_Ratio___str__ (fun vs H Q E h => ?_) (fun cdv A outer s H vs Q E hr h => ?_)
  · obtain ⟨a, q, rfl, _⟩ := h
    rfl
  · obtain ⟨a, q, rfl, ⟨dx, ha⟩, hs, k⟩ := h
    refine ⟨_, (pss_cons (ps_if (pt_cmpR op_eq (pe_fld (pv 0) rfl) pe_int (nomark _))
        (pss_one (ps_ret (pe_joined1 (pe_fmt (pe_cX c_notation passN hr (by decide) rfl (pa_cons (pe_fld (pv 0) rfl) pa_nil))))))
        pss_nil)
      (pss_one (ps_ret (pe_joined (.cons (pe_fmt (pe_cX c_notation passN hr (by decide) rfl (pa_cons (pe_fld (pv 0) rfl) pa_nil))) (.cons pe_str (.cons (pe_fmt (pe_cX c_notation passN hr (by decide) rfl (pa_cons (pe_fld (pv 0) rfl) pa_nil))) .nil))))))), ?_⟩
    refine ⟨.ref a, rfl, a, C, dx, _, _, rfl, ha, T.r.cl, T.nB, ratF_bot q, rfl, _, rfl, ?_⟩
    have fin : ∀ (s : Str) H2, Ex H H2 → tl s = ratL q → Q (.str s) H2 := fun s H2 e h => by
      have : s = ratS q := ext_tl h
      rw [this]
      exact k H2 e
    have l8 := sz_of (n := 17900) (by decide)
    refine ite2 (fun e => ?_) (fun e => ?_)
    · have d1 : (q.den : Int) = 1 := V.int.inj (of_decide_eq_true e)
      have d1' : q.den = 1 := by omega
      refine ⟨.ref a, rfl, a, C, dx, _, _, rfl, ha, T.r.cl, T.nT, ratF_top q, q.num, rfl, hs.1, fun s H2 e2 ht => .inl ⟨s, rfl, ?_, fin s H2 e2 ?_⟩⟩
      · rw [len_tl, ht]
        exact sz_of (Nat.le_trans (int_len (k := 0) _ hs.1) (by decide))
      · rw [ht]
        unfold ratL
        rw [if_pos d1', List.append_nil]
    · have d1' : ¬ q.den = 1 := fun z => e (decide_eq_true (by rw [z]; rfl))
      have e0 : tl Str.empty = [] := rfl
      have den_int : intL (q.den : Int) = numL q.den := by
        unfold intL sgL
        rw [if_neg (by omega), Int.natAbs_natCast]
        rfl
      have i1 := int_len (k := 0) _ hs.1
      have i2 : (intL (q.den : Int)).length ≤ 8901 := int_len (k := 0) _ (by rw [Int.natAbs_natCast]; exact hs.2)
      refine ⟨.ref a, rfl, a, C, dx, _, _, rfl, ha, T.r.cl, T.nT, ratF_top q, q.num, rfl, hs.1, fun s H2 e2 ht => .inl ⟨s, rfl, ?_, s, rfl, ?_, _, rfl, ?_, .ref a, rfl, a, C, dx, _, _, rfl, e2 _ _ ha, T.r.cl, T.nB, ratF_bot q, (q.den : Int), rfl, ?_, fun s2 H3 e3 ht2 => .inl ⟨s2, rfl, ?_, s2, rfl, ?_, fin _ H3 (e2.trans e3) ?_⟩⟩⟩
      · rw [len_tl, ht]
        exact sz_of (Nat.le_trans (int_len (k := 0) _ hs.1) (by decide))
      · rw [len_tl, tl_append, ht, List.length_append, e0]
        simp only [List.length_nil]
        exact sz_of (by omega)
      · rw [len_tl, tl_append, tl_append, ht, sl1, List.length_append, List.length_append, e0]
        simp only [List.length_nil, List.length_cons]
        exact sz_of (by omega)
      · rw [Int.natAbs_natCast]
        exact hs.2
      · rw [len_tl, ht2]
        exact sz_of (by omega)
      · rw [len_tl, tl_append, tl_append, tl_append, ht, ht2, sl1, List.length_append, List.length_append, List.length_append, e0]
        simp only [List.length_nil, List.length_cons]
        exact sz_of (by omega)
      · rw [tl_append, tl_append, tl_append, ht, ht2, sl1, e0]
        unfold ratL
        rw [if_neg d1', List.nil_append, List.append_assoc, den_int]
        rfl
abbrev s_Ratio_read : Stmt := inClass (topS 17) 12
theorem sc_Ratio_read : FnScope ["cls", "text", "front", "slash", "bottom", "digits", "top", "ratio"] ["cls", "text"] (defScope s_Ratio_read) := ⟨rfl, rfl, rfl, by decide +kernel, rfl, by decide +kernel, by decide +kernel⟩
theorem ok_read {f : Addr} {fd : FuncData} (F : Fun K "read" "Ratio.read" s_Ratio_read f fd) (T : RTxt K mg C) (D : DTxt K mg) (Y : YTxt K mg CY) (c_is_digits : CalX P w K mg base 1 "is_digits" spDig []) (c_integer_of : CalX P w K mg base 1 "integer_of" spOf [])
    (c_Ratio : MakX P w K mg base 1 "Ratio" C (spInit C CZ) []) (d_str : DunX P w K mg base 3 C "__str__" (spStr C)) : FnOk P w K mg base (L2.CX P w) 7 f fd ["cls", "text"] (spRead K C CY) := by
  refine F.okX sc_Ratio_read (fun vs H Q E h => ?_) (fun cdv A outer s H vs Q E hr h => ?_)
  · obtain ⟨v, rfl, _⟩ := h
    rfl
  · obtain ⟨v, rfl, h⟩ := h
    obtain ⟨f_str, ⟨fd_str, ps_str, ds_str, F_str, b_str, dv_str⟩, h_str, hf_str⟩ := d_str.is
    cases dv_str
    refine ⟨_, (pss_cons (ps_if (pt_not (pt_val (pe_callB call_isi (by rfl) T.z_isinstance (by decide +kernel) (pa_cons (pv 1) (pa_cons (pe_bltn (by rfl) D.z_str (by decide +kernel) (show RelV (.ty "str") (.type "str") from rfl)) pa_nil)))))
        (pss_one (ps_raise rfl (takes_of rfl rfl rfl rfl) (pmk_own0 PySem.F.excBase_ValueError Y.xZ Y.gZ Y.kZ (raises_own Y.bZ Y.tZ) (by rfl))))
        pss_nil)
      (pss_cons (ps_asg (pe_partition (pv 1) pe_str) (pg_tup (by rfl) (pgs_cons (pg_name (i := 2) sc_Ratio_read.nd rfl (Or.inl rfl)) (pgs_cons (pg_name (i := 3) sc_Ratio_read.nd rfl (Or.inl rfl)) (pgs_cons (pg_name (i := 4) sc_Ratio_read.nd rfl (Or.inl rfl)) pgs_nil)))))
      (pss_cons (ps_if (pt_cmpR op_eq (pv 3) pe_str (nomark _))
        (pss_one (ps_set (i := 4) sc_Ratio_read.nd rfl (Or.inl rfl) pe_str))
        pss_nil)
      (pss_cons (ps_set (i := 5) sc_Ratio_read.nd rfl (Or.inl rfl) (pe_m1 PySem.F.slot_str_removeprefix PySem.F.type_str_removeprefix mt_removeprefix (pv 2) pe_str))
      (pss_cons (ps_if (PW.pt (pw_or (pt_not (pt_val (pe_cX c_is_digits passN hr (by decide) rfl (pa_cons (pv 5) pa_nil)))) (pw_or (pt_not (pt_val (pe_cX c_is_digits passN hr (by decide) rfl (pa_cons (pv 4) pa_nil)))) (pw_or1 (pt_cmpR op_eq (pe_cX c_integer_of passN hr (by decide) rfl (pa_cons (pv 4) pa_nil)) pe_int (nomark _))))))
        (pss_one (ps_raise rfl (takes_of rfl rfl rfl rfl) (pmk_own0 PySem.F.excBase_ValueError Y.xZ Y.gZ Y.kZ (raises_own Y.bZ Y.tZ) (by rfl))))
        pss_nil)
      (pss_cons (ps_set (i := 6) sc_Ratio_read.nd rfl (Or.inl rfl) (pe_ifExp (pt_val (pe_m1 PySem.F.slot_str_startswith PySem.F.type_str_startswith mt_startswith (pv 2) pe_str)) (pe_un un_neg (pe_cX c_integer_of passN hr (by decide) rfl (pa_cons (pv 5) pa_nil))) (pe_cX c_integer_of passN hr (by decide) rfl (pa_cons (pv 5) pa_nil))))
      (pss_cons (ps_set (i := 7) sc_Ratio_read.nd rfl (Or.inl rfl) (pe_mkV (i := 0) c_Ratio passN hr (by decide) rfl (Or.inl rfl) (pa_cons (pv 6) (pa_cons (pe_cX c_integer_of passN hr (by decide) rfl (pa_cons (pv 4) pa_nil)) pa_nil))))
      (pss_cons (ps_if (pt_cmpR op_ne (pe_callTy (call_strOwn h_str hf_str F_str (hr.mono (by decide)) b_str passX) (by rfl) D.z_str (by decide +kernel) (pa_cons (pv 7) pa_nil)) (pv 1) (nomark _))
        (pss_one (ps_raise rfl (takes_of rfl rfl rfl rfl) (pmk_own0 PySem.F.excBase_ValueError Y.xZ Y.gZ Y.kZ (raises_own Y.bZ Y.tZ) (by rfl))))
        pss_nil)
      (pss_one (ps_ret (pv 7))))))))))), ?_⟩
    rcases h with ⟨z, rfl, hz, ky, kn⟩ | ⟨⟨t, ty, no⟩, kn⟩
    · refine ⟨.str z, rfl, .str z, .ty "str", .type "str", .type "str", true, rfl, .ty "str", .base (.str z), kit_ty (by decide +kernel), true, rfl, ?_⟩
      refine iteF ?_
      refine x_nx ?_
      dsimp only
      obtain ⟨Fr, S, B, ep, hc⟩ := part_is z
      refine x_seq (x_asg ?_)
      refine ⟨.str z, rfl, ⟨_, rfl⟩, z, "/", rfl, rfl, by decide +kernel, sz_of (by omega), fun p hp => ⟨p, _, rfl, st_of upd_same, rfl, _, _, rfl, _, _, rfl, _, _, rfl, rfl, ?_⟩⟩
      rw [ep]
      have x1 := Ex.new (o := .tup [.str Fr, .str S, .str B]) hp
      dsimp only
      generalize upd H p (.tup [.str Fr, .str S, .str B]) = H1 at x1
      obtain ⟨B', hB', hb1, hb2⟩ : ∃ B' : Str, cutL (tl z) = (tl Fr, tl B') ∧ (decide (V.str S = V.str "") = true → B' = Str.ofString "1") ∧ (decide (V.str S = V.str "") = false → B' = B) := by
        rcases hc with ⟨rfl, e⟩ | ⟨rfl, rfl, e⟩
        · exact ⟨B, e, fun h => absurd h (by decide +kernel), fun _ => rfl⟩
        · exact ⟨"1", by rw [e]; exact Prod.ext rfl (show [49] = tl (Str.ofString "1") by decide +kernel), fun _ => rfl, fun h => absurd h (by decide +kernel)⟩
      refine q_ifAsg (b := decide (V.str S = V.str "")) (v := .str B') (et_test (ev_op (ev_var rfl) ev_c (rv_eq rfl))) (fun h => by rw [hb1 h]; exact ev_c) (fun h => by rw [hb2 h]; rfl) fun H2 e2 => ?_
      have cl := cut_len (tl z)
      rw [hB'] at cl
      have hz' : (tl z).length ≤ 400 := by rw [← len_tl]; exact hz
      refine q_asg (v := .str (Txt.removeprefix Fr "-")) (fun H1 e1 Q1 q1 => ⟨.str Fr, rfl, ⟨_, rfl⟩, Fr, "-", rfl, rfl, sz_of (by rw [len_tl]; have := cl.1; dsimp only at this; omega), q1 H1 (Ex.refl H1)⟩) fun H3 e3 => ?_
      have hD : tl (Txt.removeprefix Fr "-") = bareL (cutL (tl z)).1 := by rw [rm_minus, hB']
      have hBt : tl B' = (cutL (tl z)).2 := by rw [hB']
      generalize Txt.removeprefix Fr "-" = Dg at hD
      have lD : Dg.length ≤ 600 := by
        rw [len_tl, hD, hB']
        have := bare_len (tl Fr)
        have := cl.1
        dsimp only at *
        omega
      have lB : B'.length ≤ 600 := by
        rw [len_tl]
        have := cl.2
        dsimp only at *
        omega
      have cDig : ∀ {σ : L2.St} {H' : Hp} {j : Nat} {s' : Str}, σ[j]? = some (some (.str s')) → s'.length ≤ 600 → Ev (tCallSD spDig [] E00 (tCons (tVar j) tNil)) σ H' (.bl (digB s')) := fun h l H1 e1 Q1 q1 => ⟨_, h, _, rfl, by omega, fun H2 e2 => q1 H2 e2⟩
      have cInt : ∀ {σ : L2.St} {H' : Hp} {j : Nat} {s' : Str}, σ[j]? = some (some (.str s')) → s'.length ≤ 600 → AllDigits (tl s') → Ev (tCallSD spOf [] E00 (tCons (tVar j) tNil)) σ H' (.int ((digitsVal (tl s') : Nat) : Int)) := fun h l d H1 e1 Q1 q1 => ⟨_, h, _, rfl, d, l, fun H2 e2 => q1 H2 e2⟩
      have x3 := (x1.trans e2).trans e3
      refine q_when (b := !digB Dg || (!digB B' || decide (V.int ((digitsVal (tl B') : Nat) : Int) = V.int 0))) (et_or (et_not (et_B (cDig rfl lD))) (fun _ => et_or (et_not (et_B (cDig rfl lB))) (fun hb => et_test (ev_op (cInt rfl lB ((digB_iff B').mp (by simpa using hb)).2) ev_c (rv_eq rfl))))) (fun hb H4 e4 => ?_) (fun hb H4 e4 => ?_)
      · refine kn (fun q hq => ?_) _ (x3.trans e4)
        have ok := ok_rat q
        rw [← hq] at ok
        obtain ⟨o1, o2, o3, o4, o5⟩ := ok
        rw [← hD] at o1 o2
        rw [← hBt] at o3 o4 o5
        rw [(digB_iff Dg).mpr ⟨o2, o1⟩, (digB_iff B').mpr ⟨o4, o3⟩, decide_eq_false (fun z => o5 (by have := V.int.inj z; omega))] at hb
        cases hb
      · rw [Bool.or_eq_false_iff, Bool.or_eq_false_iff] at hb
        obtain ⟨b1, b2, b3⟩ := hb
        have d1 := (digB_iff Dg).mp (by simpa using b1)
        have d2 := (digB_iff B').mp (by simpa using b2)
        have nz : ((digitsVal (tl B') : Nat) : Int) ≠ 0 := fun z => of_decide_eq_false b3 (by rw [z])
        have sD := dv_small d1.2 (by rw [← len_tl]; exact lD)
        have sB := dv_small d2.2 (by rw [← len_tl]; exact lB)
        have tt : topL (tl z) = if (tl z).head? = some 45 then -((digitsVal (tl Dg) : Nat) : Int) else (digitsVal (tl Dg) : Nat) := by
          unfold topL
          rw [hD]
        have hst : Txt.startswith Fr "-" = decide ((tl z).head? = some 45) := by
          rw [st_minus]
          refine decide_eq_decide.mpr ?_
          have := cut_head (tl z)
          rw [hB'] at this
          exact this
        refine q_asg (v := .int (topL (tl z))) (ev_if (b := decide ((tl z).head? = some 45)) (et_B fun H1 e1 Q1 q1 => ⟨.str Fr, rfl, ⟨_, rfl⟩, Fr, "-", rfl, rfl, by rw [hst]; exact q1 H1 (Ex.refl H1)⟩) (fun h => ?_) (fun h => ?_)) fun H5 e5 => ?_
        · rw [tt, if_pos (of_decide_eq_true h)]
          exact ev_un (cInt rfl lD d1.2) ru_neg
        · rw [tt, if_neg (of_decide_eq_false h)]
          exact cInt rfl lD d1.2
        have sT : (topL (tl z)).natAbs < 2 ^ 4000 := by
          rw [tt]
          split
          · rw [Int.natAbs_neg]; exact sD
          · exact sD
        refine x_seq (x_set ?_)
        refine ⟨rfl, u_new (ev_var rfl) (cInt rfl lB d2.2) (up sT (by decide)) (up sB (by decide)) nz fun p6 H6 e6 hp6 => ?_⟩
        have hq6 : Rat.divInt (topL (tl z)) ((digitsVal (tl B') : Nat) : Int) = quoL (tl z) := by
          unfold quoL
          rw [hBt]
        have s6 : Sz 8900 (quoL (tl z)) := by rw [← hq6]; exact sz_div nz (up sT (by decide)) (up sB (by decide))
        rw [hq6] at hp6
        have x6 := ((x3.trans e4).trans e5).trans e6
        dsimp only
        refine q_when (b := !decide (V.str (ratS (quoL (tl z))) = V.str z)) (et_test (ev_op (x := .str (ratS (quoL (tl z)))) ?st ?vt (rv_ne rfl))) (fun hb H7 e7 => ?_) (fun hb H7 e7 => ?_)
        case vt => exact ev_var rfl
        case st => exact fun H7 e7 Q7 q7 => ⟨.ref p6, rfl, .ref p6, rfl, (hp6.ex e7).ins, p6, _, rfl, hp6.ex e7, s6, fun H8 e8 => ⟨_, rfl, q7 H8 e8⟩⟩
        · refine kn (fun q hq => ?_) _ (x6.trans e7)
          have e8 : ratS (quoL (tl z)) = z := by
            rw [hq, quo_rat]
            exact ext_tl hq.symm
          rw [e8] at hb
          simp at hb
        · have e8 : ratS (quoL (tl z)) = z := by
            have := hb
            simp only [Bool.not_eq_false', decide_eq_true_eq] at this
            exact V.str.inj this
          exact ⟨.ref p6, rfl, ky (quoL (tl z)) ((congrArg tl e8).symm.trans rfl) p6 _ (x6.trans e7) (hp6.ex e7)⟩
    · refine ⟨v, rfl, v, .ty "str", t, .type "str", false, rfl, .ty "str", ty, no, false, rfl, ?_⟩
      refine iteT ?_
      exact kn H (Ex.refl H)
end

end K06
set_option Elab.async false
set_option linter.all false
set_option maxRecDepth 100000
set_option maxHeartbeats 2000000
namespace K06
open PySem PySem.Spec PyProof.Rows L2 Evl LawK RatK
open Dec TL PySem.NumText StX
/-! ### the law's own helpers -/
theorem tl_int (i : Int) : tl (Str.ofString (toString i)) = intL i := by
  cases i with
  | ofNat n =>
    show tl (Str.ofString (toString ((n : Nat) : Int))) = _
    rw [tl_num]
    unfold intL sgL
    rw [if_neg (by simp)]
    rfl
  | negSucc n =>
    have e : toString (Int.negSucc n) = "-" ++ toString (n + 1) := rfl
    rw [e, tl_ofString, String.toList_append, List.map_append]
    have e2 := tl_num (n + 1)
    rw [tl_ofString] at e2
    have e3 : toString (((n + 1 : Nat)) : Int) = toString (n + 1) := rfl
    rw [e3] at e2
    rw [e2]
    unfold intL sgL
    rw [if_pos (Int.negSucc_lt_zero n)]
    rfl
def spDiv : Sp := fun vs H Q _ => ∃ a b : Nat, vs = [.int (a : Nat), .int (b : Nat)] ∧ (a < 2 ^ 140 ∨ b < 2 ^ 140) ∧ ∀ H2, Ex H H2 → Q (.int (Nat.gcd a b : Nat)) H2
section
variable {P : Program} {w : World} {K : PySem.W.Frag} {mg : Str → Option Value} {base : Heap} {C CY CZ : Addr}
abbrev s__law_divisor : Stmt := topS 22
theorem sc__law_divisor : FnScope ["_law_one", "_law_two", "_law_turn"] ["_law_one", "_law_two"] (defScope s__law_divisor) := ⟨rfl, rfl, rfl, by decide +kernel, rfl, by decide +kernel, by decide +kernel⟩
theorem ok_divisor {f : Addr} {fd : FuncData} (F : Fun K "_law_divisor" "_law_divisor" s__law_divisor f fd) (T : RTxt K mg C) : FnOk P w K mg base CX0 1 f fd ["_law_one", "_law_two"] spDiv := by
  refine F.ok sc__law_divisor (fun vs H Q E h => ?_) (fun cdv A outer s H vs Q E hr h => ?_)
  · obtain ⟨a, b, rfl, _⟩ := h
    rfl
  · obtain ⟨a, b, rfl, hs, q⟩ := h
    refine ⟨_, (pss_cons (ps_for PassesOwn.never rfl (pi_range1 rfl T.z_range (pa_cons pe_int pa_nil)) (pg_name (i := 2) sc__law_divisor.nd rfl (Or.inl rfl))
        (pss_one (ps_if (pt_cmpR op_ne (pv 1) pe_int (nomark _))
          (pss_one (ps_par (i := 0) (j := 1) (by rfl) sc__law_divisor.nd rfl rfl (by decide) rfl rfl (pa_cons (pv 1) (pa_cons (pe_op op_mod (pv 0) (pv 1)) pa_nil)) (by rfl)))
          pss_nil)))
      (pss_one (ps_ret (pv 0)))), ?_⟩
    refine q_forR1 (ea_cons ev_c ea_nil) (by decide) (fun i σ' H' => ∃ x, σ' = [some (.int ((itr i (a, b)).1 : Nat)), some (.int ((itr i (a, b)).2 : Nat)), x] ∧ Ex H H') (fun H1 e1 => ⟨_, rfl, e1⟩) (fun i σ' H1 hi hw => ?_) (fun σ' H1 hw => ?_)
    · obtain ⟨x, rfl, e1⟩ := hw
      refine s_when (et_test (ev_op (ev_var rfl) ev_c (rv_ne rfl))) (fun hb H2 e2 => ?_) (fun hb H2 e2 => ?_)
      · have nz : (itr i (a, b)).2 ≠ 0 := fun z => by rw [z] at hb; simp at hb
        have e : itr (i + 1) (a, b) = ((itr i (a, b)).2, (itr i (a, b)).1 % (itr i (a, b)).2) := by
          rw [itr_succ]
          unfold stp
          rw [if_neg nz]
        refine s_par (ea_cons (ev_var rfl) (ea_cons (ev_op (ev_var rfl) (ev_var rfl) (rv_I (by show (0 : Int) < _; omega))) ea_nil)) fun H3 e3 => ⟨some (.int ((i : Nat) : Int)), ?_, (e1.trans e2).trans e3⟩
        rw [e]
        rfl
      · have z : (itr i (a, b)).2 = 0 := by
          have h2 : V.int ((itr i (a, b)).2 : Nat) = V.int 0 := by simpa using hb
          have := V.int.inj h2
          omega
        have e : itr (i + 1) (a, b) = itr i (a, b) := by
          rw [itr_succ]
          unfold stp
          rw [if_pos z]
        exact ⟨some (.int ((i : Nat) : Int)), by rw [e]; rfl, e1.trans e2⟩
    · obtain ⟨x, rfl, e1⟩ := hw
      have e : itr (Int.toNat 300) (a, b) = (Nat.gcd a b, 0) := itr_end hs
      rw [e]
      exact ⟨_, rfl, q _ e1⟩
theorem ev_str_int {σ : L2.St} {H : Hp} {te : TE} {i : Int} (h : Ev te σ H (.int i)) (l : i.natAbs.log2 < 1920) : Ev (tCB (fun xs H Q => ∃ i : Int, xs = [.int i] ∧ i.natAbs.log2 < 1920 ∧ Q (.str (toString i)) H) (tCons te tNil)) σ H (.str (Str.ofString (toString i))) := fun H1 e Q q =>
  h H1 e _ fun H2 e2 => ⟨i, rfl, l, q H2 e2⟩
def spLText : Sp := fun vs H Q _ => ∃ a b : Int, vs = [.int a, .int b] ∧ 0 < b ∧ a.natAbs < 2 ^ 140 ∧ b.natAbs < 2 ^ 140 ∧ ∀ H2, Ex H H2 → Q (.str (ratS (Rat.divInt a b))) H2
abbrev s__law_text : Stmt := topS 23
theorem sc__law_text : FnScope ["_law_a", "_law_b", "_law_size"] ["_law_a", "_law_b"] (defScope s__law_text) := ⟨rfl, rfl, rfl, by decide +kernel, rfl, by decide +kernel, by decide +kernel⟩
theorem ok_text {f : Addr} {fd : FuncData} (F : Fun K "_law_text" "_law_text" s__law_text f fd) (T : RTxt K mg C) (D : DTxt K mg) (c__law_divisor : CalF P w K mg base 1 "_law_divisor" spDiv []) : FnOk P w K mg base CX0 2 f fd ["_law_a", "_law_b"] spLText := by
  refine F.ok sc__law_text (fun vs H Q E h => ?_) (fun cdv A outer s H vs Q E hr h => ?_)
  · obtain ⟨a, b, rfl, _⟩ := h
    rfl
  · obtain ⟨a, b, rfl, b0, ha, hb, q⟩ := h
    refine ⟨_, (pss_cons (ps_set (i := 2) sc__law_text.nd rfl (Or.inl rfl) (pe_cF c__law_divisor hr (by decide) rfl (pa_cons (pe_callB call_abs (by rfl) T.z_abs (by decide +kernel) (pa_cons (pv 0) pa_nil)) (pa_cons (pv 1) pa_nil))))
      (pss_one (ps_ret (pe_ifExp (pt_cmpR op_eq (pv 1) (pv 2) (nomark _)) (pe_callTy call_str_int (by rfl) D.z_str (by decide +kernel) (pa_cons (pe_op op_fdivZ (pv 0) (pv 2)) pa_nil)) (pe_op op_add_str (pe_op op_add_str (pe_callTy call_str_int (by rfl) D.z_str (by decide +kernel) (pa_cons (pe_op op_fdivZ (pv 0) (pv 2)) pa_nil)) pe_str) (pe_callTy call_str_int (by rfl) D.z_str (by decide +kernel) (pa_cons (pe_op op_fdivZ (pv 1) (pv 2)) pa_nil))))))), ?_⟩
    have nb : b ≠ 0 := by omega
    have eb : b = ((b.natAbs : Nat) : Int) := by omega
    have gp := gcd_pos (t := a) nb
    have gle : Nat.gcd a.natAbs b.natAbs ≤ b.natAbs := Nat.gcd_le_right _ (by omega)
    have sg : sgn b (Nat.gcd a.natAbs b.natAbs) = ((Nat.gcd a.natAbs b.natAbs : Nat) : Int) := by unfold sgn; rw [if_neg (by omega)]
    have e1 := num_is (t := a) nb
    have e2 := den_is (t := a) nb
    rw [sg] at e1 e2
    have n1 := num_le (t := a) nb
    have n2 := den_le (t := a) nb
    generalize hq : Rat.divInt a b = qq at e1 e2 n1 n2 q
    generalize hg : Nat.gcd a.natAbs b.natAbs = g at e1 e2 gp gle
    have lgA : ∀ i : Int, i.natAbs < 2 ^ 140 → i.natAbs.log2 < 1920 := fun i h => PySem.Flt.log2_lt_of (by decide) (Nat.lt_of_lt_of_le h (Nat.pow_le_pow_right (by decide) (by decide)))
    have dz : CDivZ a (g : Nat) ∧ CDivZ b (g : Nat) := by
      have l : ((g : Nat) : Int).natAbs.log2 < 9000 := by
        rw [Int.natAbs_natCast]
        exact PySem.Flt.log2_lt_of (by decide) (Nat.lt_of_le_of_lt gle (Nat.lt_of_lt_of_le hb (Nat.pow_le_pow_right (by decide) (by decide))))
      exact ⟨⟨by omega, l⟩, ⟨by omega, l⟩⟩
    have dv : ((g : Nat) : Int) ∣ b := by
      rw [← hg, eb]
      exact Int.natCast_dvd_natCast.mpr (Nat.gcd_dvd_right _ _)
    have eg : ((g : Nat) : Int) * (b.fdiv (g : Nat)) = b := Int.mul_fdiv_cancel' dv
    have lA := int_len (k := 0) qq.num (Nat.lt_of_le_of_lt n1 (Nat.lt_of_lt_of_le ha (Nat.pow_le_pow_right (by decide) (by decide))))
    have lB := int_len (k := 0) (qq.den : Int) (by rw [Int.natAbs_natCast]; exact Nat.lt_of_le_of_lt n2 (Nat.lt_of_lt_of_le hb (Nat.pow_le_pow_right (by decide) (by decide))))
    refine q_asg (v := .int (g : Nat)) (ev_call (ea_cons (ev_is (ev_absI (ev_var rfl)) (by rw [absI_nat])) (ea_cons (ev_is (ev_var rfl) (congrArg V.int eb)) ea_nil)) (fun H1 e1 Q1 q1 E1 => ⟨a.natAbs, b.natAbs, rfl, .inl ha, fun H2 e2 => by rw [hg]; exact q1 H2 e2⟩)) fun H1 x1 => ?_
    refine s_ret (v := .str (ratS qq)) (ev_if (et_test (ev_op (ev_var rfl) (ev_var rfl) (rv_eq rfl))) (fun h => ?_) (fun h => ?_)) fun H2 x2 => q H2 (x1.trans x2)
    · have h1 : b = (g : Nat) := V.int.inj (of_decide_eq_true h)
      have d1 : qq.den = 1 := by
        rw [← h1] at e2 eg
        have : b.fdiv b = 1 := Int.fdiv_self nb
        omega
      refine ev_is (ev_str_int (ev_op (ev_var rfl) (ev_var rfl) (rv_I dz.1)) (by rw [e1]; exact lgA _ (Nat.lt_of_le_of_lt n1 ha))) ?_
      rw [e1]
      refine congrArg V.str (ext_tl ?_)
      rw [tl_int]
      show _ = ratL qq
      unfold ratL
      rw [if_pos d1, List.append_nil]
    · have d1 : ¬ qq.den = 1 := fun z => of_decide_eq_false h (by rw [e2, z] at eg; rw [← eg]; simp)
      refine ev_is (ev_op (ev_op (ev_str_int (ev_op (ev_var rfl) (ev_var rfl) (rv_I dz.1)) (by rw [e1]; exact lgA _ (Nat.lt_of_le_of_lt n1 ha))) ev_c (rv_addS ?_)) (ev_str_int (ev_op (ev_var rfl) (ev_var rfl) (rv_I dz.2)) (by rw [e2]; exact lgA _ (by rw [Int.natAbs_natCast]; exact Nat.lt_of_le_of_lt n2 hb))) (rv_addS ?_)) ?_
      · rw [e1, len_tl, tl_int, len_tl, sl1]
        simp only [List.length_cons, List.length_nil]
        omega
      · rw [e1, e2, len_tl, tl_append, tl_int, sl1, len_tl (Str.ofString (toString ((qq.den : Nat) : Int))), tl_int, List.length_append]
        simp only [List.length_cons, List.length_nil]
        omega
      · rw [e1, e2]
        refine congrArg V.str (ext_tl ?_)
        rw [tl_append, tl_append, tl_int, tl_int, sl1]
        show _ = ratL qq
        unfold ratL
        rw [if_neg d1, List.append_assoc]
        have : intL ((qq.den : Nat) : Int) = numL qq.den := by
          unfold intL sgL
          rw [if_neg (by omega), Int.natAbs_natCast]
          rfl
        rw [this]
        rfl
end
/-! a part of digits, a text of a ratio -/
theorem dp_strs {K : PySem.W.Frag} {H : Hp} : ∀ xs : List Str, DpAll K H (xs.map V.str) (xs.map PyData.str)
  | [] => .nil
  | x :: r => .cons (.str x) (dp_strs r)
def Asc (z : Str) : Prop := ∀ c ∈ tl z, c < 128
theorem asc_ok {z : Str} (h : Asc z) : PyData.strOk z = true := by
  unfold PyData.strOk
  rw [← Array.all_toList, List.all_eq_true]
  intro c hc
  exact decide_eq_true (Nat.lt_trans (h c hc) (by decide))
theorem lay_strs : ∀ xs : List Str, (∀ x ∈ xs, Asc x) → PyData.canLayAll0 (xs.map PyData.str) = true
  | [], _ => rfl
  | x :: r, h => by
    show (PyData.canLay0 (.str x) && PyData.canLayAll0 (r.map PyData.str)) = true
    rw [lay_strs r fun y hy => h y (.tail _ hy), show PyData.canLay0 (.str x) = PyData.strOk x from rfl, asc_ok (h x (.head _))]
    rfl
theorem dep_strs : ∀ xs : List Str, PyData.depthAll (xs.map PyData.str) ≤ 1
  | [] => by decide
  | x :: r => by
    have h := dep_strs r
    show max (PyData.depth (.str x)) (PyData.depthAll (r.map PyData.str)) ≤ 1
    have : PyData.depth (.str x) ≤ 1 := by show 0 ≤ 1; decide
    omega
theorem shaped_strs (xs : List Str) (h : ∀ x ∈ xs, Asc x) : SeqAt.shaped (.list (xs.map PyData.str)) = true := by
  unfold SeqAt.shaped
  rw [Bool.and_eq_true]
  refine ⟨lay_strs xs h, decide_eq_true ?_⟩
  have h := dep_strs xs
  show PyData.depthAll (xs.map PyData.str) + 1 ≤ 64
  omega
theorem eqv_nilD : ∀ ds : List PyData, PyData.eqv (.list ds) (.list []) = ds.isEmpty
  | [] => rfl
  | x :: r => rfl
/-- a list of texts is not empty -/
theorem et_some {K : PySem.W.Frag} {σ : L2.St} {H : Hp} {te : TE} {xs : List Str} (h : EvL te σ H (xs.map V.str)) (ha : ∀ x ∈ xs, Asc x) : EvT (tTest (tOp (rNeD K) te (tLst tNil))) σ H (!xs.isEmpty) :=
  et_test (ev_is (ev_opLL (z := .bl (!PyData.eqv (.list (xs.map PyData.str)) (.list []))) h (el_lst ea_nil (by simp)) (fun p q H4 h1 h2 _ H5 e5 Q' q' => ⟨_, .list [], .lst (sq_of (e5 _ _ h1)) (dp_strs xs), .lst (sq_of (e5 _ _ h2)) .nil, shaped_strs xs ha, by decide, q' H5 (Ex.refl H5)⟩)) (by rw [eqv_nilD]; cases xs <;> rfl))
section
variable {P : Program} {w : World} {K : PySem.W.Frag} {mg : Str → Option Value} {base : Heap} {C CY CZ : Addr}
def spWhole : Sp := fun vs H Q _ => ∃ z : Str, vs = [.str z] ∧ z.length ≤ 1000 ∧ Asc z ∧ ∀ (b : Bool) H2, Ex H H2 → (b = true ↔ wholeL (tl z)) → Q (.bl b) H2
abbrev s__law_whole : Stmt := topS 24
theorem sc__law_whole : FnScope ["_law_prose", "_law_sign"] ["_law_prose"] (defScope s__law_whole) := ⟨rfl, rfl, rfl, by decide +kernel, rfl, by decide +kernel, by decide +kernel⟩
theorem ok_whole {f : Addr} {fd : FuncData} (F : Fun K "_law_whole" "_law_whole" s__law_whole f fd) (T : RTxt K mg C) : FnOk P w K mg base CX0 1 f fd ["_law_prose"] spWhole := by
  refine F.ok sc__law_whole (fun vs H Q E h => ?_) (fun cdv A outer s H vs Q E hr h => ?_)
  · obtain ⟨z, rfl, _⟩ := h
    rfl
  · obtain ⟨z, rfl, hz, hA, q⟩ := h
    refine ⟨_, (pss_cons (ps_if (PW.pt (pw_or (pt_cmpR op_eq (pv 0) pe_str (nomark _)) (pw_or1 (pt_cmpR (op_neD hr.units) (pe_lc (own := [("_law_sign", 1)]) rfl sc__law_whole.nd (pi_str (pv 0)) (blkOk_by (own := [("_law_sign", 1)]) (N := ["_law_prose", "_law_sign"]) (sc := defScope s__law_whole) (by decide +kernel)) (fun _ _ _ _ _ => (pg_name (i := 1) sc__law_whole.nd rfl (Or.inl rfl))) (fun _ _ _ _ _ => (pts_one (pt_cmpR op_notIn_sign (pv 1) pe_str rfl))) (fun _ _ _ _ _ => (pv 1))) (pe_lst pa_nil) (nomark _)))))
        (pss_one (ps_ret pe_bl))
        pss_nil)
      (pss_one (ps_ret (pe_or (pe_cmpR op_eq (pv 0) pe_str (nomark _)) (pe_one (pe_cmpR op_ne (pe_ix ix_str (pv 0) pe_int (fun _ _ => rfl)) pe_str (nomark _))))))), ?_⟩
    have hz' : z.cps.size ≤ 40000 := by
      have : z.length = z.cps.size := rfl
      omega
    have hlen : z.cps.toList.length = z.cps.size := Array.length_toList
    have lz : EvL (tLc (iStr (tVar 0)) (gName 1) (tTest (tOp (fun x y H Q => ∃ (c : Nat) (z : Str), x = .str ⟨#[c]⟩ ∧ y = .str z ∧ Q (.bl (!decide (c ∈ z.cps.toList))) H) (tVar 1) (tC (.str "0123456789")))) (tVar 1) [1]) (start ["_law_prose", "_law_sign"] [.str z]) H
        ((((List.range z.cps.size).filter (fun i => !decide (z.cps.toList.getD i 0 ∈ DIG))).map (fun i => (⟨#[z.cps.toList.getD i 0]⟩ : Str))).map V.str) := by
      rw [List.map_map]
      exact el_lcS (fun i => !decide (z.cps.toList.getD i 0 ∈ DIG)) (fun i => V.str ⟨#[z.cps.toList.getD i 0]⟩) (ev_var (i := 0) rfl) hz' (fun x => rfl)
        (fun i c H1 _ hc => et_test (ev_op (ev_var (i := 1) (v := .str ⟨#[c]⟩) rfl) ev_c (rv_val fun H2 _ Q' q' => ⟨c, _, rfl, rfl, by rw [getD_of hc] at q'; exact q'⟩)))
        (fun i c H1 _ hc _ => by rw [getD_of hc]; exact ev_var (i := 1) rfl)
    have alld : (((List.range z.cps.size).filter (fun i => !decide (z.cps.toList.getD i 0 ∈ DIG))).map (fun i => (⟨#[z.cps.toList.getD i 0]⟩ : Str))).isEmpty = true ↔ AllDigits (tl z) := by
      rw [List.isEmpty_iff, List.map_eq_nil_iff, List.filter_eq_nil_iff]
      constructor
      · intro h c hc
        obtain ⟨i, hi, e⟩ := List.mem_iff_getElem.mp hc
        have := h i (List.mem_range.mpr (by rw [← hlen]; exact hi))
        have eg : z.cps.toList.getD i 0 = c := by rw [List.getD_eq_getElem?_getD, List.getElem?_eq_getElem hi]; exact e
        rw [eg] at this
        exact (dig_mem c).mp (by simpa using this)
      · intro h i hi
        have hi' : i < z.cps.toList.length := by rw [hlen]; exact List.mem_range.mp hi
        have eg : z.cps.toList.getD i 0 = z.cps.toList[i] := by rw [List.getD_eq_getElem?_getD, List.getElem?_eq_getElem hi']; rfl
        rw [eg]
        have := (dig_mem _).mpr (h _ (List.getElem_mem hi'))
        simpa using this
    have ba : ∀ x ∈ (((List.range z.cps.size).filter (fun i => !decide (z.cps.toList.getD i 0 ∈ DIG))).map (fun i => (⟨#[z.cps.toList.getD i 0]⟩ : Str))), Asc x := by
      intro x hx c hc
      obtain ⟨i, hi, rfl⟩ := List.mem_map.mp hx
      have hi' : i < z.cps.toList.length := by rw [hlen]; exact List.mem_range.mp (List.mem_filter.mp hi).1
      have eg : z.cps.toList.getD i 0 = z.cps.toList[i] := by rw [List.getD_eq_getElem?_getD, List.getElem?_eq_getElem hi']; rfl
      rw [List.mem_singleton.mp (show c ∈ [z.cps.toList.getD i 0] from hc), eg]
      exact hA _ (List.getElem_mem hi')
    generalize (((List.range z.cps.size).filter (fun i => !decide (z.cps.toList.getD i 0 ∈ DIG))).map (fun i => (⟨#[z.cps.toList.getD i 0]⟩ : Str))) = bad at lz alld ba
    refine q_when (b := decide (V.str z = V.str "") || !bad.isEmpty) (et_or (et_test (ev_op (ev_var rfl) ev_c (rv_eq rfl))) (fun _ => et_some lz ba)) (fun hb H1 e1 => ?_) (fun hb H1 e1 => ?_)
    · refine q false H1 e1 ⟨fun h => (Bool.false_ne_true h).elim, fun hw => ?_⟩
      have b2 := alld.mpr hw.2.1
      rw [b2, decide_eq_false (fun z0 => hw.1 (by rw [V.str.inj z0]; exact em))] at hb
      cases hb
    · rw [Bool.or_eq_false_iff] at hb
      obtain ⟨b1, b2⟩ := hb
      have ad := alld.mp (by simpa using b2)
      obtain ⟨c, r, ec⟩ : ∃ c r, tl z = c :: r := by
        cases e : tl z with
        | nil => exact absurd (congrArg V.str (ext_tl (e.trans em.symm))) (of_decide_eq_false b1)
        | cons c r => exact ⟨c, r, rfl⟩
      refine s_ret (ev_orV (ev_op (ev_var rfl) ev_c (rv_eq rfl)) (fun _ => ev_op (ev_op (ev_var rfl) ev_c (rv_ixS (c := c) (by omega) ?_)) ev_c (rv_ne rfl))) fun H2 e2 => q _ _ (e1.trans e2) ?_
      · show atI (tl z) ((0 : Nat) : Int) = some c
        exact atI_nat (by rw [ec]; rfl)
      · have z48 : tl (Str.ofString "0") = [48] := by decide +kernel
        have s48 : decide (V.str z = V.str "0") = true ↔ tl z = [48] := by
          rw [decide_eq_true_eq]
          exact ⟨fun h => by rw [V.str.inj h]; exact z48, fun h => congrArg V.str (ext_tl (h.trans z48.symm))⟩
        have c48 : (!decide (V.str ⟨#[c]⟩ = V.str "0")) = true ↔ c ≠ 48 := by
          rw [Bool.not_eq_true', decide_eq_false_iff_not]
          refine not_congr ⟨fun h => ?_, fun h => ?_⟩
          · have := congrArg tl (V.str.inj h)
            rw [z48] at this
            exact (List.cons.inj this).1
          · exact congrArg V.str (ext_tl (by rw [z48, h]))
        rw [Bool.or_eq_true, s48, c48]
        unfold wholeL
        rw [ec]
        constructor
        · intro h
          refine ⟨by simp, by rw [← ec]; exact ad, h.imp id fun h e => h (Option.some.inj e)⟩
        · rintro ⟨_, _, h⟩
          exact h.imp id fun h e => h (by rw [e]; rfl)
end
noncomputable def wholeB (l : List Nat) : Bool := @decide (wholeL l) (Classical.propDecidable _)
theorem wholeB_iff (l : List Nat) : wholeB l = true ↔ wholeL l := @decide_eq_true_iff _ (Classical.propDecidable _)
theorem whole_sp {H : Hp} {z : Str} (l : z.length ≤ 1000) (a : Asc z) : SpV spWhole [.str z] H (.bl (wholeB (tl z))) := fun H1 e Q q E => ⟨z, rfl, l, a, fun b H2 e2 hb => by
  have : b = wholeB (tl z) := Bool.eq_iff_iff.mpr (hb.trans (wholeB_iff _).symm)
  rw [this]
  exact q H2 e2⟩
def spIsT : Sp := fun vs H Q _ => ∃ z : Str, vs = [.str z] ∧ z.length ≤ 84 ∧ Asc z ∧ ∀ (b : Bool) H2, Ex H H2 → (b = true ↔ isTextL (tl z)) → Q (.bl b) H2
theorem spl_sum : ∀ x : List Nat, ∀ p ∈ spl [47] 0 [] x, p.length ≤ x.length ∧ ∀ c ∈ p, c ∈ x := by
  intro x
  induction hn : x.length using Nat.strongRecOn generalizing x with
  | _ n ih =>
    intro p hp
    rcases spl_cases x with ⟨_, e⟩ | ⟨p0, r, e, _, e2⟩
    · rw [e] at hp
      rw [List.mem_singleton.mp hp]
      exact ⟨by omega, fun c hc => hc⟩
    · rw [e2] at hp
      have lx : x.length = p0.length + (r.length + 1) := by rw [e, List.length_append, List.length_cons]
      rcases List.mem_cons.mp hp with h | h
      · rw [h]
        exact ⟨by omega, fun c hc => by rw [e]; exact List.mem_append_left _ hc⟩
      · have := ih r.length (by omega) r rfl p h
        exact ⟨by omega, fun c hc => by rw [e]; exact List.mem_append_right _ (.tail _ (this.2 c hc))⟩
theorem spl_count : ∀ x : List Nat, (spl [47] 0 [] x).length ≤ x.length + 1 := by
  intro x
  induction hn : x.length using Nat.strongRecOn generalizing x with
  | _ n ih =>
    rcases spl_cases x with ⟨_, e⟩ | ⟨p0, r, e, _, e2⟩
    · rw [e]
      simp
    · have lx : x.length = p0.length + (r.length + 1) := by rw [e, List.length_append, List.length_cons]
      have := ih r.length (by omega) r rfl
      rw [e2, List.length_cons]
      omega
theorem spl_two {x a b : List Nat} (h : spl [47] 0 [] x = [a, b]) : a.length + b.length + 1 = x.length := by
  rcases spl_cases x with ⟨_, e⟩ | ⟨p, r, e, _, e2⟩
  · rw [e] at h
    cases h
  · rcases spl_cases r with ⟨_, e3⟩ | ⟨p2, r2, _, _, e3⟩
    · rw [e2, e3] at h
      cases h
      rw [e, List.length_append, List.length_cons]
      omega
    · rw [e2, e3] at h
      injection h with _ h
      injection h with _ h
      exact (spl_ne _ _ _ h).elim
section
variable {P : Program} {w : World} {K : PySem.W.Frag} {mg : Str → Option Value} {base : Heap} {C CY CZ : Addr}
abbrev s__law_is_text : Stmt := topS 25
theorem sc__law_is_text : FnScope ["_law_prose", "_law_bare", "_law_parts", "_law_part"] ["_law_prose"] (defScope s__law_is_text) := ⟨rfl, rfl, rfl, by decide +kernel, rfl, by decide +kernel, by decide +kernel⟩
theorem ok_is_text {f : Addr} {fd : FuncData} (F : Fun K "_law_is_text" "_law_is_text" s__law_is_text f fd) (T : RTxt K mg C) (c__law_whole : CalF P w K mg base 1 "_law_whole" spWhole []) (c__law_divisor : CalF P w K mg base 1 "_law_divisor" spDiv []) : FnOk P w K mg base CX0 2 f fd ["_law_prose"] spIsT := by
  refine F.ok sc__law_is_text (fun vs H Q E h => ?_) (fun cdv A outer s H vs Q E hr h => ?_)
  · obtain ⟨z, rfl, _⟩ := h
    rfl
  · obtain ⟨z, rfl, hz, hA, q⟩ := h
    refine ⟨_, (pss_cons (ps_set (i := 1) sc__law_is_text.nd rfl (Or.inl rfl) (pe_ifExp (pt_cmpR op_eq (pe_slice sl_str (pv 0) po_none (po_some pe_int)) pe_str (nomark _)) (pe_slice sl_str (pv 0) (po_some pe_int) po_none) (pv 0)))
      (pss_cons (ps_set (i := 2) sc__law_is_text.nd rfl (Or.inl rfl) (pe_m1 PySem.F.slot_str_split PySem.F.type_str_split mt_split (pv 1) pe_str))
      (pss_cons (ps_if (PW.pt (pw_or (pt_cmpR op_gt (pe_callB call_len_seq (by rfl) T.z_len (by decide +kernel) (pa_cons (pv 2) pa_nil)) pe_int (nomark _)) (pw_or1 (pt_cmpR (op_neD hr.units) (pe_lc (own := [("_law_part", 3)]) rfl sc__law_is_text.nd (pi_list (pv 2)) (blkOk_by (own := [("_law_part", 3)]) (N := ["_law_prose", "_law_bare", "_law_parts", "_law_part"]) (sc := defScope s__law_is_text) (by decide +kernel)) (fun _ _ _ _ _ => (pg_name (i := 3) sc__law_is_text.nd rfl (Or.inl rfl))) (fun _ _ _ _ _ => (pts_one (pt_not (pt_val (pe_cF c__law_whole hr (by decide) rfl (pa_cons (pv 3) pa_nil)))))) (fun _ _ _ _ _ => (pv 3))) (pe_lst pa_nil) (nomark _)))))
        (pss_one (ps_ret pe_bl))
        pss_nil)
      (pss_cons (ps_if (pt_cmpR op_eq (pe_ix ix_list (pv 2) pe_int (fun _ _ => rfl)) pe_str (nomark _))
        (pss_one (ps_ret (pe_cmpR op_eq (pv 0) pe_str (nomark _))))
        pss_nil)
      (pss_one (ps_ret (pe_or (pe_cmpR op_eq (pe_callB call_len_seq (by rfl) T.z_len (by decide +kernel) (pa_cons (pv 2) pa_nil)) pe_int (nomark _)) (pe_one (pe_and (pe_cmpR op_gt (pe_callTy call_int_str (by rfl) T.z_int (by decide +kernel) (pa_cons (pe_ix ix_list (pv 2) pe_int (fun _ _ => rfl)) pa_nil)) pe_int (nomark _)) (pe_one (pe_cmpR op_eq (pe_cF c__law_divisor hr (by decide) rfl (pa_cons (pe_callTy call_int_str (by rfl) T.z_int (by decide +kernel) (pa_cons (pe_ix ix_list (pv 2) pe_int (fun _ _ => rfl)) pa_nil)) (pa_cons (pe_callTy call_int_str (by rfl) T.z_int (by decide +kernel) (pa_cons (pe_ix ix_list (pv 2) pe_int (fun _ _ => rfl)) pa_nil)) pa_nil))) pe_int (nomark _)))))))))))), ?_⟩
    have lz := len_tl z
    obtain ⟨Bz, hB⟩ : ∃ Bz : Str, tl Bz = bareL (tl z) := ⟨⟨(bareL (tl z)).toArray⟩, rfl⟩
    have lB : Bz.length ≤ 84 := by rw [len_tl, hB]; have := bare_len (tl z); omega
    refine q_asg (v := .str Bz) (ev_if (b := decide ((tl z).head? = some 45)) (et_is (et_test (ev_op (ev_slS (ev_var rfl) eo_none (eo_some (ev_c (v := .int 1))) (by omega)) ev_c (rv_eq rfl))) ?t1) (fun h => ev_is (ev_slS (ev_var rfl) (eo_some (ev_c (v := .int 1))) eo_none (by omega)) ?t2) (fun h => ev_is (ev_var rfl) ?t3)) fun H1 e1 => ?_
    case t1 =>
      refine decide_eq_decide.mpr ?_
      have c1 : tl (cutS z none (some 1)) = (tl z).take (min 1 z.length) := tl_cut0 z 1
      constructor
      · intro h
        have h2 := congrArg tl (V.str.inj h)
        rw [c1, mi] at h2
        cases e : tl z with
        | nil => rw [e] at h2; simp at h2
        | cons c r =>
          rw [e, show min 1 z.length = 1 by rw [lz, e, List.length_cons]; omega] at h2
          exact congrArg some (List.cons.inj h2).1
      · intro h
        refine congrArg V.str (ext_tl ?_)
        rw [c1, mi]
        cases e : tl z with
        | nil => rw [e] at h; cases h
        | cons c r =>
          rw [e] at h
          cases h
          rw [show min 1 z.length = 1 by rw [lz, e, List.length_cons]; omega]
          rfl
    case t2 =>
      refine congrArg V.str (ext_tl ?_)
      rw [hB]
      rcases bare_sg (tl z) with ⟨_, e⟩ | ⟨n, _⟩
      · show tl (cutS z (some ((1 : Nat) : Int)) none) = _
        unfold cutS
        rw [HT.sIx_nat, HT.sIx_none]
        show ((tl z).drop _).take _ = _
        have l1 : min 1 z.length = 1 := by rw [lz, e, List.length_cons]; omega
        rw [l1]
        conv => lhs; rw [e]
        rw [List.drop_one, List.tail_cons]
        exact List.take_of_length_le (by rw [lz]; conv => rhs; rw [e]
                                         rw [List.length_cons]; omega)
      · exact absurd (of_decide_eq_true h) n
    case t3 =>
      refine congrArg V.str (ext_tl ?_)
      rw [hB]
      rcases bare_sg (tl z) with ⟨y, _⟩ | ⟨_, e⟩
      · exact absurd y (of_decide_eq_false h)
      · exact e
    -- the parts
    have hk : ¬ Builtin.Str.strKind Bz < Builtin.Str.strKind (Str.ofString "/") := kind_ok (by decide +kernel)
    have hsp : (Txt.split Bz "/").map tl = spl [47] 0 [] (bareL (tl z)) := by
      rw [split_spl Bz "/" (by rw [sl1]; simp) hk, sl1, hB]
    refine q_asgL (xs := (Txt.split Bz "/").map V.str) (fun H2 e2 Q2 q2 => ⟨.str Bz, rfl, ⟨_, rfl⟩, Bz, "/", rfl, rfl, by decide +kernel, sz_of (by omega), fun p hp => q2 p _ hp (Ex.new hp) upd_same⟩) fun Pa H2 n2 e2 h2 => ?_
    generalize Txt.split Bz "/" = ys at hsp h2
    have hall : ∀ y ∈ ys, (tl y).length ≤ 84 ∧ Asc y := fun y hy => by
      have := spl_sum (bareL (tl z)) (tl y) (by rw [← hsp]; exact List.mem_map_of_mem hy)
      refine ⟨by have := bare_len (tl z); omega, fun c hc => hA c ?_⟩
      have := this.2 c hc
      rcases bare_sg (tl z) with ⟨_, e⟩ | ⟨_, e⟩
      · rw [e]; exact .tail _ this
      · rw [e]; exact this
    have hne : ys ≠ [] := fun e => by rw [e] at hsp; exact spl_ne _ _ _ hsp.symm
    have lys : ys.length ≤ 85 := by
      have h1 := spl_count (bareL (tl z))
      have h2 := bare_len (tl z)
      rw [← hsp, List.length_map] at h1
      omega
    have x2 := e1.trans e2
    have lc : EvL (tLc (iList K (tVar 2)) (gName 3) (tNot (tB (tCall spWhole [] E0 (tCons (tVar 3) tNil)))) (tVar 3) [3]) (((start ["_law_prose", "_law_bare", "_law_parts", "_law_part"] [.str z]).set 1 (some (.str Bz))).set 2 (some (.ref Pa))) H2
        ((((List.range ys.length).filter (fun i => !wholeB (tl (ys.getD i "")))).map (fun i => ys.getD i "")).map V.str) := by
      rw [List.map_map]
      have g := el_lcL (K := K) (σ := (((start ["_law_prose", "_law_bare", "_law_parts", "_law_part"] [.str z]).set 1 (some (.str Bz))).set 2 (some (.ref Pa)))) (H := H2) (tl := tVar 2) (j := 3) (vs := [3]) (t := tNot (tB (tCall spWhole [] E0 (tCons (tVar 3) tNil)))) (te := tVar 3) (xs := ys.map V.str) (fun i => !wholeB (tl (ys.getD i ""))) (fun i => V.str (ys.getD i "")) (ev_var rfl) (sq_of h2) (by rw [List.length_map]; omega) (fun x => rfl)
        (fun i x H3 _ hi => by
          rw [List.getElem?_map] at hi
          cases e : ys[i]? with
          | none => rw [e] at hi; cases hi
          | some y =>
            rw [e] at hi
            cases hi
            have eg : ys.getD i "" = y := by rw [List.getD_eq_getElem?_getD, e]; rfl
            rw [eg]
            have hy := hall y (List.mem_of_getElem? e)
            exact et_not (et_B (ev_call (ea_cons (ev_var rfl) ea_nil) (whole_sp (by rw [len_tl]; omega) hy.2))))
        (fun i x H3 _ hi _ => by
          rw [List.getElem?_map] at hi
          cases e : ys[i]? with
          | none => rw [e] at hi; cases hi
          | some y =>
            rw [e] at hi
            cases hi
            have eg : ys.getD i "" = y := by rw [List.getD_eq_getElem?_getD, e]; rfl
            rw [eg]
            exact ev_var rfl)
      rw [List.length_map] at g
      exact g
    have allw : (((List.range ys.length).filter (fun i => !wholeB (tl (ys.getD i "")))).map (fun i => ys.getD i "")).isEmpty = true ↔ ∀ p ∈ spl [47] 0 [] (bareL (tl z)), wholeL p := by
      rw [List.isEmpty_iff, List.map_eq_nil_iff, List.filter_eq_nil_iff, ← hsp]
      constructor
      · intro h p hp
        obtain ⟨y, hy, rfl⟩ := List.mem_map.mp hp
        obtain ⟨i, hi, e⟩ := List.mem_iff_getElem.mp hy
        have := h i (List.mem_range.mpr hi)
        have eg : ys.getD i "" = y := by rw [List.getD_eq_getElem?_getD, List.getElem?_eq_getElem hi]; exact e
        rw [eg] at this
        exact (wholeB_iff _).mp (by simpa using this)
      · intro h i hi
        have hi' := List.mem_range.mp hi
        have eg : ys.getD i "" = ys[i] := by rw [List.getD_eq_getElem?_getD, List.getElem?_eq_getElem hi']; rfl
        rw [eg]
        have := (wholeB_iff _).mpr (h _ (List.mem_map_of_mem (List.getElem_mem hi')))
        simpa using this
    have ba : ∀ x ∈ (((List.range ys.length).filter (fun i => !wholeB (tl (ys.getD i "")))).map (fun i => ys.getD i "")), Asc x := by
      intro x hx
      obtain ⟨i, hi, rfl⟩ := List.mem_map.mp hx
      have hi' := List.mem_range.mp (List.mem_filter.mp hi).1
      have eg : ys.getD i "" = ys[i] := by rw [List.getD_eq_getElem?_getD, List.getElem?_eq_getElem hi']; rfl
      rw [eg]
      exact (hall _ (List.getElem_mem hi')).2
    generalize (((List.range ys.length).filter (fun i => !wholeB (tl (ys.getD i "")))).map (fun i => ys.getD i "")) = bad at lc allw ba
    have hlen : (spl [47] 0 [] (bareL (tl z))).length = ys.length := by rw [← hsp, List.length_map]
    refine q_when (b := decide ((ys.length : Int) > 2) || !bad.isEmpty) (et_or (et_is (et_test (ev_op (ev_len (ev_var rfl) (sq_of h2)) ev_c rv_I0)) (by rw [List.length_map])) (fun _ => et_some lc ba)) (fun hb H3 e3 => ?_) (fun hb H3 e3 => ?_)
    · refine q false H3 (x2.trans e3) ⟨fun h => (Bool.false_ne_true h).elim, fun hw => ?_⟩
      have l := hw.1
      rw [hlen] at l
      rw [allw.mpr hw.2.1, decide_eq_false (by omega)] at hb
      cases hb
    · rw [Bool.or_eq_false_iff] at hb
      obtain ⟨b1, b2⟩ := hb
      have l2 : ys.length ≤ 2 := by have := of_decide_eq_false b1; omega
      have hw := allw.mp (by simpa using b2)
      have z48 : tl (Str.ofString "0") = [48] := by decide +kernel
      have s48 : ∀ s' : Str, decide (V.str s' = V.str "0") = true ↔ tl s' = [48] := fun s' => by
        rw [decide_eq_true_eq]
        exact ⟨fun h => by rw [V.str.inj h]; exact z48, fun h => congrArg V.str (ext_tl (h.trans z48.symm))⟩
      obtain ⟨y0, yr, rfl⟩ : ∃ y0 yr, ys = y0 :: yr := by
        cases ys with
        | nil => exact (hne rfl).elim
        | cons y0 yr => exact ⟨y0, yr, rfl⟩
      have hd0 : (spl [47] 0 [] (bareL (tl z))).head? = some [48] ↔ tl y0 = [48] := by
        rw [← hsp]
        exact ⟨fun h => Option.some.inj h, fun h => congrArg some h⟩
      have h3 := e3 _ _ h2
      refine q_when (et_test (ev_op (ev_op (ev_var rfl) ev_c (rv_ixL (sq_of h3) (atI_nat (j := 0) rfl))) ev_c (rv_eq rfl))) (fun hb H4 e4 => ?_) (fun hb H4 e4 => ?_)
      · have hz0 := (s48 y0).mp hb
        refine s_ret (ev_op (ev_var rfl) ev_c (rv_eq rfl)) fun H5 e5 => q _ _ (((x2.trans e3).trans e4).trans e5) ?_
        rw [s48]
        unfold isTextL
        rw [if_pos (hd0.mpr hz0), hlen]
        exact ⟨fun h => ⟨l2, hw, h⟩, fun h => h.2.2⟩
      · have hz0 : ¬ tl y0 = [48] := fun h => by rw [(s48 y0).mpr h] at hb; cases hb
        have nh : ¬ (spl [47] 0 [] (bareL (tl z))).head? = some [48] := fun h => hz0 (hd0.mp h)
        have h4 := e4 _ _ h3
        cases yr with
        | nil =>
          refine s_ret (ev_orV (a := true) (b := false) (ev_is (ev_op (ev_len (ev_var rfl) (sq_of h4)) ev_c (rv_eq rfl)) rfl) (fun h => by cases h)) fun H5 e5 => q _ _ (((x2.trans e3).trans e4).trans e5) ⟨fun _ => ?_, fun _ => rfl⟩
          unfold isTextL
          rw [if_neg nh, hlen]
          exact ⟨l2, hw, .inl rfl⟩
        | cons y1 yr =>
          cases yr with
          | cons y2 yr => simp only [List.length_cons] at l2; omega
          | nil =>
            have es : spl [47] 0 [] (bareL (tl z)) = [tl y0, tl y1] := hsp.symm
            have w0 := hw (tl y0) (by rw [es]; exact .head _)
            have w1 := hw (tl y1) (by rw [es]; exact .tail _ (.head _))
            have ll := spl_two es
            have lb := bare_len (tl z)
            have p0 := dv_lt w0.2.1
            have p1 := dv_lt w1.2.1
            have i0 : ∀ {H5 : Hp}, Ex H4 H5 → Ev (tCB (fun xs H Q => ∃ a n, xs = [.str a] ∧ PySem.intText? a = some n ∧ a.length ≤ 640 ∧ Q (.int n) H) (tCons (tOp (rIxL K) (tVar 2) (tC (.int 0))) tNil)) (((start ["_law_prose", "_law_bare", "_law_parts", "_law_part"] [.str z]).set 1 (some (.str Bz))).set 2 (some (.ref Pa))) H5 (.int ((digitsVal (tl y0) : Nat) : Int)) :=
              fun e5 => ev_int_str (ev_op (ev_var rfl) ev_c (rv_ixL (sq_of (e5 _ _ h4)) (atI_nat (j := 0) rfl))) w0.2.1 w0.1 (by rw [len_tl]; omega)
            have i1 : ∀ {H5 : Hp}, Ex H4 H5 → Ev (tCB (fun xs H Q => ∃ a n, xs = [.str a] ∧ PySem.intText? a = some n ∧ a.length ≤ 640 ∧ Q (.int n) H) (tCons (tOp (rIxL K) (tVar 2) (tC (.int 1))) tNil)) (((start ["_law_prose", "_law_bare", "_law_parts", "_law_part"] [.str z]).set 1 (some (.str Bz))).set 2 (some (.ref Pa))) H5 (.int ((digitsVal (tl y1) : Nat) : Int)) :=
              fun e5 => ev_int_str (ev_op (ev_var rfl) ev_c (rv_ixL (sq_of (e5 _ _ h4)) (atI_nat (j := 1) rfl))) w1.2.1 w1.1 (by rw [len_tl]; omega)
            have p140 : (10 : Nat) ^ 42 ≤ 2 ^ 140 := by decide +kernel
            have sm : digitsVal (tl y0) < 2 ^ 140 ∨ digitsVal (tl y1) < 2 ^ 140 := by
              rcases Nat.lt_or_ge (tl y0).length 43 with h | h
              · exact .inl (Nat.lt_of_lt_of_le p0 (Nat.le_trans (Nat.pow_le_pow_right (by decide) (by omega)) p140))
              · exact .inr (Nat.lt_of_lt_of_le p1 (Nat.le_trans (Nat.pow_le_pow_right (by decide) (by omega)) p140))
            refine s_ret (ev_orV (a := false) (ev_is (ev_op (ev_len (ev_var rfl) (sq_of h4)) ev_c (rv_eq rfl)) rfl) (fun _ => ev_andV (ev_op (i1 (Ex.refl _)) ev_c rv_I0) (fun _ => ev_op (ev_call (ea_cons (i0 (Ex.refl _)) (ea_cons (i1 (Ex.refl _)) ea_nil)) (z := .int ((Nat.gcd (digitsVal (tl y0)) (digitsVal (tl y1)) : Nat) : Int)) (fun H5 e5 Q5 q5 E5 => ⟨_, _, rfl, sm, fun H6 e6 => q5 H6 e6⟩)) ev_c (rv_eq rfl)))) fun H5 e5 => q _ _ (((x2.trans e3).trans e4).trans e5) ?_
            rw [Bool.false_or, Bool.and_eq_true, decide_eq_true_eq, decide_eq_true_eq]
            unfold isTextL
            rw [if_neg nh, hlen, es]
            constructor
            · rintro ⟨g1, g2⟩
              refine ⟨l2, by rw [← es]; exact hw, .inr ⟨_, _, rfl, by omega, ?_⟩⟩
              have := V.int.inj g2
              omega
            · rintro ⟨_, _, h | ⟨a, b, e, g1, g2⟩⟩
              · simp at h
              · injection e with e1' e2'
                injection e2' with e2' _
                subst e1' e2'
                exact ⟨by omega, by rw [g2]; rfl⟩
end

end K06
set_option Elab.async false
set_option linter.all false
set_option maxRecDepth 100000
set_option maxHeartbeats 2000000
namespace K06
open PySem PySem.Spec PyProof.Rows L2 Evl LawK RatK
open Dec TL PySem.NumText StX
/-! ### read or not -/
theorem lt_len {n k : Nat} (h : (numL n).length ≤ k) : n < 10 ^ k := by
  have := dv_lt (numL_digits n)
  rw [numL_val] at this
  exact Nat.lt_of_lt_of_le this (Nat.pow_le_pow_right (by decide) h)
theorem sz_len {q : Rat} (h : (ratL q).length ≤ 400) : Sz 8900 q := by
  have p : (10 : Nat) ^ 400 ≤ 2 ^ 8900 := by
    calc (10 : Nat) ^ 400 ≤ 16 ^ 400 := Nat.pow_le_pow_left (by decide) _
      _ = 2 ^ 1600 := by rw [show (16 : Nat) = 2 ^ 4 from rfl, ← Nat.pow_mul]
      _ ≤ 2 ^ 8900 := Nat.pow_le_pow_right (by decide) (by decide)
  unfold ratL intL at h
  rw [List.length_append, List.length_append] at h
  refine ⟨Nat.lt_of_lt_of_le (lt_len (k := 400) (by omega)) p, ?_⟩
  by_cases d : q.den = 1
  · rw [d]
    exact Nat.lt_of_lt_of_le (by decide) p
  · rw [if_neg d, List.length_cons] at h
    exact Nat.lt_of_lt_of_le (lt_len (k := 400) (by omega)) p
def spLRead (K : PySem.W.Frag) : Sp := fun vs H Q _ => ∃ v, vs = [v] ∧ ((∃ z : Str, v = .str z ∧ z.length ≤ 400 ∧ ∀ x H2, Ex H H2 → ((∃ q, tl z = ratL q) → x = .str z) → ((∀ q, tl z ≠ ratL q) → x = .non) → Q x H2) ∨ (NoStr K H v ∧ ∀ H2, Ex H H2 → Q .non H2))
section
variable {P : Program} {w : World} {K : PySem.W.Frag} {mg : Str → Option Value} {base : Heap} {C CY CZ : Addr}
abbrev s__law_read : Stmt := topS 26
theorem sc__law_read : FnScope ["_law_prose"] ["_law_prose"] (defScope s__law_read) := ⟨rfl, rfl, rfl, by decide +kernel, rfl, by decide +kernel, by decide +kernel⟩
theorem ok_lread {f : Addr} {fd : FuncData} (F : Fun K "_law_read" "_law_read" s__law_read f fd) (T : RTxt K mg C) (D : DTxt K mg) (Y : YTxt K mg CY) (m_readk : CmK P w K mg base 7 C "read" ["text"] (spRead K C CY) (fun us zs => us ++ zs)) (d_str : DunX P w K mg base 3 C "__str__" (spStr C)) :
    FnOk P w K mg base CX0 8 f fd ["_law_prose"] (spLRead K) := by
  refine F.ok sc__law_read (fun vs H Q E h => ?_) (fun cdv A outer s H vs Q E hr h => ?_)
  · obtain ⟨v, rfl, _⟩ := h
    rfl
  · obtain ⟨v, rfl, h⟩ := h
    obtain ⟨f_str, ⟨fd_str, ps_str, ds_str, F_str, b_str, dv_str⟩, h_str, hf_str⟩ := d_str.is
    cases dv_str
    refine ⟨_, (pss_one (ps_try_only rfl rfl ⟨rfl, by decide, .inl Y.gZ⟩ takes0 (fun W pn xe tk _ =>
        (pss_one (ps_ret (pe_callTy (call_strOwn h_str hf_str F_str (hr.mono (by decide)) b_str passX) (by rfl) D.z_str (by decide +kernel) (pa_cons (pe_cmK m_readk (fun σ => passAt tk σ) hr (by decide) (pe_k0 rfl T.g_Ratio) (pk_cons (pv 0) pk_nil)) pa_nil)))))
        (fun a oe cls d pn hz hf => (pss_one (ps_ret pe_non))))), ?_⟩
    rcases h with ⟨z, rfl, hz, k⟩ | ⟨no, k⟩
    · refine ⟨rfl, .str z, rfl, rfl, .str z, rfl, .inl ⟨z, rfl, hz, fun q hq p H2 e2 hp => ?_, fun hn H2 e2 => ⟨true, Y.eZ, fun _ ax hax => k .non H2 e2 (fun ⟨q, h⟩ => (hn q h).elim) (fun _ => rfl), fun h => by cases h⟩⟩⟩
      refine ⟨.ref p, rfl, hp.ins, p, q, rfl, hp, sz_len (by rw [← hq, ← len_tl]; exact hz), fun H3 e3 => ⟨_, rfl, ?_⟩⟩
      exact k _ H3 (e2.trans e3) (fun _ => congrArg V.str (ext_tl hq.symm)) (fun hn => (hn q hq).elim)
    · exact ⟨rfl, v, rfl, rfl, v, rfl, .inr ⟨no, fun H2 e2 => ⟨true, Y.eZ, fun _ ax hax => k H2 e2, fun h => by cases h⟩⟩⟩
end

/-! ### near texts, and the law -/
theorem tl_cutE (z : Str) (i : Nat) : tl (cutS z (some (i : Int)) none) = (tl z).drop (min i z.length) := by
  unfold cutS
  rw [HT.sIx_nat, HT.sIx_none]
  show ((tl z).drop _).take _ = _
  exact List.take_of_length_le (by rw [List.length_drop, len_tl]; exact Nat.le_refl _)
theorem ev_slen {σ : L2.St} {H : Hp} {te : TE} {z : Str} (h : Ev te σ H (.str z)) (l : z.length ≤ 100000) : Ev (tCB (fun xs H Q => ∃ z : Str, xs = [.str z] ∧ z.length ≤ sizeLine ∧ Q (.int z.length) H) (tCons te tNil)) σ H (.int ((z.length : Nat) : Int)) := fun H1 e Q q =>
  h H1 e _ fun H2 e2 => ⟨z, rfl, sz_of l, q H2 e2⟩
def spNear : Sp := fun vs H Q _ => ∃ (p : Addr) (z : Str) (G : Hp) (m : Nat), vs = [.ref p, .str z] ∧ SB G H p m ∧ m + 3 < 1000000 ∧ z.length ≤ 200 ∧ Asc z ∧ ∀ (z' : Str) H2, z'.length ≤ z.length + 1 → Asc z' → SB G H2 p (m + 3) → Q (.str z') H2
section
variable {P : Program} {w : World} {K : PySem.W.Frag} {mg : Str → Option Value} {base : Heap} {C CY CZ CB : Addr}
abbrev s__law_near : Stmt := topS 27
theorem sc__law_near : FnScope ["_law_state", "_law_prose", "_law_at", "_law_sign"] ["_law_state", "_law_prose"] (defScope s__law_near) := ⟨rfl, rfl, rfl, by decide +kernel, rfl, by decide +kernel, by decide +kernel⟩
theorem ok_near {f : Addr} {fd : FuncData} (F : Fun K "_law_near" "_law_near" s__law_near f fd) (T : RTxt K mg C) (c__law_draw : CalF P w K mg base 1 "_law_draw" spDraw []) : FnOk P w K mg base CX0 2 f fd ["_law_state", "_law_prose"] spNear := by
  refine F.ok sc__law_near (fun vs H Q E h => ?_) (fun cdv A outer s H vs Q E hr h => ?_)
  · obtain ⟨p, z, G, m, rfl, _⟩ := h
    rfl
  · obtain ⟨p, z, G, m, rfl, S, hm, hz, hA, q⟩ := h
    refine ⟨_, (pss_cons (ps_set (i := 2) sc__law_near.nd rfl (Or.inl rfl) (pe_cF c__law_draw hr (by decide) rfl (pa_cons (pv 0) (pa_cons (pe_op op_add (pe_callB call_len_str (by rfl) T.z_len (by decide +kernel) (pa_cons (pv 1) pa_nil)) pe_int) pa_nil))))
      (pss_cons (ps_set (i := 3) sc__law_near.nd rfl (Or.inl rfl) (pe_ix ix_list (pe_lst (pa_cons pe_str (pa_cons pe_str (pa_cons pe_str (pa_cons pe_str (pa_cons pe_str (pa_cons pe_str (pa_cons pe_str (pa_cons pe_str (pa_cons pe_str (pa_cons pe_str (pa_cons pe_str (pa_cons pe_str pa_nil))))))))))))) (pe_cF c__law_draw hr (by decide) rfl (pa_cons (pv 0) (pa_cons pe_int pa_nil))) (fun _ _ => rfl)))
      (pss_one (ps_ret (pe_op op_add_str (pe_op op_add_str (pe_slice sl_str (pv 1) po_none (po_some (pv 2))) (pv 3)) (pe_slice sl_str (pv 1) (po_some (pe_op op_add (pv 2) (pe_cF c__law_draw hr (by decide) rfl (pa_cons (pv 0) (pa_cons pe_int pa_nil))))) po_none)))))), ?_⟩
    refine q_draw (k := ((z.length + 1 : Nat) : Int)) S (i := 0) rfl (ev_is (ev_op (ev_slen (ev_var rfl) (by omega)) ev_c rv_I0) rfl) (by omega) (lg64 (by omega) (by omega)) (by omega) fun r H2 r0 r1 S2 => ?_
    refine q_pick (n := 12) (xs := [.str "", .str "0", .str "1", .str "-", .str "/", .str "+", .str " ", .str "2", .str "7", .str "a", .str "\n", .str "."]) S2 (el_lst (ea_cons ev_c (ea_cons ev_c (ea_cons ev_c (ea_cons ev_c (ea_cons ev_c (ea_cons ev_c (ea_cons ev_c (ea_cons ev_c (ea_cons ev_c (ea_cons ev_c (ea_cons ev_c (ea_cons ev_c ea_nil)))))))))))) (by simp)) rfl (i := 0) rfl ev_c (by decide) (by decide) (by omega) fun c v H3 hc S3 => ?_
    obtain ⟨sg, rfl, ls, as⟩ : ∃ sg : Str, v = .str sg ∧ (tl sg).length ≤ 1 ∧ Asc sg := by
      have hm := List.mem_of_getElem? hc
      simp only [List.mem_cons, List.not_mem_nil, or_false] at hm
      unfold Asc
      rcases hm with rfl | rfl | rfl | rfl | rfl | rfl | rfl | rfl | rfl | rfl | rfl | rfl <;> exact ⟨_, rfl, by decide +kernel, by decide +kernel⟩
    obtain ⟨r, rfl⟩ : ∃ k : Nat, r = (k : Int) := ⟨r.toNat, by omega⟩
    have lz := len_tl z
    refine x_ret ?_
    refine x_op (u_v (v := .str (cutS z none (some (r : Int)) ++ sg)) (ev_op (ev_slS (ev_var rfl) eo_none (eo_some (ev_var rfl)) (by omega)) (ev_var rfl) (rv_addS ?_)) fun H4 e4 => ?_)
    · rw [len_tl, tl_cut0, List.length_take, len_tl sg]
      omega
    refine ⟨.str z, rfl, .int (r : Int), rfl, u_draw (S3.ext e4) (i := 0) rfl ev_c (by decide) (by decide +kernel) (by omega) fun r2 H5 q0 q1 S5 => ?_⟩
    obtain ⟨r2, rfl⟩ : ∃ k : Nat, r2 = (k : Int) := ⟨r2.toNat, by omega⟩
    refine ⟨_, _, rfl, rfl, ((r + r2 : Nat) : Int), rfl, z, rfl, sz_of (by omega), _, _, rfl, rfl, ?_, q _ _ ?_ ?_ S5⟩
    · rw [len_tl, tl_append, tl_cut0, len_tl (cutS z _ none), tl_cutE, List.length_append, List.length_take, List.length_drop]
      exact sz_of (by omega)
    · rw [len_tl, tl_append, tl_append, tl_cut0, tl_cutE, List.length_append, List.length_append, List.length_take, List.length_drop]
      omega
    · intro c hc
      rw [tl_append, tl_append, tl_cut0, tl_cutE] at hc
      rcases List.mem_append.mp hc with h | h
      · rcases List.mem_append.mp h with h | h
        · exact hA c (List.mem_of_mem_take h)
        · exact as c h
      · exact hA c (List.mem_of_mem_drop h)
theorem u_a {σ : L2.St} {H : Hp} {ta : TA} {xs : List V} {Q : List V → Hp → Prop} (h : EvA ta σ H xs) (k : ∀ H2, Ex H H2 → Q xs H2) : ta σ H Q := h H (Ex.refl H) Q k
theorem mulSz {n m : Nat} {p q : Rat} (h1 : Sz n p) (h2 : Sz m q) : Sz (n + m) (p * q) := by
  rw [← mul_is p q]
  refine sz_div (Int.mul_ne_zero (den_nz p) (den_nz q)) (wide_lt h1.1 h2.1) (wide_lt ?_ ?_)
  · rw [Int.natAbs_natCast]; exact h1.2
  · rw [Int.natAbs_natCast]; exact h2.2
theorem rat_len {q : Rat} {k j : Nat} (h : Sz k q) (hj : 0 < j) (l : 2 ^ k ≤ 10 ^ j) : (ratL q).length ≤ 2 * j + 2 := by
  have a := numL_len hj (Nat.lt_of_lt_of_le h.1 l)
  have b := numL_len hj (Nat.lt_of_lt_of_le h.2 l)
  unfold ratL intL sgL
  rw [List.length_append, List.length_append]
  split <;> split <;> simp only [List.length_cons, List.length_nil] <;> omega
theorem rat_asc (q : Rat) : Asc (ratS q) := fun c hc => by
  have hc' : c ∈ ratL q := hc
  unfold ratL intL sgL at hc'
  rcases List.mem_append.mp hc' with h | h
  · rcases List.mem_append.mp h with h | h
    · split at h
      · have := List.mem_singleton.mp h; omega
      · cases h
    · have := numL_digits _ c h; omega
  · split at h
    · cases h
    · rcases List.mem_cons.mp h with h | h
      · omega
      · have := numL_digits _ c h; omega
noncomputable def rdV (z : Str) : V := @ite _ (∃ q, tl z = ratL q) (Classical.propDecidable _) (.str z) .non
theorem rd_yes {z : Str} (h : ∃ q, tl z = ratL q) : rdV z = .str z := by unfold rdV; rw [if_pos h]
theorem rd_no {z : Str} (h : ∀ q, tl z ≠ ratL q) : rdV z = .non := by unfold rdV; rw [if_neg fun ⟨q, e⟩ => h q e]
theorem ev_lread {σ : L2.St} {H : Hp} {te : TE} {z : Str} {E : XK} (h : Ev te σ H (.str z)) (l : z.length ≤ 400) : Ev (tCall (spLRead K) [] E (tCons te tNil)) σ H (rdV z) := fun H1 e Q q =>
  h H1 e _ fun H2 e2 => ⟨.str z, rfl, .inl ⟨z, rfl, l, fun x H3 e3 h1 h2 => by
    have : x = rdV z := by
      by_cases hq : ∃ q, tl z = ratL q
      · rw [h1 hq, rd_yes hq]
      · have hn : ∀ q, tl z ≠ ratL q := fun q e => hq ⟨q, e⟩
        rw [h2 hn, rd_no hn]
    rw [this]
    exact q H3 (e2.trans e3)⟩⟩
theorem ev_lreadN {σ : L2.St} {H : Hp} {te : TE} {v : V} {E : XK} (h : Ev te σ H v) (n : ∀ H1, Ex H H1 → NoStr K H1 v) : Ev (tCall (spLRead K) [] E (tCons te tNil)) σ H .non := fun H1 e Q q =>
  h H1 e _ fun H2 e2 => ⟨v, rfl, .inr ⟨n H2 (e.trans e2), fun H3 e3 => q H3 (e2.trans e3)⟩⟩
noncomputable def isTB (z : Str) : Bool := @decide (isTextL (tl z)) (Classical.propDecidable _)
theorem isTB_iff (z : Str) : isTB z = true ↔ isTextL (tl z) := @decide_eq_true_iff _ (Classical.propDecidable _)
theorem ev_ist {σ : L2.St} {H : Hp} {te : TE} {z : Str} {E : XK} (h : Ev te σ H (.str z)) (l : z.length ≤ 84) (a : Asc z) : Ev (tCall spIsT [] E (tCons te tNil)) σ H (.bl (isTB z)) := fun H1 e Q q =>
  h H1 e _ fun H2 e2 => ⟨z, rfl, l, a, fun b H3 e3 hb => by
    have : b = isTB z := Bool.eq_iff_iff.mpr (hb.trans (isTB_iff _).symm)
    rw [this]
    exact q H3 (e2.trans e3)⟩
theorem rd_ist (z : Str) : rdV z = if isTB z = true then .str z else .non := by
  by_cases h : isTB z = true
  · rw [if_pos h, rd_yes ((text_iff _).mp ((isTB_iff z).mp h))]
  · rw [if_neg h, rd_no fun q e => h ((isTB_iff z).mpr ((text_iff _).mpr ⟨q, e⟩))]
abbrev s_law : Stmt := topS 28
theorem sc_law : FnScope ["_law_script", "_law_state", "_law_turn", "_law_size", "_law_a", "_law_b", "_law_told", "_law_wide", "_law_near_here", "_law_prose", "_law_thing"] ["_law_script"] (defScope s_law) := ⟨rfl, rfl, rfl, by decide +kernel, rfl, by decide +kernel, by decide +kernel⟩
theorem ok_law {f : Addr} {fd : FuncData} (F : Fun K "law" "law" s_law f fd) (T : RTxt K mg C) (D : DTxt K mg) (O : ROps K C) (c__law_start : CalF P w K mg base 1 "_law_start" (spStart K) []) (c__law_draw : CalF P w K mg base 1 "_law_draw" spDraw [])
    (c__law_text : CalF P w K mg base 2 "_law_text" spLText []) (c__law_is_text : CalF P w K mg base 2 "_law_is_text" spIsT []) (c__law_read : CalF P w K mg base 8 "_law_read" (spLRead K) []) (c__law_near : CalF P w K mg base 2 "_law_near" spNear [])
    (c_Ratio : MakX P w K mg base 1 "Ratio" C (spInit C CZ) []) (m_read : CmX P w K mg base 7 C "read" (spRead K C CY)) (d_str : DunX P w K mg base 3 C "__str__" (spStr C)) (d_mul : DunX P w K mg base 5 C "__mul__" (spBin C fun a b => a * b)) (d_eq : DunX P w K mg base 3 C "__eq__" (spEq K C)) :
    FnOk P w K mg base CX0 10 f fd ["_law_script"] (LawK.spLaw K) := by
  refine F.ok sc_law (fun vs H Q E h => ?_) (fun cdv A outer s H vs Q E' hr h => ?_)
  · obtain ⟨a, ns, rfl, _⟩ := h
    rfl
  · obtain ⟨a, ns, rfl, hS, hl, q⟩ := h
    obtain ⟨f_str, ⟨fd_str, ps_str, ds_str, F_str, b_str, dv_str⟩, h_str, hf_str⟩ := d_str.is
    cases dv_str
    obtain ⟨f_mul, ⟨fd_mul, ps_mul, ds_mul, F_mul, b_mul, dv_mul⟩, h_mul, hf_mul⟩ := d_mul.is
    cases dv_mul
    obtain ⟨f_eq, ⟨fd_eq, ps_eq, ds_eq, F_eq, b_eq, dv_eq⟩, h_eq, hf_eq⟩ := d_eq.is
    cases dv_eq
    refine ⟨_, PSs.nox (pss_cons (ps_set (i := 1) sc_law.nd rfl (Or.inl rfl) (pe_cF c__law_start hr (by decide) rfl (pa_cons (pv 0) pa_nil)))
      (pss_cons (ps_for PassesOwn.never rfl (pi_range1 rfl T.z_range (pa_cons pe_int pa_nil)) (pg_name (i := 2) sc_law.nd rfl (Or.inl rfl))
        (pss_cons (ps_set (i := 3) sc_law.nd rfl (Or.inl rfl) (pe_ix ix_list (pe_lst (pa_cons pe_int (pa_cons pe_int (pa_cons pe_int (pa_cons pe_int (pa_cons (pe_op op_pow pe_int pe_int) pa_nil)))))) (pe_cF c__law_draw hr (by decide) rfl (pa_cons (pv 1) (pa_cons pe_int pa_nil))) (fun _ _ => rfl)))
        (pss_cons (ps_par (i := 4) (j := 5) (by rfl) sc_law.nd rfl rfl (by decide) rfl rfl (pa_cons (pe_op op_sub (pe_cF c__law_draw hr (by decide) rfl (pa_cons (pv 1) (pa_cons (pe_op op_mul pe_int (pv 3)) pa_nil))) (pv 3)) (pa_cons (pe_op op_add pe_int (pe_cF c__law_draw hr (by decide) rfl (pa_cons (pv 1) (pa_cons (pv 3) pa_nil)))) pa_nil)) (by rfl))
        (pss_cons (ps_set (i := 6) sc_law.nd rfl (Or.inl rfl) (pe_callTy (call_strOwn h_str hf_str F_str (hr.mono (by decide)) b_str passX) (by rfl) D.z_str (by decide +kernel) (pa_cons (pe_mkX c_Ratio passN hr (by decide) rfl (pa_cons (pv 4) (pa_cons (pv 5) pa_nil))) pa_nil)))
        (pss_cons (ps_set (i := 7) sc_law.nd rfl (Or.inl rfl) (pe_op (op_ownAr OwnR.on_mul O.sf h_mul O.nm hf_mul O.si F_mul (hr.mono (by decide)) b_mul passX) (pe_op (op_ownAr OwnR.on_mul O.sf h_mul O.nm hf_mul O.si F_mul (hr.mono (by decide)) b_mul passX) (pe_mkX c_Ratio passN hr (by decide) rfl (pa_cons (pv 4) (pa_cons (pv 5) pa_nil))) (pe_mkX c_Ratio passN hr (by decide) rfl (pa_cons (pe_op op_add (pe_op op_pow pe_int pe_int) pe_int) (pa_cons (pe_op op_add (pe_op op_pow pe_int pe_int) pe_int) pa_nil)))) (pe_mkX c_Ratio passN hr (by decide) rfl (pa_cons (pv 5) (pa_cons pe_int pa_nil)))))
        (pss_cons (ps_if (pt_cmpR (op_ownNe T.r.cm O.nn h_eq hf_eq F_eq (hr.mono (by decide)) b_eq passX) (pe_cmX m_read passN hr (by decide) (pe_k0 rfl T.g_Ratio) (pa_cons (pe_callTy (call_strOwn h_str hf_str F_str (hr.mono (by decide)) b_str passX) (by rfl) D.z_str (by decide +kernel) (pa_cons (pv 7) pa_nil)) pa_nil)) (pv 7) (nomark _))
          (pss_one (ps_ret pe_bl))
          pss_nil)
        (pss_cons (ps_if (PW.pt (pw_or (pt_cmpR op_ne (pv 6) (pe_cF c__law_text hr (by decide) rfl (pa_cons (pv 4) (pa_cons (pv 5) pa_nil))) (nomark _)) (pw_or1 (pt_cmpR (op_ownNe T.r.cm O.nn h_eq hf_eq F_eq (hr.mono (by decide)) b_eq passX) (pe_cmX m_read passN hr (by decide) (pe_k0 rfl T.g_Ratio) (pa_cons (pv 6) pa_nil)) (pe_mkX c_Ratio passN hr (by decide) rfl (pa_cons (pv 4) (pa_cons (pv 5) pa_nil))) (nomark _)))))
          (pss_one (ps_ret pe_bl))
          pss_nil)
        (pss_cons (ps_set (i := 8) sc_law.nd rfl (Or.inl rfl) (pe_cF c__law_near hr (by decide) rfl (pa_cons (pv 1) (pa_cons (pv 6) pa_nil))))
        (pss_one (ps_for PassesOwn.never rfl (pi_list (pe_lst (pa_cons (pv 8) (pa_cons (pe_cF c__law_near hr (by decide) rfl (pa_cons (pv 1) (pa_cons (pv 8) pa_nil))) (pa_cons (pe_op op_add_str pe_str (pv 6)) (pa_cons (pe_op op_add_str (pv 6) pe_str) (pa_cons (pe_op op_add_str pe_str (pv 6)) (pa_cons (pe_op op_add_str (pv 6) pe_str) (pa_cons (pe_op op_add_str (pv 6) pe_str) pa_nil))))))))) (pg_name (i := 9) sc_law.nd rfl (Or.inl rfl))
          (pss_one (ps_if (pt_cmpR op_ne (pe_cF c__law_read hr (by decide) rfl (pa_cons (pv 9) pa_nil)) (pe_ifExp (pt_val (pe_cF c__law_is_text hr (by decide) rfl (pa_cons (pv 9) pa_nil))) (pv 9) pe_non) (nomark _))
            (pss_one (ps_ret pe_bl))
            pss_nil))))))))))))
      (pss_one (ps_ret (pe_cmpR (op_eqD hr.units) (pe_lc (own := [("_law_thing", 10)]) rfl sc_law.nd (pi_list (pe_lst (pa_cons pe_non (pa_cons pe_int (pa_cons pe_bl (pa_cons (pe_lst (pa_cons pe_str pa_nil)) (pa_cons (pe_tup (pa_cons pe_str pa_nil)) (pa_cons pe_dnewK (pa_cons pe_str (pa_cons pe_str (pa_cons pe_str pa_nil))))))))))) (blkOk_by (own := [("_law_thing", 10)]) (N := ["_law_script", "_law_state", "_law_turn", "_law_size", "_law_a", "_law_b", "_law_told", "_law_wide", "_law_near_here", "_law_prose", "_law_thing"]) (sc := defScope s_law) (by decide +kernel)) (fun _ _ _ _ _ => (pg_name (i := 10) sc_law.nd rfl (Or.inl rfl))) (fun _ _ _ _ _ => (pts_one (pt_cmpR op_notN (pe_cF c__law_read hr (by decide) rfl (pa_cons (pv 10) pa_nil)) pe_non (nomark _)))) (fun _ _ _ _ _ => (pv 10))) (pe_lst pa_nil) (nomark _)))))), ?_⟩
    refine ⟨.ref a, rfl, a, ns, rfl, hS, hl, fun p H1 S0 => ?_⟩
    dsimp only [gName]
    refine q_forR1 (ea_cons ev_c ea_nil) (by decide) (fun i σ' H' => ∃ t2 t3 t4 t5 t6 t7 t8 t9, σ' = [some (.ref a), some (.ref p), t2, t3, t4, t5, t6, t7, t8, t9, none] ∧ SB H H' p (9 * i)) (fun H2 e2 => ⟨_, _, _, _, _, _, _, _, rfl, S0.ext e2⟩) (fun i σ' H2 hi hw => ?_) (fun σ' H2 hw => ?_)
    · obtain ⟨t2, t3, t4, t5, t6, t7, t8, t9, rfl, S⟩ := hw
      refine q_pick (n := 5) (xs := [.int 4, .int 30, .int 500, .int 900, .int (10 ^ (36 : Int).toNat)]) S (el_lst (ea_cons ev_c (ea_cons ev_c (ea_cons ev_c (ea_cons ev_c (ea_cons (ev_op ev_c ev_c (rv_I ⟨by decide, by decide, by decide⟩)) ea_nil))))) (by simp)) rfl (i := 1) rfl ev_c (by decide) (by decide) (by omega) fun c v H3 hc S3 => ?_
      obtain ⟨s, rfl, s0, s1⟩ : ∃ s : Int, v = .int s ∧ 0 < s ∧ s ≤ 10 ^ 36 := by
        have hm := List.mem_of_getElem? hc
        simp only [List.mem_cons, List.not_mem_nil, or_false] at hm
        rcases hm with rfl | rfl | rfl | rfl | rfl <;> exact ⟨_, rfl, by decide +kernel, by decide +kernel⟩
      have p36 : (10 : Int) ^ 36 < 2 ^ 120 := by decide +kernel
      have q120 : (2 : Int) ^ 120 = ((2 ^ 120 : Nat) : Int) := by decide +kernel
      have q121 : (2 : Nat) ^ 120 + 2 ^ 120 ≤ 2 ^ 200 := by decide +kernel
      refine x_seq ?_
      refine x_cons (x_op (u_draw (k := 2 * s) S3 (i := 1) rfl (ev_op ev_c (ev_var rfl) (rv_I (.inl ⟨by decide, by decide⟩))) (by omega) (lg_of (n := 200) (by omega) (by decide) (by decide)) (by omega) fun r H4 r0 r1 S4 => ⟨.int s, rfl, r, s, rfl, rfl, ?_⟩))
      refine x_cons (x_op (u_draw (k := s) S4 (i := 1) rfl (ev_var rfl) (by omega) (lg_of (n := 200) (by omega) (by decide) (by decide)) (by omega) fun r' H5 r0' r1' S5 => ⟨1, r', rfl, rfl, _, _, rfl, ?_⟩))
      obtain ⟨A, hA⟩ : ∃ A : Int, A = r - s := ⟨_, rfl⟩
      obtain ⟨B, hB⟩ : ∃ B : Int, B = 1 + r' := ⟨_, rfl⟩
      have ha : A.natAbs < 2 ^ 120 := by omega
      have hb : B.natAbs < 2 ^ 120 := by omega
      have b0 : 0 < B := by omega
      have nb : B ≠ 0 := by omega
      dsimp only
      rw [← hA, ← hB]
      have u1 : ∀ {x : Int} {n : Nat}, x.natAbs < 2 ^ n → n ≤ 8900 → x.natAbs < 2 ^ 8900 := fun h l => up h l
      have szq : Sz 120 (Rat.divInt A B) := sz_div nb ha hb
      generalize hq : Rat.divInt A B = qab at szq
      -- told
      refine x_seq (x_set (x_cb (x_cons (u_new (ev_var rfl) (ev_var rfl) (u1 ha (by decide)) (u1 hb (by decide)) nb fun p6 H6 e6 hp6 => ?_))))
      rw [hq] at hp6
      refine ⟨.ref p6, rfl, hp6.ins, p6, _, rfl, hp6, szq.mono (by decide), fun H7 e7 => ⟨_, rfl, ?_⟩⟩
      have S7 := (S5.ext e6).ext e7
      -- wide
      dsimp only
      have w1 : (10 ^ (39 : Int).toNat + 1 : Int).natAbs < 2 ^ 130 := by decide +kernel
      have w2 : (10 ^ (38 : Int).toNat + 3 : Int).natAbs < 2 ^ 130 := by decide +kernel
      have w3 : (7 : Int).natAbs < 2 ^ 120 := by decide +kernel
      have sz2 : Sz 130 (Rat.divInt (10 ^ (39 : Int).toNat + 1) (10 ^ (38 : Int).toNat + 3)) := sz_div (by decide +kernel) w1 w2
      have sz3 : Sz 120 (Rat.divInt B 7) := sz_div (by decide) hb w3
      refine x_seq (x_set (x_op (x_op (u_new (ev_var rfl) (ev_var rfl) (u1 ha (by decide)) (u1 hb (by decide)) nb fun p8 H8 e8 hp8 => u_new (t := 10 ^ (39 : Int).toNat + 1) (b := 10 ^ (38 : Int).toNat + 3) (ev_op (ev_op ev_c ev_c (rv_I ⟨by decide, by decide, by decide⟩)) ev_c rv_I0) (ev_op (ev_op ev_c ev_c (rv_I ⟨by decide, by decide, by decide⟩)) ev_c rv_I0) (u1 w1 (by decide)) (u1 w2 (by decide)) (by decide +kernel) fun p9 H9 e9 hp9 =>
        ⟨(hp8.ex e9).ins, .inr hp9.ins, p8, .ref p9, _, _, rfl, hp8.ex e9, .inr ⟨p9, rfl, hp9⟩, by rw [hq]; exact szq.mono (by decide), sz2.mono (by decide), fun p10 H10 e10 hp10 => ?_⟩))))
      rw [hq] at hp10
      have sz12 := mulSz szq sz2
      refine u_new (ev_var rfl) ev_c (u1 hb (by decide)) (u1 w3 (by decide)) (by decide) fun p11 H11 e11 hp11 => ⟨(hp10.ex e11).ins, .inr hp11.ins, p10, .ref p11, _, _, rfl, hp10.ex e11, .inr ⟨p11, rfl, hp11⟩, sz12.mono (by decide), sz3.mono (by decide), fun p12 H12 e12 hp12 => ?_⟩
      have sz13 := mulSz sz12 sz3
      have S12 := ((((S7.ext e8).ext e9).ext e10).ext e11).ext e12
      obtain ⟨qw, hp12, sz13⟩ : ∃ qw, RatAt C H12 p12 qw ∧ Sz (120 + 130 + 120) qw := ⟨_, hp12, sz13⟩
      have inj : ∀ {q1 q2 : Rat}, tl (ratS q1) = ratL q2 → q2 = q1 := fun {q1 q2} h => by
        have h2 := congrArg quoL (show ratL q1 = ratL q2 from h)
        rw [quo_rat, quo_rat] at h2
        exact h2.symm
      have lw : (ratS qw).length ≤ 400 := by
        rw [len_tl]
        exact Nat.le_trans (rat_len (j := 112) sz13 (by decide) (by decide +kernel)) (by decide)
      have lt : (ratS qab).length ≤ 76 := by
        rw [len_tl]
        exact rat_len (j := 37) szq (by decide) (by decide +kernel)
      dsimp only
      refine q_when (b := false) (et_test ?ev1) (fun h => by cases h) (fun _ H13 e13 => ?_)
      case ev1 =>
        intro H1' e1' Q1 q1
        refine ⟨rfl, .ref p12, rfl, .ref p12, rfl, (hp12.ex e1').ins, p12, _, rfl, hp12.ex e1', sz13.mono (m := 8900) (by decide), fun H2' e2' => ⟨_, rfl, .str (ratS qw), rfl, .inl ⟨ratS qw, rfl, lw, fun q2 hq2 p14 H3' e3' hp14 => ?_, fun hn => (hn qw rfl).elim⟩⟩⟩
        have e : q2 = qw := inj hq2
        subst e
        refine ⟨.ref p12, rfl, hp14.ins, ⟨.ref C, (hp12.ex ((e1'.trans e2').trans e3')).ty T.r, nf_self⟩, p14, .ref p12, q2, rfl, hp14, .inl ⟨q2, .inr ⟨p12, rfl, hp12.ex ((e1'.trans e2').trans e3')⟩, _, rfl, ?_⟩⟩
        rw [decide_eq_true rfl]
        exact q1 H3' (e2'.trans e3')
      refine q_when (b := false) (et_or (a := false) (b := false) (et_is (et_test (ev_op (ev_var rfl) (ev_call (ea_cons (ev_var rfl) (ea_cons (ev_var rfl) ea_nil)) (z := .str (ratS qab)) (fun H1' e1' Q1 q1 E1 => ⟨A, B, rfl, b0, up ha (by decide), up hb (by decide), fun H2' e2' => by rw [hq]; exact q1 H2' e2'⟩)) (rv_ne rfl))) (by simp)) (fun _ => et_test ?ev2)) (fun h => by cases h) (fun _ H14 e14 => ?_)
      case ev2 =>
        intro H1' e1' Q1 q1
        refine ⟨rfl, .str (ratS qab), rfl, .str (ratS qab), rfl, .inl ⟨ratS qab, rfl, by omega, fun q2 hq2 p14 H3' e3' hp14 => ?_, fun hn => (hn qab rfl).elim⟩⟩
        have e : q2 = qab := inj hq2
        subst e
        refine u_new (ev_var rfl) (ev_var rfl) (u1 ha (by decide)) (u1 hb (by decide)) nb fun p15 H4' e4' hp15 => ?_
        rw [hq] at hp15
        refine ⟨(hp14.ex e4').ins, ⟨.ref C, hp15.ty T.r, nf_self⟩, p14, .ref p15, q2, rfl, hp14.ex e4', .inl ⟨q2, .inr ⟨p15, rfl, hp15⟩, _, rfl, ?_⟩⟩
        rw [decide_eq_true rfl]
        exact q1 H4' (e3'.trans e4')
      have aT := rat_asc qab
      generalize ratS qab = zt at lt aT
      refine x_seq (x_set ?_)
      refine ⟨.ref p, rfl, .str zt, rfl, p, zt, H, _, rfl, (S12.ext e13).ext e14, by omega, by omega, aT, fun z1 H15 l1 a1 S15 => ?_⟩
      dsimp only
      -- seven texts
      refine ⟨.str z1, rfl, .ref p, rfl, .str z1, rfl, p, z1, H, _, rfl, S15, by omega, by omega, a1, fun z2 H17 l2 a2 S17 => ?_⟩
      have la : ∀ s' : Str, (tl s').length ≤ 2 → s'.length + zt.length ≤ 100000 ∧ zt.length + s'.length ≤ 100000 := fun s' h => by rw [← len_tl] at h; exact ⟨by omega, by omega⟩
      refine u_a (ea_cons (ev_op ev_c (ev_var rfl) (rv_addS (la _ (by decide +kernel)).1)) (ea_cons (ev_op (ev_var rfl) ev_c (rv_addS (la _ (by decide +kernel)).2)) (ea_cons (ev_op ev_c (ev_var rfl) (rv_addS (la _ (by decide +kernel)).1)) (ea_cons (ev_op (ev_var rfl) ev_c (rv_addS (la _ (by decide +kernel)).2)) (ea_cons (ev_op (ev_var rfl) ev_c (rv_addS (la _ (by decide +kernel)).2)) ea_nil))))) fun H18 e18 => ?_
      have tx : ∀ x ∈ [V.str z1, V.str z2, V.str ("-" ++ zt), V.str (zt ++ "/1"), V.str ("0" ++ zt), V.str (zt ++ " "), V.str (zt ++ "/2")], ∃ z : Str, x = .str z ∧ z.length ≤ 84 ∧ Asc z := by
        have ap : ∀ s' : Str, (tl s').length ≤ 2 → Asc s' → ((s' ++ zt).length ≤ 84 ∧ Asc (s' ++ zt)) ∧ ((zt ++ s').length ≤ 84 ∧ Asc (zt ++ s')) := fun s' h ha' => by
          have lz := len_tl zt
          refine ⟨⟨by rw [len_tl, tl_append, List.length_append]; omega, fun c hc => ?_⟩, ⟨by rw [len_tl, tl_append, List.length_append]; omega, fun c hc => ?_⟩⟩
          · rw [tl_append] at hc
            exact (List.mem_append.mp hc).elim (ha' c) (aT c)
          · rw [tl_append] at hc
            exact (List.mem_append.mp hc).elim (aT c) (ha' c)
        have d : ∀ s' : Str, (tl s').all (· < 128) = true → Asc s' := fun s' h c hc => of_decide_eq_true (List.all_eq_true.mp h c hc)
        intro x hx
        simp only [List.mem_cons, List.not_mem_nil, or_false] at hx
        rcases hx with rfl | rfl | rfl | rfl | rfl | rfl | rfl
        · exact ⟨_, rfl, by omega, a1⟩
        · exact ⟨_, rfl, by omega, a2⟩
        · exact ⟨_, rfl, (ap _ (by decide +kernel) (d _ (by decide +kernel))).1⟩
        · exact ⟨_, rfl, (ap _ (by decide +kernel) (d _ (by decide +kernel))).2⟩
        · exact ⟨_, rfl, (ap _ (by decide +kernel) (d _ (by decide +kernel))).1⟩
        · exact ⟨_, rfl, (ap _ (by decide +kernel) (d _ (by decide +kernel))).2⟩
        · exact ⟨_, rfl, (ap _ (by decide +kernel) (d _ (by decide +kernel))).2⟩
      refine ⟨by show 7 ≤ sizeLine; decide, fun Lp hLp => ⟨Lp, rfl, ⟨_, sq_of upd_same⟩, for_list (xs := [V.str z1, V.str z2, V.str ("-" ++ zt), V.str (zt ++ "/1"), V.str ("0" ++ zt), V.str (zt ++ " "), V.str (zt ++ "/2")]) (fun j σ' H' => ∃ t9, σ' = [some (.ref a), some (.ref p), some (.int (i : Nat)), some (.int s), some (.int A), some (.int B), some (.str zt), some (.ref p12), some (.str z1), t9, none] ∧ Ex (upd H18 Lp (.lst [V.str z1, V.str z2, V.str ("-" ++ zt), V.str (zt ++ "/1"), V.str ("0" ++ zt), V.str (zt ++ " "), V.str (zt ++ "/2")])) H') ⟨_, rfl, Ex.refl _⟩ (fun j σ' H' _ hw => ?_) (fun j x σ' H' hx hw => ?_) (fun σ' H' hw => ?_)⟩⟩
      · obtain ⟨_, _, e⟩ := hw
        exact sq_of (e _ _ upd_same)
      · obtain ⟨t9', rfl, e⟩ := hw
        obtain ⟨zz, rfl, lz, az⟩ := tx x (List.mem_of_getElem? hx)
        refine s_when (b := false) (et_is (et_test (ev_op (y := rdV zz) (ev_lread (z := zz) (ev_var rfl) (by omega)) (ev_if (b := isTB zz) (et_B (ev_ist (ev_var rfl) lz az)) (fun h => ?_) (fun h => ?_)) (rv_ne ?_))) (by simp)) (fun h => by cases h) (fun _ H20 e20 => ⟨_, rfl, e.trans e20⟩)
        · rw [rd_ist, if_pos h]
          exact ev_var rfl
        · rw [rd_ist, if_neg (by rw [h]; exact Bool.false_ne_true)]
          exact ev_c
        · rw [rd_ist]
          split <;> rfl
      · obtain ⟨t9', rfl, e⟩ := hw
        exact ⟨_, _, _, _, _, _, _, _, rfl, (S17.ext (e18.trans ((Ex.new hLp).trans e))).le (by omega)⟩
    · obtain ⟨t2, t3, t4, t5, t6, t7, t8, t9, rfl, S⟩ := hw
      refine ⟨by show 1 ≤ sizeLine; decide, fun l1 n1 => ⟨by show 1 ≤ sizeLine; decide, fun l2 n2 d n3 => ⟨by show 9 ≤ sizeLine; decide, fun L n5 => ⟨L, rfl, ⟨_, sq_of upd_same⟩, fun Dl hD => ?_⟩⟩⟩⟩
      have h1 : (upd H2 l1 (.lst [.str "1"])) l1 = some (.lst [.str "1"]) := upd_same
      have x2 := Ex.new (o := .tup [.str "1"]) n2
      have x3 := Ex.new (o := .dK []) n3
      have x5 := Ex.new (o := .lst [.non, .int 5, .bl true, .ref l1, .ref l2, .ref d, .str "", .str "-", .str "/"]) n5
      have g1 := x5 _ _ (x3 _ _ (x2 _ _ h1))
      have g2 := x5 _ _ (x3 _ _ (upd_same (H := upd H2 l1 (.lst [.str "1"])) (a := l2) (o := .tup [.str "1"])))
      have g3 := x5 _ _ (upd_same (H := upd (upd H2 l1 (.lst [.str "1"])) l2 (.tup [.str "1"])) (a := d) (o := .dK []))
      have g5 := upd_same (H := upd (upd (upd H2 l1 (.lst [.str "1"])) l2 (.tup [.str "1"])) d (.dK [])) (a := L) (o := .lst [.non, .int 5, .bl true, .ref l1, .ref l2, .ref d, .str "", .str "-", .str "/"])
      generalize upd (upd (upd (upd H2 l1 (.lst [.str "1"])) l2 (.tup [.str "1"])) d (.dK [])) L (.lst [.non, .int 5, .bl true, .ref l1, .ref l2, .ref d, .str "", .str "-", .str "/"]) = HF at g1 g2 g3 g5 hD
      have no : ∀ (z : Str), bareL (cutL (tl z)).1 = [] → rdV z = .non := fun z h => rd_no fun q hq => by
        have ok := ok_rat q
        rw [← hq] at ok
        exact ok.2.1 h
      have rn : ∀ (i : Nat) (x : V), ([.non, .int 5, .bl true, .ref l1, .ref l2, .ref d, .str "", .str "-", .str "/"] : List V)[i]? = some x → ∀ (σ : L2.St) (H3 : Hp) (te : TE) (E : XK), Ex HF H3 → Ev te σ H3 x → Ev (tCall (spLRead K) [] E (tCons te tNil)) σ H3 .non := fun i x hx σ H3 te E e hv => by
        have hc := (List.getElem?_eq_some_iff.mp hx).1
        match i, hc, hx with
        | 0, _, hx => cases hx; exact ev_lreadN hv fun H4 e4 => ⟨.type "NoneType", .base .non, kit_ty (by decide +kernel)⟩
        | 1, _, hx => cases hx; exact ev_lreadN hv fun H4 e4 => ⟨.type "int", .base (.int _), kit_ty (by decide +kernel)⟩
        | 2, _, hx => cases hx; exact ev_lreadN hv fun H4 e4 => ⟨.type "bool", .base (.bl _), kit_ty (by decide +kernel)⟩
        | 3, _, hx => cases hx; exact ev_lreadN hv fun H4 e4 => ⟨.type "list", .base (.lst ((e.trans e4) _ _ g1)), kit_ty (by decide +kernel)⟩
        | 4, _, hx => cases hx; exact ev_lreadN hv fun H4 e4 => ⟨.type "tuple", .base (.tup ((e.trans e4) _ _ g2)), kit_ty (by decide +kernel)⟩
        | 5, _, hx => cases hx; exact ev_lreadN hv fun H4 e4 => ⟨.type "dict", .base (.dK ((e.trans e4) _ _ g3)), kit_ty (by decide +kernel)⟩
        | 6, _, hx => cases hx; exact ev_is (ev_lread hv (by decide +kernel)) (no _ (by decide +kernel))
        | 7, _, hx => cases hx; exact ev_is (ev_lread hv (by decide +kernel)) (no _ (by decide +kernel))
        | 8, _, hx => cases hx; exact ev_is (ev_lread hv (by decide +kernel)) (no _ (by decide +kernel))
      refine lc_list (xs := [.non, .int 5, .bl true, .ref l1, .ref l2, .ref d, .str "", .str "-", .str "/"]) (Cw HF (fun _ => false) (fun _ => .non) Dl) ⟨hD, Ex.new hD, upd_same⟩ (fun i H' _ pp => sq_of (pp.2.1 _ _ g5)) (fun i x H' hi pp => ⟨rfl, cw_turn pp (by have := (List.getElem?_eq_some_iff.mp hi).1; simp only [List.length_cons, List.length_nil] at this; omega) ?_ (fun h => by cases h)⟩) (fun H' pp => ?_)
      · exact et_is (et_test (ev_op (rn i x hi _ HF _ _ (Ex.refl HF) (ev_var rfl)) ev_c (rv_val fun H4 _ Q' q' => ⟨rfl, q'⟩))) (by simp)
      · have z : H' Dl = some (.lst (given 9 (fun _ => false) fun _ => .non)) := pp.2.2
        rw [show given 9 (fun _ => false) (fun _ => V.non) = [] from by unfold given; simp] at z
        refine ⟨Nat.zero_le _, fun m hm => ?_⟩
        have hr2 := Ex.new (o := .lst []) hm _ _ z
        exact ⟨.list [], .list [], .lst (sq_of hr2) .nil, .lst (sq_of upd_same) .nil, by decide, by decide, q _⟩
end

theorem exm_self {K : PySem.W.Frag} {S : Addr} (h1 : PySem.W.subIn K (.ref S) (.type "BaseException") = some true) (h2 : PySem.W.isClsIn K S = true) (h3 : PySem.W.typeIn K (.ref S) = some (.type "type")) (h4 : PySem.W.subIn K (.ref S) (.ref S) = some true) :
    PySem.W.exmOne K (.ref S) (.ref S) = some true := by
  have h2' : (PySem.W.clsIn K S).isSome = true := h2
  have e2 : ((PySem.W.clsIn K S).isSome && PySem.W.typeIn K (.ref S) == some (.type "type")) = true := by rw [h2', h3] <;> rfl
  unfold PySem.W.exmOne PySem.W.kitCls
  rw [h1]
  dsimp only
  rw [e2]
  exact h4
theorem all_mk {l : PySem.W.OpenLaw} {w : World} {K : PySem.W.Frag} {h : Heap} {mg : Str → Option Value} {fa f_is_digits f_notation f_integer_of f_is_integer f_as_ratio f__law_start f__law_draw f__law_divisor f__law_text f__law_whole f__law_is_text f__law_read f__law_near f_law C f_Ratio_init t_Ratio_init f_Ratio_top p_Ratio_top f_Ratio_bottom p_Ratio_bottom f_Ratio_mul f_Ratio_eq f_Ratio_str f_Ratio_read p_Ratio_read C_BadNumber fi_BadNumber R_BadNumber C_ByZero C_BadText : Addr} (X : K.In h) (G : h.Ns mainGlobals mg) (hfa : mg "law" = some (.ref fa))
    {od_is_digits an_is_digits : Option Addr} {sl_is_digits : Array (Option Value)} {oc_is_digits kV_is_digits dc_is_digits pm_is_digits cd_is_digits ct_is_digits : Value} {od_notation an_notation : Option Addr} {sl_notation : Array (Option Value)} {oc_notation kV_notation dc_notation pm_notation cd_notation ct_notation : Value} {od_integer_of an_integer_of : Option Addr} {sl_integer_of : Array (Option Value)} {oc_integer_of kV_integer_of dc_integer_of pm_integer_of cd_integer_of ct_integer_of : Value} {od_is_integer an_is_integer : Option Addr} {sl_is_integer : Array (Option Value)} {oc_is_integer kV_is_integer dc_is_integer pm_is_integer cd_is_integer ct_is_integer : Value} {od_as_ratio an_as_ratio : Option Addr} {sl_as_ratio : Array (Option Value)} {oc_as_ratio kV_as_ratio dc_as_ratio pm_as_ratio cd_as_ratio ct_as_ratio : Value} {od__law_start an__law_start : Option Addr} {sl__law_start : Array (Option Value)} {oc__law_start kV__law_start dc__law_start pm__law_start cd__law_start ct__law_start : Value} {od__law_draw an__law_draw : Option Addr} {sl__law_draw : Array (Option Value)} {oc__law_draw kV__law_draw dc__law_draw pm__law_draw cd__law_draw ct__law_draw : Value} {od__law_divisor an__law_divisor : Option Addr} {sl__law_divisor : Array (Option Value)} {oc__law_divisor kV__law_divisor dc__law_divisor pm__law_divisor cd__law_divisor ct__law_divisor : Value} {od__law_text an__law_text : Option Addr} {sl__law_text : Array (Option Value)} {oc__law_text kV__law_text dc__law_text pm__law_text cd__law_text ct__law_text : Value} {od__law_whole an__law_whole : Option Addr} {sl__law_whole : Array (Option Value)} {oc__law_whole kV__law_whole dc__law_whole pm__law_whole cd__law_whole ct__law_whole : Value} {od__law_is_text an__law_is_text : Option Addr} {sl__law_is_text : Array (Option Value)} {oc__law_is_text kV__law_is_text dc__law_is_text pm__law_is_text cd__law_is_text ct__law_is_text : Value} {od__law_read an__law_read : Option Addr} {sl__law_read : Array (Option Value)} {oc__law_read kV__law_read dc__law_read pm__law_read cd__law_read ct__law_read : Value} {od__law_near an__law_near : Option Addr} {sl__law_near : Array (Option Value)} {oc__law_near kV__law_near dc__law_near pm__law_near cd__law_near ct__law_near : Value} {od_law an_law : Option Addr} {sl_law : Array (Option Value)} {oc_law kV_law dc_law pm_law cd_law ct_law : Value} {od_Ratio_init an_Ratio_init : Option Addr} {sl_Ratio_init : Array (Option Value)} {oc_Ratio_init kV_Ratio_init dc_Ratio_init pm_Ratio_init cd_Ratio_init ct_Ratio_init : Value} {tk_Ratio_init : Tok} {dd_Ratio_init : Option Addr} {n_Ratio_init : Nat} {st_Ratio_init : Array (Option Value)} {ot_Ratio_init : Value} {od_Ratio_top an_Ratio_top : Option Addr} {sl_Ratio_top : Array (Option Value)} {oc_Ratio_top kV_Ratio_top dc_Ratio_top pm_Ratio_top cd_Ratio_top ct_Ratio_top : Value} {rr_Ratio_top : List Value} {od_Ratio_bottom an_Ratio_bottom : Option Addr} {sl_Ratio_bottom : Array (Option Value)} {oc_Ratio_bottom kV_Ratio_bottom dc_Ratio_bottom pm_Ratio_bottom cd_Ratio_bottom ct_Ratio_bottom : Value} {rr_Ratio_bottom : List Value} {od_Ratio_mul an_Ratio_mul : Option Addr} {sl_Ratio_mul : Array (Option Value)} {oc_Ratio_mul kV_Ratio_mul dc_Ratio_mul pm_Ratio_mul cd_Ratio_mul ct_Ratio_mul : Value} {od_Ratio_eq an_Ratio_eq : Option Addr} {sl_Ratio_eq : Array (Option Value)} {oc_Ratio_eq kV_Ratio_eq dc_Ratio_eq pm_Ratio_eq cd_Ratio_eq ct_Ratio_eq : Value} {od_Ratio_str an_Ratio_str : Option Addr} {sl_Ratio_str : Array (Option Value)} {oc_Ratio_str kV_Ratio_str dc_Ratio_str pm_Ratio_str cd_Ratio_str ct_Ratio_str : Value} {od_Ratio_read an_Ratio_read : Option Addr} {sl_Ratio_read : Array (Option Value)} {oc_Ratio_read kV_Ratio_read dc_Ratio_read pm_Ratio_read cd_Ratio_read ct_Ratio_read : Value} {rr_Ratio_read : List Value} {nm_BadNumber q_BadNumber : Str} {N_BadNumber : Addr} {bs_BadNumber : List Value} {sn_BadNumber : List Str} {sub_BadNumber : List Value} {ab_BadNumber : Bool} {col_BadNumber : Option Bool} {dd_BadNumber : Option Addr} {m0_BadNumber m1_BadNumber m2_BadNumber m3_BadNumber m5_BadNumber : Option Value} {od_BadNumber an_BadNumber : Option Addr} {sl_BadNumber : Array (Option Value)} {oc_BadNumber dc_BadNumber pm_BadNumber cd_BadNumber ct_BadNumber : Value} {t_DIGITS : Tok} {t_WIDTH : Tok} {t_STEP : Tok}
    (a_is_digits : PySem.W.nsIn K mainGlobals "is_digits" = some (some (.ref f_is_digits)))
    (l_is_digits : K.lookup f_is_digits = some ⟨oc_is_digits, od_is_digits, .func (PySem.W.fnOf "is_digits" "is_digits" (defArgs s_is_digits) (defBody s_is_digits) (defScope s_is_digits) .none kV_is_digits dc_is_digits pm_is_digits an_is_digits cd_is_digits ct_is_digits), sl_is_digits⟩)
    (c_is_digits : PySem.W.codeIn K cd_is_digits "is_digits" = true)
    (k_is_digits : PySem.W.keepIn K (.ref f_is_digits) = true)
    (a_notation : PySem.W.nsIn K mainGlobals "notation" = some (some (.ref f_notation)))
    (l_notation : K.lookup f_notation = some ⟨oc_notation, od_notation, .func (PySem.W.fnOf "notation" "notation" (defArgs s_notation) (defBody s_notation) (defScope s_notation) .none kV_notation dc_notation pm_notation an_notation cd_notation ct_notation), sl_notation⟩)
    (c_notation : PySem.W.codeIn K cd_notation "notation" = true)
    (k_notation : PySem.W.keepIn K (.ref f_notation) = true)
    (a_integer_of : PySem.W.nsIn K mainGlobals "integer_of" = some (some (.ref f_integer_of)))
    (l_integer_of : K.lookup f_integer_of = some ⟨oc_integer_of, od_integer_of, .func (PySem.W.fnOf "integer_of" "integer_of" (defArgs s_integer_of) (defBody s_integer_of) (defScope s_integer_of) .none kV_integer_of dc_integer_of pm_integer_of an_integer_of cd_integer_of ct_integer_of), sl_integer_of⟩)
    (c_integer_of : PySem.W.codeIn K cd_integer_of "integer_of" = true)
    (k_integer_of : PySem.W.keepIn K (.ref f_integer_of) = true)
    (a_is_integer : PySem.W.nsIn K mainGlobals "is_integer" = some (some (.ref f_is_integer)))
    (l_is_integer : K.lookup f_is_integer = some ⟨oc_is_integer, od_is_integer, .func (PySem.W.fnOf "is_integer" "is_integer" (defArgs s_is_integer) (defBody s_is_integer) (defScope s_is_integer) .none kV_is_integer dc_is_integer pm_is_integer an_is_integer cd_is_integer ct_is_integer), sl_is_integer⟩)
    (c_is_integer : PySem.W.codeIn K cd_is_integer "is_integer" = true)
    (k_is_integer : PySem.W.keepIn K (.ref f_is_integer) = true)
    (a_as_ratio : PySem.W.nsIn K mainGlobals "as_ratio" = some (some (.ref f_as_ratio)))
    (l_as_ratio : K.lookup f_as_ratio = some ⟨oc_as_ratio, od_as_ratio, .func (PySem.W.fnOf "as_ratio" "as_ratio" (defArgs s_as_ratio) (defBody s_as_ratio) (defScope s_as_ratio) .none kV_as_ratio dc_as_ratio pm_as_ratio an_as_ratio cd_as_ratio ct_as_ratio), sl_as_ratio⟩)
    (c_as_ratio : PySem.W.codeIn K cd_as_ratio "as_ratio" = true)
    (k_as_ratio : PySem.W.keepIn K (.ref f_as_ratio) = true)
    (a__law_start : PySem.W.nsIn K mainGlobals "_law_start" = some (some (.ref f__law_start)))
    (l__law_start : K.lookup f__law_start = some ⟨oc__law_start, od__law_start, .func (PySem.W.fnOf "_law_start" "_law_start" (defArgs s__law_start) (defBody s__law_start) (defScope s__law_start) .none kV__law_start dc__law_start pm__law_start an__law_start cd__law_start ct__law_start), sl__law_start⟩)
    (c__law_start : PySem.W.codeIn K cd__law_start "_law_start" = true)
    (k__law_start : PySem.W.keepIn K (.ref f__law_start) = true)
    (a__law_draw : PySem.W.nsIn K mainGlobals "_law_draw" = some (some (.ref f__law_draw)))
    (l__law_draw : K.lookup f__law_draw = some ⟨oc__law_draw, od__law_draw, .func (PySem.W.fnOf "_law_draw" "_law_draw" (defArgs s__law_draw) (defBody s__law_draw) (defScope s__law_draw) .none kV__law_draw dc__law_draw pm__law_draw an__law_draw cd__law_draw ct__law_draw), sl__law_draw⟩)
    (c__law_draw : PySem.W.codeIn K cd__law_draw "_law_draw" = true)
    (k__law_draw : PySem.W.keepIn K (.ref f__law_draw) = true)
    (a__law_divisor : PySem.W.nsIn K mainGlobals "_law_divisor" = some (some (.ref f__law_divisor)))
    (l__law_divisor : K.lookup f__law_divisor = some ⟨oc__law_divisor, od__law_divisor, .func (PySem.W.fnOf "_law_divisor" "_law_divisor" (defArgs s__law_divisor) (defBody s__law_divisor) (defScope s__law_divisor) .none kV__law_divisor dc__law_divisor pm__law_divisor an__law_divisor cd__law_divisor ct__law_divisor), sl__law_divisor⟩)
    (c__law_divisor : PySem.W.codeIn K cd__law_divisor "_law_divisor" = true)
    (k__law_divisor : PySem.W.keepIn K (.ref f__law_divisor) = true)
    (a__law_text : PySem.W.nsIn K mainGlobals "_law_text" = some (some (.ref f__law_text)))
    (l__law_text : K.lookup f__law_text = some ⟨oc__law_text, od__law_text, .func (PySem.W.fnOf "_law_text" "_law_text" (defArgs s__law_text) (defBody s__law_text) (defScope s__law_text) .none kV__law_text dc__law_text pm__law_text an__law_text cd__law_text ct__law_text), sl__law_text⟩)
    (c__law_text : PySem.W.codeIn K cd__law_text "_law_text" = true)
    (k__law_text : PySem.W.keepIn K (.ref f__law_text) = true)
    (a__law_whole : PySem.W.nsIn K mainGlobals "_law_whole" = some (some (.ref f__law_whole)))
    (l__law_whole : K.lookup f__law_whole = some ⟨oc__law_whole, od__law_whole, .func (PySem.W.fnOf "_law_whole" "_law_whole" (defArgs s__law_whole) (defBody s__law_whole) (defScope s__law_whole) .none kV__law_whole dc__law_whole pm__law_whole an__law_whole cd__law_whole ct__law_whole), sl__law_whole⟩)
    (c__law_whole : PySem.W.codeIn K cd__law_whole "_law_whole" = true)
    (k__law_whole : PySem.W.keepIn K (.ref f__law_whole) = true)
    (a__law_is_text : PySem.W.nsIn K mainGlobals "_law_is_text" = some (some (.ref f__law_is_text)))
    (l__law_is_text : K.lookup f__law_is_text = some ⟨oc__law_is_text, od__law_is_text, .func (PySem.W.fnOf "_law_is_text" "_law_is_text" (defArgs s__law_is_text) (defBody s__law_is_text) (defScope s__law_is_text) .none kV__law_is_text dc__law_is_text pm__law_is_text an__law_is_text cd__law_is_text ct__law_is_text), sl__law_is_text⟩)
    (c__law_is_text : PySem.W.codeIn K cd__law_is_text "_law_is_text" = true)
    (k__law_is_text : PySem.W.keepIn K (.ref f__law_is_text) = true)
    (a__law_read : PySem.W.nsIn K mainGlobals "_law_read" = some (some (.ref f__law_read)))
    (l__law_read : K.lookup f__law_read = some ⟨oc__law_read, od__law_read, .func (PySem.W.fnOf "_law_read" "_law_read" (defArgs s__law_read) (defBody s__law_read) (defScope s__law_read) .none kV__law_read dc__law_read pm__law_read an__law_read cd__law_read ct__law_read), sl__law_read⟩)
    (c__law_read : PySem.W.codeIn K cd__law_read "_law_read" = true)
    (k__law_read : PySem.W.keepIn K (.ref f__law_read) = true)
    (a__law_near : PySem.W.nsIn K mainGlobals "_law_near" = some (some (.ref f__law_near)))
    (l__law_near : K.lookup f__law_near = some ⟨oc__law_near, od__law_near, .func (PySem.W.fnOf "_law_near" "_law_near" (defArgs s__law_near) (defBody s__law_near) (defScope s__law_near) .none kV__law_near dc__law_near pm__law_near an__law_near cd__law_near ct__law_near), sl__law_near⟩)
    (c__law_near : PySem.W.codeIn K cd__law_near "_law_near" = true)
    (k__law_near : PySem.W.keepIn K (.ref f__law_near) = true)
    (a_law : PySem.W.nsIn K mainGlobals "law" = some (some (.ref f_law)))
    (l_law : K.lookup f_law = some ⟨oc_law, od_law, .func (PySem.W.fnOf "law" "law" (defArgs s_law) (defBody s_law) (defScope s_law) .none kV_law dc_law pm_law an_law cd_law ct_law), sl_law⟩)
    (c_law : PySem.W.codeIn K cd_law "law" = true)
    (k_law : PySem.W.keepIn K (.ref f_law) = true)
    (a_Ratio : PySem.W.nsIn K mainGlobals "Ratio" = some (some (.ref C)))
    (pg_Ratio : PySem.W.plainGet K C Str.empty = true)
    (hd_Ratio : PySem.W.hasDictIn K C = true)
    (po_Ratio : PySem.W.plainOver K C = true)
    (sa_Ratio : PySem.W.findIn K (.ref C) "__setattr__" = some (some (.builtin "object.__setattr__")))
    (mk_Ratio : PySem.W.makesIn K C = true)
    (kc_Ratio : PySem.W.keepIn K (.ref C) = true)
    (at_Ratio_init : PySem.W.findIn K (.ref C) "__init__" = some (some (.ref f_Ratio_init)))
    (l_Ratio_init : K.lookup f_Ratio_init = some ⟨oc_Ratio_init, od_Ratio_init, .func (PySem.W.fnOf "__init__" "Ratio.__init__" (defArgs s_Ratio___init__) (defBody s_Ratio___init__) (defScope s_Ratio___init__) (.ref t_Ratio_init) kV_Ratio_init dc_Ratio_init pm_Ratio_init an_Ratio_init cd_Ratio_init ct_Ratio_init), sl_Ratio_init⟩)
    (lt_Ratio_init : K.lookup t_Ratio_init = some ⟨ot_Ratio_init, dd_Ratio_init, .seq #[.int 1 tk_Ratio_init] n_Ratio_init, st_Ratio_init⟩)
    (c_Ratio_init : PySem.W.codeIn K cd_Ratio_init "Ratio.__init__" = true)
    (k_Ratio_init : PySem.W.keepIn K (.ref f_Ratio_init) = true)
    (i_Ratio_init : PySem.W.isFn K (.ref f_Ratio_init) = true)
    (at_Ratio_top : PySem.W.findIn K (.ref C) "top" = some (some (.ref p_Ratio_top)))
    (rc_Ratio_top : PySem.W.recIn K p_Ratio_top "property" = some (.ref f_Ratio_top :: rr_Ratio_top))
    (gt_Ratio_top : PySem.W.specialIn K (.ref p_Ratio_top) "__get__" = some (some (.builtin "property.__get__")))
    (tk_Ratio_top : PySem.W.takesIn K (.ref p_Ratio_top) = some true)
    (l_Ratio_top : K.lookup f_Ratio_top = some ⟨oc_Ratio_top, od_Ratio_top, .func (PySem.W.fnOf "top" "Ratio.top" (defArgs s_Ratio_top) (defBody s_Ratio_top) (defScope s_Ratio_top) .none kV_Ratio_top dc_Ratio_top pm_Ratio_top an_Ratio_top cd_Ratio_top ct_Ratio_top), sl_Ratio_top⟩)
    (c_Ratio_top : PySem.W.codeIn K cd_Ratio_top "Ratio.top" = true)
    (k_Ratio_top : PySem.W.keepIn K (.ref f_Ratio_top) = true)
    (i_Ratio_top : PySem.W.isFn K (.ref f_Ratio_top) = true)
    (at_Ratio_bottom : PySem.W.findIn K (.ref C) "bottom" = some (some (.ref p_Ratio_bottom)))
    (rc_Ratio_bottom : PySem.W.recIn K p_Ratio_bottom "property" = some (.ref f_Ratio_bottom :: rr_Ratio_bottom))
    (gt_Ratio_bottom : PySem.W.specialIn K (.ref p_Ratio_bottom) "__get__" = some (some (.builtin "property.__get__")))
    (tk_Ratio_bottom : PySem.W.takesIn K (.ref p_Ratio_bottom) = some true)
    (l_Ratio_bottom : K.lookup f_Ratio_bottom = some ⟨oc_Ratio_bottom, od_Ratio_bottom, .func (PySem.W.fnOf "bottom" "Ratio.bottom" (defArgs s_Ratio_bottom) (defBody s_Ratio_bottom) (defScope s_Ratio_bottom) .none kV_Ratio_bottom dc_Ratio_bottom pm_Ratio_bottom an_Ratio_bottom cd_Ratio_bottom ct_Ratio_bottom), sl_Ratio_bottom⟩)
    (c_Ratio_bottom : PySem.W.codeIn K cd_Ratio_bottom "Ratio.bottom" = true)
    (k_Ratio_bottom : PySem.W.keepIn K (.ref f_Ratio_bottom) = true)
    (i_Ratio_bottom : PySem.W.isFn K (.ref f_Ratio_bottom) = true)
    (at_Ratio_mul : PySem.W.findIn K (.ref C) "__mul__" = some (some (.ref f_Ratio_mul)))
    (l_Ratio_mul : K.lookup f_Ratio_mul = some ⟨oc_Ratio_mul, od_Ratio_mul, .func (PySem.W.fnOf "__mul__" "Ratio.__mul__" (defArgs s_Ratio___mul__) (defBody s_Ratio___mul__) (defScope s_Ratio___mul__) .none kV_Ratio_mul dc_Ratio_mul pm_Ratio_mul an_Ratio_mul cd_Ratio_mul ct_Ratio_mul), sl_Ratio_mul⟩)
    (c_Ratio_mul : PySem.W.codeIn K cd_Ratio_mul "Ratio.__mul__" = true)
    (k_Ratio_mul : PySem.W.keepIn K (.ref f_Ratio_mul) = true)
    (i_Ratio_mul : PySem.W.isFn K (.ref f_Ratio_mul) = true)
    (at_Ratio_eq : PySem.W.findIn K (.ref C) "__eq__" = some (some (.ref f_Ratio_eq)))
    (l_Ratio_eq : K.lookup f_Ratio_eq = some ⟨oc_Ratio_eq, od_Ratio_eq, .func (PySem.W.fnOf "__eq__" "Ratio.__eq__" (defArgs s_Ratio___eq__) (defBody s_Ratio___eq__) (defScope s_Ratio___eq__) .none kV_Ratio_eq dc_Ratio_eq pm_Ratio_eq an_Ratio_eq cd_Ratio_eq ct_Ratio_eq), sl_Ratio_eq⟩)
    (c_Ratio_eq : PySem.W.codeIn K cd_Ratio_eq "Ratio.__eq__" = true)
    (k_Ratio_eq : PySem.W.keepIn K (.ref f_Ratio_eq) = true)
    (i_Ratio_eq : PySem.W.isFn K (.ref f_Ratio_eq) = true)
    (at_Ratio_str : PySem.W.findIn K (.ref C) "__str__" = some (some (.ref f_Ratio_str)))
    (l_Ratio_str : K.lookup f_Ratio_str = some ⟨oc_Ratio_str, od_Ratio_str, .func (PySem.W.fnOf "__str__" "Ratio.__str__" (defArgs s_Ratio___str__) (defBody s_Ratio___str__) (defScope s_Ratio___str__) .none kV_Ratio_str dc_Ratio_str pm_Ratio_str an_Ratio_str cd_Ratio_str ct_Ratio_str), sl_Ratio_str⟩)
    (c_Ratio_str : PySem.W.codeIn K cd_Ratio_str "Ratio.__str__" = true)
    (k_Ratio_str : PySem.W.keepIn K (.ref f_Ratio_str) = true)
    (i_Ratio_str : PySem.W.isFn K (.ref f_Ratio_str) = true)
    (at_Ratio_read : PySem.W.findCls K (.ref C) (.type "type") "read" = some (.get (.builtin "classmethod.__get__") (.ref p_Ratio_read) .none (.ref C)))
    (rc_Ratio_read : PySem.W.recIn K p_Ratio_read "classmethod" = some (.ref f_Ratio_read :: rr_Ratio_read))
    (fi_Ratio_read : PySem.W.fnIn K f_Ratio_read = true)
    (l_Ratio_read : K.lookup f_Ratio_read = some ⟨oc_Ratio_read, od_Ratio_read, .func (PySem.W.fnOf "read" "Ratio.read" (defArgs s_Ratio_read) (defBody s_Ratio_read) (defScope s_Ratio_read) .none kV_Ratio_read dc_Ratio_read pm_Ratio_read an_Ratio_read cd_Ratio_read ct_Ratio_read), sl_Ratio_read⟩)
    (c_Ratio_read : PySem.W.codeIn K cd_Ratio_read "Ratio.read" = true)
    (k_Ratio_read : PySem.W.keepIn K (.ref f_Ratio_read) = true)
    (i_Ratio_read : PySem.W.isFn K (.ref f_Ratio_read) = true)
    (a_BadNumber : PySem.W.nsIn K mainGlobals "BadNumber" = some (some (.ref C_BadNumber)))
    (x_BadNumber : K.lookup C_BadNumber = some (excClassObj nm_BadNumber q_BadNumber C_BadNumber N_BadNumber bs_BadNumber [.ref R_BadNumber, .type "ValueError", .type "Exception", .type "BaseException", .type "object"] true sn_BadNumber sub_BadNumber ab_BadNumber col_BadNumber dd_BadNumber m0_BadNumber m1_BadNumber m2_BadNumber m3_BadNumber m5_BadNumber "ValueError.__new__"))
    (sa_BadNumber : PySem.W.findIn K (.ref C_BadNumber) "__setattr__" = some (some (.builtin "object.__setattr__")))
    (ga_BadNumber : PySem.W.findIn K (.ref C_BadNumber) "__getattribute__" = some (some (.builtin "BaseException.__getattribute__")))
    (gg_BadNumber : PySem.W.findIn K (.ref C_BadNumber) "__getattr__" = some none)
    (nb_BadNumber : PySem.W.findIn K (.ref C_BadNumber) "value" = some none)
    (at_BadNumber : PySem.W.findIn K (.ref C_BadNumber) "__init__" = some (some (.ref fi_BadNumber)))
    (t_BadNumber : PySem.W.typeIn K (.ref fi_BadNumber) = some (.type "function"))
    (l_BadNumber : K.lookup fi_BadNumber = some ⟨oc_BadNumber, od_BadNumber, .func (PySem.W.fnOf "__init__" "BadNumber.__init__" (PySem.LowX_BadNumber.iA ⟨35, 17, 35, 21⟩ ⟨35, 23, 35, 28⟩) (PySem.LowX_BadNumber.iB ⟨36, 8, 36, 12⟩ ⟨36, 8, 36, 18⟩ ⟨36, 21, 36, 26⟩ ⟨36, 8, 36, 26⟩) PySem.LowX_BadNumber.iS .none .none dc_BadNumber pm_BadNumber an_BadNumber cd_BadNumber ct_BadNumber), sl_BadNumber⟩)
    (c_BadNumber : PySem.W.codeIn K cd_BadNumber "BadNumber.__init__" = true)
    (kc_BadNumber : PySem.W.keepIn K (.ref C_BadNumber) = true)
    (e_BadNumber : PySem.W.subIn K (.ref C_BadNumber) (.type "BaseException") = some true)
    (ty_BadNumber : PySem.W.typeIn K (.ref C_BadNumber) = some (.type "type"))
    (hd_BadNumber : PySem.W.hasDictIn K C_BadNumber = true)
    (ic_BadNumber : PySem.W.isClsIn K C_BadNumber = true)
    (ss_BadNumber : PySem.W.subIn K (.ref C_BadNumber) (.ref C_BadNumber) = some true)
    (a_ByZero : PySem.W.nsIn K mainGlobals "ByZero" = some (some (.ref C_ByZero)))
    (x_ByZero : PySem.W.excIn K C_ByZero [.type "ValueError", .type "Exception", .type "BaseException", .type "object"] "ValueError.__new__" = true)
    (kc_ByZero : PySem.W.keepIn K (.ref C_ByZero) = true)
    (e_ByZero : PySem.W.subIn K (.ref C_ByZero) (.type "BaseException") = some true)
    (ty_ByZero : PySem.W.typeIn K (.ref C_ByZero) = some (.type "type"))
    (ic_ByZero : PySem.W.isClsIn K C_ByZero = true)
    (ss_ByZero : PySem.W.subIn K (.ref C_ByZero) (.ref C_ByZero) = some true)
    (a_BadText : PySem.W.nsIn K mainGlobals "BadText" = some (some (.ref C_BadText)))
    (x_BadText : PySem.W.excIn K C_BadText [.type "ValueError", .type "Exception", .type "BaseException", .type "object"] "ValueError.__new__" = true)
    (kc_BadText : PySem.W.keepIn K (.ref C_BadText) = true)
    (e_BadText : PySem.W.subIn K (.ref C_BadText) (.type "BaseException") = some true)
    (ty_BadText : PySem.W.typeIn K (.ref C_BadText) = some (.type "type"))
    (ic_BadText : PySem.W.isClsIn K C_BadText = true)
    (ss_BadText : PySem.W.subIn K (.ref C_BadText) (.ref C_BadText) = some true)
    (v_DIGITS : PySem.W.nsIn K mainGlobals "DIGITS" = some (some (.str (Str.ofString "0123456789") t_DIGITS)))
    (v_WIDTH : PySem.W.nsIn K mainGlobals "WIDTH" = some (some (.int 64 t_WIDTH)))
    (v_STEP : PySem.W.nsIn K mainGlobals "STEP" = some (some (.int (10 ^ 64) t_STEP)))
    (q_ca : PySem.W.findIn K (.ref C) "__class__" = some (some (.builtin "object.__class__")))
    (q_cn : PySem.W.specialIn K (.builtin "object.__class__") "__get__" = some (some (.builtin "getset_descriptor.__get__")))
    (q_ct : PySem.W.takesIn K (.builtin "object.__class__") = some true)
    (q_cm : PySem.W.mroIn K C (.type "object") = some true)
    (q_ki : PySem.W.kitOne K (.ref C) (.type "int") = some false)
    (q_kc : PySem.W.kitOne K (.ref C) (.ref C) = some true)
    (q_ti : PySem.W.kitOne K (.type "int") (.ref C) = some false)
    (q_nT : PySem.W.findIn K (.ref C) "_top" = some none)
    (q_nB : PySem.W.findIn K (.ref C) "_bottom" = some none)
    (q_gcd : PySem.W.nsIn K mainGlobals "gcd" = some (some (.builtin "math.gcd")))
    (q_sf : PySem.W.selfFirst K C = true)
    (q_na : PySem.W.findIn K (.ref C) "__radd__" = some none)
    (q_ns : PySem.W.findIn K (.ref C) "__rsub__" = some none)
    (q_nm : PySem.W.findIn K (.ref C) "__rmul__" = some none)
    (q_nn : PySem.W.findIn K (.ref C) "__ne__" = some (some (.builtin "object.__ne__")))
    (q_si : PySem.W.subIn K (.type "int") (.ref C) = some false)
    (q_is : PySem.W.subIn K (.ref C) (.type "int") = some false)
    (q_rd : PySem.W.readsIn K C (.type "type") = true)
    (q_ga : PySem.W.specialIn K (.ref C) "__getattribute__" = some (some (.builtin "type.__getattribute__")))
    (z_isinstance : PySem.W.nsIn K mainGlobals "isinstance" = some none)
    (z_int : PySem.W.nsIn K mainGlobals "int" = some none)
    (z_bool : PySem.W.nsIn K mainGlobals "bool" = some none)
    (z_abs : PySem.W.nsIn K mainGlobals "abs" = some none)
    (z_repr : PySem.W.nsIn K mainGlobals "repr" = some none)
    (z_list : PySem.W.nsIn K mainGlobals "list" = some none)
    (z_tuple : PySem.W.nsIn K mainGlobals "tuple" = some none)
    (z_sum : PySem.W.nsIn K mainGlobals "sum" = some none)
    (z_len : PySem.W.nsIn K mainGlobals "len" = some none)
    (z_range : PySem.W.nsIn K mainGlobals "range" = some none)
    (z_divmod : PySem.W.nsIn K mainGlobals "divmod" = some none)
    (z_str : PySem.W.nsIn K mainGlobals "str" = some none)
    (z_all : PySem.W.nsIn K mainGlobals "all" = some none)
    : ∃ fd : FuncData, (∀ (s : Shared) (v : Value), BindsTo s fd ⟨[v], []⟩ [("_law_script", v)]) ∧ ∀ base : Heap, K.In base → base.Ns mainGlobals mg → FnG l.prog w K mg base CX0 10 fa fd ["_law_script"] (LawK.spLaw K) := by
  have e := hfa.symm.trans (PySem.W.mg_of X G a_law)
  cases e
  have F_is_digits := fun_mk (st := s_is_digits) l_is_digits c_is_digits k_is_digits
  have b_is_digits := F_is_digits.binds (ps := ["text"]) fun _ _ _ _ _ _ us hl => match us, hl with | [_], _ => rfl
  have F_notation := fun_mk (st := s_notation) l_notation c_notation k_notation
  have b_notation := F_notation.binds (ps := ["integer"]) fun _ _ _ _ _ _ us hl => match us, hl with | [_], _ => rfl
  have F_integer_of := fun_mk (st := s_integer_of) l_integer_of c_integer_of k_integer_of
  have b_integer_of := F_integer_of.binds (ps := ["digits"]) fun _ _ _ _ _ _ us hl => match us, hl with | [_], _ => rfl
  have F_is_integer := fun_mk (st := s_is_integer) l_is_integer c_is_integer k_is_integer
  have b_is_integer := F_is_integer.binds (ps := ["value"]) fun _ _ _ _ _ _ us hl => match us, hl with | [_], _ => rfl
  have F_as_ratio := fun_mk (st := s_as_ratio) l_as_ratio c_as_ratio k_as_ratio
  have b_as_ratio := F_as_ratio.binds (ps := ["value"]) fun _ _ _ _ _ _ us hl => match us, hl with | [_], _ => rfl
  have F__law_start := fun_mk (st := s__law_start) l__law_start c__law_start k__law_start
  have b__law_start := F__law_start.binds (ps := ["_law_script"]) fun _ _ _ _ _ _ us hl => match us, hl with | [_], _ => rfl
  have F__law_draw := fun_mk (st := s__law_draw) l__law_draw c__law_draw k__law_draw
  have b__law_draw := F__law_draw.binds (ps := ["_law_state", "_law_size"]) fun _ _ _ _ _ _ us hl => match us, hl with | [_, _], _ => rfl
  have F__law_divisor := fun_mk (st := s__law_divisor) l__law_divisor c__law_divisor k__law_divisor
  have b__law_divisor := F__law_divisor.binds (ps := ["_law_one", "_law_two"]) fun _ _ _ _ _ _ us hl => match us, hl with | [_, _], _ => rfl
  have F__law_text := fun_mk (st := s__law_text) l__law_text c__law_text k__law_text
  have b__law_text := F__law_text.binds (ps := ["_law_a", "_law_b"]) fun _ _ _ _ _ _ us hl => match us, hl with | [_, _], _ => rfl
  have F__law_whole := fun_mk (st := s__law_whole) l__law_whole c__law_whole k__law_whole
  have b__law_whole := F__law_whole.binds (ps := ["_law_prose"]) fun _ _ _ _ _ _ us hl => match us, hl with | [_], _ => rfl
  have F__law_is_text := fun_mk (st := s__law_is_text) l__law_is_text c__law_is_text k__law_is_text
  have b__law_is_text := F__law_is_text.binds (ps := ["_law_prose"]) fun _ _ _ _ _ _ us hl => match us, hl with | [_], _ => rfl
  have F__law_read := fun_mk (st := s__law_read) l__law_read c__law_read k__law_read
  have b__law_read := F__law_read.binds (ps := ["_law_prose"]) fun _ _ _ _ _ _ us hl => match us, hl with | [_], _ => rfl
  have F__law_near := fun_mk (st := s__law_near) l__law_near c__law_near k__law_near
  have b__law_near := F__law_near.binds (ps := ["_law_state", "_law_prose"]) fun _ _ _ _ _ _ us hl => match us, hl with | [_, _], _ => rfl
  have F_law := fun_mk (st := s_law) l_law c_law k_law
  have b_law := F_law.binds (ps := ["_law_script"]) fun _ _ _ _ _ _ us hl => match us, hl with | [_], _ => rfl
  have cls_Ratio : Cls K C := ⟨pg_Ratio, hd_Ratio, po_Ratio, sa_Ratio⟩
  have F_Ratio_init : FunD K "__init__" "Ratio.__init__" (defArgs s_Ratio___init__) (defBody s_Ratio___init__) (defScope s_Ratio___init__) [.int 1] [] f_Ratio_init _ := ⟨⟨_, _, _, _, _, _, _, _, _, _, rfl, l_Ratio_init, c_Ratio_init, .inr ⟨by simp, _, _, [.int 1 tk_Ratio_init], _, rfl, lt_Ratio_init, rfl, .cons ⟨_, rfl⟩ .nil⟩, .inl rfl⟩, k_Ratio_init⟩
  have F_Ratio_top := fun_mk (st := s_Ratio_top) l_Ratio_top c_Ratio_top k_Ratio_top
  have b_Ratio_top := F_Ratio_top.binds (ps := ["self"]) fun _ _ _ _ _ _ us hl => match us, hl with | [_], _ => rfl
  have F_Ratio_bottom := fun_mk (st := s_Ratio_bottom) l_Ratio_bottom c_Ratio_bottom k_Ratio_bottom
  have b_Ratio_bottom := F_Ratio_bottom.binds (ps := ["self"]) fun _ _ _ _ _ _ us hl => match us, hl with | [_], _ => rfl
  have F_Ratio_mul := fun_mk (st := s_Ratio___mul__) l_Ratio_mul c_Ratio_mul k_Ratio_mul
  have b_Ratio_mul := F_Ratio_mul.binds (ps := ["self", "other"]) fun _ _ _ _ _ _ us hl => match us, hl with | [_, _], _ => rfl
  have F_Ratio_eq := fun_mk (st := s_Ratio___eq__) l_Ratio_eq c_Ratio_eq k_Ratio_eq
  have b_Ratio_eq := F_Ratio_eq.binds (ps := ["self", "other"]) fun _ _ _ _ _ _ us hl => match us, hl with | [_, _], _ => rfl
  have F_Ratio_str := fun_mk (st := s_Ratio___str__) l_Ratio_str c_Ratio_str k_Ratio_str
  have b_Ratio_str := F_Ratio_str.binds (ps := ["self"]) fun _ _ _ _ _ _ us hl => match us, hl with | [_], _ => rfl
  have F_Ratio_read := fun_mk (st := s_Ratio_read) l_Ratio_read c_Ratio_read k_Ratio_read
  have b_Ratio_read := F_Ratio_read.binds (ps := ["cls", "text"]) fun _ _ _ _ _ _ us hl => match us, hl with | [_, _], _ => rfl
  have B_BadNumber : PySem.LowX_BadNumber.LowTxt_BadNumber K mg C_BadNumber fi_BadNumber := { gC := PySem.W.mg_of X G a_BadNumber, cls := ⟨_, _, _, _, _, _, _, _, _, _, _, _, _, _, _, x_BadNumber, by rfl⟩, sa := sa_BadNumber, ga := ga_BadNumber, gg := gg_BadNumber, noN := nb_BadNumber, iC := at_BadNumber, tC := t_BadNumber, kC := kc_BadNumber, exC := e_BadNumber, tyC := ty_BadNumber, hdC := hd_BadNumber, te := exm_self e_BadNumber ic_BadNumber ty_BadNumber ss_BadNumber, fn := ⟨_, _, _, _, _, _, _, _, _, _, _, _, _, _, l_BadNumber, c_BadNumber⟩ }
  have Z_ByZero : ZTxt K mg C_ByZero := ⟨PySem.W.mg_of X G a_ByZero, x_ByZero, kc_ByZero, e_ByZero, ty_ByZero, exm_self e_ByZero ic_ByZero ty_ByZero ss_ByZero⟩
  have Z_BadText : YTxt K mg C_BadText := ⟨PySem.W.mg_of X G a_BadText, x_BadText, kc_BadText, e_BadText, ty_BadText, exm_self e_BadText ic_BadText ty_BadText ss_BadText⟩
  have ris : RIs K C := ⟨cls_Ratio, q_ca, q_cn, q_ct, q_cm, q_ki, q_kc, q_ti⟩
  have T : RTxt K mg C := ⟨ris, q_nT, q_nB, ⟨_, PySem.W.mg_of X G a_Ratio, rfl⟩, PySem.W.mg_of X G q_gcd, PySem.W.mg_none_of X G z_isinstance, PySem.W.mg_none_of X G z_int, PySem.W.mg_none_of X G z_bool, PySem.W.mg_none_of X G z_abs, PySem.W.mg_none_of X G z_repr, PySem.W.mg_none_of X G z_list, PySem.W.mg_none_of X G z_tuple, PySem.W.mg_none_of X G z_sum, PySem.W.mg_none_of X G z_len, PySem.W.mg_none_of X G z_range⟩
  have DD : DTxt K mg := ⟨⟨_, PySem.W.mg_of X G v_DIGITS, ⟨_, rfl⟩⟩, ⟨_, PySem.W.mg_of X G v_WIDTH, ⟨_, rfl⟩⟩, ⟨_, PySem.W.mg_of X G v_STEP, ⟨_, rfl⟩⟩, PySem.W.mg_none_of X G z_divmod, PySem.W.mg_none_of X G z_str, PySem.W.mg_none_of X G z_all⟩
  have O : ROps K C := ⟨q_sf, q_na, q_ns, q_nm, q_nn, q_si, q_is⟩
  refine ⟨PySem.W.fnOf "law" "law" (defArgs s_law) (defBody s_law) (defScope s_law) .none kV_law dc_law pm_law an_law cd_law ct_law, fun s v => .of_eq rfl, fun base _ _ => ?_⟩
  have MkR : Mk K C f_Ratio_init := ⟨mk_Ratio, at_Ratio_init, i_Ratio_init, kc_Ratio⟩
  have gR := PySem.W.mg_of X G a_Ratio
  have OI := ok_init (P := l.prog) (w := w) (base := base) F_Ratio_init T Z_ByZero
  obtain ⟨d0, v0, bI0⟩ := F_Ratio_init.binds1 (ps := ["self", "top", "bottom"]) 3 1 (by simp) rfl (fun T kV doc pm an cdv ct us its h1 h2 => match us, its, h1, h2 with | [_, _, _], [_], _, _ => ⟨_, rfl, rfl⟩)
  obtain ⟨d1, v1, bI1⟩ := F_Ratio_init.binds1 (ps := ["self", "top", "bottom"]) 2 0 (by simp) rfl (fun T kV doc pm an cdv ct us its h1 h2 => match us, its, h1, h2 with | [_, _], [_], _, _ => ⟨_, rfl, rfl⟩)
  have cR : MakX l.prog w K mg base 1 "Ratio" C (spInit C C_ByZero) [] := ⟨_, ⟨_, _, d0, OI, bI0, v0⟩, MkR, gR⟩
  have cR1 : MakX l.prog w K mg base 1 "Ratio" C (spInit C C_ByZero) [.int 1] := ⟨_, ⟨_, _, d1, OI, bI1, v1⟩, MkR, gR⟩
  have pT : ProX l.prog w K mg base 1 C "top" (spTop C) := ⟨_, _, ⟨_, _, [], (ok_top F_Ratio_top T).up, b_Ratio_top, .nil⟩, cls_Ratio, ⟨at_Ratio_top, gt_Ratio_top, tk_Ratio_top, ⟨_, rc_Ratio_top⟩⟩⟩
  have pB : ProX l.prog w K mg base 1 C "bottom" (spBot C) := ⟨_, _, ⟨_, _, [], (ok_bottom F_Ratio_bottom T).up, b_Ratio_bottom, .nil⟩, cls_Ratio, ⟨at_Ratio_bottom, gt_Ratio_bottom, tk_Ratio_bottom, ⟨_, rc_Ratio_bottom⟩⟩⟩
  have cI : CalX l.prog w K mg base 1 "is_integer" (spIsInt K) [] := ⟨_, ⟨_, _, [], (ok_is_integer F_is_integer T).up, b_is_integer, .nil⟩, PySem.W.mg_of X G a_is_integer, k_is_integer⟩
  have oA := ok_as_ratio (P := l.prog) (w := w) (base := base) F_as_ratio T B_BadNumber cI cR1
  have cA : CalX l.prog w K mg base 4 "as_ratio" (spAsR K C C_BadNumber) [] := ⟨_, ⟨_, _, [], oA, b_as_ratio, .nil⟩, PySem.W.mg_of X G a_as_ratio, k_as_ratio⟩
  have dM : DunX l.prog w K mg base 5 C "__mul__" (spBin C fun a b => a * b) := ⟨_, ⟨_, _, [], ok_mul F_Ratio_mul T cA cR pT pB, b_Ratio_mul, .nil⟩, at_Ratio_mul, i_Ratio_mul⟩
  have dE : DunX l.prog w K mg base 3 C "__eq__" (spEq K C) := ⟨_, ⟨_, _, [], ok_eq F_Ratio_eq T cI pT pB, b_Ratio_eq, .nil⟩, at_Ratio_eq, i_Ratio_eq⟩
  have xD : CalX l.prog w K mg base 1 "is_digits" spDig [] := ⟨_, ⟨_, _, [], (ok_is_digits F_is_digits DD).up, b_is_digits, .nil⟩, PySem.W.mg_of X G a_is_digits, k_is_digits⟩
  have xN : CalX l.prog w K mg base 1 "notation" spNot [] := ⟨_, ⟨_, _, [], (ok_notation F_notation T DD).up, b_notation, .nil⟩, PySem.W.mg_of X G a_notation, k_notation⟩
  have xI : CalX l.prog w K mg base 1 "integer_of" spOf [] := ⟨_, ⟨_, _, [], (ok_integer_of F_integer_of T DD).up, b_integer_of, .nil⟩, PySem.W.mg_of X G a_integer_of, k_integer_of⟩
  have dS : DunX l.prog w K mg base 3 C "__str__" (spStr C) := ⟨_, ⟨_, _, [], ok_str F_Ratio_str T xN, b_Ratio_str, .nil⟩, at_Ratio_str, i_Ratio_str⟩
  have oR := ok_read (P := l.prog) (w := w) (base := base) F_Ratio_read T DD Z_BadText xD xI cR dS
  have rdC : ClX.CRead K C (.type "type") := ⟨q_rd, q_ga⟩
  have rdM : ClX.CMet K C (.type "type") "read" p_Ratio_read f_Ratio_read := ⟨at_Ratio_read, ⟨_, rc_Ratio_read⟩, fi_Ratio_read⟩
  have mR : CmX l.prog w K mg base 7 C "read" (spRead K C C_BadText) := ⟨_, _, _, ⟨_, _, [], oR, b_Ratio_read, .nil⟩, rdC, rdM⟩
  have mK : CmK l.prog w K mg base 7 C "read" ["text"] (spRead K C C_BadText) (fun us zs => us ++ zs) := ⟨_, _, _, ⟨_, _, _, oR, F_Ratio_read.kbn1 (fun _ _ _ _ _ _ u ws hl => match ws, hl with | [_], _ => rfl)⟩, rdC, rdM⟩
  have wS : CalF l.prog w K mg base 1 "_law_start" (spStart K) [] := ⟨_, _, _, [], ok_start F__law_start T, PySem.W.mg_of X G a__law_start, k__law_start, b__law_start, .nil⟩
  have wD : CalF l.prog w K mg base 1 "_law_draw" spDraw [] := ⟨_, _, _, [], ok_draw F__law_draw T, PySem.W.mg_of X G a__law_draw, k__law_draw, b__law_draw, .nil⟩
  have wV : CalF l.prog w K mg base 1 "_law_divisor" spDiv [] := ⟨_, _, _, [], ok_divisor F__law_divisor T, PySem.W.mg_of X G a__law_divisor, k__law_divisor, b__law_divisor, .nil⟩
  have wT : CalF l.prog w K mg base 2 "_law_text" spLText [] := ⟨_, _, _, [], ok_text F__law_text T DD wV, PySem.W.mg_of X G a__law_text, k__law_text, b__law_text, .nil⟩
  have wW : CalF l.prog w K mg base 1 "_law_whole" spWhole [] := ⟨_, _, _, [], ok_whole F__law_whole T, PySem.W.mg_of X G a__law_whole, k__law_whole, b__law_whole, .nil⟩
  have wI : CalF l.prog w K mg base 2 "_law_is_text" spIsT [] := ⟨_, _, _, [], ok_is_text F__law_is_text T wW wV, PySem.W.mg_of X G a__law_is_text, k__law_is_text, b__law_is_text, .nil⟩
  have wR : CalF l.prog w K mg base 8 "_law_read" (spLRead K) [] := ⟨_, _, _, [], ok_lread F__law_read T DD Z_BadText mK dS, PySem.W.mg_of X G a__law_read, k__law_read, b__law_read, .nil⟩
  have wN : CalF l.prog w K mg base 2 "_law_near" spNear [] := ⟨_, _, _, [], ok_near F__law_near T wD, PySem.W.mg_of X G a__law_near, k__law_near, b__law_near, .nil⟩
  exact (ok_law F_law T DD O wS wD wT wI wR wN cR mR dS dM dE).g

end K06
open PySem PySem.W PyProof.Rows
set_option maxHeartbeats 0 in
theorem PySem.Challenge.cw_saidchances_k06_texts_of_ratios_holds : PySem.Challenge.rw_saidchances_k06_texts_of_ratios.Holds := by
  w_on; o_law; k_head; (case hw => w_witness2)
  k_fill
  refine L2.walk_ofG (l := PySem.Challenge.rw_saidchances_k06_texts_of_ratios) (n := 63) (k := 10) (x := "_law_script") (sp := fun w => LawK.spLaw _) rfl (by decide) rfl ⟨rfl, by decide, by decide⟩ (fun w h Y => PySem.W.kIn_of Y) ?F (fun _ _ a ns hl _ _ hS => ⟨a, ns, rfl, hS, hl, fun _ => rfl⟩)
  case F =>
    intro w mg fa h KX G hmg
    refine' K06.all_mk KX G hmg ?a_is_digits ?l_is_digits ?c_is_digits ?k_is_digits ?a_notation ?l_notation ?c_notation ?k_notation ?a_integer_of ?l_integer_of ?c_integer_of ?k_integer_of ?a_is_integer ?l_is_integer ?c_is_integer ?k_is_integer ?a_as_ratio ?l_as_ratio ?c_as_ratio ?k_as_ratio ?a__law_start ?l__law_start ?c__law_start ?k__law_start ?a__law_draw ?l__law_draw ?c__law_draw ?k__law_draw ?a__law_divisor ?l__law_divisor ?c__law_divisor ?k__law_divisor ?a__law_text ?l__law_text ?c__law_text ?k__law_text ?a__law_whole ?l__law_whole ?c__law_whole ?k__law_whole ?a__law_is_text ?l__law_is_text ?c__law_is_text ?k__law_is_text ?a__law_read ?l__law_read ?c__law_read ?k__law_read ?a__law_near ?l__law_near ?c__law_near ?k__law_near ?a_law ?l_law ?c_law ?k_law ?a_Ratio ?pg_Ratio ?hd_Ratio ?po_Ratio ?sa_Ratio ?mk_Ratio ?kc_Ratio ?at_Ratio_init ?l_Ratio_init ?lt_Ratio_init ?c_Ratio_init ?k_Ratio_init ?i_Ratio_init ?at_Ratio_top ?rc_Ratio_top ?gt_Ratio_top ?tk_Ratio_top ?l_Ratio_top ?c_Ratio_top ?k_Ratio_top ?i_Ratio_top ?at_Ratio_bottom ?rc_Ratio_bottom ?gt_Ratio_bottom ?tk_Ratio_bottom ?l_Ratio_bottom ?c_Ratio_bottom ?k_Ratio_bottom ?i_Ratio_bottom ?at_Ratio_mul ?l_Ratio_mul ?c_Ratio_mul ?k_Ratio_mul ?i_Ratio_mul ?at_Ratio_eq ?l_Ratio_eq ?c_Ratio_eq ?k_Ratio_eq ?i_Ratio_eq ?at_Ratio_str ?l_Ratio_str ?c_Ratio_str ?k_Ratio_str ?i_Ratio_str ?at_Ratio_read ?rc_Ratio_read ?fi_Ratio_read ?l_Ratio_read ?c_Ratio_read ?k_Ratio_read ?i_Ratio_read ?a_BadNumber ?x_BadNumber ?sa_BadNumber ?ga_BadNumber ?gg_BadNumber ?nb_BadNumber ?at_BadNumber ?t_BadNumber ?l_BadNumber ?c_BadNumber ?kc_BadNumber ?e_BadNumber ?ty_BadNumber ?hd_BadNumber ?ic_BadNumber ?ss_BadNumber ?a_ByZero ?x_ByZero ?kc_ByZero ?e_ByZero ?ty_ByZero ?ic_ByZero ?ss_ByZero ?a_BadText ?x_BadText ?kc_BadText ?e_BadText ?ty_BadText ?ic_BadText ?ss_BadText ?v_DIGITS ?v_WIDTH ?v_STEP ?q_ca ?q_cn ?q_ct ?q_cm ?q_ki ?q_kc ?q_ti ?q_nT ?q_nB ?q_gcd ?q_sf ?q_na ?q_ns ?q_nm ?q_nn ?q_si ?q_is ?q_rd ?q_ga ?z_isinstance ?z_int ?z_bool ?z_abs ?z_repr ?z_list ?z_tuple ?z_sum ?z_len ?z_range ?z_divmod ?z_str ?z_all
    case a_is_digits => first | k_is | rfl | decide
    case l_is_digits => first | k_is | rfl | decide
    case c_is_digits => first | k_is | rfl | decide
    case k_is_digits => first | k_is | rfl | decide
    case a_notation => first | k_is | rfl | decide
    case l_notation => first | k_is | rfl | decide
    case c_notation => first | k_is | rfl | decide
    case k_notation => first | k_is | rfl | decide
    case a_integer_of => first | k_is | rfl | decide
    case l_integer_of => first | k_is | rfl | decide
    case c_integer_of => first | k_is | rfl | decide
    case k_integer_of => first | k_is | rfl | decide
    case a_is_integer => first | k_is | rfl | decide
    case l_is_integer => first | k_is | rfl | decide
    case c_is_integer => first | k_is | rfl | decide
    case k_is_integer => first | k_is | rfl | decide
    case a_as_ratio => first | k_is | rfl | decide
    case l_as_ratio => first | k_is | rfl | decide
    case c_as_ratio => first | k_is | rfl | decide
    case k_as_ratio => first | k_is | rfl | decide
    case a__law_start => first | k_is | rfl | decide
    case l__law_start => first | k_is | rfl | decide
    case c__law_start => first | k_is | rfl | decide
    case k__law_start => first | k_is | rfl | decide
    case a__law_draw => first | k_is | rfl | decide
    case l__law_draw => first | k_is | rfl | decide
    case c__law_draw => first | k_is | rfl | decide
    case k__law_draw => first | k_is | rfl | decide
    case a__law_divisor => first | k_is | rfl | decide
    case l__law_divisor => first | k_is | rfl | decide
    case c__law_divisor => first | k_is | rfl | decide
    case k__law_divisor => first | k_is | rfl | decide
    case a__law_text => first | k_is | rfl | decide
    case l__law_text => first | k_is | rfl | decide
    case c__law_text => first | k_is | rfl | decide
    case k__law_text => first | k_is | rfl | decide
    case a__law_whole => first | k_is | rfl | decide
    case l__law_whole => first | k_is | rfl | decide
    case c__law_whole => first | k_is | rfl | decide
    case k__law_whole => first | k_is | rfl | decide
    case a__law_is_text => first | k_is | rfl | decide
    case l__law_is_text => first | k_is | rfl | decide
    case c__law_is_text => first | k_is | rfl | decide
    case k__law_is_text => first | k_is | rfl | decide
    case a__law_read => first | k_is | rfl | decide
    case l__law_read => first | k_is | rfl | decide
    case c__law_read => first | k_is | rfl | decide
    case k__law_read => first | k_is | rfl | decide
    case a__law_near => first | k_is | rfl | decide
    case l__law_near => first | k_is | rfl | decide
    case c__law_near => first | k_is | rfl | decide
    case k__law_near => first | k_is | rfl | decide
    case a_law => first | k_is | rfl | decide
    case l_law => first | k_is | rfl | decide
    case c_law => first | k_is | rfl | decide
    case k_law => first | k_is | rfl | decide
    case a_Ratio => first | k_is | rfl | decide
    case pg_Ratio => first | k_is | rfl | decide
    case hd_Ratio => first | k_is | rfl | decide
    case po_Ratio => first | k_is | rfl | decide
    case sa_Ratio => first | k_is | rfl | decide
    case mk_Ratio => first | k_is | rfl | decide
    case kc_Ratio => first | k_is | rfl | decide
    case at_Ratio_init => first | k_is | rfl | decide
    case l_Ratio_init => first | k_is | rfl | decide
    case lt_Ratio_init => first | k_is | rfl | decide
    case c_Ratio_init => first | k_is | rfl | decide
    case k_Ratio_init => first | k_is | rfl | decide
    case i_Ratio_init => first | k_is | rfl | decide
    case at_Ratio_top => first | k_is | rfl | decide
    case rc_Ratio_top => first | k_is | rfl | decide
    case gt_Ratio_top => first | k_is | rfl | decide
    case tk_Ratio_top => first | k_is | rfl | decide
    case l_Ratio_top => first | k_is | rfl | decide
    case c_Ratio_top => first | k_is | rfl | decide
    case k_Ratio_top => first | k_is | rfl | decide
    case i_Ratio_top => first | k_is | rfl | decide
    case at_Ratio_bottom => first | k_is | rfl | decide
    case rc_Ratio_bottom => first | k_is | rfl | decide
    case gt_Ratio_bottom => first | k_is | rfl | decide
    case tk_Ratio_bottom => first | k_is | rfl | decide
    case l_Ratio_bottom => first | k_is | rfl | decide
    case c_Ratio_bottom => first | k_is | rfl | decide
    case k_Ratio_bottom => first | k_is | rfl | decide
    case i_Ratio_bottom => first | k_is | rfl | decide
    case at_Ratio_mul => first | k_is | rfl | decide
    case l_Ratio_mul => first | k_is | rfl | decide
    case c_Ratio_mul => first | k_is | rfl | decide
    case k_Ratio_mul => first | k_is | rfl | decide
    case i_Ratio_mul => first | k_is | rfl | decide
    case at_Ratio_eq => first | k_is | rfl | decide
    case l_Ratio_eq => first | k_is | rfl | decide
    case c_Ratio_eq => first | k_is | rfl | decide
    case k_Ratio_eq => first | k_is | rfl | decide
    case i_Ratio_eq => first | k_is | rfl | decide
    case at_Ratio_str => first | k_is | rfl | decide
    case l_Ratio_str => first | k_is | rfl | decide
    case c_Ratio_str => first | k_is | rfl | decide
    case k_Ratio_str => first | k_is | rfl | decide
    case i_Ratio_str => first | k_is | rfl | decide
    case at_Ratio_read => first | k_is | rfl | decide
    case rc_Ratio_read => first | k_is | rfl | decide
    case fi_Ratio_read => first | k_is | rfl | decide
    case l_Ratio_read => first | k_is | rfl | decide
    case c_Ratio_read => first | k_is | rfl | decide
    case k_Ratio_read => first | k_is | rfl | decide
    case i_Ratio_read => first | k_is | rfl | decide
    case a_BadNumber => first | k_is | rfl | decide
    case x_BadNumber => first | k_is | rfl | decide
    case sa_BadNumber => first | k_is | rfl | decide
    case ga_BadNumber => first | k_is | rfl | decide
    case gg_BadNumber => first | k_is | rfl | decide
    case nb_BadNumber => first | k_is | rfl | decide
    case at_BadNumber => first | k_is | rfl | decide
    case t_BadNumber => first | k_is | rfl | decide
    case l_BadNumber => first | k_is | rfl | decide
    case c_BadNumber => first | k_is | rfl | decide
    case kc_BadNumber => first | k_is | rfl | decide
    case e_BadNumber => first | k_is | rfl | decide
    case ty_BadNumber => first | k_is | rfl | decide
    case hd_BadNumber => first | k_is | rfl | decide
    case ic_BadNumber => first | k_is | rfl | decide
    case ss_BadNumber => first | k_is | rfl | decide
    case a_ByZero => first | k_is | rfl | decide
    case x_ByZero => k_exc
    case kc_ByZero => first | k_is | rfl | decide
    case e_ByZero => first | k_is | rfl | decide
    case ty_ByZero => first | k_is | rfl | decide
    case ic_ByZero => first | k_is | rfl | decide
    case ss_ByZero => first | k_is | rfl | decide
    case a_BadText => first | k_is | rfl | decide
    case x_BadText => k_exc
    case kc_BadText => first | k_is | rfl | decide
    case e_BadText => first | k_is | rfl | decide
    case ty_BadText => first | k_is | rfl | decide
    case ic_BadText => first | k_is | rfl | decide
    case ss_BadText => first | k_is | rfl | decide
    case v_DIGITS => first | k_is | rfl | decide
    case v_WIDTH => first | k_is | rfl | decide
    case v_STEP => first | k_is | rfl | decide
    case q_ca => first | k_is | rfl | decide
    case q_cn => first | k_is | rfl | decide
    case q_ct => first | k_is | rfl | decide
    case q_cm => first | k_is | rfl | decide
    case q_ki => first | k_is | rfl | decide
    case q_kc => first | k_is | rfl | decide
    case q_ti => first | k_is | rfl | decide
    case q_nT => first | k_is | rfl | decide
    case q_nB => first | k_is | rfl | decide
    case q_gcd => first | k_is | rfl | decide
    case q_sf => first | k_is | rfl | decide
    case q_na => first | k_is | rfl | decide
    case q_ns => first | k_is | rfl | decide
    case q_nm => first | k_is | rfl | decide
    case q_nn => first | k_is | rfl | decide
    case q_si => first | k_is | rfl | decide
    case q_is => first | k_is | rfl | decide
    case q_rd => first | k_is | rfl | decide
    case q_ga => first | k_is | rfl | decide
    case z_isinstance => first | k_is | rfl | decide
    case z_int => first | k_is | rfl | decide
    case z_bool => first | k_is | rfl | decide
    case z_abs => first | k_is | rfl | decide
    case z_repr => first | k_is | rfl | decide
    case z_list => first | k_is | rfl | decide
    case z_tuple => first | k_is | rfl | decide
    case z_sum => first | k_is | rfl | decide
    case z_len => first | k_is | rfl | decide
    case z_range => first | k_is | rfl | decide
    case z_divmod => first | k_is | rfl | decide
    case z_str => first | k_is | rfl | decide
    case z_all => first | k_is | rfl | decide
