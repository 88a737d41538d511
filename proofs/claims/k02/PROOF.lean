import PyProof.Rows.All
import Wide.All
import OpenK.AllK
import Wide.FinOn
import PyProof.ReprRoads
import HandS.ForMost
import HandS.Evl
import HandS.EndBits
import HandS.Wide
import HandS.IsInst
import HandS.Style
import HandS.Codes
import HandS.Walk
import HandS.Defaults
import PySem.Challenge.RW_saidchances_k02_words_and_weather
set_option Elab.async false
set_option linter.all false
set_option maxRecDepth 100000
set_option maxHeartbeats 2000000
namespace L2
open PySem PySem.Spec PyProof.Rows
section
variable {X : Cx}
/-- repr of data without dicts -/
def rRepr (K : PySem.W.Frag) : List V → Hp → VK → Prop := fun vs H Q => ∃ v d, vs = [v] ∧ Dp K H v d ∧ (∃ a, v = .ref a) ∧ d.showable = true ∧ d.hasDict = false ∧ d.depth ≤ 60 ∧ d.shown.length ≤ sizeLine ∧ Q (.str d.shown) H
theorem cr_repr (hu : X.A.units + 64 < cLine) (hgd : X.A.guards = some []) : CallR X (.builtin "repr") (rRepr X.K) := by
  intro pins s σ H vs us Q I r h
  obtain ⟨v, d, rfl, hd, ⟨a, rfl⟩, hs, hn, hdp, hl, q⟩ := h
  obtain ⟨u, rfl, ru⟩ := vals1 r
  obtain ⟨as, hr⟩ := Dp.reads I d _ u hd ru
  cases ru
  refine repr_of_reads' hr hs (PyData.noDict_hsm hn) hgd (by omega) (fun b o e => e) (fun h' u tk hk => ?_) hl
  refine ⟨.str _, H, I.kept fun b o eo => hk b o eo, ⟨_, rfl⟩, q⟩
end
end L2
/-! ### defs that may show lists: no repr runs around them -/
namespace L2
open PySem PySem.Spec PyProof.Rows
structure FnG (P : Program) (w : World) (K : PySem.W.Frag) (mg : Str → Option Value) (base : Heap) (CX : CXT) (k : Nat) (f : Addr) (fd : FuncData) (ps : List Str) (sp : Sp) : Prop where
  size : ∀ vs H Q E, sp vs H Q E → vs.length = ps.length
  goes : ∀ (A : Around) (o : List Env) (s : Shared) (H : Hp) (ar : Args) (us : List Value) (vs : List V) (Q : VK) (E : XK), A.guards = some [] → Room k A →
    Env0 P w K mg base A o s H → BindsTo s fd ar (ps.zip us) → Vals vs us → sp vs H Q E → codeAny (model P w) A (.call (.ref f) ar) (CR CX o P w H s Q E) s
section
variable {P : Program} {w : World} {K : PySem.W.Frag} {mg : Str → Option Value} {base : Heap} {CX : CXT} {k : Nat} {f : Addr} {fd : FuncData} {ps : List Str} {sp : Sp}
theorem FnOk.g (F : FnOk P w K mg base CX k f fd ps sp) : FnG P w K mg base CX k f fd ps sp := ⟨F.len, fun A o s H ar us vs Q E _ => F.run A o s H ar us vs Q E⟩
theorem FnG.up {j : Nat} (F : FnG P w K mg base CX j f fd ps sp) (h : j ≤ k) : FnG P w K mg base CX k f fd ps sp := ⟨F.size, fun A o s H ar us vs Q E g hr => F.goes A o s H ar us vs Q E g (hr.mono h)⟩
theorem Fun.okG {x qual : Str} {st : Stmt} {N : List Str} (F : Fun K x qual st f fd) (S : FnScope N ps (defScope st)) (len : ∀ vs H Q E, sp vs H Q E → vs.length = ps.length)
    (hb : ∀ (cv : Value) (A : Around) (o : List Env) (s : Shared) (H : Hp) (vs : List V) (Q : VK) (E : XK), A.guards = some [] → Room k (A.deeper (envOfC qual (defScope st) s.heap.objs.size f cv)) → sp vs H Q E →
      ∃ t, PSs (cxOf CX P w K mg base N qual (defScope st) f cv A o s H E) (defBody st) t ∧ t { nx := fun _ H' => Q .non H', rt := Q } (start N vs) H) : FnG P w K mg base CX (k + 1) f fd ps sp := by
  obtain ⟨oc, od, kV, doc, pm, an, cv, ct, sl, rfl, lk, cd⟩ := F.ex
  refine ⟨len, fun A o s H ar us vs Q E g hr e hbi rv hs => ?_⟩
  have in0 := e.mod.kin.keeps fun b u z => (e.bs b u z).1
  have nl := e.mod.nolimit.keeps fun b u z => (e.bs b u z).1
  have sz := len _ _ _ _ hs
  have kinds : ∀ y ∈ ps.zip us, (defScope st).names.lookup y.1 = some .local ∨ ((defScope st).names.lookup y.1 = some .cell ∧ ((cellsFrom (s.heap.objs.size + 1) (defScope st).names []).lookup y.1).isSome = true) := by
    rintro ⟨n, v⟩ hy
    cases S.par n (List.of_mem_zip hy).1 with
    | inl q => exact Or.inl q
    | inr q => exact Or.inr (And.intro q (PySem.W.cellsFrom_some _ _ _ (Or.inl q)))
  refine codeAny_call_function hr.depth (in0 _ _ lk) rfl S.co S.gen rfl (PySem.W.codeRec_of in0 cd) (hbi _ _ _ _ (wpAny_newFunctionEnv_cells S.kind kinds ?_))
  rintro env rfl s1 x
  obtain ⟨t, ht, hq⟩ := hb cv A o s H vs Q E g (Room.deeper hr _) hs
  have J : Inv (cxOf CX P w K mg base N qual (defScope st) f cv A o s H E) [] (start N vs) H s1 := inv_start S hr.hd e sz rv x
  refine And.intro (nl.keeps x.toInCall.keep) (codeAny_func (wpAny_mono (PSs.run ht [] s1 (start N vs) H _ J hq) (fun fl s' z => ?_) (fun _ _ z => z)))
  have fin {σ' : St} {H' : Hp} {v : V} {u : Value} (I : Inv (cxOf CX P w K mg base N qual (defScope st) f cv A o s H E) [] σ' H' s') (rv : RelV v u) (q : Q v H') : CE o P w H s Q u s' :=
    Exists.intro v (Exists.intro H' (And.intro I.os (And.intro I.bare (And.intro I.base (And.intro I.hok (And.intro rv q))))))
  match fl, z with
  | .ret u, ⟨v, σ', H', I, rv, q⟩ => exact fin I rv q
  | .next, ⟨σ', H', I, q⟩ => exact fin (v := .non) (u := .none) I rfl q
  | .brk, ⟨_, _, _, q⟩ => exact q.elim
  | .cont, ⟨_, _, _, q⟩ => exact q.elim
end
section
variable {X : Cx} {CX : CXT} {k : Nat} {f : Addr} {fd : FuncData} {ps : List Str} {sp : Sp} {dvs : List V} {ds : List Value} {E : XK} {x : Str} {p pos : Pos} {e : Expr} {es : List Expr} {t : TA}
theorem goesG {pins : List (Addr × Obj)} {σ : St} {H : Hp} {s : Shared} {Q : VK} {us : List Value} {vs : List V} (F : FnG X.prog X.w X.K X.mg X.base CX k f fd ps sp) (g : X.A.guards = some []) (hr : Room k X.A) (hb : Binds X.K fd ps ds) (hd : Vals dvs ds) (hx : Passes CX X E)
    (I : Inv X pins σ H s) (r : Vals vs us) (h : sp (vs ++ dvs) H Q E) : wpAny (model X.prog X.w) X.A (call (.ref f) us) (EP X pins σ Q) X.xe s := by
  have rr := Vals.append r hd
  have sz : (us ++ ds).length = ps.length := (rr.length).symm.trans (F.size _ _ _ _ h)
  refine wpAny_call (codeAny_mono (F.goes X.A X.stack s H _ (us ++ ds) (vs ++ dvs) Q E g hr I.env0 (hb s us I.kIn sz) rr h) ?_)
  intro r s' hq
  match r, hq with
  | .error er, hq => exact hx pins σ H s er s' I hq
  | .ok (.ret u), hq => exact Inv.after I hq
theorem pe_callG (F : FnG X.prog X.w X.K X.mg X.base CX k f fd ps sp) (g : X.A.guards = some []) (hr : Room k X.A) (hg : Gl X x) (hm : X.mg x = some (.ref f)) (hk : PySem.W.keepIn X.K (.ref f) = true) (hb : Binds X.K fd ps ds) (hd : Vals dvs ds) (hx : Passes CX X E)
    (ha : PA X (e :: es) t) (nd : (x == ("__debug__" : Str)) = false := by decide) (he : starEach (e :: es) X.env = (false, eval e X.env) :: starEach es X.env := by rfl) (hpl : (backTo pos (starEach es X.env)).any (·.1) = false := by rfl) :
    PE X (.Call (.Name x p) (e :: es) [] pos) (tCall sp dvs E t) := .mk fun pins s σ H Q I h =>
  wpAny_Call_Name_kw (ld_glob I hg hm (PySem.W.callWith_K (h₀ := X.base) I.ok.mod.kin hk (thn (ha.run pos pins s σ H _ I h) fun us s1 ⟨vs, H1, I1, r, q⟩ => ⟨I1.kIn, goesG F g hr hb hd hx I1 r q⟩) he hpl) nd)
end
end L2

namespace L2
open PySem PySem.Spec PyProof.Rows
theorem hp_no {H : Hp} {h : Heap} {a b : Addr} {vs : List Value} (only : ∀ b, H b ≠ none → b = a) (ha : h.get? a = some { cls := .type "list", data := .seq vs.toArray }) {o : Obj} (e : h.get? b = some o) (ne : ∀ n, o.data ≠ .seq vs.toArray n) : H b = none := by
  by_cases z : H b = none
  · exact z
  · have q := only b z
    rw [q, ha] at e
    cases e
    exact (ne _ rfl).elim
theorem env_start {P : Program} {w : World} {K : PySem.W.Frag} {mg mb : Str → Option Value} {a : Addr} {s : Shared} {vs : List Value} {H : Hp} (KX : K.In s.heap) (hm : s.heap.Ns mainGlobals mg) (hb : s.heap.Ns builtinsNs mb)
    (boot : ∀ x : Str, x ≠ "__name__" → mb x = bootBuiltins x) (nl : s.heap.NoLimit) (hg : s.gens = #[]) (ha : s.heap.get? a = some { cls := .type "list", data := .seq vs.toArray })
    (hok : HOk P w H s.heap) (only : ∀ b, H b ≠ none → b = a) (nK : H a ≠ none → K.lookup a = none) : K.In (hidT s.heap H) ∧ (hidT s.heap H).Ns mainGlobals mg ∧ Env0 P w K mg (hidT s.heap H) callerA [] s H := by
  have dn {c : Addr} {m : Str → Option Value} (n : s.heap.Ns c m) : (hidT s.heap H).Ns c m := by
    obtain ⟨o, es, ep, e, d, r⟩ := n
    refine Exists.intro o (Exists.intro es (Exists.intro ep (And.intro (hidT_get e (hp_no only ha e fun n q => ?_)) (And.intro d r))))
    rw [d] at q
    cases q
  have kx : K.In (hidT s.heap H) := by
    intro b o e
    refine hidT_get (KX b o e) ?_
    by_cases z : H b = none
    · exact z
    · have q := only b z
      subst q
      rw [nK z] at e
      cases e
  obtain ⟨mc, l1, l2⟩ := nl
  exact And.intro kx (And.intro (dn hm) { frames := rfl, mod := ⟨kx, dn hm, ⟨mb, dn hb, boot⟩, ⟨mc, dn l1, l2⟩⟩, bs := fun b o e => of_hidT e, bsz := Nat.le_of_eq (hidT_size _ _), funs := trivial, frf := (fun b hb => by cases hb), hok := hok, bare := .of_eq hg })
theorem law_goG {P : Program} {w : World} {K : PySem.W.Frag} {mg mb : Str → Option Value} {k : Nat} {fa a : Addr} {fd : FuncData} {x : Str} {sp : Sp} {s : Shared} {vs : List Value} {ns : List Int} (KX : K.In s.heap) (hm : s.heap.Ns mainGlobals mg) (hb : s.heap.Ns builtinsNs mb)
    (boot : ∀ x : Str, x ≠ "__name__" → mb x = bootBuiltins x) (nl : s.heap.NoLimit) (hg : s.gens = #[]) (ha : s.heap.get? a = some { cls := .type "list", data := .seq vs.toArray }) (hi : IntsAre vs ns) (hl : ns.length ≤ sizeLine) (hr : Room k callerA)
    (F : ∀ base : Heap, K.In base → base.Ns mainGlobals mg → FnG P w K mg base CX0 k fa fd [x] sp) (bind : ∀ (s : Shared) (u : Value), BindsTo s fd ⟨[u], []⟩ [(x, u)])
    (hsp : ∀ H : Hp, Only H → SqL K H a (ns.map V.int) → sp [.ref a] H (fun v _ => v = .bl true) fun _ _ _ => False) :
    codeAny (model P w) callerA (.call (.ref fa) ⟨[.ref a], []⟩) (fun r s' => r = .ok (.ret (.bool true)) ∧ OldK s.heap s'.heap ∧ s'.os = s.os ∧ AllBare s'.gens) s := by
  have rv := vals_ints hi
  have go (H : Hp) (hO : Only H) (hS : SqL K H a (ns.map V.int)) (hok : HOk P w H s.heap) (only : ∀ b, H b ≠ none → b = a) (nK : H a ≠ none → K.lookup a = none) :
      codeAny (model P w) callerA (.call (.ref fa) ⟨[.ref a], []⟩) (fun r s' => r = .ok (.ret (.bool true)) ∧ OldK s.heap s'.heap ∧ s'.os = s.os ∧ AllBare s'.gens) s := by
    obtain ⟨kx, nm, e0⟩ := env_start KX hm hb boot nl hg ha hok only nK
    refine codeAny_mono ((F _ kx nm).goes callerA [] s H _ [.ref a] [.ref a] _ _ rfl hr e0 (bind s (.ref a)) (.cons rfl .nil) (hsp H hO hS)) ?_
    intro r s' h
    match r, h with
    | .ok (.ret u), ⟨v, H', os, bare, un, hok', ru, qv⟩ =>
      have hv : v = V.bl true := qv
      rw [hv] at ru
      have hu : u = Value.bool true := ru
      rw [hu]
      refine And.intro rfl (And.intro (OldK.of_keep fun b o e => ?_) (And.intro os bare))
      by_cases z : H b = none
      · exact un.keep b o e z (fun z => by cases z) (fun z => by cases z)
      · cases hO b with
        | inl q => exact (z q).elim
        | inr q =>
          obtain ⟨ob, xs, q⟩ := q
          have o1 := (hok b _ q).1
          have o2 := (hok' b _ (un.frzs b ob _ q)).1
          rw [e] at o1
          cases o1
          exact o2
  by_cases hk : K.lookup a = none
  · refine go (fun b => if b = a then some (.frz { cls := .type "list", data := .seq vs.toArray } (.lst (ns.map V.int))) else none) (fun b => ?_) (Or.inl (Or.inr (Exists.intro _ (if_pos rfl)))) (fun b u z => ?_) (fun b z => ?_) (fun _ => hk)
    · by_cases e : b = a
      · exact Or.inr (Exists.intro _ (Exists.intro _ (if_pos e)))
      · exact Or.inl (if_neg e)
    · by_cases e : b = a
      · replace z := (if_pos e).symm.trans z
        cases z
        subst e
        exact And.intro ha (And.intro (by rw [List.length_map]; exact hl) (Exists.intro vs (Exists.intro _ (And.intro rv ha))))
      · replace z := (if_neg e).symm.trans z
        cases z
    · by_cases e : b = a
      · exact e
      · exact (z (if_neg e)).elim
  · obtain ⟨o, e⟩ := Option.ne_none_iff_exists'.mp hk
    have e2 := KX a o e
    rw [ha] at e2
    cases e2
    refine go (fun _ => none) (fun _ => Or.inl rfl) (Or.inr ⟨_, vs.toArray, _, e, rfl, rfl, rfl, ?_, by simpa using rv⟩) (fun b u z => by cases z) (fun b z => (z rfl).elim) (fun z => (z rfl).elim)
    rw [List.size_toArray, hi.length]
    exact hl
theorem walk_ofG {l : PySem.W.OpenLaw} {n k : Nat} {q : Program} {loose : List Str} {XP : (Str → Option Value) → Heap → Prop} {YP : World → Heap → Prop} {d : DefRec} {K : Params → PySem.W.Frag} {sp : World → Sp} {x : Str} (hn : l.most = some n) (hn2 : n ≤ sizeLine)
    (hdf : d.params.defaults = []) (hr : Room k callerA) (hY : ∀ (w : World) (h : Heap), YP w h → (K w.params).In h)
    (F : ∀ (w : World) (mg : Str → Option Value) (fa : Addr) (h : Heap), (K w.params).In h → h.Ns mainGlobals mg → mg d.name = some (.ref fa) → ∃ fd : FuncData, (∀ (s : Shared) (u : Value), BindsTo s fd ⟨[u], []⟩ [(x, u)]) ∧
      ∀ base : Heap, (K w.params).In base → base.Ns mainGlobals mg → FnG l.prog w (K w.params) mg base CX0 k fa fd [x] (sp w))
    (hsp : ∀ (w : World) (H : Hp) (a : Addr) (ns : List Int), ns.length ≤ n → (∀ z ∈ ns, Builtin.Int.intBits z ≤ 1048576) → Only H → SqL (K w.params) H a (ns.map V.int) → sp w [.ref a] H (fun v _ => v = .bl true) fun _ _ _ => False) :
    PySem.W.WalkO q loose XP YP l.row.toRowW d [] (fun f vs => PySem.call f vs) := by
  refine Att.attach_callB hn hdf ?_
  intro w s0 s1 mg mb fa o pm cd doc a vs ns G Y ho hd hcd hmg hobj hints hlen hbits hg
  have KX := hY w _ Y
  obtain ⟨fd, hb, hF⟩ := F w mg fa _ KX G.T.g hmg
  exact law_goG KX G.T.g G.T.b G.T.builtins G.T.nolimit hg hobj hints (Nat.le_trans hlen hn2) hr hF hb (fun H hO hS => hsp w H a ns hlen hbits hO hS)
end L2
set_option Elab.async false
set_option linter.all false
set_option maxRecDepth 100000
set_option maxHeartbeats 2000000
namespace LawK
open PySem PySem.Spec PyProof.Rows L2 Evl
/-! ### data -/
theorem dp_ints {K : PySem.W.Frag} {H : Hp} : ∀ xs : List Int, DpAll K H (xs.map V.int) (xs.map PyData.int)
  | [] => .nil
  | x :: r => .cons (.int x) (dp_ints r)
theorem lay_ints : ∀ xs : List Int, PyData.canLayAll0 (xs.map PyData.int) = true
  | [] => rfl
  | x :: r => by
    show (PyData.canLay0 (.int x) && PyData.canLayAll0 (r.map PyData.int)) = true
    rw [lay_ints r]
    rfl
theorem dep_ints : ∀ xs : List Int, PyData.depthAll (xs.map PyData.int) ≤ 1
  | [] => by decide
  | x :: r => by
    have h := dep_ints r
    show max (PyData.depth (.int x)) (PyData.depthAll (r.map PyData.int)) ≤ 1
    have : PyData.depth (.int x) ≤ 1 := by show 0 ≤ 1; decide
    omega
theorem shaped_ints (xs : List Int) : SeqAt.shaped (.list (xs.map PyData.int)) = true := by
  unfold SeqAt.shaped
  rw [Bool.and_eq_true]
  refine ⟨lay_ints xs, decide_eq_true ?_⟩
  have h := dep_ints xs
  show PyData.depthAll (xs.map PyData.int) + 1 ≤ 64
  omega
theorem eqv_nil : ∀ xs : List Int, PyData.eqv (.list (xs.map PyData.int)) (.list []) = xs.isEmpty
  | [] => rfl
  | x :: r => rfl
end LawK
/-! ### the law's state: a list at p of a list at a, a list at b, and a count; G is what else is known -/
namespace LawK
open PySem PySem.Spec PyProof.Rows L2 Evl
structure SBe (G H : Hp) (p a b : Addr) (xs ys : List Int) (n : Int) : Prop where
  ex : Ex G H
  hp : H p = some (.lst [.ref a, .ref b, .int n])
  ha : H a = some (.lst (xs.map V.int))
  hb : H b = some (.lst (ys.map V.int))
  gp : G p = none
  ga : G a = none
  gb : G b = none
  ap : a ≠ p
  bp : b ≠ p
  ab : a ≠ b
theorem SBe.ext {G H H2 : Hp} {p a b : Addr} {xs ys : List Int} {n : Int} (S : SBe G H p a b xs ys n) (e : Ex H H2) : SBe G H2 p a b xs ys n :=
  ⟨S.ex.trans e, e _ _ S.hp, e _ _ S.ha, e _ _ S.hb, S.gp, S.ga, S.gb, S.ap, S.bp, S.ab⟩
theorem SBe.setn {G H : Hp} {p a b : Addr} {xs ys : List Int} {n k : Int} (S : SBe G H p a b xs ys n) : SBe G (upd H p (.lst [.ref a, .ref b, .int k])) p a b xs ys k :=
  ⟨S.ex.mut S.gp, upd_same, by rw [upd_ne S.ap]; exact S.ha, by rw [upd_ne S.bp]; exact S.hb, S.gp, S.ga, S.gb, S.ap, S.bp, S.ab⟩
theorem SBe.seta {G H : Hp} {p a b : Addr} {xs zs ys : List Int} {n : Int} (S : SBe G H p a b xs ys n) : SBe G (upd H a (.lst (zs.map V.int))) p a b zs ys n :=
  ⟨S.ex.mut S.ga, by rw [upd_ne S.ap.symm]; exact S.hp, upd_same, by rw [upd_ne S.ab.symm]; exact S.hb, S.gp, S.ga, S.gb, S.ap, S.bp, S.ab⟩
theorem SBe.newa {G H : Hp} {p a b q : Addr} {xs zs ys : List Int} {n : Int} (S : SBe G H p a b xs ys n) (hq : H q = none) : SBe G (upd (upd H q (.lst (zs.map V.int))) p (.lst [.ref q, .ref b, .int n])) p q b zs ys n := by
  have qp : q ≠ p := fun e => by rw [e, S.hp] at hq; cases hq
  have qb : q ≠ b := fun e => by rw [e, S.hb] at hq; cases hq
  refine ⟨(S.ex.trans (Ex.new hq)).mut S.gp, upd_same, ?_, ?_, S.gp, fresh_back S.ex hq, S.gb, qp, S.bp, qb⟩
  · rw [upd_ne qp, upd_same]
  · rw [upd_ne S.bp, upd_ne qb.symm]
    exact S.hb
/-- at most m draws so far -/
def SB (G H : Hp) (p : Addr) (m : Nat) : Prop := ∃ a b xs ys n, SBe G H p a b xs ys n ∧ 0 ≤ n ∧ n ≤ (m : Int) ∧ ys ≠ []
theorem SB.ext {G H H2 : Hp} {p : Addr} {m : Nat} (S : SB G H p m) (e : Ex H H2) : SB G H2 p m := by
  obtain ⟨a, b, xs, ys, n, s, r⟩ := S
  exact ⟨a, b, xs, ys, n, s.ext e, r⟩
theorem SB.le {G H : Hp} {p : Addr} {m k : Nat} (S : SB G H p m) (h : m ≤ k) : SB G H p k := by
  obtain ⟨a, b, xs, ys, n, s, h0, h1, h2⟩ := S
  exact ⟨a, b, xs, ys, n, s, h0, by omega, h2⟩
theorem SB.ex {G H : Hp} {p : Addr} {m : Nat} (S : SB G H p m) : Ex G H := by
  obtain ⟨a, b, xs, ys, n, s, _⟩ := S
  exact s.ex
/-- what is new is known from now on -/
def grow (G H H2 : Hp) : Hp := fun x => match H x with | none => H2 x | some _ => G x
theorem grow_ex {G H H2 : Hp} (e : Ex G H) : Ex G (grow G H H2) := fun x o h => by
  unfold grow
  rw [e x o h]
  exact h
theorem grow_new {G H H2 : Hp} {q : Addr} (h : H q = none) : grow G H H2 q = H2 q := by
  unfold grow
  rw [h]
theorem SB.grow {G H H2 : Hp} {p : Addr} {m : Nat} (S : SB G H p m) (e : Ex H H2) : SB (grow G H H2) H2 p m := by
  obtain ⟨a, b, xs, ys, n, s, r⟩ := S
  have old : ∀ {c : Addr} {o : HO}, H c = some o → G c = none → LawK.grow G H H2 c = none := fun {c o} h g => by
    unfold LawK.grow
    rw [h]
    exact g
  refine ⟨a, b, xs, ys, n, ⟨fun x o h => ?_, e _ _ s.hp, e _ _ s.ha, e _ _ s.hb, old s.hp s.gp, old s.ha s.ga, old s.hb s.gb, s.ap, s.bp, s.ab⟩, r⟩
  unfold LawK.grow at h
  cases z : H x with
  | none => rw [z] at h; exact h
  | some u => rw [z] at h; exact e _ _ (s.ex _ _ h)
/-- a draw below a size -/
def spDraw : Sp := fun vs H Q _ => ∃ (p : Addr) (k : Int) (G : Hp) (m : Nat), vs = [.ref p, .int k] ∧ 0 < k ∧ k.natAbs.log2 < 9000 ∧ m < 1000000 ∧ SB G H p m ∧
  ∀ (r : Int) (H2 : Hp), 0 ≤ r → r < k → SB G H2 p (m + 1) → Q (.int r) H2
def spStart (K : PySem.W.Frag) : Sp := fun vs H Q _ => ∃ (a : Addr) (ns : List Int), vs = [.ref a] ∧ SqL K H a (ns.map V.int) ∧ ns.length ≤ 63 ∧ ∀ (p : Addr) (H2 : Hp), SB H H2 p 0 → Q (.ref p) H2
def spLaw (K : PySem.W.Frag) : Sp := fun vs H Q _ => ∃ (a : Addr) (ns : List Int), vs = [.ref a] ∧ SqL K H a (ns.map V.int) ∧ ns.length ≤ 63 ∧ ∀ H', Q (.bl true) H'
end LawK
/-! ### defs as constants of the module, where lists may be shown -/
namespace L2
open PySem PySem.Spec PyProof.Rows
structure CalG (P : Program) (w : World) (K : PySem.W.Frag) (mg : Str → Option Value) (base : Heap) (k : Nat) (x : Str) (sp : Sp) (dvs : List V) : Prop where
  is : ∃ (f : Addr) (fd : FuncData) (ps : List Str) (ds : List Value), FnG P w K mg base CX0 k f fd ps sp ∧ mg x = some (.ref f) ∧ PySem.W.keepIn K (.ref f) = true ∧ Binds K fd ps ds ∧ Vals dvs ds
section
variable {X : Cx} {k j : Nat} {x : Str} {sp : Sp} {dvs : List V} {p pos : Pos} {e : Expr} {es : List Expr} {t : TA}
theorem pe_cG (c : CalG X.prog X.w X.K X.mg X.base k x sp dvs) (g : X.A.guards = some []) (hr : Room j X.A) (hk : k ≤ j) (hg : Gl X x) (ha : PA X (e :: es) t)
    (nd : (x == ("__debug__" : Str)) = false := by decide) (he : starEach (e :: es) X.env = (false, eval e X.env) :: starEach es X.env := by rfl) (hpl : (backTo pos (starEach es X.env)).any (·.1) = false := by rfl) :
    PE X (.Call (.Name x p) (e :: es) [] pos) (tCall sp dvs E0 t) := by
  obtain ⟨f, fd, ps, ds, F, hm, kp, b, d⟩ := c.is
  exact pe_callG F g (hr.mono hk) hg hm kp b d pass0 ha nd he hpl
end
end L2
namespace L2
open PySem PySem.Spec PyProof.Rows
def rModA : R2 := fun x y H Q => ∃ i j, x = .int i ∧ y = .int j ∧ 0 < j ∧ ∀ r, 0 ≤ r → r < j → r = i % j → Q (.int r) H
theorem op_modA {X : Cx} : OpR X (binaryOp .Mod) rModA := by
  intro pins s σ H x y v u Q I rx ry h
  obtain ⟨i, j, rfl, rfl, c, q⟩ := h
  exact op_mod pins s σ H _ _ v u Q I rx ry ⟨i, j, rfl, rfl, c, q _ (Int.emod_nonneg _ (by omega)) (Int.emod_lt_of_pos _ c) rfl⟩
end L2
/-! ### f(k = v, ..) alone -/
namespace L2
open PySem PySem.Spec PyProof.Rows
structure CalKw (P : Program) (w : World) (K : PySem.W.Frag) (mg : Str → Option Value) (base : Heap) (k : Nat) (x : Str) (ks : List Str) (sp : Sp) (gV : List V → List V → List V) : Prop where
  is : ∃ (f : Addr) (fd : FuncData) (ps : List Str) (g : List Value → List Value → List Value), FnOk P w K mg base CX0 k f fd ps sp ∧ mg x = some (.ref f) ∧ PySem.W.keepIn K (.ref f) = true ∧ KBn K fd ps 0 ks g gV
def tCallKw (ks : List Str) (sp : Sp) (gV : List V → List V → List V) (tk : TA) : TE := fun σ H Q => tk σ H fun zs H2 => zs.length = ks.length ∧ sp (gV [] zs) H2 Q E0
section
variable {X : Cx} {k j : Nat} {x : Str} {ks : List Str} {sp : Sp} {gV : List V → List V → List V} {p pos : Pos} {kws : List Keyword} {tk : TA}
theorem pe_kw (c : CalKw X.prog X.w X.K X.mg X.base k x ks sp gV) (hr : Room j X.A) (hk : k ≤ j) (hg : Gl X x) (ha : PK X kws tk)
    (hall : (backToKw pos (keywordEach kws X.env)).all (·.1.isSome) = true := by rfl) (hks : (backToKw pos (keywordEach kws X.env)).filterMap (·.1) = ks := by rfl) (nd : (x == ("__debug__" : Str)) = false := by decide)
    (hpl : ((backTo pos (starEach [] X.env)).any (·.1) || (backToKw pos (keywordEach kws X.env)).any (·.1.isNone)) = false := by rfl) : PE X (.Call (.Name x p) [] kws pos) (tCallKw ks sp gV tk) := by
  obtain ⟨f, fd, ps, g, F, hm, kp, b⟩ := c.is
  refine .mk fun pins s σ H Q I h => wpAny_Call_Name_kw (ld_glob I hg hm (PySem.W.callWith_KW0 (h₀ := X.base) I.ok.mod.kin kp hall (thn (ha.run pos pins s σ H _ I h) ?_) hpl) nd)
  rintro ws s2 ⟨zs, H2, I2, rz, sz, q⟩
  refine And.intro I2.kIn ?_
  rw [hks]
  have r0 : Vals ([] : List V) ([] : List Value) := .nil
  have rr := b.rel r0 rz
  refine wpAny_call (codeAny_mono (F.run X.A X.stack s2 H2 ⟨[], ks.zip ws⟩ (g [] ws) (gV [] zs) Q E0 (hr.mono hk) I2.env0 (b.to s2 [] ws I2.kIn rfl (rz.length.symm.trans sz)) rr q) ?_)
  intro r s' hq
  match r, hq with
  | .ok (.ret u), hq => exact Inv.after I2 hq
end
end L2
/-! ### comprehensions over texts -/
namespace LawK
open PySem PySem.Spec PyProof.Rows L2 Evl
theorem el_lcS {σ : L2.St} {H : Hp} {te tl : TE} {t : TT} {z : Str} {j : Nat} {vs : List Nat} (f : Nat → Bool) (v : Nat → V) (h : Ev tl σ H (.str z)) (hz : z.cps.size ≤ 40000) (hw : ∀ x, wipe ((wipe σ vs).set j (some x)) vs = wipe σ vs)
    (ht : ∀ (i c : Nat) H1, Ex H H1 → z.cps[i]? = some c → EvT t ((wipe σ vs).set j (some (.str ⟨#[c]⟩))) H1 (f i)) (he : ∀ (i c : Nat) H1, Ex H H1 → z.cps[i]? = some c → f i = true → Ev te ((wipe σ vs).set j (some (.str ⟨#[c]⟩))) H1 (v i)) :
    EvL (tLc (iStr tl) (gName j) t te vs) σ H (given z.cps.size f v) := by
  intro H0 e Q q
  refine h H0 e _ fun H1 e1 => ⟨z, rfl, fun D hD => ?_⟩
  refine lc_it walk_str (Cw H1 f v D) ⟨hD, Ex.new hD, upd_same⟩ (fun _ _ _ _ => trivial) ?_ (fun H' p => q D H' (fresh_back e1 p.1) (e1.trans p.2.1) p.2.2)
  rintro i x H2 H' hi p ⟨rfl, c, hc, rfl⟩
  exact ⟨hw _, cw_turn p (by omega) (ht i c H1 (e.trans e1) hc) (fun hf => he i c H1 (e.trans e1) hc hf)⟩
theorem et_yes {σ : L2.St} {H : Hp} : EvT tYes σ H true := fun H1 _ _ q => q H1 (Ex.refl H1)
theorem given_all (n : Nat) (v : Nat → V) : given n (fun _ => true) v = (List.range n).map v := by
  unfold given
  rw [List.filter_eq_self.mpr (fun _ _ => rfl)]
theorem map_getD {α β : Type} (f : α → β) (d : α) : ∀ l : List α, (List.range l.length).map (fun i => f (l.getD i d)) = l.map f
  | [] => rfl
  | a :: l => by
    rw [List.length_cons, List.range_succ_eq_map, List.map_cons, List.map_map, List.map_cons, ← map_getD f d l]
    rfl
theorem getD_of {l : Array Nat} {i c : Nat} (h : l[i]? = some c) : l.toList.getD i 0 = c := by
  rw [List.getD_eq_getElem?_getD, Array.getElem?_toList, h]
  rfl
end LawK
namespace L2
open PySem PySem.Spec PyProof.Rows
theorem pe_k0 {X : Cx} {x : Str} {v : V} {pos : Pos} (hg : Gl X x) (h : ∃ u, X.mg x = some u ∧ RelV v u) (nd : (x == ("__debug__" : Str)) = false := by decide) : PE X (.Name x pos) (tC v) := by
  obtain ⟨u, hm, r⟩ := h
  exact pe_glob hg hm r nd
structure CalF (P : Program) (w : World) (K : PySem.W.Frag) (mg : Str → Option Value) (base : Heap) (k : Nat) (x : Str) (sp : Sp) (dvs : List V) : Prop where
  is : ∃ (f : Addr) (fd : FuncData) (ps : List Str) (ds : List Value), FnOk P w K mg base CX0 k f fd ps sp ∧ mg x = some (.ref f) ∧ PySem.W.keepIn K (.ref f) = true ∧ Binds K fd ps ds ∧ Vals dvs ds
section
variable {X : Cx} {k j : Nat} {x : Str} {sp : Sp} {dvs : List V} {p pos : Pos} {e : Expr} {es : List Expr} {t : TA}
theorem pe_cF (c : CalF X.prog X.w X.K X.mg X.base k x sp dvs) (hr : Room j X.A) (hk : k ≤ j) (hg : Gl X x) (ha : PA X (e :: es) t)
    (nd : (x == ("__debug__" : Str)) = false := by decide) (he : starEach (e :: es) X.env = (false, eval e X.env) :: starEach es X.env := by rfl) (hpl : (backTo pos (starEach es X.env)).any (·.1) = false := by rfl) :
    PE X (.Call (.Name x p) (e :: es) [] pos) (tCall sp dvs E0 t) := by
  obtain ⟨f, fd, ps, ds, F, hm, kp, b, d⟩ := c.is
  exact pe_call F (hr.mono hk) hg hm kp b d pass0 ha nd he hpl
end
end L2
/-! ### readings, opened one at a time -/
namespace LawK
open PySem PySem.Spec PyProof.Rows L2 Evl
section
variable {σ : L2.St} {H : Hp} {te ta tb tc : TE} {t : TT} {D : L2.Ends} {Q : VK} {r : R2} {g : TG} {tu tw : TS} {v : V} {xs : List V} {QT : Bool → Hp → Prop} {m : List V → Hp → VK → Prop} {tl : TA} {QA : List V → Hp → Prop}
theorem x_nx (h : D.nx σ H) : tNext D σ H := h
theorem x_ret (h : te σ H D.rt) : tRet te D σ H := h
theorem x_seq (h : tu { D with nx := tw D } σ H) : tSeq tu tw D σ H := h
theorem x_asg (h : te σ H fun x H1 => g x σ H1 D.nx) : tAsg te g D σ H := h
theorem x_set {i : Nat} (h : te σ H fun x H1 => D.nx (σ.set i (some x)) H1) : tAsg te (gName i) D σ H := h
theorem x_if (h : t σ H fun b H1 => if b = true then tu D σ H1 else tw D σ H1) : tIfS t tu tw D σ H := h
theorem x_cb (h : tl σ H fun vs H1 => m vs H1 Q) : tCB m tl σ H Q := h
theorem x_cons (h : te σ H fun x H1 => tl σ H1 fun ys H2 => QA (x :: ys) H2) : tCons te tl σ H QA := h
theorem x_nil (h : QA [] H) : tNil σ H QA := h
theorem x_op (h : ta σ H fun x H1 => tb σ H1 fun y H2 => r x y H2 Q) : tOp r ta tb σ H Q := h
theorem x_test (h : te σ H fun x H1 => ∃ b, x = .bl b ∧ QT b H1) : tTest te σ H QT := h
theorem x_call {sp : Sp} {dvs : List V} {E : XK} (h : tl σ H fun vs H1 => sp (vs ++ dvs) H1 Q E) : tCall sp dvs E tl σ H Q := h
theorem x_kw {ks : List Str} {sp : Sp} {gV : List V → List V → List V} (h : tl σ H fun zs H2 => zs.length = ks.length ∧ sp (gV [] zs) H2 Q E0) : tCallKw ks sp gV tl σ H Q := h
theorem x_lst (h : tl σ H fun xs H1 => xs.length ≤ sizeLine ∧ ∀ p, H1 p = none → Q (.ref p) (upd H1 p (.lst xs))) : tLst tl σ H Q := h
theorem x_not (h : t σ H fun c H1 => QT (!c) H1) : tNot t σ H QT := h
theorem x_or {u : TT} (h : t σ H fun c H1 => if c = true then QT true H1 else u σ H1 QT) : tOr t u σ H QT := h
theorem x_and {u : TT} (h : t σ H fun c H1 => if c = true then u σ H1 QT else QT false H1) : tAnd t u σ H QT := h
theorem u_v (h : Ev te σ H v) (k : ∀ H2, Ex H H2 → Q v H2) : te σ H Q := h H (Ex.refl H) Q k
theorem u_l (h : EvL te σ H xs) (k : ∀ p H2, H p = none → Ex H H2 → H2 p = some (.lst xs) → Q (.ref p) H2) : te σ H Q := h H (Ex.refl H) Q k
theorem u_t {b : Bool} (h : EvT t σ H b) (k : ∀ H2, Ex H H2 → QT b H2) : t σ H QT := h H (Ex.refl H) QT k
/-- what is pure, where G is known -/
theorem g_v {G : Hp} (x : Ex G H) (h : Ev te σ G v) (k : ∀ H2, Ex H H2 → Q v H2) : te σ H Q := h H x Q k
theorem g_t {G : Hp} {b : Bool} (x : Ex G H) (h : EvT t σ G b) (k : ∀ H2, Ex H H2 → QT b H2) : t σ H QT := h H x QT k
theorem g_l {G : Hp} (x : Ex G H) (h : EvL te σ G xs) (k : ∀ p H2, H p = none → Ex H H2 → H2 p = some (.lst xs) → Q (.ref p) H2) : te σ H Q := h H x Q k
end
end LawK
/-! ### draws in readings -/
namespace LawK
open PySem PySem.Spec PyProof.Rows L2 Evl
theorem lg_of {k : Int} {n : Nat} (h : k.natAbs < 2 ^ n) (n0 : 0 < n) (n1 : n ≤ 9000) : k.natAbs.log2 < 9000 := Nat.lt_of_lt_of_le (PySem.Flt.log2_lt_of n0 h) n1
theorem lg64 {k : Int} (h0 : 0 ≤ k) (h : k < 18446744073709551616) : k.natAbs.log2 < 9000 := by
  have e : (2 : Nat) ^ 64 = 18446744073709551616 := by decide
  exact lg_of (n := 64) (by omega) (by decide) (by decide)
theorem SB.weak {G G' H : Hp} {p : Addr} {m : Nat} (e : Ex G G') (S : SB G' H p m) : SB G H p m := by
  obtain ⟨a, b, xs, ys, n, s, r⟩ := S
  exact ⟨a, b, xs, ys, n, ⟨e.trans s.ex, s.hp, s.ha, s.hb, fresh_back e s.gp, fresh_back e s.ga, fresh_back e s.gb, s.ap, s.bp, s.ab⟩, r⟩
section
variable {K : PySem.W.Frag} {σ : L2.St} {G H : Hp} {te tl ta tb tc : TE} {D : L2.Ends} {Q : VK} {p : Addr} {m i j : Nat} {k : Int} {E : XK} {tz : TS} {xs : List V} {r r' : R2} {x y z : V}
theorem u_draw (S : SB G H p m) (hi : σ[i]? = some (some (.ref p))) (he : Ev te σ G (.int k)) (k0 : 0 < k) (kb : k.natAbs.log2 < 9000) (hm : m < 1000000) (q : ∀ r H2, 0 ≤ r → r < k → SB G H2 p (m + 1) → Q (.int r) H2) :
    tCall spDraw [] E (tCons (tVar i) (tCons te tNil)) σ H Q :=
  ⟨.ref p, hi, he H S.ex _ fun H2 e2 => ⟨p, k, G, m, rfl, k0, kb, hm, S.ext e2, q⟩⟩
theorem q_draw (S : SB G H p m) (hi : σ[i]? = some (some (.ref p))) (he : Ev te σ G (.int k)) (k0 : 0 < k) (kb : k.natAbs.log2 < 9000) (hm : m < 1000000)
    (q : ∀ r H2, 0 ≤ r → r < k → SB G H2 p (m + 1) → tz D (σ.set j (some (.int r))) H2) : tSeq (tAsg (tCall spDraw [] E (tCons (tVar i) (tCons te tNil))) (gName j)) tz D σ H := u_draw S hi he k0 kb hm q
/-- [..][draw] -/
theorem u_pick {n : Nat} (S : SB G H p m) (hl : EvL tl σ G xs) (hn : xs.length = n) (hi : σ[i]? = some (some (.ref p))) (he : Ev te σ G (.int (n : Int))) (k0 : 0 < n) (kb : n < 1000) (hm : m < 1000000)
    (q : ∀ (c : Nat) (v : V) (H2 : Hp), xs[c]? = some v → SB G H2 p (m + 1) → Q v H2) : tOp (rIxL K) tl (tCall spDraw [] E (tCons (tVar i) (tCons te tNil))) σ H Q := by
  refine hl H S.ex _ fun l H1 hl e1 h1 => ?_
  have S1 := S.grow e1
  refine u_draw S1 hi (he.mono (grow_ex S.ex)) (by omega) (lg64 (by omega) (by omega)) hm fun r H2 r0 r1 S2 => ?_
  have hL : H2 l = some (.lst xs) := S2.ex _ _ (by rw [grow_new hl]; exact h1)
  have hr : r.toNat < xs.length := by omega
  exact ⟨l, xs, r, xs[r.toNat], rfl, rfl, sq_of hL, at_of (Int.toNat_of_nonneg r0).symm (List.getElem?_eq_getElem hr), q r.toNat _ H2 (List.getElem?_eq_getElem hr) (S2.weak (grow_ex S.ex))⟩
theorem q_pick {n : Nat} (S : SB G H p m) (hl : EvL tl σ G xs) (hn : xs.length = n) (hi : σ[i]? = some (some (.ref p))) (he : Ev te σ G (.int (n : Int))) (k0 : 0 < n) (kb : n < 1000) (hm : m < 1000000)
    (q : ∀ (c : Nat) (v : V) (H2 : Hp), xs[c]? = some v → SB G H2 p (m + 1) → tz D (σ.set j (some v)) H2) : tSeq (tAsg (tOp (rIxL K) tl (tCall spDraw [] E (tCons (tVar i) (tCons te tNil)))) (gName j)) tz D σ H := u_pick S hl hn hi he k0 kb hm q
theorem ev_chain {k l : Bool} (ha : Ev ta σ H x) (hb : Ev tb σ H y) (hr : RV r x y H (.bl k)) (hc : k = true → Ev tc σ H z) (hr' : k = true → RV r' y z H (.bl l)) : Ev (tChain r r' ta tb tc) σ H (.bl (k && l)) := by
  intro H1 e1 Q q
  refine ha H1 e1 _ fun H2 e2 => hb H2 (e1.trans e2) _ fun H3 e3 => hr H3 ((e1.trans e2).trans e3) _ fun H4 e4 => ⟨k, rfl, ?_⟩
  have e14 := (e2.trans e3).trans e4
  cases k with
  | true => exact iteT (hc rfl H4 (e1.trans e14) _ fun H5 e5 => hr' rfl H5 ((e1.trans e14).trans e5) Q fun H6 e6 => q H6 ((e14.trans e5).trans e6))
  | false => exact iteF (q H4 e14)
theorem ev_slS {tl th : TO} {w : Str} {lo hi : Option Int} (h : Ev te σ H (.str w)) (h1 : EvO tl σ H lo) (h2 : EvO th σ H hi) (hz : w.length ≤ 100000) : Ev (tSl rSlS te tl th) σ H (.str (cutS w lo hi)) := fun H1 e Q q =>
  h H1 e _ fun H2 e2 => h1 H2 (e.trans e2) _ fun H3 e3 => h2 H3 ((e.trans e2).trans e3) _ fun H4 e4 => ⟨w, rfl, sz_of hz, q H4 ((e2.trans e3).trans e4)⟩
def rAddT : R2 := fun x y H Q => ∃ i j, x = .str i ∧ y = .str j ∧ i.length + j.length ≤ sizeLine ∧ Q (.str (i ++ j)) H
theorem rv_addS {a b : Str} (h : a.length + b.length ≤ 100000) : RV rAddT (.str a) (.str b) H (.str (a ++ b)) := fun H1 _ _ q => ⟨a, b, rfl, rfl, sz_of h, q H1 (Ex.refl H1)⟩
theorem rv_notB {a b : Bool} : RV rNotB (.bl a) (.bl b) H (.bl (!decide (a = b))) := fun H1 _ _ q => ⟨a, b, rfl, rfl, q H1 (Ex.refl H1)⟩
theorem ev_reprL {ds : List PyData} (h : EvL te σ H xs) (hd : ∀ H1, Ex H H1 → DpAll K H1 xs ds) (h1 : PyData.showable (.list ds) = true) (h2 : PyData.hasDict (.list ds) = false) (h3 : PyData.depth (.list ds) ≤ 60) (h4 : (PyData.shown (.list ds)).length ≤ sizeLine) :
    Ev (tCB (rRepr K) (tCons te tNil)) σ H (.str (PyData.shown (.list ds))) := fun H1 e Q q =>
  h H1 e _ fun l H2 _ e2 hl => ⟨.ref l, .list ds, rfl, .lst (sq_of hl) (hd H2 (e.trans e2)), ⟨l, rfl⟩, h1, h2, h3, h4, q H2 e2⟩
end
end LawK
namespace L2
open PySem PySem.Spec PyProof.Rows
theorem Fun.kbn {K : PySem.W.Frag} {x qual : Str} {st : Stmt} {f : Addr} {fd : FuncData} {ps ks : List Str} (g : List Value → List Value) (gV : List V → List V) (F : Fun K x qual st f fd)
    (h : ∀ (kV doc pm : Value) (an : Option Addr) (cv ct : Value) (ws : List Value), ws.length = ks.length → bindArgs (PySem.W.fnOf x qual (defArgs st) (defBody st) (defScope st) .none kV doc pm an cv ct) ⟨[], ks.zip ws⟩ = pure (ps.zip (g ws)))
    (rel : ∀ zs ws, Vals zs ws → Vals (gV zs) (g ws)) : KBn K fd ps 0 ks (fun _ ws => g ws) (fun _ zs => gV zs) := by
  obtain ⟨oc, od, kV, doc, pm, an, cv, ct, sl, rfl, lk, cd⟩ := F.ex
  refine ⟨fun s us ws _ l1 l2 => ?_, fun _ r => rel _ _ r⟩
  cases us with
  | nil => exact .of_eq (h kV doc pm an cv ct ws l2)
  | cons u r => cases l1
end L2
set_option Elab.async false
set_option linter.all false
set_option maxRecDepth 100000
set_option maxHeartbeats 2000000
namespace K02
open PySem PySem.Spec PyProof.Rows L2 Evl LawK
def topS (i : Nat) : Stmt := PySem.Challenge.pw_saidchances_k02_words_and_weather.main.body.getD i (.Pass ⟨0, 0, 0, 0⟩)
structure Txt (K : PySem.W.Frag) (mg : Str → Option Value) (aW : Addr) : Prop where
  z_sum : mg "sum" = none
  z_abs : mg "abs" = none
  z_list : mg "list" = none
  z_int : mg "int" = none
  z_len : mg "len" = none
  z_range : mg "range" = none
  z_repr : mg "repr" = none
  z_all : mg "all" = none
  z_isinstance : mg "isinstance" = none
  z_str : mg "str" = none
  g_LONGEST : ∃ u, mg "LONGEST" = some u ∧ RelV (.int 8) u
  g_LETTERS : ∃ u, mg "LETTERS" = some u ∧ RelV (.str (Str.ofString "abcdefghijklmnopqrstuvwxyz")) u
  g_WEATHERS : ∃ u, mg "WEATHERS" = some u ∧ RelV (.ref aW) u
  t_W : ∀ H : Hp, SqT K H aW [.str "wet", .str "dry", .str "open"]
/-! ### start and draw -/
section
variable {P : Program} {w : World} {K : PySem.W.Frag} {mg : Str → Option Value} {base : Heap} {aW : Addr}
abbrev s__law_start : Stmt := topS 7
theorem sc__law_start : FnScope ["_law_script", "_law_spare", "_law_great"] ["_law_script"] (defScope s__law_start) := ⟨rfl, rfl, rfl, by decide +kernel, rfl, by decide +kernel, by decide +kernel⟩
theorem ok_start {f : Addr} {fd : FuncData} (F : Fun K "_law_start" "_law_start" s__law_start f fd) (T : Txt K mg aW) : FnOk P w K mg base CX0 1 f fd ["_law_script"] (spStart K) := by
  refine F.ok sc__law_start (fun vs H Q E h => ?_) (fun cdv A outer s H vs Q E hr h => ?_)
  · obtain ⟨a, ns, rfl, _⟩ := h
    rfl
  · obtain ⟨a, ns, rfl, hS, hl, q⟩ := h
    refine ⟨_, (pss_cons (ps_set (i := 1) sc__law_start.nd rfl (Or.inl rfl) (pe_op op_add pe_int (pe_op op_mod (pe_callB (cr_sum rfl) (by rfl) T.z_sum (by decide +kernel) (pa_cons (pe_slice sl_list (pv 0) po_none (po_some pe_int)) pa_nil)) pe_int)))
      (pss_one (ps_ret (pe_lst (pa_cons (pe_lc (own := [("_law_great", 2)]) rfl sc__law_start.nd (pi_list (pv 0)) (blkOk_by (own := [("_law_great", 2)]) (N := ["_law_script", "_law_spare", "_law_great"]) (sc := defScope s__law_start) (by decide +kernel)) (fun _ _ _ _ _ => (pg_name (i := 2) sc__law_start.nd rfl (Or.inl rfl))) (fun _ _ _ _ _ => (pts_one (pt_cmpR op_ge (pe_callB call_abs (by rfl) T.z_abs (by decide +kernel) (pa_cons (pv 2) pa_nil)) (pe_op op_pow pe_int pe_int) (nomark _)))) (fun _ _ _ _ _ => (pe_callB call_abs (by rfl) T.z_abs (by decide +kernel) (pa_cons (pv 2) pa_nil)))) (pa_cons (pe_op op_cat (pe_callTy call_list_of (by rfl) T.z_list (by decide +kernel) (pa_cons (pv 0) pa_nil)) (pe_lst (pa_cons (pv 1) pa_nil))) (pa_cons pe_int pa_nil))))))), ?_⟩
    -- spare
    refine ⟨.ref a, rfl, 1, rfl, a, _, rfl, hS, fun c nc => ?_⟩
    have eC : cutV (ns.map V.int) none (some 1) = (ns.take 1).map V.int := by
      unfold cutV
      rw [HT.sIx_none, show HT.sIx (ns.map V.int).length (ns.map V.int).length (some 1) = min 1 (ns.map V.int).length from HT.sIx_nat _ _ 1, List.drop_zero, Nat.sub_zero, List.map_take, List.length_map]
      cases ns with
      | nil => rfl
      | cons x r => simp
    rw [eC]
    refine ⟨c, ns.take 1, rfl, .inl (.inl upd_same), _, _, rfl, rfl, (by show (0 : Int) < 1000003; decide), _, _, rfl, rfl, ?_⟩
    have x1 : Ex H (upd H c (.lst ((ns.take 1).map V.int))) := Ex.new nc
    generalize upd H c (.lst ((ns.take 1).map V.int)) = H1 at x1
    -- the great ones
    have hS1 := ex_l x1 hS
    refine ⟨.ref a, rfl, a, rfl, ⟨_, hS1⟩, fun D hD => ?_⟩
    have xD : Ex H1 (upd H1 D (.lst [])) := Ex.new hD
    refine lc_list (K := K) (a := a) (xs := ns.map V.int) (fun i H' => Ex H1 H' ∧ ∃ xs : List Int, xs.length ≤ i ∧ H' D = some (.lst (xs.map V.int))) ⟨xD, [], Nat.le_refl _, upd_same⟩ (fun i H' _ h => ex_l h.1 hS1) (fun i x H' hi h => ?_) (fun H' h => ?_)
    · obtain ⟨xe, xs, hxl, hx⟩ := h
      have hil : i < (ns.map V.int).length := (List.getElem?_eq_some_iff.mp hi).1
      rw [List.length_map] at hil
      obtain ⟨z, rfl⟩ : ∃ z, x = V.int z := by
        rw [List.getElem?_map] at hi
        cases e : ns[i]? with
        | none => rw [e] at hi; cases hi
        | some z => rw [e] at hi; exact ⟨z, (Option.some.inj hi).symm⟩
      refine ⟨rfl, .int z, rfl, z, rfl, 10, 18, rfl, rfl, ⟨by decide, by decide, by decide⟩, _, _, rfl, rfl, _, rfl, ?_⟩
      refine ite2 (fun _ => ?_) (fun _ => ⟨xe, xs, by omega, hx⟩)
      refine ⟨.int z, rfl, z, rfl, _, hx, ?_, xe.mut hD, xs ++ [if z < 0 then -z else z], ?_, ?_⟩
      · rw [List.length_map]
        exact small1000 (by omega)
      · rw [List.length_append]
        show xs.length + 1 ≤ i + 1
        omega
      · rw [upd_same, List.map_append]
        rfl
    · obtain ⟨xe, xs, hxl, hx⟩ := h
      -- list(script) + [spare]
      refine ⟨.ref a, rfl, a, _, rfl, .inl (ex_l xe hS1), fun l hl2 => ?_⟩
      refine ⟨_, rfl, (by show 1 ≤ sizeLine; decide), fun m hm => ?_⟩
      have lm : l ≠ m := fun e => by
        subst e
        rw [upd_same] at hm
        cases hm
      refine ⟨l, m, _, _, rfl, rfl, (by rw [upd_ne lm, upd_same]), upd_same, ?_, fun b nb => ?_⟩
      · rw [List.length_map]
        show ns.length + 1 ≤ sizeLine
        exact Nat.le_of_lt (small1000 (by omega))
      · refine ⟨(by show 3 ≤ sizeLine; decide), fun p np => ?_⟩
        refine q p _ ?_
        have x2 : Ex H' (upd (upd (upd (upd H' l (.lst (ns.map V.int))) m (.lst [V.int (5 + (ns.take 1).sum % 1000003)])) b (.lst (ns.map V.int ++ [V.int (5 + (ns.take 1).sum % 1000003)]))) p (.lst [.ref D, .ref b, .int 0])) :=
          (((Ex.new hl2).trans (Ex.new hm)).trans (Ex.new nb)).trans (Ex.new np)
        have x12 : Ex H H' := x1.trans xe
        have n1 : (upd (upd H' l (.lst (ns.map V.int))) m (.lst [V.int (5 + (ns.take 1).sum % 1000003)])) D = some (.lst (xs.map V.int)) := ((Ex.new hl2).trans (Ex.new hm)) _ _ hx
        have Db : D ≠ b := fun e => by rw [e, nb] at n1; cases n1
        have n2 := Ex.new (o := .lst (ns.map V.int ++ [V.int (5 + (ns.take 1).sum % 1000003)])) nb _ _ n1
        have Dp : D ≠ p := fun e => by rw [e, np] at n2; cases n2
        have bp : b ≠ p := fun e => by rw [← e, upd_same] at np; cases np
        have gb : H b = none := fresh_back (x12.trans ((Ex.new hl2).trans (Ex.new hm))) nb
        have gp : H p = none := fresh_back (x12.trans (((Ex.new hl2).trans (Ex.new hm)).trans (Ex.new nb))) np
        exact ⟨D, b, xs, ns ++ [5 + (ns.take 1).sum % 1000003], 0, ⟨x12.trans x2, upd_same, x2 _ _ hx, by rw [upd_ne bp, upd_same, List.map_append]; rfl, gp, fresh_back x1 hD, gb, Dp, bp, Db⟩, by decide, by decide, by simp⟩
abbrev s__law_draw : Stmt := topS 8
theorem sc__law_draw : FnScope ["_law_state", "_law_size", "_law_digit", "_law_mixed"] ["_law_state", "_law_size"] (defScope s__law_draw) := ⟨rfl, rfl, rfl, by decide +kernel, rfl, by decide +kernel, by decide +kernel⟩
theorem ok_draw {f : Addr} {fd : FuncData} (F : Fun K "_law_draw" "_law_draw" s__law_draw f fd) (T : Txt K mg aW) : FnOk P w K mg base CX0 1 f fd ["_law_state", "_law_size"] spDraw := by
  refine F.ok sc__law_draw (fun vs H Q E h => ?_) (fun cdv A outer s H vs Q E hr h => ?_)
  · obtain ⟨p, k, G, m, rfl, _⟩ := h
    rfl
  · obtain ⟨p, k, G, m, rfl, k0, kb, hm, ⟨a0, b, xs0, ys, n, S0, n0, n1, hy⟩, q⟩ := h
    refine ⟨_, (pss_cons (ps_asg (pe_op op_add (pe_ix ix_list (pv 0) pe_int (fun _ _ => rfl)) pe_int) (pg_sub (pv 0) pe_int set_list))
      (pss_cut (ps_while PassesOwn.never (PW.pt (pw_and (pt_cmpR (op_neD hr.units) (pe_ix ix_list (pv 0) pe_int (fun _ _ => rfl)) (pe_lst pa_nil) (nomark _)) (pw_and1 (pt_cmpR op_eq (pe_ix ix_list (pe_ix ix_list (pv 0) pe_int (fun _ _ => rfl)) pe_int (fun _ _ => rfl)) pe_int (nomark _)))))
        (pss_one (ps_asg (pe_slice sl_list (pe_ix ix_list (pv 0) pe_int (fun _ _ => rfl)) (po_some pe_int) po_none) (pg_sub (pv 0) pe_int set_list))))
      (pss_cons (ps_if (pt_cmpR (op_neD hr.units) (pe_ix ix_list (pv 0) pe_int (fun _ _ => rfl)) (pe_lst pa_nil) (nomark _))
        (pss_cons (ps_set (i := 2) sc__law_draw.nd rfl (Or.inl rfl) (pe_op op_mod (pe_callTy call_int1 (by rfl) T.z_int (by decide +kernel) (pa_cons (pe_ix ix_list (pe_ix ix_list (pv 0) pe_int (fun _ _ => rfl)) pe_int (fun _ _ => rfl)) pa_nil)) (pv 1)))
        (pss_cons (ps_asg (pe_op op_fdivW (pe_ix ix_list (pe_ix ix_list (pv 0) pe_int (fun _ _ => rfl)) pe_int (fun _ _ => rfl)) (pv 1)) (pg_sub (pe_ix ix_list (pv 0) pe_int (fun _ _ => rfl)) pe_int set_list))
        (pss_one (ps_ret (pv 2)))))
        pss_nil)
      (pss_cons (ps_set (i := 3) sc__law_draw.nd rfl (Or.inl rfl) (pe_op op_modA (pe_callTy call_int1 (by rfl) T.z_int (by decide +kernel) (pa_cons (pe_ix ix_list (pe_ix ix_list (pv 0) pe_int (fun _ _ => rfl)) (pe_op op_mod (pe_callTy call_int1 (by rfl) T.z_int (by decide +kernel) (pa_cons (pe_ix ix_list (pv 0) pe_int (fun _ _ => rfl)) pa_nil)) (pe_callB call_len_seq (by rfl) T.z_len (by decide +kernel) (pa_cons (pe_ix ix_list (pv 0) pe_int (fun _ _ => rfl)) pa_nil))) (fun _ _ => rfl)) pa_nil)) pe_int))
      (pss_cons (ps_set (i := 3) sc__law_draw.nd rfl (Or.inl rfl) (pe_op op_modA (pe_callTy call_int1 (by rfl) T.z_int (by decide +kernel) (pa_cons (pe_op op_pow (pe_op op_add (pe_op op_add (pe_op op_mul (pv 3) pe_int) (pe_op op_mul (pe_ix ix_list (pv 0) pe_int (fun _ _ => rfl)) pe_int)) pe_int) pe_int) pa_nil)) pe_int))
      (pss_one (ps_ret (pe_op op_mod (pe_op op_fdiv (pe_op op_modA (pe_callTy call_int1 (by rfl) T.z_int (by decide +kernel) (pa_cons (pe_op op_pow (pe_op op_add (pe_op op_add (pe_op op_mul (pv 3) pe_int) (pe_op op_mul (pe_ix ix_list (pv 0) pe_int (fun _ _ => rfl)) pe_int)) pe_int) pe_int) pa_nil)) pe_int) pe_int) (pv 1))))))))), ?_⟩
    -- the count
    refine ⟨.ref p, rfl, p, _, 2, .int n, rfl, rfl, .inl (.inl S0.hp), rfl, n, 1, rfl, rfl, .ref p, rfl, p, _, 2, 2, rfl, rfl, S0.hp, rfl, ?_⟩
    have S1 := S0.setn (k := n + 1)
    show tSeq _ _ _ _ (upd H p (.lst [.ref a0, .ref b, .int (n + 1)]))
    generalize upd H p (.lst [.ref a0, .ref b, .int (n + 1)]) = H1 at S1
    -- zeros ahead fall away
    refine ⟨fun σ H' => ∃ a xs, σ = [some (.ref p), some (.int k), none, none] ∧ SBe G H' p a b xs ys (n + 1), ?_, ?_⟩
    · refine ⟨fun j σ H' => ∃ a xs, σ = [some (.ref p), some (.int k), none, none] ∧ SBe G H' p a b xs ys (n + 1) ∧ xs.length = j, ⟨_, a0, xs0, rfl, S1, rfl⟩, ?_⟩
      rintro j σ H2 ⟨a, xs, rfl, S2, hj⟩
      refine ⟨.ref p, rfl, p, _, 0, .ref a, rfl, rfl, .inl (.inl S2.hp), rfl, Nat.zero_le _, fun o no => ?_⟩
      have S3 := S2.ext (Ex.new (o := .lst []) no)
      refine ⟨.list (xs.map .int), .list [], .lst (.inl (.inl S3.ha)) (dp_ints xs), .lst (.inl (.inl upd_same)) .nil, shaped_ints xs, by decide, _, rfl, ?_⟩
      rw [eqv_nil]
      generalize upd H2 o (.lst []) = H3 at S3
      cases xs with
      | nil =>
        refine iteF (iteF ?_)
        exact ⟨a, [], rfl, S3⟩
      | cons z r =>
        refine iteT ?_
        refine ⟨.ref p, rfl, p, _, 0, .ref a, rfl, rfl, .inl (.inl S3.hp), rfl, a, _, 0, .int z, rfl, rfl, .inl (.inl S3.ha), atI_nat (j := 0) rfl, rfl, _, rfl, ?_⟩
        refine ite2 (fun ez => ?_) (fun nz => ⟨a, _, rfl, S3⟩)
        refine ⟨fun σ' H' => ∃ a xs, σ' = [some (.ref p), some (.int k), none, none] ∧ SBe G H' p a b xs ys (n + 1) ∧ xs.length < j, fun σ' H' ⟨a, xs, e, S, l⟩ => ⟨_, l, a, xs, e, S, rfl⟩, ?_⟩
        refine ⟨.ref p, rfl, p, _, 0, .ref a, rfl, rfl, .inl (.inl S3.hp), rfl, 1, rfl, a, _, rfl, .inl (.inl S3.ha), fun c nc => ?_⟩
        have eC : cutV ((z :: r).map V.int) (some 1) none = r.map V.int := by
          unfold cutV
          rw [HT.sIx_none, show HT.sIx ((z :: r).map V.int).length 0 (some 1) = min 1 ((z :: r).map V.int).length from HT.sIx_nat _ _ 1]
          have e1 : min 1 ((z :: r).map V.int).length = 1 := by rw [List.length_map, List.length_cons]; omega
          rw [e1]
          show List.take (((z :: r).map V.int).length - 1) (r.map V.int) = r.map V.int
          rw [List.length_map]
          exact List.take_of_length_le (by rw [List.length_map]; exact Nat.le_refl _)
        rw [eC]
        refine ⟨.ref p, rfl, p, _, 0, 0, rfl, rfl, (by rw [upd_ne (fun e => by rw [← e, S3.hp] at nc; cases nc)]; exact S3.hp), rfl, ?_⟩
        exact ⟨c, r, rfl, S3.newa nc, by rw [← hj]; exact Nat.lt_succ_self _⟩
    · rintro σ H2 ⟨a, xs, rfl, S2⟩
      refine ⟨.ref p, rfl, p, _, 0, .ref a, rfl, rfl, .inl (.inl S2.hp), rfl, Nat.zero_le _, fun o no => ?_⟩
      have S3 := S2.ext (Ex.new (o := .lst []) no)
      refine ⟨.list (xs.map .int), .list [], .lst (.inl (.inl S3.ha)) (dp_ints xs), .lst (.inl (.inl upd_same)) .nil, shaped_ints xs, by decide, _, rfl, ?_⟩
      rw [eqv_nil]
      generalize upd H2 o (.lst []) = H3 at S3
      cases xs with
      | cons z r =>
        refine iteT ?_
        -- the digit
        refine ⟨.ref p, rfl, p, _, 0, .ref a, rfl, rfl, .inl (.inl S3.hp), rfl, a, _, 0, .int z, rfl, rfl, .inl (.inl S3.ha), atI_nat (j := 0) rfl, .inl ⟨z, rfl, .int k, rfl, z, k, rfl, rfl, k0, ?_⟩⟩
        refine ⟨.ref p, rfl, p, _, 0, .ref a, rfl, rfl, .inl (.inl S3.hp), rfl, a, _, 0, .int z, rfl, rfl, .inl (.inl S3.ha), atI_nat (j := 0) rfl, .int k, rfl, z, k, rfl, rfl, ⟨k0, kb⟩, ?_⟩
        refine ⟨.ref p, rfl, p, _, 0, .ref a, rfl, rfl, .inl (.inl S3.hp), rfl, a, _, 0, 0, rfl, rfl, S3.ha, show ixN _ ((0 : Nat) : Int) = some 0 from ixN_nat (by rw [List.length_map, List.length_cons]; omega), ?_⟩
        refine ⟨.int (z % k), rfl, q _ _ (Int.emod_nonneg _ (by omega)) (Int.emod_lt_of_pos _ k0) ⟨a, b, z / k :: r, ys, n + 1, S3.seta (zs := z / k :: r), by omega, by omega, hy⟩⟩
      | nil =>
        refine iteF ?_
        -- the mixed one
        obtain ⟨y, hyy⟩ : ∃ y, (ys.map V.int)[((n + 1) % ((ys.map V.int).length : Int)).toNat]? = some (.int y) := by
          have l0 : 0 < ys.length := List.length_pos_iff.mpr hy
          have l1 : (0 : Int) < ((ys.map V.int).length : Int) := by rw [List.length_map]; omega
          have l2 := Int.emod_lt_of_pos (n + 1) l1
          have l3 := Int.emod_nonneg (n + 1) (show ((ys.map V.int).length : Int) ≠ 0 by omega)
          rw [List.length_map] at l2 l3
          have l4 : ((n + 1) % (ys.length : Int)).toNat < ys.length := by omega
          refine ⟨ys[((n + 1) % (ys.length : Int)).toNat], ?_⟩
          rw [List.length_map, List.getElem?_map, List.getElem?_eq_getElem l4]
          rfl
        have l0 : 0 < ys.length := List.length_pos_iff.mpr hy
        have l1 : (0 : Int) < ((ys.map V.int).length : Int) := by rw [List.length_map]; omega
        have l3 := Int.emod_nonneg (n + 1) (show ((ys.map V.int).length : Int) ≠ 0 by omega)
        refine ⟨.ref p, rfl, p, _, 1, .ref b, rfl, rfl, .inl (.inl S3.hp), rfl, .ref p, rfl, p, _, 2, .int (n + 1), rfl, rfl, .inl (.inl S3.hp), rfl, .inl ⟨n + 1, rfl, ?_⟩⟩
        refine ⟨.ref p, rfl, p, _, 1, .ref b, rfl, rfl, .inl (.inl S3.hp), rfl, b, _, rfl, .inl (.inl (.inl S3.hb)), n + 1, _, rfl, rfl, l1, ?_⟩
        refine ⟨b, _, _, .int y, rfl, rfl, .inl (.inl S3.hb), at_of (Int.toNat_of_nonneg l3).symm hyy, .inl ⟨y, rfl, y, 2147483647, rfl, rfl, (by show (0 : Int) < 2147483647; decide), fun u m0 m1 _ => ?_⟩⟩
        refine ⟨.int u, rfl, u, _, rfl, rfl, .inl ⟨by omega, by omega⟩, .ref p, rfl, p, _, 2, .int (n + 1), rfl, rfl, .inl (.inl S3.hp), rfl, n + 1, _, rfl, rfl, .inl ⟨by omega, by omega⟩, _, _, rfl, rfl, _, _, rfl, rfl, _, 5, rfl, rfl, ⟨by decide, by decide, by omega⟩, .inl ⟨_, rfl, _, 2147483647, rfl, rfl, (by show (0 : Int) < 2147483647; decide), fun v v0 v1 _ => ?_⟩⟩
        refine ⟨.int v, rfl, v, _, rfl, rfl, .inl ⟨by omega, by omega⟩, .ref p, rfl, p, _, 2, .int (n + 1), rfl, rfl, .inl (.inl S3.hp), rfl, n + 1, _, rfl, rfl, .inl ⟨by omega, by omega⟩, _, _, rfl, rfl, _, _, rfl, rfl, _, 5, rfl, rfl, ⟨by decide, by decide, by omega⟩, .inl ⟨_, rfl, _, 2147483629, rfl, rfl, (by show (0 : Int) < 2147483629; decide), fun w w0 w1 _ => ⟨_, 16, rfl, rfl, ⟨by decide, by decide⟩, .int k, rfl, _, k, rfl, rfl, k0, ?_⟩⟩⟩
        exact q _ _ (Int.emod_nonneg _ (by omega)) (Int.emod_lt_of_pos _ k0) ⟨a, b, [], ys, n + 1, S3, by omega, by omega, hy⟩
end

/-! ### what is a word, what is weather -/
def LET : List Nat := (Str.ofString "abcdefghijklmnopqrstuvwxyz").cps.toList
def isWord (z : Str) : Bool := decide (1 ≤ z.length) && decide (z.length ≤ 8) && z.cps.toList.all fun c => decide (c ∈ LET)
def isWea (z : Str) : Bool := inV (.str z) [.str "wet", .str "dry", .str "open"]
def NoStr (K : PySem.W.Frag) (H : Hp) (v : V) : Prop := ∃ t, TyX K H v t ∧ PySem.W.kitOne K t (.type "str") = some false
def spText (K : PySem.W.Frag) (f : Str → Bool) : Sp := fun vs H Q _ => ∃ v, vs = [v] ∧ ((∃ z, v = .str z ∧ z.length ≤ 40000 ∧ ∀ H2, Ex H H2 → Q (.bl (f z)) H2) ∨ (NoStr K H v ∧ ∀ H2, Ex H H2 → Q (.bl false) H2))
section
variable {P : Program} {w : World} {K : PySem.W.Frag} {mg : Str → Option Value} {base : Heap} {aW : Addr}
abbrev s_is_word : Stmt := topS 4
theorem sc_is_word : FnScope ["value", "letter"] ["value"] (defScope s_is_word) := ⟨rfl, rfl, rfl, by decide +kernel, rfl, by decide +kernel, by decide +kernel⟩
theorem ok_word {f : Addr} {fd : FuncData} (F : Fun K "is_word" "is_word" s_is_word f fd) (T : Txt K mg aW) : FnOk P w K mg base CX0 1 f fd ["value"] (spText K isWord) := by
  refine F.ok sc_is_word (fun vs H Q E h => ?_) (fun cdv A outer s H vs Q E hr h => ?_)
  · obtain ⟨v, rfl, _⟩ := h
    rfl
  · obtain ⟨v, rfl, h⟩ := h
    refine ⟨_, (pss_cons (ps_if (PW.pt (pw_or (pt_not (pt_val (pe_callB call_isi (by rfl) T.z_isinstance (by decide +kernel) (pa_cons (pv 0) (pa_cons (pe_bltn (by rfl) T.z_str (by decide +kernel) (show RelV (.ty "str") (.type "str") from rfl)) pa_nil))))) (pw_or (pt_cmpR op_lt (pe_callB call_len_str (by rfl) T.z_len (by decide +kernel) (pa_cons (pv 0) pa_nil)) pe_int (nomark _)) (pw_or1 (pt_cmpR op_gt (pe_callB call_len_str (by rfl) T.z_len (by decide +kernel) (pa_cons (pv 0) pa_nil)) (pe_k0 rfl T.g_LONGEST) (nomark _))))))
        (pss_one (ps_ret pe_bl))
        pss_nil)
      (pss_one (ps_ret (pe_callB (cr_all rfl) (by rfl) T.z_all (by decide +kernel) (pa_cons (pe_lc (own := [("letter", 1)]) rfl sc_is_word.nd (pi_str (pv 0)) (blkOk_by (own := [("letter", 1)]) (N := ["value", "letter"]) (sc := defScope s_is_word) (by decide +kernel)) (fun _ _ _ _ _ => (pg_name (i := 1) sc_is_word.nd rfl (Or.inl rfl))) (fun _ _ _ _ _ => pts_nil) (fun _ _ _ _ _ => (pe_cmpR op_in_sign (pv 1) (pe_k0 rfl T.g_LETTERS) rfl))) pa_nil))))), ?_⟩
    rcases h with ⟨z, rfl, hz, q⟩ | ⟨⟨t, ty, no⟩, q⟩
    · have hl : z.length ≤ sizeLine := sz_of (by omega)
      refine ⟨.str z, rfl, .str z, .ty "str", .type "str", .type "str", true, rfl, .ty "str", .base (.str z), kit_ty (by decide +kernel), true, rfl, ?_⟩
      refine iteF ?_
      refine ⟨.str z, rfl, z, rfl, hl, _, 1, rfl, rfl, _, rfl, ?_⟩
      refine ite2 (fun h1 => ?_) (fun h1 => ?_)
      · refine iteT ?_
        have e : isWord z = false := by
          have h1' := of_decide_eq_true h1
          unfold isWord
          rw [decide_eq_false (show ¬ 1 ≤ z.length by omega)]
          rfl
        have g := q H (Ex.refl H)
        rw [e] at g
        exact g
      · refine ⟨.str z, rfl, z, rfl, hl, _, 8, rfl, rfl, _, rfl, ?_⟩
        have h1' : ¬ (z.length : Int) < 1 := fun x => h1 (decide_eq_true x)
        refine ite2 (fun h2 => ?_) (fun h2 => ?_)
        · have e : isWord z = false := by
            have h2' := of_decide_eq_true h2
            unfold isWord
            rw [decide_eq_false (show ¬ z.length ≤ 8 by omega), Bool.and_false]
            rfl
          have g := q H (Ex.refl H)
          rw [e] at g
          exact g
        · have h2' : ¬ (8 : Int) < (z.length : Int) := fun x => h2 (decide_eq_true x)
          refine x_nx ?_
          dsimp only
          refine x_ret ?_
          refine x_cb ?_
          refine x_cons ?_
          refine u_l (xs := given z.cps.size (fun _ => true) fun i => V.bl (decide (z.cps.toList.getD i 0 ∈ LET))) ?_ fun p H2 _ e2 hp => ?_
          · exact el_lcS (fun _ => true) _ (ev_var (i := 0) rfl) hz (fun x => rfl) (fun i c H1 _ _ => et_yes)
              (fun i c H1 _ hc _ => ev_op (ev_var (i := 1) (v := .str ⟨#[c]⟩) rfl) ev_c (rv_val fun H2 _ Q' q' => ⟨c, _, rfl, rfl, by rw [getD_of hc] at q'; exact q'⟩))
          refine ⟨p, (List.range z.cps.size).map (fun i => decide (z.cps.toList.getD i 0 ∈ LET)), rfl, ?_, ?_⟩
          · rw [List.map_map]
            rw [given_all] at hp
            exact sq_of hp
          · have e : isWord z = ((List.range z.cps.size).map (fun i => decide (z.cps.toList.getD i 0 ∈ LET))).all id := by
              have m := map_getD (fun c => decide (c ∈ LET)) 0 z.cps.toList
              rw [Array.length_toList] at m
              rw [m]
              unfold isWord
              rw [decide_eq_true (show 1 ≤ z.length by omega), decide_eq_true (show z.length ≤ 8 by omega), List.all_map]
              rfl
            rw [← e]
            exact q H2 e2
    · refine ⟨v, rfl, v, .ty "str", t, .type "str", false, rfl, .ty "str", ty, no, false, rfl, ?_⟩
      refine iteT ?_
      exact iteT (q H (Ex.refl H))
abbrev s_is_weather : Stmt := topS 5
theorem sc_is_weather : FnScope ["value"] ["value"] (defScope s_is_weather) := ⟨rfl, rfl, rfl, by decide +kernel, rfl, by decide +kernel, by decide +kernel⟩
theorem ok_weather {f : Addr} {fd : FuncData} (F : Fun K "is_weather" "is_weather" s_is_weather f fd) (T : Txt K mg aW) : FnOk P w K mg base CX0 1 f fd ["value"] (spText K isWea) := by
  refine F.ok sc_is_weather (fun vs H Q E h => ?_) (fun cdv A outer s H vs Q E hr h => ?_)
  · obtain ⟨v, rfl, _⟩ := h
    rfl
  · obtain ⟨v, rfl, h⟩ := h
    refine ⟨_, (pss_one (ps_ret (pe_and (pe_callB call_isi (by rfl) T.z_isinstance (by decide +kernel) (pa_cons (pv 0) (pa_cons (pe_bltn (by rfl) T.z_str (by decide +kernel) (show RelV (.ty "str") (.type "str") from rfl)) pa_nil))) (pe_one (pe_cmpR op_in_seq (pv 0) (pe_k0 rfl T.g_WEATHERS) (by rfl)))))), ?_⟩
    rcases h with ⟨z, rfl, hz, q⟩ | ⟨⟨t, ty, no⟩, q⟩
    · refine ⟨.str z, rfl, .str z, .ty "str", .type "str", .type "str", true, rfl, .ty "str", .base (.str z), kit_ty (by decide +kernel), true, rfl, ?_⟩
      refine iteT ?_
      exact ⟨.str z, rfl, aW, _, rfl, .inr (T.t_W H), rfl, rfl, q H (Ex.refl H)⟩
    · refine ⟨v, rfl, v, .ty "str", t, .type "str", false, rfl, .ty "str", ty, no, false, rfl, ?_⟩
      exact iteF (q H (Ex.refl H))
end
/-! ### words with another sign, what is near -/
theorem not_word {z : Str} {c : Nat} (h : c ∈ z.cps.toList) (n : c ∉ LET) : isWord z = false := by
  unfold isWord
  have e : (z.cps.toList.all fun c => decide (c ∈ LET)) = false := by
    rw [List.all_eq_false]
    exact ⟨c, h, by simpa using n⟩
  rw [e, Bool.and_false]
theorem all_word {cs : List Nat} (h : ∀ c ∈ cs, c ∈ LET) : isWord ⟨cs.toArray⟩ = (decide (1 ≤ cs.length) && decide (cs.length ≤ 8)) := by
  unfold isWord
  have e : ((⟨cs.toArray⟩ : Str).cps.toList.all fun c => decide (c ∈ LET)) = true := by
    rw [List.all_eq_true]
    intro c hc
    exact decide_eq_true (h c (by simpa using hc))
  rw [e, Bool.and_true]
  show (decide (1 ≤ cs.toArray.size) && decide (cs.toArray.size ≤ 8)) = _
  rw [List.size_toArray]
theorem app_list (a b : Str) : (a ++ b).cps.toList = a.cps.toList ++ b.cps.toList := by
  show (a.cps ++ b.cps).toList = _
  rw [Array.toList_append]
theorem app_len (a b : Str) : (a ++ b).length = a.length + b.length := by
  show (a.cps ++ b.cps).size = _
  rw [Array.size_append]
  rfl
theorem cutS_len (z : Str) (lo hi : Option Int) : (cutS z lo hi).length ≤ z.length := by
  show ((List.take _ (List.drop _ z.cps.toList)).toArray).size ≤ z.cps.size
  rw [List.size_toArray, List.length_take, List.length_drop, Array.length_toList]
  show min _ (z.cps.size - _) ≤ z.cps.size
  omega
/-- near words and what is bent of them -/
structure NearOk (z : Str) : Prop where
  len : z.length ≤ 10
  wd : isWord z = true
  we : isWea z = true
  b0 : isWea (z ++ Str.ofString "s") = false
  b1 : isWea (cutS z none (some (-1))) = false
  b2 : isWea (Txt.upper z) = false
  b3 : isWea (Str.ofString " " ++ z) = false
  b5 : isWea (z ++ Str.ofString "\n") = false
theorem near_ok {z : Str} (h : z = Str.ofString "wet" ∨ z = Str.ofString "dry" ∨ z = Str.ofString "open") : NearOk z := by
  rcases h with rfl | rfl | rfl <;> exact ⟨by decide +kernel, by decide +kernel, by decide +kernel, by decide +kernel, by decide +kernel, by decide +kernel, by decide +kernel, by decide +kernel⟩
/-! ### the law -/
section
variable {P : Program} {w : World} {K : PySem.W.Frag} {mg : Str → Option Value} {base : Heap} {aW : Addr}
theorem ev_text {σ : L2.St} {H : Hp} {te : TE} {E : XK} {z : Str} {g : Str → Bool} (h : Ev te σ H (.str z)) (hz : z.length ≤ 40000) : Ev (tCall (spText K g) [] E (tCons te tNil)) σ H (.bl (g z)) := fun H1 e Q q =>
  h H1 e _ fun H2 e2 => ⟨.str z, rfl, .inl ⟨z, rfl, hz, fun H3 e3 => q H3 (e2.trans e3)⟩⟩
theorem ev_textK {σ : L2.St} {H : Hp} {te : TE} {z : Str} {g : Str → Bool} {x : Str} (h : Ev te σ H (.str z)) (hz : z.length ≤ 40000) : Ev (tCallKw [x] (spText K g) (fun _ zs => zs) (tCons te tNil)) σ H (.bl (g z)) := fun H1 e Q q =>
  h H1 e _ fun H2 e2 => ⟨rfl, .str z, rfl, .inl ⟨z, rfl, hz, fun H3 e3 => q H3 (e2.trans e3)⟩⟩
theorem ev_none {σ : L2.St} {H : Hp} {te : TE} {E : XK} {v : V} {g : Str → Bool} (h : Ev te σ H v) (no : ∀ H1, Ex H H1 → NoStr K H1 v) : Ev (tCall (spText K g) [] E (tCons te tNil)) σ H (.bl false) := fun H1 e Q q =>
  h H1 e _ fun H2 e2 => ⟨v, rfl, .inr ⟨no H2 (e.trans e2), fun H3 e3 => q H3 (e2.trans e3)⟩⟩
theorem odd_sign {c : Nat} {v : V} (h : ([.str "A", .str "1", .str " ", .str "-", .str "_", .str "\n", .str "/", .str ".", .str "~"] : List V)[c]? = some v) : ∃ z d, v = .str z ∧ z.length = 1 ∧ d ∈ z.cps.toList ∧ d ∉ LET := by
  have hc := (List.getElem?_eq_some_iff.mp h).1
  match c, hc, h with
  | 0, _, h => cases h; exact ⟨_, 65, rfl, by decide +kernel, by decide +kernel, by decide +kernel⟩
  | 1, _, h => cases h; exact ⟨_, 49, rfl, by decide +kernel, by decide +kernel, by decide +kernel⟩
  | 2, _, h => cases h; exact ⟨_, 32, rfl, by decide +kernel, by decide +kernel, by decide +kernel⟩
  | 3, _, h => cases h; exact ⟨_, 45, rfl, by decide +kernel, by decide +kernel, by decide +kernel⟩
  | 4, _, h => cases h; exact ⟨_, 95, rfl, by decide +kernel, by decide +kernel, by decide +kernel⟩
  | 5, _, h => cases h; exact ⟨_, 10, rfl, by decide +kernel, by decide +kernel, by decide +kernel⟩
  | 6, _, h => cases h; exact ⟨_, 47, rfl, by decide +kernel, by decide +kernel, by decide +kernel⟩
  | 7, _, h => cases h; exact ⟨_, 46, rfl, by decide +kernel, by decide +kernel, by decide +kernel⟩
  | 8, _, h => cases h; exact ⟨_, 126, rfl, by decide +kernel, by decide +kernel, by decide +kernel⟩
theorem near_word {c : Nat} {v : V} (h : ([.str "wet", .str "dry", .str "open"] : List V)[c]? = some v) : ∃ z, v = .str z ∧ NearOk z := by
  have hc := (List.getElem?_eq_some_iff.mp h).1
  match c, hc, h with
  | 0, _, h => cases h; exact ⟨_, rfl, near_ok (.inl rfl)⟩
  | 1, _, h => cases h; exact ⟨_, rfl, near_ok (.inr (.inl rfl))⟩
  | 2, _, h => cases h; exact ⟨_, rfl, near_ok (.inr (.inr rfl))⟩
theorem bent_word {c : Nat} {v : V} {z : Str} (ok : NearOk z) (h : ([.str (z ++ Str.ofString "s"), .str (cutS z none (some (-1))), .str (Txt.upper z), .str (Str.ofString " " ++ z), .str "", .str (z ++ Str.ofString "\n")] : List V)[c]? = some v) : ∃ y, v = .str y ∧ isWea y = false ∧ y.length ≤ 40000 := by
  have nl := ok.len
  have ls : (Str.ofString "s").length = 1 := by decide +kernel
  have lb : (Str.ofString " ").length = 1 := by decide +kernel
  have lf : (Str.ofString "\n").length = 1 := by decide +kernel
  have hc := (List.getElem?_eq_some_iff.mp h).1
  match c, hc, h with
  | 0, _, h => cases h; exact ⟨_, rfl, ok.b0, by rw [app_len]; omega⟩
  | 1, _, h => cases h; exact ⟨_, rfl, ok.b1, by have := cutS_len z none (some (-1)); omega⟩
  | 2, _, h => cases h; exact ⟨_, rfl, ok.b2, by have := PyProof.Rows.len_upper z; omega⟩
  | 3, _, h => cases h; exact ⟨_, rfl, ok.b3, by rw [app_len]; omega⟩
  | 4, _, h => cases h; exact ⟨_, rfl, by decide +kernel, by decide +kernel⟩
  | 5, _, h => cases h; exact ⟨_, rfl, ok.b5, by rw [app_len]; omega⟩
theorem letter_at {r : Int} (h0 : 0 ≤ r) (h1 : r < 26) : ∃ c, atI (Str.ofString "abcdefghijklmnopqrstuvwxyz").cps.toList r = some c ∧ c ∈ LET := by
  have hl : (Str.ofString "abcdefghijklmnopqrstuvwxyz").cps.toList.length = 26 := by decide +kernel
  have hr : r.toNat < (Str.ofString "abcdefghijklmnopqrstuvwxyz").cps.toList.length := by omega
  refine ⟨(Str.ofString "abcdefghijklmnopqrstuvwxyz").cps.toList[r.toNat], ?_, List.getElem_mem hr⟩
  unfold atI ixN
  rw [if_pos h0, if_pos (by omega)]
  exact List.getElem?_eq_getElem hr
abbrev s_law : Stmt := topS 9
theorem sc_law : FnScope ["_law_script", "_law_state", "_law_turn", "_law_signs", "_law_size", "_law_text", "_law_k", "_law_due", "_law_at", "_law_odd", "_law_near", "_law_bent", "_law_things", "_law_thing"] ["_law_script"] (defScope s_law) := ⟨rfl, rfl, rfl, by decide +kernel, rfl, by decide +kernel, by decide +kernel⟩
theorem ok_law {f : Addr} {fd : FuncData} (F : Fun K "law" "law" s_law f fd) (T : Txt K mg aW) (c__law_start : CalF P w K mg base 1 "_law_start" (spStart K) []) (c__law_draw : CalF P w K mg base 1 "_law_draw" spDraw [])
    (c_is_word : CalF P w K mg base 1 "is_word" (spText K isWord) []) (c_is_weather : CalF P w K mg base 1 "is_weather" (spText K isWea) [])
    (c_is_word_kw : CalKw P w K mg base 1 "is_word" ["value"] (spText K isWord) (fun _ zs => zs)) (c_is_weather_kw : CalKw P w K mg base 1 "is_weather" ["value"] (spText K isWea) (fun _ zs => zs)) : FnG P w K mg base CX0 2 f fd ["_law_script"] (LawK.spLaw K) := by
  refine F.okG sc_law (fun vs H Q E h => ?_) (fun cdv A outer s H vs Q E gA hr h => ?_)
  · obtain ⟨a, ns, rfl, _⟩ := h
    rfl
  · obtain ⟨a, ns, rfl, hS, hl, q⟩ := h
    refine ⟨_, PSs.nox (pss_cons (ps_set (i := 1) sc_law.nd rfl (Or.inl rfl) (pe_cF c__law_start hr (by decide) rfl (pa_cons (pv 0) pa_nil)))
      (pss_cons (ps_for PassesOwn.never rfl (pi_range1 rfl T.z_range (pa_cons pe_int pa_nil)) (pg_name (i := 2) sc_law.nd rfl (Or.inl rfl))
        (pss_cons (ps_set (i := 3) sc_law.nd rfl (Or.inl rfl) pe_str)
        (pss_cons (ps_set (i := 4) sc_law.nd rfl (Or.inl rfl) (pe_cF c__law_draw hr (by decide) rfl (pa_cons (pv 1) (pa_cons pe_int pa_nil))))
        (pss_cons (ps_set (i := 5) sc_law.nd rfl (Or.inl rfl) pe_str)
        (pss_cons (ps_for PassesOwn.never rfl (pi_range1 rfl T.z_range (pa_cons (pv 4) pa_nil)) (pg_name (i := 6) sc_law.nd rfl (Or.inl rfl))
          (pss_one (ps_set (i := 5) sc_law.nd rfl (Or.inl rfl) (pe_op op_add_str (pv 5) (pe_ix ix_str (pv 3) (pe_cF c__law_draw hr (by decide) rfl (pa_cons (pv 1) (pa_cons pe_int pa_nil))) (fun _ _ => rfl))))))
        (pss_cons (ps_set (i := 7) sc_law.nd rfl (Or.inl rfl) (pe_chain op_le op_le pe_int (pv 4) pe_int))
        (pss_cons (ps_if (pt_cmpR op_ne (pe_callB (cr_repr hr.units gA) (by rfl) T.z_repr (by decide +kernel) (pa_cons (pe_lst (pa_cons (pe_cF c_is_word hr (by decide) rfl (pa_cons (pv 5) pa_nil)) (pa_cons (pe_kw c_is_word_kw hr (by decide) rfl (pk_cons (pv 5) pk_nil)) pa_nil))) pa_nil)) (pe_callB (cr_repr hr.units gA) (by rfl) T.z_repr (by decide +kernel) (pa_cons (pe_lst (pa_cons (pv 7) (pa_cons (pv 7) pa_nil))) pa_nil)) (nomark _))
          (pss_one (ps_ret pe_bl))
          pss_nil)
        (pss_cons (ps_set (i := 8) sc_law.nd rfl (Or.inl rfl) (pe_cF c__law_draw hr (by decide) rfl (pa_cons (pv 1) (pa_cons (pe_op op_add (pv 4) pe_int) pa_nil))))
        (pss_cons (ps_set (i := 9) sc_law.nd rfl (Or.inl rfl) (pe_ix ix_list (pe_lst (pa_cons pe_str (pa_cons pe_str (pa_cons pe_str (pa_cons pe_str (pa_cons pe_str (pa_cons pe_str (pa_cons pe_str (pa_cons pe_str (pa_cons pe_str pa_nil)))))))))) (pe_cF c__law_draw hr (by decide) rfl (pa_cons (pv 1) (pa_cons pe_int pa_nil))) (fun _ _ => rfl)))
        (pss_cons (ps_if (pt_cmpR op_notBl (pe_cF c_is_word hr (by decide) rfl (pa_cons (pe_op op_add_str (pe_op op_add_str (pe_slice sl_str (pv 5) po_none (po_some (pv 8))) (pv 9)) (pe_slice sl_str (pv 5) (po_some (pv 8)) po_none)) pa_nil)) pe_bl (nomark _))
          (pss_one (ps_ret pe_bl))
          pss_nil)
        (pss_cons (ps_set (i := 10) sc_law.nd rfl (Or.inl rfl) (pe_ix ix_list (pe_lst (pa_cons pe_str (pa_cons pe_str (pa_cons pe_str pa_nil)))) (pe_cF c__law_draw hr (by decide) rfl (pa_cons (pv 1) (pa_cons pe_int pa_nil))) (fun _ _ => rfl)))
        (pss_cons (ps_set (i := 11) sc_law.nd rfl (Or.inl rfl) (pe_ix ix_list (pe_lst (pa_cons (pe_op op_add_str (pv 10) pe_str) (pa_cons (pe_slice sl_str (pv 10) po_none (po_some (pe_un un_neg pe_int))) (pa_cons (pe_upper (pv 10)) (pa_cons (pe_op op_add_str pe_str (pv 10)) (pa_cons pe_str (pa_cons (pe_op op_add_str (pv 10) pe_str) pa_nil))))))) (pe_cF c__law_draw hr (by decide) rfl (pa_cons (pv 1) (pa_cons pe_int pa_nil))) (fun _ _ => rfl)))
        (pss_one (ps_if (PW.pt (pw_or (pt_cmpR op_notBl (pe_cF c_is_word hr (by decide) rfl (pa_cons (pv 10) pa_nil)) pe_bl (nomark _)) (pw_or (pt_cmpR op_notBl (pe_cF c_is_weather hr (by decide) rfl (pa_cons (pv 10) pa_nil)) pe_bl (nomark _)) (pw_or1 (pt_cmpR op_notBl (pe_kw c_is_weather_kw hr (by decide) rfl (pk_cons (pv 11) pk_nil)) pe_bl (nomark _))))))
          (pss_one (ps_ret pe_bl))
          pss_nil))))))))))))))
      (pss_cons (ps_set (i := 12) sc_law.nd rfl (Or.inl rfl) (pe_lst (pa_cons pe_non (pa_cons pe_bl (pa_cons pe_int (pa_cons (pe_lst (pa_cons pe_str pa_nil)) (pa_cons (pe_tup (pa_cons pe_str pa_nil)) (pa_cons pe_dnewK (pa_cons (pe_lst (pa_cons pe_str pa_nil)) (pa_cons pe_int pa_nil))))))))))
      (pss_one (ps_ret (pe_cmpR (op_eqD hr.units) (pe_lc (own := [("_law_thing", 13)]) rfl sc_law.nd (pi_list (pv 12)) (blkOk_by (own := [("_law_thing", 13)]) (N := ["_law_script", "_law_state", "_law_turn", "_law_signs", "_law_size", "_law_text", "_law_k", "_law_due", "_law_at", "_law_odd", "_law_near", "_law_bent", "_law_things", "_law_thing"]) (sc := defScope s_law) (by decide +kernel)) (fun _ _ _ _ _ => (pg_name (i := 13) sc_law.nd rfl (Or.inl rfl))) (fun _ _ _ _ _ => (pts_one (PW.pt (pw_or (pt_cmpR op_notBl (pe_cF c_is_word hr (by decide) rfl (pa_cons (pv 13) pa_nil)) pe_bl (nomark _)) (pw_or1 (pt_cmpR op_notBl (pe_cF c_is_weather hr (by decide) rfl (pa_cons (pv 13) pa_nil)) pe_bl (nomark _))))))) (fun _ _ _ _ _ => (pv 13))) (pe_lst pa_nil) (nomark _))))))), ?_⟩
    refine ⟨.ref a, rfl, a, ns, rfl, hS, hl, fun p H1 S0 => ?_⟩
    dsimp only [gName]
    refine q_forR1 (ea_cons ev_c ea_nil) ⟨by decide, by decide⟩ (fun i σ H' => ∃ t2 t3 t4 t5 t6 t7 t8 t9 t10 t11 t12 t13, σ = [some (.ref a), some (.ref p), t2, t3, t4, t5, t6, t7, t8, t9, t10, t11, t12, t13] ∧ SB H H' p (20 * i))
      (fun H2 e2 => ⟨_, _, _, _, _, _, _, _, _, _, _, _, rfl, S0.ext e2⟩) ?_ ?_
    · rintro i σ' H2 hi ⟨t2, t3, t4, t5, t6, t7, t8, t9, t10, t11, t12, t13, rfl, S⟩
      refine q_asg ev_c fun H3 e3 => ?_
      refine q_draw (S.ext e3) (i := 1) rfl ev_c (k := 11) (by decide) (by decide +kernel) (by omega) fun sz H4 z0 z1 S4 => ?_
      refine q_asg ev_c fun H5 e5 => ?_
      refine q_forR1 (ea_cons (ev_var (v := .int sz) rfl) ea_nil) ⟨z0, by omega⟩ (fun k σ H' => ∃ (cs : List Nat) (y6 : Option V), σ = [some (.ref a), some (.ref p), some (.int (i : Int)), some (.str (Str.ofString "abcdefghijklmnopqrstuvwxyz")), some (.int sz), some (.str ⟨cs.toArray⟩), y6, t7, t8, t9, t10, t11, t12, t13] ∧ cs.length = k ∧ (∀ c ∈ cs, c ∈ LET) ∧ SB H H' p (20 * i + 1 + k))
        (fun H6 e6 => ⟨[], _, rfl, rfl, (fun c hc => by cases hc), (S4.ext e5).ext e6⟩) ?_ ?_
      · rintro k σ' H6 hk ⟨cs, y6, rfl, hc, hL, S6⟩
        refine ⟨_, rfl, _, rfl, ?_⟩
        refine u_draw S6 (i := 1) rfl ev_c (k := 26) (by decide) (by decide +kernel) (by omega) fun r H7 r0 r1 S7 => ?_
        obtain ⟨c, hc1, hc2⟩ := letter_at r0 r1
        refine ⟨_, r, c, rfl, rfl, (by decide +kernel), hc1, _, _, rfl, rfl, ?_, ?_⟩
        · show cs.toArray.size + 1 ≤ sizeLine
          rw [List.size_toArray]
          exact sz_of (by omega)
        · refine ⟨cs ++ [c], some (.int (k : Int)), ?_, by rw [List.length_append, hc]; rfl, ?_, S7⟩
          · have e : ((⟨cs.toArray⟩ : Str) ++ (⟨#[c]⟩ : Str)) = ⟨(cs ++ [c]).toArray⟩ := by
              show (⟨cs.toArray ++ #[c]⟩ : Str) = _
              congr 1
              simp
            show List.set _ 5 (some (V.str ((⟨cs.toArray⟩ : Str) ++ (⟨#[c]⟩ : Str)))) = _
            rw [e]
            rfl
          · intro x hx
            rcases List.mem_append.mp hx with hx | hx
            · exact hL x hx
            · cases List.mem_singleton.mp hx
              exact hc2
      · rintro σ' H6 ⟨cs, y6, rfl, hc, hL, S6⟩
        have hsz : (cs.length : Int) = sz := by omega
        have hlen : (⟨cs.toArray⟩ : Str).length = cs.length := List.size_toArray
        have wd := all_word hL
        have due : (decide ((1 : Int) ≤ sz) && decide (sz ≤ 8)) = isWord ⟨cs.toArray⟩ := by
          rw [wd, ← hsz]
          congr 1
          · exact decide_eq_decide.mpr (by omega)
          · exact decide_eq_decide.mpr (by omega)
        refine q_asg (v := .bl (isWord ⟨cs.toArray⟩)) ?_ fun H7 e7 => ?_
        · rw [← due]
          exact ev_chain ev_c (ev_var rfl) rv_I0 (fun _ => ev_c) (fun _ => rv_I0)
        refine q_when (b := false) ?_ (fun h => by cases h) (fun _ H8 e8 => ?_)
        · refine et_test ?_
          have dep : ∀ b : Bool, PyData.depth (.list [.bool b, .bool b]) ≤ 60 := fun b => by cases b <;> decide
          have big : ∀ b : Bool, (PyData.shown (.list [.bool b, .bool b])).length ≤ sizeLine := fun b => by cases b <;> decide +kernel
          refine ev_is (ev_op (ev_reprL (ds := [.bool (isWord ⟨cs.toArray⟩), .bool (isWord ⟨cs.toArray⟩)]) (el_lst (ea_cons (ev_text (ev_var rfl) (by omega)) (ea_cons (ev_textK (ev_var rfl) (by omega)) ea_nil)) (by show 2 ≤ 100000; decide)) (fun H1 _ => .cons (.bl _) (.cons (.bl _) .nil)) (by rfl) (by rfl) (dep _) (big _))
            (ev_reprL (ds := [.bool (isWord ⟨cs.toArray⟩), .bool (isWord ⟨cs.toArray⟩)]) (el_lst (ea_cons (ev_var rfl) (ea_cons (ev_var rfl) ea_nil)) (by show 2 ≤ 100000; decide)) (fun H1 _ => .cons (.bl _) (.cons (.bl _) .nil)) (by rfl) (by rfl) (dep _) (big _)) (rv_ne rfl)) ?_
          rw [decide_eq_true rfl]
          rfl
        have S8 := (S6.ext e7).ext e8
        refine q_draw S8 (i := 1) rfl (ev_op (ev_var rfl) ev_c rv_I0) (by omega) (lg64 (by omega) (by omega)) (by omega) fun at' H9 a0 a1 S9 => ?_
        refine q_pick S9 (n := 9) (el_lst (ea_cons ev_c (ea_cons ev_c (ea_cons ev_c (ea_cons ev_c (ea_cons ev_c (ea_cons ev_c (ea_cons ev_c (ea_cons ev_c (ea_cons ev_c ea_nil))))))))) (by show 9 ≤ 100000; decide)) rfl (i := 1) rfl ev_c (by decide) (by decide) (by omega) fun co vo H10 ho S10 => ?_
        obtain ⟨od, dd, rfl, ol, od1, od2⟩ := odd_sign ho
        refine q_when (b := false) ?_ (fun h => by cases h) (fun _ H11 e11 => ?_)
        · refine et_test ?_
          have l1 := cutS_len (⟨cs.toArray⟩ : Str) none (some at')
          have l2 := cutS_len (⟨cs.toArray⟩ : Str) (some at') none
          refine ev_is (ev_op (ev_text (ev_op (ev_op (ev_slS (ev_var rfl) eo_none (eo_some (ev_var rfl)) (by omega)) (ev_var rfl) (rv_addS (by omega))) (ev_slS (ev_var rfl) (eo_some (ev_var rfl)) eo_none (by omega)) (rv_addS (by rw [app_len]; omega))) (by rw [app_len, app_len]; omega)) ev_c rv_notB) ?_
          rw [not_word (c := dd) (by rw [app_list, app_list]; exact List.mem_append_left _ (List.mem_append_right _ od1)) od2]
          rfl
        refine q_pick (S10.ext e11) (n := 3) (el_lst (ea_cons ev_c (ea_cons ev_c (ea_cons ev_c ea_nil))) (by show 3 ≤ 100000; decide)) rfl (i := 1) rfl ev_c (by decide) (by decide) (by omega) fun cn vn H12 hn S12 => ?_
        obtain ⟨nz, rfl, ok⟩ := near_word hn
        have nl := ok.len
        have ls : (Str.ofString "s").length = 1 := by decide +kernel
        have lb : (Str.ofString " ").length = 1 := by decide +kernel
        have lf : (Str.ofString "\n").length = 1 := by decide +kernel
        refine q_pick S12 (n := 6) (xs := [.str (nz ++ Str.ofString "s"), .str (cutS nz none (some (-1))), .str (Txt.upper nz), .str (Str.ofString " " ++ nz), .str "", .str (nz ++ Str.ofString "\n")]) (el_lst (ea_cons (ev_op (ev_var rfl) ev_c (rv_addS (by omega))) (ea_cons (ev_slS (ev_var rfl) eo_none (eo_some (ev_un ev_c ru_neg)) (by omega)) (ea_cons ?up (ea_cons (ev_op ev_c (ev_var rfl) (rv_addS (by omega))) (ea_cons ev_c (ea_cons (ev_op (ev_var rfl) ev_c (rv_addS (by omega))) ea_nil)))))) (by show 6 ≤ 100000; decide)) rfl (i := 1) rfl ev_c (by decide) (by decide) (by omega) fun cb vb H13 hb S13 => ?_
        case up => exact fun H1 e Q q => ⟨.str nz, rfl, ⟨nz, rfl⟩, nz, rfl, rfl, by omega, q H1 (Ex.refl H1)⟩
        obtain ⟨yb, rfl, bw, bl⟩ := bent_word ok hb
        refine s_when (b := false) ?_ (fun h => by cases h) (fun _ H14 e14 => ⟨_, _, _, _, _, _, _, _, _, _, _, _, rfl, (S13.ext e14).le (by omega)⟩)
        refine et_is (et_or (et_test (ev_op (ev_text (ev_var rfl) (by omega)) ev_c rv_notB)) fun _ => et_or (et_test (ev_op (ev_text (ev_var rfl) (by omega)) ev_c rv_notB)) fun _ => et_test (ev_op (ev_textK (ev_var rfl) bl) ev_c rv_notB)) ?_
        rw [ok.wd, ok.we, bw]
        rfl
    · rintro σ' H2 ⟨t2, t3, t4, t5, t6, t7, t8, t9, t10, t11, t12, t13, rfl, S⟩
      -- things that are no texts
      refine ⟨by show 1 ≤ sizeLine; decide, fun l1 n1 => ⟨by show 1 ≤ sizeLine; decide, fun l2 n2 d n3 => ⟨by show 1 ≤ sizeLine; decide, fun l3 n4 => ⟨by show 8 ≤ sizeLine; decide, fun L n5 => ?_⟩⟩⟩⟩
      dsimp only [gName]
      have h1 : (upd H2 l1 (.lst [.str "a"])) l1 = some (.lst [.str "a"]) := upd_same
      have x2 := Ex.new (o := .tup [.str "wet"]) n2
      have x3 := Ex.new (o := .dK []) n3
      have x4 := Ex.new (o := .lst [.str "wet"]) n4
      have x5 := Ex.new (o := .lst [.non, .bl true, .int 5, .ref l1, .ref l2, .ref d, .ref l3, .int 1]) n5
      have g1 := x5 _ _ (x4 _ _ (x3 _ _ (x2 _ _ h1)))
      have g2 := x5 _ _ (x4 _ _ (x3 _ _ (upd_same (H := upd H2 l1 (.lst [.str "a"])) (a := l2) (o := .tup [.str "wet"]))))
      have g3 := x5 _ _ (x4 _ _ (upd_same (H := upd (upd H2 l1 (.lst [.str "a"])) l2 (.tup [.str "wet"])) (a := d) (o := .dK [])))
      have g4 := x5 _ _ (upd_same (H := upd (upd (upd H2 l1 (.lst [.str "a"])) l2 (.tup [.str "wet"])) d (.dK [])) (a := l3) (o := .lst [.str "wet"]))
      have g5 := upd_same (H := upd (upd (upd (upd H2 l1 (.lst [.str "a"])) l2 (.tup [.str "wet"])) d (.dK [])) l3 (.lst [.str "wet"])) (a := L) (o := .lst [.non, .bl true, .int 5, .ref l1, .ref l2, .ref d, .ref l3, .int 1])
      generalize upd (upd (upd (upd (upd H2 l1 (.lst [.str "a"])) l2 (.tup [.str "wet"])) d (.dK [])) l3 (.lst [.str "wet"])) L (.lst [.non, .bl true, .int 5, .ref l1, .ref l2, .ref d, .ref l3, .int 1]) = HF at g1 g2 g3 g4 g5
      have no : ∀ (i : Nat) (x : V) (H3 : Hp), Ex HF H3 → ([.non, .bl true, .int 5, .ref l1, .ref l2, .ref d, .ref l3, .int 1] : List V)[i]? = some x → NoStr K H3 x := fun i x H3 e hx => by
        have hc := (List.getElem?_eq_some_iff.mp hx).1
        match i, hc, hx with
        | 0, _, hx => cases hx; exact ⟨.type "NoneType", .base .non, kit_ty (by decide +kernel)⟩
        | 1, _, hx => cases hx; exact ⟨.type "bool", .base (.bl _), kit_ty (by decide +kernel)⟩
        | 2, _, hx => cases hx; exact ⟨.type "int", .base (.int _), kit_ty (by decide +kernel)⟩
        | 3, _, hx => cases hx; exact ⟨.type "list", .base (.lst (e _ _ g1)), kit_ty (by decide +kernel)⟩
        | 4, _, hx => cases hx; exact ⟨.type "tuple", .base (.tup (e _ _ g2)), kit_ty (by decide +kernel)⟩
        | 5, _, hx => cases hx; exact ⟨.type "dict", .base (.dK (e _ _ g3)), kit_ty (by decide +kernel)⟩
        | 6, _, hx => cases hx; exact ⟨.type "list", .base (.lst (e _ _ g4)), kit_ty (by decide +kernel)⟩
        | 7, _, hx => cases hx; exact ⟨.type "int", .base (.int _), kit_ty (by decide +kernel)⟩
      refine x_ret ?_
      refine x_op ?_
      refine u_l (xs := given 8 (fun _ => false) fun _ => V.non) ?_ fun r H3 hr e3 h3 => ?_
      · refine el_lcL (K := K) (xs := [.non, .bl true, .int 5, .ref l1, .ref l2, .ref d, .ref l3, .int 1]) (fun _ => false) _ (ev_var (i := 12) rfl) (sq_of g5) (by show 8 ≤ 40000; decide) (fun x => rfl) (fun i x H4 e4 hx => ?_) (fun _ _ _ _ _ h => by cases h)
        refine et_is (et_or (et_test (ev_op (ev_none (v := x) (ev_var (i := 13) rfl) fun H5 e5 => no i x H5 (e4.trans e5) hx) ev_c rv_notB)) fun _ => et_test (ev_op (ev_none (v := x) (ev_var (i := 13) rfl) fun H5 e5 => no i x H5 (e4.trans e5) hx) ev_c rv_notB)) rfl
      · refine ⟨Nat.zero_le _, fun m hm => ?_⟩
        have hr2 := Ex.new (o := .lst []) hm _ _ h3
        exact ⟨.list [], .list [], .lst (sq_of hr2) .nil, .lst (sq_of upd_same) .nil, by decide, by decide, q _⟩
end
theorem all_mk {l : PySem.W.OpenLaw} {w : World} {K : PySem.W.Frag} {h : Heap} {mg : Str → Option Value} {fa f0 f1 f2 f3 f4 : Addr} (X : K.In h) (G : h.Ns mainGlobals mg) (hfa : mg "law" = some (.ref fa))
    {od0 an0 : Option Addr} {sl0 : Array (Option Value)} {oc0 kV0 dc0 pm0 cd0 ct0 : Value} {od1 an1 : Option Addr} {sl1 : Array (Option Value)} {oc1 kV1 dc1 pm1 cd1 ct1 : Value} {od2 an2 : Option Addr} {sl2 : Array (Option Value)} {oc2 kV2 dc2 pm2 cd2 ct2 : Value} {od3 an3 : Option Addr} {sl3 : Array (Option Value)} {oc3 kV3 dc3 pm3 cd3 ct3 : Value} {od4 an4 : Option Addr} {sl4 : Array (Option Value)} {oc4 kV4 dc4 pm4 cd4 ct4 : Value} {tk_LONGEST : Tok} {tk_LETTERS : Tok} {a_WEATHERS : Addr} {tk_WEATHERS0 tk_WEATHERS1 tk_WEATHERS2 : Tok} {dd_WEATHERS : Option Addr} {n_WEATHERS : Nat} {sl_WEATHERS : Array (Option Value)}
    (a0 : PySem.W.nsIn K mainGlobals "is_word" = some (some (.ref f0)))
    (l0 : K.lookup f0 = some ⟨oc0, od0, .func (PySem.W.fnOf "is_word" "is_word" (defArgs s_is_word) (defBody s_is_word) (defScope s_is_word) .none kV0 dc0 pm0 an0 cd0 ct0), sl0⟩) (c0 : PySem.W.codeIn K cd0 "is_word" = true) (k0 : PySem.W.keepIn K (.ref f0) = true)
    (a1 : PySem.W.nsIn K mainGlobals "is_weather" = some (some (.ref f1)))
    (l1 : K.lookup f1 = some ⟨oc1, od1, .func (PySem.W.fnOf "is_weather" "is_weather" (defArgs s_is_weather) (defBody s_is_weather) (defScope s_is_weather) .none kV1 dc1 pm1 an1 cd1 ct1), sl1⟩) (c1 : PySem.W.codeIn K cd1 "is_weather" = true) (k1 : PySem.W.keepIn K (.ref f1) = true)
    (a2 : PySem.W.nsIn K mainGlobals "_law_start" = some (some (.ref f2)))
    (l2 : K.lookup f2 = some ⟨oc2, od2, .func (PySem.W.fnOf "_law_start" "_law_start" (defArgs s__law_start) (defBody s__law_start) (defScope s__law_start) .none kV2 dc2 pm2 an2 cd2 ct2), sl2⟩) (c2 : PySem.W.codeIn K cd2 "_law_start" = true) (k2 : PySem.W.keepIn K (.ref f2) = true)
    (a3 : PySem.W.nsIn K mainGlobals "_law_draw" = some (some (.ref f3)))
    (l3 : K.lookup f3 = some ⟨oc3, od3, .func (PySem.W.fnOf "_law_draw" "_law_draw" (defArgs s__law_draw) (defBody s__law_draw) (defScope s__law_draw) .none kV3 dc3 pm3 an3 cd3 ct3), sl3⟩) (c3 : PySem.W.codeIn K cd3 "_law_draw" = true) (k3 : PySem.W.keepIn K (.ref f3) = true)
    (a4 : PySem.W.nsIn K mainGlobals "law" = some (some (.ref f4)))
    (l4 : K.lookup f4 = some ⟨oc4, od4, .func (PySem.W.fnOf "law" "law" (defArgs s_law) (defBody s_law) (defScope s_law) .none kV4 dc4 pm4 an4 cd4 ct4), sl4⟩) (c4 : PySem.W.codeIn K cd4 "law" = true) (k4 : PySem.W.keepIn K (.ref f4) = true)
    (z_sum : PySem.W.nsIn K mainGlobals "sum" = some none)
    (z_abs : PySem.W.nsIn K mainGlobals "abs" = some none)
    (z_list : PySem.W.nsIn K mainGlobals "list" = some none)
    (z_int : PySem.W.nsIn K mainGlobals "int" = some none)
    (z_len : PySem.W.nsIn K mainGlobals "len" = some none)
    (z_range : PySem.W.nsIn K mainGlobals "range" = some none)
    (z_repr : PySem.W.nsIn K mainGlobals "repr" = some none)
    (z_all : PySem.W.nsIn K mainGlobals "all" = some none)
    (z_isinstance : PySem.W.nsIn K mainGlobals "isinstance" = some none)
    (z_str : PySem.W.nsIn K mainGlobals "str" = some none)
    (v_LONGEST : PySem.W.nsIn K mainGlobals "LONGEST" = some (some (.int 8 tk_LONGEST)))
    (v_LETTERS : PySem.W.nsIn K mainGlobals "LETTERS" = some (some (.str (Str.ofString "abcdefghijklmnopqrstuvwxyz") tk_LETTERS)))
    (v_WEATHERS : PySem.W.nsIn K mainGlobals "WEATHERS" = some (some (.ref a_WEATHERS)))
    (lt_WEATHERS : K.lookup a_WEATHERS = some ⟨.type "tuple", dd_WEATHERS, .seq #[.str (Str.ofString "wet") tk_WEATHERS0, .str (Str.ofString "dry") tk_WEATHERS1, .str (Str.ofString "open") tk_WEATHERS2] n_WEATHERS, sl_WEATHERS⟩)
    : ∃ fd : FuncData, (∀ (s : Shared) (v : Value), BindsTo s fd ⟨[v], []⟩ [("_law_script", v)]) ∧ ∀ base : Heap, K.In base → base.Ns mainGlobals mg → FnG l.prog w K mg base CX0 2 fa fd ["_law_script"] (LawK.spLaw K) := by
  have e := hfa.symm.trans (PySem.W.mg_of X G a4)
  cases e
  have F0 := fun_mk (st := s_is_word) l0 c0 k0
  have F1 := fun_mk (st := s_is_weather) l1 c1 k1
  have F2 := fun_mk (st := s__law_start) l2 c2 k2
  have F3 := fun_mk (st := s__law_draw) l3 c3 k3
  have F4 := fun_mk (st := s_law) l4 c4 k4
  have b0 := F0.binds (ps := ["value"]) fun _ _ _ _ _ _ us hl => match us, hl with | [_], _ => rfl
  have b1 := F1.binds (ps := ["value"]) fun _ _ _ _ _ _ us hl => match us, hl with | [_], _ => rfl
  have b2 := F2.binds (ps := ["_law_script"]) fun _ _ _ _ _ _ us hl => match us, hl with | [_], _ => rfl
  have b3 := F3.binds (ps := ["_law_state", "_law_size"]) fun _ _ _ _ _ _ us hl => match us, hl with | [_, _], _ => rfl
  have b4 := F4.binds (ps := ["_law_script"]) fun _ _ _ _ _ _ us hl => match us, hl with | [_], _ => rfl
  have T : Txt K mg a_WEATHERS := ⟨PySem.W.mg_none_of X G z_sum, PySem.W.mg_none_of X G z_abs, PySem.W.mg_none_of X G z_list, PySem.W.mg_none_of X G z_int, PySem.W.mg_none_of X G z_len, PySem.W.mg_none_of X G z_range, PySem.W.mg_none_of X G z_repr, PySem.W.mg_none_of X G z_all, PySem.W.mg_none_of X G z_isinstance, PySem.W.mg_none_of X G z_str, ⟨_, PySem.W.mg_of X G v_LONGEST, ⟨_, rfl⟩⟩, ⟨_, PySem.W.mg_of X G v_LETTERS, ⟨_, rfl⟩⟩, ⟨_, PySem.W.mg_of X G v_WEATHERS, rfl⟩, fun H => .inr ⟨_, _, _, lt_WEATHERS, rfl, rfl, (by show 3 ≤ sizeLine; decide), .cons ⟨_, rfl⟩ (.cons ⟨_, rfl⟩ (.cons ⟨_, rfl⟩ .nil))⟩⟩
  exact ⟨_, fun s v => .of_eq rfl, fun base _ _ => ok_law F4 T ⟨_, _, _, [], ok_start F2 T, PySem.W.mg_of X G a2, k2, b2, .nil⟩ ⟨_, _, _, [], ok_draw F3 T, PySem.W.mg_of X G a3, k3, b3, .nil⟩ ⟨_, _, _, [], ok_word F0 T, PySem.W.mg_of X G a0, k0, b0, .nil⟩ ⟨_, _, _, [], ok_weather F1 T, PySem.W.mg_of X G a1, k1, b1, .nil⟩
    ⟨_, _, _, _, ok_word F0 T, PySem.W.mg_of X G a0, k0, F0.kbn (fun ws => ws) (fun zs => zs) (fun _ _ _ _ _ _ ws hl => match ws, hl with | [_], _ => rfl) (fun _ _ r => r)⟩ ⟨_, _, _, _, ok_weather F1 T, PySem.W.mg_of X G a1, k1, F1.kbn (fun ws => ws) (fun zs => zs) (fun _ _ _ _ _ _ ws hl => match ws, hl with | [_], _ => rfl) (fun _ _ r => r)⟩⟩
end K02
open PySem PySem.W PyProof.Rows
set_option maxHeartbeats 0 in
theorem PySem.Challenge.cw_saidchances_k02_words_and_weather_holds : PySem.Challenge.rw_saidchances_k02_words_and_weather.Holds := by
  w_on; o_law; k_head; (case hw => w_witness2)
  k_fill
  refine L2.walk_ofG (l := PySem.Challenge.rw_saidchances_k02_words_and_weather) (n := 63) (k := 2) (x := "_law_script") (sp := fun w => LawK.spLaw _) rfl (by decide) rfl ⟨rfl, by decide, by decide⟩ (fun w h Y => PySem.W.kIn_of Y) ?F (fun _ _ a ns hl _ _ hS => ⟨a, ns, rfl, hS, hl, fun _ => rfl⟩)
  case F =>
    intro w mg fa h KX G hmg
    refine' K02.all_mk KX G hmg ?a0 ?l0 ?c0 ?k0 ?a1 ?l1 ?c1 ?k1 ?a2 ?l2 ?c2 ?k2 ?a3 ?l3 ?c3 ?k3 ?a4 ?l4 ?c4 ?k4 ?z_sum ?z_abs ?z_list ?z_int ?z_len ?z_range ?z_repr ?z_all ?z_isinstance ?z_str ?v_LONGEST ?v_LETTERS ?v_WEATHERS ?lt_WEATHERS
    (case a0 => k_is); (case l0 => k_is); (case c0 => k_is); (case k0 => k_is); (case a1 => k_is); (case l1 => k_is); (case c1 => k_is); (case k1 => k_is)
    (case a2 => k_is); (case l2 => k_is); (case c2 => k_is); (case k2 => k_is); (case a3 => k_is); (case l3 => k_is); (case c3 => k_is); (case k3 => k_is)
    (case a4 => k_is); (case l4 => k_is); (case c4 => k_is); (case k4 => k_is); (case z_sum => k_is); (case z_abs => k_is); (case z_list => k_is); (case z_int => k_is)
    (case z_len => k_is); (case z_range => k_is); (case z_repr => k_is); (case z_all => k_is); (case z_isinstance => k_is); (case z_str => k_is); (case v_LONGEST => k_is)
    (case v_LETTERS => k_is); (case v_WEATHERS => k_is); (case lt_WEATHERS => k_is)
